import PyProof.Rows.All
import Wide.All
import OpenK.AllK
import Wide.FinOn
import Lean
import PyProof.EqAt
import PyProof.EqKinds
import PyProof.TupleCall
import PySem.Challenge.RW_fewsaves_k04_what_works_ask
set_option Elab.async false
set_option linter.all false
set_option maxRecDepth 100000
namespace L2
open PySem PySem.Spec PyProof.Rows
abbrev Key := Sum Int Str
def keyIs : Key → Value → Bool
  | .inl k, v => Value.isInt k v
  | .inr x, v => Value.isStrOf x v
def keyH (w : World) : Key → Int
  | .inl k => hashInt k
  | .inr x => hashStr w x
theorem keyIs_shape : ∀ {k : Key} {v : Value}, keyIs k v = true → (∃ i t, k = Sum.inl i ∧ v = Value.int i t) ∨ (∃ x t, k = Sum.inr x ∧ v = Value.str x t)
  | .inl i, v, h => by
    obtain ⟨t, e⟩ := Value.isInt_shape (k := i) (v := v) h
    exact .inl ⟨i, t, rfl, e⟩
  | .inr x, v, h => by
    obtain ⟨t, e⟩ := Value.isStrOf_shape (x := x) (v := v) h
    exact .inr ⟨x, t, rfl, e⟩
theorem keyIs_int (i : Int) (t : Tok) : keyIs (.inl i) (.int i t) = true := by simp [keyIs, Value.isInt]
theorem keyIs_str (x : Str) (t : Tok) : keyIs (.inr x) (.str x t) = true := by simp [keyIs, Value.isStrOf]
theorem key_ll (a b : Int) : decide ((Sum.inl a : Key) = Sum.inl b) = (a == b) := by
  by_cases e : a = b
  · subst e; simp
  · have h : ¬ (Sum.inl a : Key) = Sum.inl b := fun q => e (Sum.inl.inj q)
    rw [decide_eq_false h]
    exact (beq_eq_false_iff_ne.mpr e).symm
theorem key_rr (a b : Str) : decide ((Sum.inr a : Key) = Sum.inr b) = decide (a = b) := by
  by_cases e : a = b
  · subst e; simp
  · have h : ¬ (Sum.inr a : Key) = Sum.inr b := fun q => e (Sum.inr.inj q)
    rw [decide_eq_false h, decide_eq_false e]
theorem key_lr (a : Int) (b : Str) : decide ((Sum.inl a : Key) = Sum.inr b) = false := decide_eq_false (fun q => nomatch q)
theorem key_rl (a : Str) (b : Int) : decide ((Sum.inr a : Key) = Sum.inl b) = false := decide_eq_false (fun q => nomatch q)
def mixKind (prog : Program) (w : World) : PySem.KeyKind prog w Key where
  is := keyIs
  hash := keyH w
  inj := fun v a b ha hb => by
    rcases keyIs_shape ha with ⟨i, t, rfl, rfl⟩ | ⟨x, t, rfl, rfl⟩
    · rcases keyIs_shape hb with ⟨j, u, rfl, e⟩ | ⟨y, u, rfl, e⟩
      · injection e with e1 _; rw [e1]
      · exact nomatch e
    · rcases keyIs_shape hb with ⟨j, u, rfl, e⟩ | ⟨y, u, rfl, e⟩
      · exact nomatch e
      · injection e with e1 _; rw [e1]
  byValue := fun k v h => by
    rcases keyIs_shape h with ⟨i, t, rfl, rfl⟩ | ⟨x, t, rfl, rfl⟩ <;> rfl
  pyHash := fun hv h => by
    rcases keyIs_shape hv with ⟨i, t, rfl, rfl⟩ | ⟨x, t, rfl, rfl⟩
    · exact wpAny_pyHash_int h
    · exact wpAny_pyHash_str h
  eqBool := fun hu hv h => by
    rcases keyIs_shape hu with ⟨i, t, rfl, rfl⟩ | ⟨x, t, rfl, rfl⟩
    · rcases keyIs_shape hv with ⟨j, u, rfl, rfl⟩ | ⟨y, u, rfl, rfl⟩
      · rw [key_ll] at h; exact wpAny_eqBool_int h
      · rw [key_lr] at h; exact SeqAt.EqAt.int_str i t y u _ _ _ _ h
    · rcases keyIs_shape hv with ⟨j, u, rfl, rfl⟩ | ⟨y, u, rfl, rfl⟩
      · rw [key_rl] at h; exact SeqAt.EqAt.str_int x t j u _ _ _ _ h
      · rw [key_rr] at h; exact wpAny_eqBool_str h
  «strs» := fun k x t v h => by
    rcases keyIs_shape h with ⟨i, u, rfl, e⟩ | ⟨y, u, rfl, e⟩
    · exact nomatch e
    · injection e with e1 _
      subst e1
      cases v <;> rfl
theorem mixKind_is (prog : Program) (w : World) (k : Key) (v : Value) : (mixKind prog w).is k v = keyIs k v := rfl
theorem mixKind_int (prog : Program) (w : World) (i : Int) (t : Tok) : (mixKind prog w).is (.inl i) (.int i t) = true := keyIs_int i t
theorem mixKind_str (prog : Program) (w : World) (x : Str) (t : Tok) : (mixKind prog w).is (.inr x) (.str x t) = true := keyIs_str x t
end L2
namespace L2
open PySem PySem.Spec PyProof.Rows
inductive V where
  | non | bl (b : Bool) | int (i : Int) | str (x : Str) | byt (b : Array UInt8) | flt (b : UInt64) | ref (a : Addr) | ty (n : String)
  deriving DecidableEq
def RelV : V → Value → Prop
  | .non, u => u = Value.none
  | .bl b, u => u = Value.bool b
  | .int i, u => ∃ t, u = Value.int i t
  | .str x, u => ∃ t, u = Value.str x t
  | .byt b, u => ∃ t, u = Value.bytes b t
  | .flt b, u => ∃ t, u = Value.float b t
  | .ref a, u => u = Value.ref a
  | .ty n, u => u = Value.type n
abbrev Vals : List V → List Value → Prop := Paired RelV
theorem Vals.length {xs : List V} {us : List Value} (r : Vals xs us) : xs.length = us.length := Paired.length r
theorem Vals.get : ∀ {xs : List V} {us : List Value} {i : Nat} {x : V}, Vals xs us → xs[i]? = some x → ∃ u, us[i]? = some u ∧ RelV x u
  | _, _, _, _, .nil, e => by simp at e
  | _, _, 0, _, .cons r _, e => by simp at e; subst e; exact ⟨_, rfl, r⟩
  | _, _, i + 1, x, .cons _ t, e => by
    obtain ⟨u, h1, h2⟩ := Vals.get (i := i) (x := x) t (by simpa using e)
    exact ⟨u, by simpa using h1, h2⟩
theorem Vals.set {x : V} {u : Value} (r : RelV x u) : ∀ {xs : List V} {us : List Value} (i : Nat), Vals xs us → Vals (xs.set i x) (us.set i u)
  | _, _, _, .nil => .nil
  | _, _, 0, .cons _ t => .cons r t
  | _, _, i + 1, .cons q t => .cons q (Vals.set r i t)
theorem Vals.append : ∀ {xs ys : List V} {us ws : List Value}, Vals xs us → Vals ys ws → Vals (xs ++ ys) (us ++ ws)
  | _, _, _, _, .nil, s => s
  | _, _, _, _, .cons r t, s => .cons r (Vals.append t s)
theorem Vals.take : ∀ {xs : List V} {us : List Value} (n : Nat), Vals xs us → Vals (xs.take n) (us.take n)
  | _, _, 0, _ => .nil
  | _, _, _ + 1, .nil => .nil
  | _, _, n + 1, .cons r t => .cons r (Vals.take n t)
theorem Vals.drop : ∀ {xs : List V} {us : List Value} (n : Nat), Vals xs us → Vals (xs.drop n) (us.drop n)
  | _, _, 0, r => r
  | _, _, _ + 1, .nil => .nil
  | _, _, n + 1, .cons _ t => Vals.drop n t
theorem Vals.none_of : ∀ {xs : List V} {us : List Value} {i : Nat}, Vals xs us → xs[i]? = none → us[i]? = none := fun {xs us i} r e => by
  have h1 := r.length
  have h2 : xs.length ≤ i := List.getElem?_eq_none_iff.mp e
  exact List.getElem?_eq_none_iff.mpr (by omega)
def RelO : Option V → Option Value → Prop
  | some v, some u => RelV v u
  | none, none => True
  | _, _ => False
def KV {κ : Type} : List (κ × V) → List (κ × Value) → Prop := Paired fun (p : κ × V) (q : κ × Value) => p.1 = q.1 ∧ RelV p.2 q.2
def kV : Key → V
  | .inl i => .int i
  | .inr x => .str x
inductive HO where
  | lst (xs : List V)
  | tup (xs : List V)
  | dK (kvs : List (Key × V)) | dT (kvs : List (List Key × V))
  | set (S : Int → Bool) (n : Nat)
  | ins (C dx : Addr) (fs : List (Str × V))
  | own (x : Addr)
  | xd (fs : List (Str × V))
  | met (f x : Addr)
  | rng (lo hi : Int)
  | frz (o : Obj) (u : HO)
  | tbl (ps : Array Value)
  | ext (φ : Addr → Heap → Prop)
abbrev Hp := Addr → Option HO
def upd (H : Hp) (a : Addr) (o : HO) : Hp := fun b => if b = a then some o else H b
theorem upd_same {H : Hp} {a : Addr} {o : HO} : upd H a o a = some o := by unfold upd; rw [if_pos rfl]
theorem upd_ne {H : Hp} {a b : Addr} {o : HO} (h : b ≠ a) : upd H a o b = H b := by unfold upd; rw [if_neg h]
theorem upd_upd {H : Hp} {a : Addr} {o u : HO} : upd (upd H a o) a u = upd H a u := by
  funext b; unfold upd; split <;> rfl
theorem ne_of {H : Hp} {a b : Addr} {o u : HO} (h : H a = some o) (h' : H b = some u) (d : o ≠ u) : a ≠ b := by
  intro e; subst e; rw [h] at h'; exact d (Option.some.inj h')
theorem ne_of_none {H : Hp} {a b : Addr} {o : HO} (h : H a = some o) (h' : H b = none) : a ≠ b := by
  intro e; subst e; rw [h] at h'; cases h'
section
variable (P : Program) (w : World)
def ObjOk (H : Hp) (h : Heap) (a : Addr) : HO → Prop
  | .lst xs => xs.length ≤ sizeLine ∧ ∃ (its : List Value) (n : Nat), Vals xs its ∧ h.get? a = some { cls := .type "list", data := .seq its.toArray n }
  | .tup xs => xs.length ≤ sizeLine ∧ ∃ its : List Value, Vals xs its ∧ IsTup h a its.toArray
  | .dK kvs => kvs.length ≤ sizeLine ∧ (a == sysModules) = false ∧ ∃ vs, KV kvs vs ∧ h.DictOf (mixKind P w) a vs
  | .dT kvs => kvs.length ≤ sizeLine ∧ (a == sysModules) = false ∧ ∃ xs : List (List Key × Addr × Value),
      Paired (fun (p : List Key × V) (q : List Key × Addr × Value) => p.1 = q.1 ∧ H q.2.1 = some (.tup (p.1.map kV)) ∧ RelV p.2 q.2.2) kvs xs ∧
      ∃ o es ep, h.get? a = some o ∧ o.ExactDict ∧ o.data = .dict es ep ∧ es.toList = xs.map (entryOfKey (tupleKind (mixKind P w))) ∧ (xs.map (·.1)).Nodup
  | .set S n => h.SetOf (intKind P w) a S n
  | .ins C dx fs => H dx = some (.own a) ∧ fs.length ≤ 1000 ∧ dx ≠ a ∧ h.get? a = some (PySem.W.instObj C dx) ∧
      ∃ mA, h.Ns1 dx mA ∧ (∀ f, RelO (fs.lookup f) (mA f)) ∧ PySem.Within mA (fs.map (·.1))
  | .own _ => ∃ o, h.get? a = some o
  | .xd fs => ∃ mA, h.Ns1 a mA ∧ ∀ f, RelO (fs.lookup f) (mA f)
  | .rng lo hi => ∃ t u v, h.get? a = some { cls := .type "range", data := .fields #[.int lo t, .int hi u, .int 1 v] }
  | .frz o u => h.get? a = some o ∧ ObjOk H h a u
  | .tbl ps => h.get? a = some { cls := .none, data := .fields ps }
  | .met f x => h.get? a = some (PySem.W.methodObj (.ref f) (.ref x))
  | .ext φ => φ a h ∧ (∃ o, h.get? a = some o) ∧ ∀ h1 h2 : Heap, φ a h1 → (∀ o, h1.get? a = some o → h2.get? a = some o) → φ a h2
def HOk (H : Hp) (h : Heap) : Prop := ∀ a o, H a = some o → ObjOk P w H h a o
end
section
variable {P : Program} {w : World} {H H' : Hp} {h h' : Heap} {a : Addr} {o : HO}
theorem ObjOk.lt (x : ObjOk P w H h a o) : a < h.objs.size := by
  cases o with
  | lst xs => obtain ⟨_, _, _, _, e⟩ := x; exact Heap.lt_size e
  | tup xs => obtain ⟨_, _, _, p⟩ := x; exact p.lt
  | dK kvs => obtain ⟨_, _, _, _, o, _, _, e, _⟩ := x; exact Heap.lt_size e
  | dT kvs => obtain ⟨_, _, _, _, o, _, _, e, _⟩ := x; exact Heap.lt_size e
  | set S n => obtain ⟨o, _, _, _, e, _⟩ := x; exact Heap.lt_size e
  | ins C dx fs => obtain ⟨_, _, _, e, _⟩ := x; exact Heap.lt_size e
  | own y => obtain ⟨_, e⟩ := x; exact Heap.lt_size e
  | xd fs => obtain ⟨_, ⟨_, _, _, e, _⟩, _⟩ := x; exact Heap.lt_size e
  | rng lo hi => obtain ⟨_, _, _, e⟩ := x; exact Heap.lt_size e
  | frz ob u => obtain ⟨e, _⟩ := x; exact Heap.lt_size e
  | tbl ps => exact Heap.lt_size (show h.get? a = some _ from x)
  | met f y => exact Heap.lt_size (show h.get? a = some _ from x)
  | ext φ => obtain ⟨_, ⟨_, e⟩, _⟩ := x; exact Heap.lt_size e
theorem Paired.mapP {α β : Type} {F G : α → β → Prop} : ∀ {l₁ : List α} {l₂ : List β}, Paired F l₁ l₂ → (∀ a b, F a b → G a b) → Paired G l₁ l₂
  | _, _, .nil, _ => .nil
  | _, _, .cons r t, f => .cons (f _ _ r) (Paired.mapP t f)
theorem Paired.imp' {α β : Type} {F G : α → β → Prop} (f : ∀ a b, F a b → G a b) {l₁ : List α} {l₂ : List β} (r : Paired F l₁ l₂) : Paired G l₁ l₂ := Paired.mapP r f
theorem ObjOk.stay (x : ObjOk P w H h a o) (k : ∀ b u, (b = a ∨ H b = some (.own a)) → h.get? b = some u → h'.get? b = some u)
    (ho : ∀ b, H b = some (.own a) → H' b = some (.own a)) (ht : ∀ b xs, H b = some (.tup xs) → H' b = some (.tup xs)) : ObjOk P w H' h' a o := by
  induction o with
  | lst xs => obtain ⟨z, its, n, r, e⟩ := x; exact ⟨z, its, n, r, k _ _ (.inl rfl) e⟩
  | tup xs => obtain ⟨z, its, r, ob, e, c⟩ := x; exact ⟨z, its, r, ob, k _ _ (.inl rfl) e, c⟩
  | dK kvs => obtain ⟨z, y, vs, r, ob, es, ep, e, c⟩ := x; exact ⟨z, y, vs, r, ob, es, ep, k _ _ (.inl rfl) e, c⟩
  | dT kvs =>
    obtain ⟨z, y, xs, r, ob, es, ep, e, c⟩ := x
    exact ⟨z, y, xs, Paired.mapP r fun p q z => ⟨z.1, ht _ _ z.2.1, z.2.2⟩, ob, es, ep, k _ _ (.inl rfl) e, c⟩
  | set S n => obtain ⟨ob, es, ep, t, e, c⟩ := x; exact ⟨ob, es, ep, t, k _ _ (.inl rfl) e, c⟩
  | ins C dx fs =>
    obtain ⟨d, z, ne, e, mA, ⟨od, es, ep, e2, c⟩, r⟩ := x
    exact ⟨ho _ d, z, ne, k _ _ (.inl rfl) e, mA, ⟨od, es, ep, k _ _ (.inr d) e2, c⟩, r⟩
  | own y => obtain ⟨ob, e⟩ := x; exact ⟨ob, k _ _ (.inl rfl) e⟩
  | xd fs => obtain ⟨mA, ⟨od, es, ep, e, c⟩, r⟩ := x; exact ⟨mA, ⟨od, es, ep, k _ _ (.inl rfl) e, c⟩, r⟩
  | rng lo hi => obtain ⟨t, u, v, e⟩ := x; exact ⟨t, u, v, k _ _ (.inl rfl) e⟩
  | frz ob u ih => obtain ⟨e, q⟩ := x; exact ⟨k _ _ (.inl rfl) e, ih q⟩
  | tbl ps =>
    have e : h.get? a = some { cls := .none, data := .fields ps } := x
    show h'.get? a = some { cls := .none, data := .fields ps }
    exact k a _ (.inl rfl) e
  | met f y =>
    have e : h.get? a = some (PySem.W.methodObj (.ref f) (.ref y)) := x
    show h'.get? a = some (PySem.W.methodObj (.ref f) (.ref y))
    exact k a _ (.inl rfl) e
  | ext φ => obtain ⟨p, ⟨o, e⟩, st⟩ := x; exact ⟨st _ _ p fun o q => k _ _ (.inl rfl) q, ⟨o, k _ _ (.inl rfl) e⟩, st⟩
theorem HOk.lt (x : HOk P w H h) (e : H a = some o) : a < h.objs.size := (x a o e).lt
theorem HOk.fresh (x : HOk P w H h) (e : h.objs.size ≤ a) : H a = none := by
  cases q : H a with
  | none => rfl
  | some u => exact absurd (Nat.lt_of_lt_of_le (x.lt q) e) (Nat.lt_irrefl _)
theorem HOk.kept (x : HOk P w H h) (k : ∀ b u, h.get? b = some u → h'.get? b = some u) : HOk P w H h' := fun a o e =>
  (x a o e).stay (fun b u _ q => k b u q) (fun _ q => q) fun _ _ q => q
theorem HOk.laid (x : HOk P w H h) (k : ∀ b u, h.get? b = some u → h'.get? b = some u) (hp : h.objs.size ≤ a) (new : ObjOk P w (upd H a o) h' a o) : HOk P w (upd H a o) h' := fun b u e => by
  have hn := x.fresh hp
  by_cases hb : b = a
  · subst hb; rw [upd_same] at e; cases e; exact new
  · rw [upd_ne hb] at e
    exact (x b u e).stay (fun c v _ q => k c v q) (fun c q => by rw [upd_ne (ne_of_none q hn)]; exact q) fun c xs q => by rw [upd_ne (ne_of_none q hn)]; exact q
end
def Rd (H : Hp) (a : Addr) (u : HO) : Prop := H a = some u ∨ ∃ o, H a = some (.frz o u)
theorem Rd.of {H : Hp} {a : Addr} {u : HO} (h : H a = some u) : Rd H a u := .inl h
theorem Rd.ok {P : Program} {w : World} {H : Hp} {h : Heap} {a : Addr} {u : HO} (r : Rd H a u) (x : HOk P w H h) : ObjOk P w H h a u := by
  rcases r with r | ⟨o, r⟩
  · exact x a u r
  · obtain ⟨_, q⟩ := x a _ r
    exact q
def Mut : Option HO → Prop
  | some (.lst _) => True
  | some (.dK _) => True
  | some (.dT _) => True
  | some (.set _ _) => True
  | some (.ins _ _ _) => True
  | some (.ext _) => True
  | _ => False
section
variable {P : Program} {w : World} {H : Hp} {h h' : Heap} {x e : Addr} {o' : HO}
theorem HOk.write (ok : HOk P w H h) (mu : Mut (H x)) (he : e = x ∨ H e = some (.own x)) (k : ∀ b u, b ≠ e → h.get? b = some u → h'.get? b = some u) (heo : ∃ u, h'.get? e = some u)
    (new : ObjOk P w (upd H x o') h' x o') : HOk P w (upd H x o') h' := fun b u q => by
  have nown : ∀ c y, H c = some (.own y) → c ≠ x := fun c y r z => by subst z; rw [r] at mu; exact mu
  have ntup : ∀ c xs, H c = some (.tup xs) → c ≠ x := fun c xs r z => by subst z; rw [r] at mu; exact mu
  by_cases hb : b = x
  · subst hb; rw [upd_same] at q; cases q; exact new
  · rw [upd_ne hb] at q
    by_cases hbe : b = e
    · have q' : H b = some (.own x) := by
        rcases he with z | z
        · exact absurd (hbe.trans z) hb
        · rw [hbe]; exact z
      rw [q] at q'; cases q'
      obtain ⟨v, hv⟩ := heo
      exact ⟨v, by rw [hbe]; exact hv⟩
    · refine (ok b u q).stay (fun c v hc r => k c v ?_ r) (fun c r => by rw [upd_ne (nown c b r)]; exact r) fun c xs r => by rw [upd_ne (ntup c xs r)]; exact r
      rcases hc with rfl | hc
      · exact hbe
      · rintro rfl
        rcases he with z | z
        · exact nown c b hc z
        · rw [hc] at z; cases z; exact hb rfl
end
structure Un (fs ex : List Addr) (H H' : Hp) (h h' : Heap) : Prop where
  keep : ∀ b o, h.get? b = some o → H b = none → b ∉ fs → b ∉ ex → h'.get? b = some o
  slot : ∀ b o, h.get? b = some o → H b = none → b ∈ fs → b ∉ ex → ∃ sl, h'.get? b = some { o with slots := sl }
  free : ∀ b o, h.get? b = some o → H b = none → b ∉ ex → H' b = none
  there : ∀ b o, h.get? b = some o → b ∉ ex → ∃ o', h'.get? b = some o'
  tups : ∀ b xs, H b = some (.tup xs) → H' b = some (.tup xs)
  frzs : ∀ b o u, H b = some (.frz o u) → H' b = some (.frz o u)
  tbls : ∀ b ps, H b = some (.tbl ps) → ∃ more, H' b = some (.tbl (ps ++ more))
section
variable {fs fs' ex ex' : List Addr} {H H1 H2 : Hp} {h h1 h2 h' : Heap} {a x e : Addr} {o : HO}
theorem Un.any (u : Un fs ex H H1 h h1) {b : Addr} {ob : Obj} (q : h.get? b = some ob) (n : H b = none) (hx : b ∉ ex) : ∃ sl, h1.get? b = some { ob with slots := sl } := by
  by_cases hb : b ∈ fs
  · exact u.slot b ob q n hb hx
  · exact ⟨ob.slots, u.keep b ob q n hb hx⟩
theorem Un.trans (a : Un fs ex H H1 h h1) (b : Un fs ex H1 H2 h1 h2) : Un fs ex H H2 h h2 where
  keep := fun c ob q n hc hx => b.keep c ob (a.keep c ob q n hc hx) (a.free c ob q n hx) hc hx
  slot := fun c ob q n hc hx => by
    obtain ⟨sl, e1⟩ := a.slot c ob q n hc hx
    obtain ⟨sl', e2⟩ := b.slot c _ e1 (a.free c ob q n hx) hc hx
    exact ⟨sl', e2⟩
  free := fun c ob q n hx => by
    obtain ⟨o', e1⟩ := a.there c ob q hx
    exact b.free c o' e1 (a.free c ob q n hx) hx
  there := fun c ob q hx => by
    obtain ⟨o', e1⟩ := a.there c ob q hx
    exact b.there c o' e1 hx
  tups := fun c xs q => b.tups c xs (a.tups c xs q)
  frzs := fun c ob xs q => b.frzs c ob xs (a.frzs c ob xs q)
  tbls := fun c ps q => by
    obtain ⟨m1, e1⟩ := a.tbls c ps q
    obtain ⟨m2, e2⟩ := b.tbls c _ e1
    exact ⟨m1 ++ m2, by rw [e2, Array.append_assoc]⟩
theorem Un.kept (k : ∀ b u, h.get? b = some u → h'.get? b = some u) : Un fs ex H H h h' :=
  ⟨fun b ob q _ _ _ => k b ob q, fun b ob q _ _ _ => ⟨ob.slots, k b ob q⟩, fun _ _ _ n _ => n, fun b ob q _ => ⟨ob, k b ob q⟩, fun _ _ q => q, fun _ _ _ q => q, fun _ ps q => ⟨#[], by rw [q]; simp⟩⟩
theorem Un.refl : Un fs ex H H h h := Un.kept fun _ _ q => q
theorem Un.laid (k : ∀ b u, h.get? b = some u → h'.get? b = some u) (hp : h.objs.size ≤ a) (hn : H a = none) : Un fs ex H (upd H a o) h h' where
  keep := fun b u q _ _ _ => k b u q
  slot := fun b u q _ _ _ => ⟨u.slots, k b u q⟩
  free := fun b u q n _ => by rw [upd_ne (Nat.ne_of_lt (Nat.lt_of_lt_of_le (Heap.lt_size q) hp))]; exact n
  there := fun b u q _ => ⟨u, k b u q⟩
  tups := fun b xs q => by rw [upd_ne (ne_of_none q hn)]; exact q
  frzs := fun b u xs q => by rw [upd_ne (ne_of_none q hn)]; exact q
  tbls := fun b ps q => ⟨#[], by rw [upd_ne (ne_of_none q hn), q]; simp⟩
theorem Un.write (mu : Mut (H x)) (he : e = x ∨ H e = some (.own x)) (k : ∀ b u, b ≠ e → h.get? b = some u → h'.get? b = some u) (heo : ∃ u, h'.get? e = some u) : Un fs ex H (upd H x o) h h' := by
  have hx : ∀ b, H b = none → b ≠ x := fun b n z => by subst z; rw [n] at mu; exact mu
  have hb : ∀ b, H b = none → b ≠ e := fun b n z => by
    subst z
    rcases he with r | r
    · exact hx b n r
    · rw [n] at r; cases r
  have hm : ∀ b u, H b = some u → ¬ Mut (some u) → b ≠ x := fun b u q nm z => by subst z; rw [q] at mu; exact nm mu
  refine ⟨fun b u q n _ _ => k b u (hb b n) q, fun b u q n _ _ => ⟨u.slots, k b u (hb b n) q⟩, fun b u q n _ => by rw [upd_ne (hx b n)]; exact n, fun b u q _ => ?_,
    fun b xs q => by rw [upd_ne (hm b _ q fun z => z)]; exact q, fun b u xs q => by rw [upd_ne (hm b _ q fun z => z)]; exact q, fun b ps q => ⟨#[], by rw [upd_ne (hm b _ q fun z => z), q]; simp⟩⟩
  by_cases hbe : b = e
  · subst hbe; exact heo
  · exact ⟨u, k b u hbe q⟩
theorem Un.mono (u : Un fs ex H H1 h h1) (hs : ∀ b ∈ fs, b ∈ fs') (hx : ∀ b ∈ ex, b ∈ ex') : Un fs' ex' H H1 h h1 :=
  ⟨fun b ob q n hb he => u.keep b ob q n (fun z => hb (hs b z)) fun z => he (hx b z), fun _ _ q n _ he => u.any q n fun z => he (hx _ z), fun b ob q n he => u.free b ob q n fun z => he (hx b z), fun b ob q he => u.there b ob q fun z => he (hx b z), u.tups, u.frzs, u.tbls⟩
end
def trk (h : Heap) (H : Hp) : List Addr := (List.range h.objs.size).filter fun a => (H a).isSome
def hidT (h : Heap) (H : Hp) : Heap := PySem.W.hideAll h (trk h H)
theorem hidT_size (h : Heap) (H : Hp) : (hidT h H).objs.size = h.objs.size := PySem.W.hideAll_size _ _
theorem hidT_get {h : Heap} {H : Hp} {b : Addr} {o : Obj} (e : h.get? b = some o) (n : H b = none) : (hidT h H).get? b = some o :=
  PySem.W.hideAll_get _ e fun hm => by
    have q : (H b).isSome = true := (List.mem_filter.mp hm).2
    rw [n] at q; simp at q
theorem of_hidT {h : Heap} {H : Hp} {b : Addr} {o : Obj} (e : (hidT h H).get? b = some o) : h.get? b = some o ∧ H b = none := by
  have e' : h.get? b = some o := PySem.W.of_hideAll (trk h H) e
  refine ⟨e', ?_⟩
  cases q : H b with
  | none => rfl
  | some x =>
    have hm : b ∈ trk h H := List.mem_filter.mpr ⟨List.mem_range.mpr (Heap.lt_size e'), by simp [q]⟩
    have z : (hidT h H).get? b = none := PySem.W.hideAll_none (trk h H) hm
    rw [z] at e; cases e
def allNews (g h : Heap) (L : Addr) : List (Addr × Obj) := (List.range h.objs.size).filterMap fun a => if a = L ∨ (g.get? a).isSome = true then none else (h.get? a).map fun o => (a, o)
theorem mem_allNews {g h : Heap} {L a : Addr} {o : Obj} (h1 : a ≠ L) (h2 : g.get? a = none) (h3 : h.get? a = some o) : (a, o) ∈ allNews g h L :=
  List.mem_filterMap.mpr ⟨a, List.mem_range.mpr (Heap.lt_size h3), by simp [h1, h2, h3]⟩
theorem of_mem_allNews {g h : Heap} {L : Addr} {p : Addr × Obj} (hp : p ∈ allNews g h L) : p.1 ≠ L ∧ g.get? p.1 = none ∧ h.get? p.1 = some p.2 := by
  obtain ⟨b, _, e⟩ := List.mem_filterMap.mp hp
  split at e
  · cases e
  · rename_i hn
    cases q : h.get? b with
    | none => rw [q] at e; simp at e
    | some u =>
      rw [q] at e
      simp only [Option.map_some, Option.some.injEq] at e
      subst e
      refine ⟨fun z => hn (.inl z), ?_, q⟩
      show g.get? b = none
      cases r : g.get? b with
      | none => rfl
      | some v => exact (hn (.inr (by simp [r]))).elim
def rest (g h : Heap) (L d : Addr) : List (Addr × Obj) := (allNews g h L).filter fun p => decide (p.1 ≠ d)
theorem rest_ne {g h : Heap} {L d : Addr} : ∀ p ∈ rest g h L d, p.1 ≠ d := fun p hp => of_decide_eq_true (List.mem_filter.mp hp).2
theorem mem_rest {g h : Heap} {L d a : Addr} {o : Obj} (h1 : a ≠ L) (h2 : g.get? a = none) (h3 : h.get? a = some o) (h4 : a ≠ d) : (a, o) ∈ rest g h L d :=
  List.mem_filter.mpr ⟨mem_allNews h1 h2 h3, decide_eq_true h4⟩
theorem news_all {g h : Heap} {L : Addr} : News g L h (allNews g h L) := fun p hp => let ⟨a, b, c⟩ := of_mem_allNews hp; ⟨c, a, b⟩
theorem news_at {g h : Heap} {L d : Addr} {o : Obj} (h1 : d ≠ L) (h2 : g.get? d = none) (h3 : h.get? d = some o) : News g L h ((d, o) :: rest g h L d) := fun p hp => by
  rcases List.mem_cons.mp hp with rfl | hp
  · exact ⟨h3, h1, h2⟩
  · exact news_all p (List.mem_filter.mp hp).1
theorem kept_of_news {g h h' : Heap} {L d : Addr} {m : Str → Option Value} (k : ∀ b o, g.get? b = some o → h.get? b = some o) (F : Fr g L h' m) (N : News g L h' (rest g h L d)) :
    ∀ b o, b ≠ L → b ≠ d → h.get? b = some o → h'.get? b = some o := fun b o h1 h2 e => by
  cases q : g.get? b with
  | some u =>
    have := k b u q
    rw [e] at this; cases this
    exact F.keep b _ q
  | none => exact (N (b, o) (mem_rest h1 q e h2)).1
end L2
namespace L2
open PySem PySem.Spec PyProof.Rows
structure Mod (K : PySem.W.Frag) (mg : Str → Option Value) (base : Heap) : Prop where
  kin : K.In base
  glob : base.Ns mainGlobals mg
  blt : ∃ mb, base.Ns builtinsNs mb ∧ ∀ x : Str, x ≠ "__name__" → mb x = bootBuiltins x
  nolimit : base.NoLimit
/-- the context: a def's body (or a comprehension's block) running. base: fixed through the whole law; s₀, H₀: the entry; outer: the frames whose slots others may change (a def's callers); stack: all frames that run;
   ex: iterators that were made ahead of the entry and are walked here (a comprehension's); fn: the names whose cells were made at the entry (a def: all; a comprehension's block: its own); calm: not within an except suite; pn: pins that every state bears; xe: what is wanted of an exception that leaves the code -/
structure Cx where
  prog : Program
  w : World
  K : PySem.W.Frag
  mg : Str → Option Value
  base : Heap
  A : Around
  N : List Str
  s₀ : Shared
  H₀ : Hp
  env : Env
  outer : List Env
  stack : List Env
  ex : List Addr
  fn : Str → Bool
  calm : Bool
  pn : List (Addr × Obj)
  xe : Value → Shared → Prop
def frs (l : List Env) : List Addr := l.filterMap (·.frame)
abbrev Cx.fs (X : Cx) : List Addr := frs X.outer
def Vis (sc : Scope) (x : Str) : Prop := sc.names.lookup x = some .local ∨ sc.names.lookup x = some .cell ∨ sc.names.lookup x = some .free
def Loc (sc : Scope) (x : Str) : Prop := sc.names.lookup x = some .local ∨ sc.names.lookup x = some .cell
def Look (env : Env) (h : Heap) (m : Str → Option Value) (x : Str) (u : Value) : Prop :=
  (env.kindOf x = some .local ∧ m x = some u) ∨ ((env.kindOf x = some .cell ∨ env.kindOf x = some .free) ∧ ∃ c, env.cells.lookup x = some c ∧ h.IsCell c (some u))
structure Cx.Ok (X : Cx) : Prop where
  mod : Mod X.K X.mg X.base
  kind : X.env.scope.kind = .function
  glob : X.env.globals = mainGlobals
  blt : X.env.builtins = builtinsNs
  above : X.s₀.heap.objs.size ≤ X.env.locals
  inj : ∀ x y c, X.env.cells.lookup x = some c → X.env.cells.lookup y = some c → x = y
  has : ∀ x, (X.env.kindOf x = some .cell ∨ X.env.kindOf x = some .free) → ∃ c, X.env.cells.lookup x = some c
  cab : ∀ x c, X.fn x = true → X.env.cells.lookup x = some c → X.s₀.heap.objs.size ≤ c
  hd : X.calm = true → X.A.handled = none
  frames : X.A.frames = some X.stack
  stk : X.stack = X.outer ∨ (X.stack = X.env :: X.outer ∧ X.env.frame = some X.env.locals)
  exf : ∀ b ∈ X.ex, b ≠ X.env.locals ∧ ∀ x c, X.env.cells.lookup x = some c → c ≠ b
  bs : ∀ b o, X.base.get? b = some o → X.s₀.heap.get? b = some o ∧ X.H₀ b = none
  bsz : X.base.objs.size ≤ X.s₀.heap.objs.size
  noex : ∀ b o, X.base.get? b = some o → b ∉ X.ex
  exfs : ∀ b ∈ X.ex, b ∉ X.fs
  funs : X.s₀.heap.FunFrames X.base X.outer
  frf : ∀ b ∈ X.fs, X.H₀ b = none
structure Inv (X : Cx) (pins : List (Addr × Obj)) (σ : List (Option V)) (H : Hp) (s : Shared) : Prop where
  ok : X.Ok
  os : s.os = X.s₀.os
  bare : AllBare s.gens
  base : Un X.fs X.ex X.H₀ H X.s₀.heap s.heap
  loc : ∃ m, s.heap.Ns X.env.locals m ∧ ∀ (i : Nat) (x : Str) (v : V), X.N[i]? = some x → σ[i]? = some (some v) → Vis X.env.scope x → ∃ u, RelV v u ∧ Look X.env s.heap m x u
  cell : ∀ x c, X.env.cells.lookup x = some c → ∃ v, s.heap.IsCell c v
  free : H X.env.locals = none
  freeC : ∀ x c, X.env.cells.lookup x = some c → H c = none
  pin : ∀ p ∈ X.pn ++ pins, s.heap.get? p.1 = some p.2 ∧ H p.1 = none ∧ p.1 ≠ X.env.locals ∧ p.1 ∉ X.fs ∧ ∀ v, p.2.data ≠ .cell v
  hok : HOk X.prog X.w H s.heap
  len : σ.length = X.N.length
section
variable {X : Cx} {pins : List (Addr × Obj)} {σ : List (Option V)} {H H' : Hp} {s : Shared} {h' : Heap}
theorem Cx.Ok.nofr (ok : X.Ok) {b : Addr} {o : Obj} (e : X.base.get? b = some o) : b ∉ X.fs := fun hb => by
  have := (ok.funs.mem hb).1
  rw [e] at this; cases this
theorem Inv.bs (I : Inv X pins σ H s) : ∀ b o, X.base.get? b = some o → s.heap.get? b = some o ∧ H b = none := fun b o e =>
  ⟨I.base.keep b o (I.ok.bs b o e).1 (I.ok.bs b o e).2 (I.ok.nofr e) (I.ok.noex b o e), I.base.free b o (I.ok.bs b o e).1 (I.ok.bs b o e).2 (I.ok.noex b o e)⟩
theorem Inv.bk (I : Inv X pins σ H s) : ∀ b o, X.base.get? b = some o → s.heap.get? b = some o := fun b o e => (I.bs b o e).1
theorem Inv.mod (I : Inv X pins σ H s) : Mod X.K X.mg X.base := I.ok.mod
theorem Inv.kIn (I : Inv X pins σ H s) : X.K.In s.heap := I.ok.mod.kin.keeps I.bk
theorem Inv.nolimit (I : Inv X pins σ H s) : s.heap.NoLimit := I.ok.mod.nolimit.keeps I.bk
theorem Inv.fr (I : Inv X pins σ H s) : ∃ m, Fr X.base X.env.locals s.heap m :=
  let ⟨m, hn, _⟩ := I.loc
  ⟨m, hn, I.bk, Nat.le_trans I.ok.bsz I.ok.above⟩
theorem Inv.lt (I : Inv X pins σ H s) : X.env.locals < s.heap.objs.size := let ⟨_, hn, _⟩ := I.loc; hn.lt
theorem Inv.sz (I : Inv X pins σ H s) : X.s₀.heap.objs.size ≤ s.heap.objs.size := Nat.le_trans I.ok.above (Nat.le_of_lt I.lt)
theorem Inv.nofs (I : Inv X pins σ H s) {a : Addr} (h : s.heap.objs.size ≤ a) : a ∉ X.fs := fun hb => by
  obtain ⟨_, o, ho, _⟩ := I.ok.funs.mem hb
  exact absurd (Nat.lt_of_lt_of_le (Heap.lt_size ho) (Nat.le_trans I.sz h)) (Nat.lt_irrefl _)
theorem Inv.cne (I : Inv X pins σ H s) : ∀ x c, X.env.cells.lookup x = some c → c ≠ X.env.locals := fun x c e z => by
  obtain ⟨v, o, ho, hd⟩ := I.cell x c e
  obtain ⟨m, ⟨o', es, ep, ho', hd', _⟩, _⟩ := I.loc
  rw [z, ho'] at ho; cases ho; rw [hd'] at hd; cases hd
theorem Inv.funs (I : Inv X pins σ H s) : s.heap.FunFrames X.base X.outer := by
  have all : ∀ (l : List Env), (∀ b ∈ frs l, b ∈ X.fs) → X.s₀.heap.FunFrames X.base l → s.heap.FunFrames X.base l := by
    intro l
    induction l with
    | nil => intro _ _; trivial
    | cons env r ih =>
      intro hs hl
      obtain ⟨hk, ⟨L, o, hf, hn, ho, hd⟩, hr⟩ := hl
      have hL : L ∈ X.fs := hs L (by unfold frs; rw [List.filterMap_cons, hf]; exact List.mem_cons_self)
      obtain ⟨sl, e⟩ := I.base.slot L o ho (I.ok.frf L hL) hL fun z => I.ok.exfs L z hL
      exact ⟨hk, ⟨L, _, hf, hn, e, hd⟩, ih (fun b hb => hs b (by unfold frs; rw [List.filterMap_cons, hf]; exact List.mem_cons_of_mem _ hb)) hr⟩
  exact all X.outer (fun _ hb => hb) I.ok.funs
theorem Inv.stack (I : Inv X pins σ H s) : s.heap.FunFrames X.base X.stack := by
  rcases I.ok.stk with e | ⟨e, hf⟩
  · rw [e]; exact I.funs
  · rw [e]
    obtain ⟨m, hn, _⟩ := I.loc
    refine .cons (by rw [I.ok.kind]; decide) hf hn ?_ I.funs
    exact Heap.get?_none_of_le (Nat.le_trans I.ok.bsz I.ok.above)
theorem Inv.stkSub (I : Inv X pins σ H s) : ∀ b ∈ frs X.stack, b ∈ X.env.locals :: X.fs := fun b hb => by
  rcases I.ok.stk with e | ⟨e, hf⟩
  · rw [e] at hb; exact List.mem_cons_of_mem _ hb
  · rw [e] at hb
    unfold frs at hb
    rw [List.filterMap_cons, hf] at hb
    exact hb
theorem Inv.stkFree (I : Inv X pins σ H s) : ∀ b ∈ frs X.stack, H b = none := fun b hb => by
  rcases List.mem_cons.mp (I.stkSub b hb) with e | hb
  · rw [e]; exact I.free
  · obtain ⟨_, o, ho, _⟩ := I.ok.funs.mem hb
    exact I.base.free b o ho (I.ok.frf b hb) fun z => I.ok.exfs b z hb
theorem Inv.step {g' : Array GenState} {t' : Nat} {d' : Drawn} {ch : List Addr} (I : Inv X pins σ H s)
    (hch : ∀ b ∈ ch, (b ∈ X.ex ∨ X.s₀.heap.objs.size ≤ b) ∧ b ≠ X.env.locals ∧ (∀ x c, X.env.cells.lookup x = some c → c ≠ b) ∧ ∀ p ∈ X.pn ++ pins, p.1 ≠ b)
    (keep : ∀ b o, b ≠ X.env.locals → b ∉ X.fs → b ∉ ch → s.heap.get? b = some o → H b = none → h'.get? b = some o)
    (slot : ∀ b o, b ≠ X.env.locals → b ∈ X.fs → b ∉ ch → s.heap.get? b = some o → H b = none → ∃ sl, h'.get? b = some { o with slots := sl }) (free : ∀ b o, b ∉ ch → s.heap.get? b = some o → H b = none → H' b = none)
    (there : ∀ b o, b ∉ ch → s.heap.get? b = some o → ∃ o', h'.get? b = some o')
    (tups : ∀ b xs, H b = some (.tup xs) → H' b = some (.tup xs)) (frzs : ∀ b o u, H b = some (.frz o u) → H' b = some (.frz o u)) (tbls : ∀ b ps, H b = some (.tbl ps) → ∃ more, H' b = some (.tbl (ps ++ more)))
    (ns : ∀ m, s.heap.Ns X.env.locals m → h'.Ns X.env.locals m) (hok : HOk X.prog X.w H' h') (hg : AllBare g') :
    Inv X pins σ H' { s with heap := h', gens := g', drawn := d', toks := t' } := by
  have neL : ∀ b o, X.s₀.heap.get? b = some o → b ≠ X.env.locals := fun b o e => Nat.ne_of_lt (Nat.lt_of_lt_of_le (Heap.lt_size e) I.ok.above)
  have neC : ∀ b o, X.s₀.heap.get? b = some o → b ∉ X.ex → b ∉ ch := fun b o e hx hb => by
    rcases (hch b hb).1 with z | z
    · exact hx z
    · exact absurd (Nat.lt_of_lt_of_le (Heap.lt_size e) z) (Nat.lt_irrefl _)
  have cellK : ∀ x c, X.env.cells.lookup x = some c → ∀ v, s.heap.IsCell c v → h'.IsCell c v := fun x c e v ⟨o, ho, hd⟩ => by
    have nch : c ∉ ch := fun z => (hch c z).2.2.1 x c e rfl
    by_cases hc : c ∈ X.fs
    · obtain ⟨sl, q⟩ := slot c o (I.cne x c e) hc nch ho (I.freeC x c e)
      exact ⟨_, q, hd⟩
    · exact ⟨o, keep c o (I.cne x c e) hc nch ho (I.freeC x c e), hd⟩
  refine ⟨I.ok, I.os, hg, ⟨fun b o e n hb hx => ?_, fun b o e n hb hx => ?_, fun b o e n hx => ?_, fun b o e hx => ?_, fun b xs e => tups b xs (I.base.tups b xs e), fun b o xs e => frzs b o xs (I.base.frzs b o xs e), fun b ps e => ?_⟩, ?_, fun x c e => ?_, ?_, fun x c e => ?_, fun p hp => ?_, hok, I.len⟩
  · exact keep b o (neL b o e) hb (neC b o e hx) (I.base.keep b o e n hb hx) (I.base.free b o e n hx)
  · obtain ⟨sl, e1⟩ := I.base.slot b o e n hb hx
    obtain ⟨sl', e2⟩ := slot b _ (neL b o e) hb (neC b o e hx) e1 (I.base.free b o e n hx)
    exact ⟨sl', e2⟩
  · obtain ⟨o', e1⟩ := I.base.there b o e hx
    exact free b o' (neC b o e hx) e1 (I.base.free b o e n hx)
  · obtain ⟨o', e1⟩ := I.base.there b o e hx
    exact there b o' (neC b o e hx) e1
  · obtain ⟨m1, e1⟩ := I.base.tbls b ps e
    obtain ⟨m2, e2⟩ := tbls b _ e1
    exact ⟨m1 ++ m2, by rw [e2, Array.append_assoc]⟩
  · obtain ⟨m, hn, hl⟩ := I.loc
    refine ⟨m, ns m hn, fun i x v e1 e2 e3 => ?_⟩
    obtain ⟨u, r, l⟩ := hl i x v e1 e2 e3
    refine ⟨u, r, ?_⟩
    rcases l with l | ⟨k, c, e, z⟩
    · exact .inl l
    · exact .inr ⟨k, c, e, cellK x c e _ z⟩
  · obtain ⟨v, z⟩ := I.cell x c e
    exact ⟨v, cellK x c e v z⟩
  · obtain ⟨m, ⟨o, _, _, ho, _⟩, _⟩ := I.loc
    exact free _ o (fun z => (hch _ z).2.1 rfl) ho I.free
  · obtain ⟨v, o, ho, hd⟩ := I.cell x c e
    exact free c o (fun z => (hch c z).2.2.1 x c e rfl) ho (I.freeC x c e)
  · obtain ⟨e, n, ne, nf, d⟩ := I.pin p hp
    have nch : p.1 ∉ ch := fun z => (hch p.1 z).2.2.2 p hp rfl
    exact ⟨keep p.1 p.2 ne nf nch e n, free p.1 p.2 nch e n, ne, nf, d⟩
theorem Inv.un {t' : Nat} (I : Inv X pins σ H s) (u : Un X.fs [] H H' s.heap h') (hok : HOk X.prog X.w H' h') : Inv X pins σ H' { s with heap := h', toks := t' } := by
  obtain ⟨m, ⟨o, es, ep, ho, r⟩, _⟩ := id I.loc
  obtain ⟨sl, hL⟩ := u.any ho I.free (by simp)
  exact I.step (g' := s.gens) (d' := s.drawn) (ch := []) (fun _ z => nomatch z) (fun b o _ hb _ e n => u.keep b o e n hb (by simp)) (fun b o _ hb _ e n => u.slot b o e n hb (by simp)) (fun b o _ e n => u.free b o e n (by simp)) (fun b o _ e => u.there b o e (by simp)) u.tups u.frzs u.tbls (fun m' hm => by
    obtain ⟨o', es', ep', ho', r'⟩ := hm
    rw [ho] at ho'; cases ho'
    exact ⟨_, es', ep', hL, r'⟩) hok I.bare
theorem Inv.call {g' : Array GenState} {t' : Nat} {d' : Drawn} {ch : List Addr} (I : Inv X pins σ H s) (u : Un (frs X.stack) ch H H' s.heap h') (hok : HOk X.prog X.w H' h') (hg : AllBare g')
    (hch : ∀ b ∈ ch, (b ∈ X.ex ∨ X.s₀.heap.objs.size ≤ b) ∧ b ≠ X.env.locals ∧ (∀ x c, X.env.cells.lookup x = some c → c ≠ b) ∧ ∀ p ∈ X.pn ++ pins, p.1 ≠ b) :
    Inv X pins σ H' { s with heap := h', gens := g', drawn := d', toks := t' } := by
  obtain ⟨m, ⟨o, es, ep, ho, r⟩, _⟩ := id I.loc
  obtain ⟨sl, hL⟩ := u.any ho I.free fun z => (hch _ z).2.1 rfl
  exact I.step (ch := ch) hch (fun b o hL hb hc e n => u.keep b o e n (fun z => (List.mem_cons.mp (I.stkSub b z)).elim hL hb) hc) (fun b o _ _ hc e n => u.any e n hc) (fun b o hc e n => u.free b o e n hc) (fun b o hc e => u.there b o e hc) u.tups u.frzs u.tbls (fun m' hm => by
    obtain ⟨o', es', ep', ho', r'⟩ := hm
    rw [ho] at ho'; cases ho'
    exact ⟨_, es', ep', hL, r'⟩) hok hg
theorem Inv.turned {t' : Nat} {it : Addr} (I : Inv X pins σ H s) (k : ∀ b o, b ≠ it → s.heap.get? b = some o → h'.get? b = some o) (hn : H it = none) (hL : it ≠ X.env.locals)
    (h1 : it ∈ X.ex ∨ X.s₀.heap.objs.size ≤ it) (h2 : ∀ x c, X.env.cells.lookup x = some c → c ≠ it) (h3 : ∀ p ∈ X.pn ++ pins, p.1 ≠ it) : Inv X pins σ H { s with heap := h', toks := t' } := by
  have nit : ∀ b u, H b = some u → b ≠ it := fun b u e z => by rw [z, hn] at e; cases e
  refine I.step (g' := s.gens) (d' := s.drawn) (ch := [it]) (fun b hb => ?_) (fun b o _ _ hc e _ => k b o (fun z => hc (by simp [z])) e) (fun b o _ _ hc e _ => ⟨o.slots, k b o (fun z => hc (by simp [z])) e⟩) (fun _ _ _ _ n => n)
    (fun b o hc e => ⟨o, k b o (fun z => hc (by simp [z])) e⟩) (fun _ _ e => e) (fun _ _ _ e => e) (fun b ps e => ⟨#[], by rw [e]; simp⟩) (fun m hm => ?_) (fun b u e => ?_) I.bare
  · have e : b = it := by simpa using hb
    subst e
    exact ⟨h1, hL, h2, h3⟩
  · obtain ⟨o, es, ep, ho, r⟩ := hm
    exact ⟨o, es, ep, k _ o (Ne.symm hL) ho, r⟩
  · refine (I.hok b u e).stay (fun c v hc q => k c v ?_ q) (fun _ q => q) fun _ _ q => q
    rcases hc with z | z
    · rw [z]; exact nit b u e
    · exact nit c _ z
theorem Inv.tok (I : Inv X pins σ H s) (t : Nat) : Inv X pins σ H { s with toks := t } := I.un (h' := s.heap) (t' := t) Un.refl I.hok
theorem Inv.kept {t' : Nat} (I : Inv X pins σ H s) (k : ∀ b u, s.heap.get? b = some u → h'.get? b = some u) : Inv X pins σ H { s with heap := h', toks := t' } := I.un (Un.kept k) (I.hok.kept k)
theorem Inv.laid {a : Addr} {o : HO} {t' : Nat} (I : Inv X pins σ H s) (k : ∀ b u, s.heap.get? b = some u → h'.get? b = some u) (hp : s.heap.objs.size ≤ a) (new : ObjOk X.prog X.w (upd H a o) h' a o) :
    Inv X pins σ (upd H a o) { s with heap := h', toks := t' } := I.un (Un.laid k hp (I.hok.fresh hp)) (I.hok.laid k hp new)
theorem Inv.write {x e : Addr} {o : HO} {t' : Nat} (I : Inv X pins σ H s) (mu : Mut (H x)) (he : e = x ∨ H e = some (.own x)) (k : ∀ b u, b ≠ e → s.heap.get? b = some u → h'.get? b = some u) (heo : ∃ u, h'.get? e = some u)
    (new : ObjOk X.prog X.w (upd H x o) h' x o) : Inv X pins σ (upd H x o) { s with heap := h', toks := t' } := I.un (Un.write mu he k heo) (I.hok.write mu he k heo new)
theorem Inv.weak {σ' : List (Option V)} (I : Inv X pins σ H s) (hl : σ'.length = σ.length) (w : ∀ (i : Nat) v, σ'[i]? = some (some v) → σ[i]? = some (some v)) : Inv X pins σ' H s :=
  ⟨I.ok, I.os, I.bare, I.base, let ⟨m, hn, hl'⟩ := I.loc; ⟨m, hn, fun i x v e1 e2 e3 => hl' i x v e1 (w i v e2) e3⟩, I.cell, I.free, I.freeC, I.pin, I.hok, hl.trans I.len⟩
theorem Inv.pins_of {pins' : List (Addr × Obj)} (I : Inv X pins σ H s) (h : ∀ p ∈ pins', s.heap.get? p.1 = some p.2 ∧ H p.1 = none ∧ p.1 ≠ X.env.locals ∧ p.1 ∉ X.fs ∧ ∀ v, p.2.data ≠ .cell v) : Inv X pins' σ H s :=
  ⟨I.ok, I.os, I.bare, I.base, I.loc, I.cell, I.free, I.freeC, fun p hp => (List.mem_append.mp hp).elim (fun z => I.pin p (List.mem_append_left _ z)) (h p), I.hok, I.len⟩
theorem nodup_ix {N : List Str} (hN : N.Nodup) {i j : Nat} {x : Str} (a : N[i]? = some x) (b : N[j]? = some x) : i = j := by
  obtain ⟨h1, e1⟩ := List.getElem?_eq_some_iff.mp a
  obtain ⟨h2, e2⟩ := List.getElem?_eq_some_iff.mp b
  exact (List.getElem_inj hN).mp (e1.trans e2.symm)
theorem store_ok2 {M : Model} {A : Around} {E : Value → Shared → Prop} {i : Nat} {x : Str} {v : V} {u : Value} {Q : Unit → Shared → Prop} (I : Inv X pins σ H s) (hN : X.N.Nodup) (hi : X.N[i]? = some x) (hx : Loc X.env.scope x) (r : RelV v u)
    (h : ∀ s', Inv X pins (σ.set i (some v)) H s' → (∃ a, Heap.SameBut a s.heap s'.heap ∧ (a = X.env.locals ∨ X.env.cells.lookup x = some a)) → Q () s') (hf : X.fn x = true ∨ X.env.scope.names.lookup x = some .local := by first | exact .inl rfl | exact .inr rfl | assumption) : wpAny M A (storeName X.env x u) Q E s := by
  obtain ⟨m, hn, hl⟩ := id I.loc
  have hcls : (X.env.scope.kind == .class || (X.env.scope.kind == .module && X.env.locals != X.env.globals)) = false := by rw [I.ok.kind]; rfl
  have hiσ : i < σ.length := by rw [I.len]; exact (List.getElem?_eq_some_iff.mp hi).1
  have cne := I.cne
  have tracked : ∀ {a : Addr} {h' : Heap}, (∃ o, s.heap.get? a = some o ∧ H a = none) → Heap.SameBut a s.heap h' → HOk X.prog X.w H h' := fun {a h'} ha hs b ob e => by
    obtain ⟨_, _, hfree⟩ := ha
    refine (I.hok b ob e).stay (fun c w' hc q => (hs.2 c ?_).trans q) (fun _ q => q) fun _ _ q => q
    rintro rfl
    rcases hc with rfl | hc
    · rw [hfree] at e; cases e
    · rw [hfree] at hc; cases hc
  rcases hx with hk | hk
  · refine wpAny_storeName_local hk hn (fun h' hn' hs => ?_) hcls
    obtain ⟨oL, _, _, hoL, _⟩ := id hn
    refine h _ ⟨I.ok, I.os, I.bare, ⟨fun b o e n hb hx => ?_, fun b o e n hb hx => ?_, I.base.free, fun b o e hx => ?_, I.base.tups, I.base.frzs, I.base.tbls⟩, ⟨_, hn', fun j y v' e1 e2 e3 => ?_⟩, fun y c e => ?_, I.free, I.freeC, fun p hp => ?_, tracked ⟨oL, hoL, I.free⟩ hs, by simpa using I.len⟩ ⟨_, hs, .inl rfl⟩
    · exact (hs.2 b (Nat.ne_of_lt (Nat.lt_of_lt_of_le (Heap.lt_size e) I.ok.above))).trans (I.base.keep b o e n hb hx)
    · obtain ⟨sl, e1⟩ := I.base.slot b o e n hb hx
      exact ⟨sl, (hs.2 b (Nat.ne_of_lt (Nat.lt_of_lt_of_le (Heap.lt_size e) I.ok.above))).trans e1⟩
    · obtain ⟨o', e1⟩ := I.base.there b o e hx
      exact ⟨o', (hs.2 b (Nat.ne_of_lt (Nat.lt_of_lt_of_le (Heap.lt_size e) I.ok.above))).trans e1⟩
    · by_cases hj : j = i
      · subst hj
        rw [hi] at e1; cases e1
        rw [List.getElem?_set_self hiσ] at e2
        cases e2
        exact ⟨u, r, .inl ⟨hk, by simp⟩⟩
      · rw [List.getElem?_set_ne (Ne.symm hj)] at e2
        obtain ⟨u', r', q⟩ := hl j y v' e1 e2 e3
        refine ⟨u', r', ?_⟩
        rcases q with ⟨k, e⟩ | ⟨k, c, e, z⟩
        · refine .inl ⟨k, ?_⟩
          have : y ≠ x := fun e => hj (nodup_ix hN e1 (e ▸ hi))
          simp [this, e]
        · exact .inr ⟨k, c, e, z.sameBut hs (cne y c e)⟩
    · obtain ⟨w', z⟩ := I.cell y c e
      exact ⟨w', z.sameBut hs (cne y c e)⟩
    · obtain ⟨e, n, ne, nf, d⟩ := I.pin p hp
      exact ⟨(hs.2 p.1 ne).trans e, n, ne, nf, d⟩
  · have hfn : X.fn x = true := by
      rcases hf with z | z
      · exact z
      · rw [z] at hk; cases hk
    obtain ⟨c, hc⟩ := I.ok.has x (.inl hk)
    obtain ⟨w', z⟩ := I.cell x c hc
    refine wpAny_storeName_cell I.ok.kind hk hc z (fun h' hc' hs => ?_)
    obtain ⟨oc, hoc, hocd⟩ := id z
    refine h { s with heap := h' } ⟨I.ok, I.os, I.bare, ⟨fun b o e n hb hx => ?_, fun b o e n hb hx => ?_, I.base.free, fun b o e hx => ?_, I.base.tups, I.base.frzs, I.base.tbls⟩, ⟨m, hn.sameBut hs (Ne.symm (cne x c hc)), fun j y v' e1 e2 e3 => ?_⟩, fun y c' e => ?_, I.free, I.freeC, fun p hp => ?_, tracked ⟨oc, hoc, I.freeC x c hc⟩ hs, by simpa using I.len⟩ ⟨c, hs, .inr hc⟩
    · exact (hs.2 b (Nat.ne_of_lt (Nat.lt_of_lt_of_le (Heap.lt_size e) (I.ok.cab x c hfn hc)))).trans (I.base.keep b o e n hb hx)
    · obtain ⟨sl, e1⟩ := I.base.slot b o e n hb hx
      exact ⟨sl, (hs.2 b (Nat.ne_of_lt (Nat.lt_of_lt_of_le (Heap.lt_size e) (I.ok.cab x c hfn hc)))).trans e1⟩
    · obtain ⟨o', e1⟩ := I.base.there b o e hx
      exact ⟨o', (hs.2 b (Nat.ne_of_lt (Nat.lt_of_lt_of_le (Heap.lt_size e) (I.ok.cab x c hfn hc)))).trans e1⟩
    · by_cases hj : j = i
      · subst hj
        rw [hi] at e1; cases e1
        rw [List.getElem?_set_self hiσ] at e2
        cases e2
        exact ⟨u, r, .inr ⟨.inl hk, c, hc, hc'⟩⟩
      · rw [List.getElem?_set_ne (Ne.symm hj)] at e2
        obtain ⟨u', r', q⟩ := hl j y v' e1 e2 e3
        refine ⟨u', r', ?_⟩
        rcases q with q | ⟨k, c', e, z'⟩
        · exact .inl q
        · refine .inr ⟨k, c', e, z'.sameBut hs ?_⟩
          rintro rfl
          exact hj (nodup_ix hN e1 (I.ok.inj _ _ _ e hc ▸ hi))
    · by_cases hcc : c' = c
      · subst hcc; exact ⟨_, hc'⟩
      · obtain ⟨w2, z2⟩ := I.cell y c' e
        exact ⟨w2, z2.sameBut hs hcc⟩
    · obtain ⟨e, n, ne, nf, d⟩ := I.pin p hp
      refine ⟨(hs.2 p.1 ?_).trans e, n, ne, nf, d⟩
      intro q
      rw [q, hoc] at e
      have q' : oc = p.2 := Option.some.inj e
      exact d w' (by rw [← q']; exact hocd)
theorem store_ok {M : Model} {A : Around} {E : Value → Shared → Prop} {i : Nat} {x : Str} {v : V} {u : Value} {Q : Unit → Shared → Prop} (I : Inv X pins σ H s) (hN : X.N.Nodup) (hi : X.N[i]? = some x) (hx : Loc X.env.scope x) (r : RelV v u)
    (h : ∀ s', Inv X pins (σ.set i (some v)) H s' → Q () s') (hf : X.fn x = true ∨ X.env.scope.names.lookup x = some .local := by first | exact .inl rfl | exact .inr rfl | assumption) : wpAny M A (storeName X.env x u) Q E s :=
  store_ok2 I hN hi hx r (fun s' I' _ => h s' I') hf
theorem Inv.call' {s' : Shared} {ch : List Addr} (I : Inv X pins σ H s) (ho : s'.os = s.os) (u : Un (frs X.stack) ch H H' s.heap s'.heap) (hok : HOk X.prog X.w H' s'.heap) (hg : AllBare s'.gens)
    (hch : ∀ b ∈ ch, (b ∈ X.ex ∨ X.s₀.heap.objs.size ≤ b) ∧ b ≠ X.env.locals ∧ (∀ x c, X.env.cells.lookup x = some c → c ≠ b) ∧ ∀ p ∈ X.pn ++ pins, p.1 ≠ b) : Inv X pins σ H' s' := by
  obtain ⟨h', g', d', t', o'⟩ := s'
  have e : o' = s.os := ho
  subst e
  exact I.call (g' := g') (t' := t') (d' := d') u hok hg hch
end
abbrev XK := Value → Option Addr → Hp → Prop
abbrev St := List (Option V)
abbrev VK := V → Hp → Prop
abbrev TE := St → Hp → VK → Prop
abbrev TT := St → Hp → (Bool → Hp → Prop) → Prop
abbrev TA := St → Hp → (List V → Hp → Prop) → Prop
structure Ends where
  nx : St → Hp → Prop
  rt : VK
  bk : St → Hp → Prop := fun _ _ => False
  ct : St → Hp → Prop := fun _ _ => False
abbrev TS := Ends → St → Hp → Prop
def EP (X : Cx) (pins : List (Addr × Obj)) (σ : St) (Q : VK) (u : Value) (s' : Shared) : Prop := ∃ v H', Inv X pins σ H' s' ∧ RelV v u ∧ Q v H'
def TP (X : Cx) (pins : List (Addr × Obj)) (σ : St) (Q : Bool → Hp → Prop) (b : Bool) (s' : Shared) : Prop := ∃ H', Inv X pins σ H' s' ∧ Q b H'
def AP (X : Cx) (pins : List (Addr × Obj)) (σ : St) (Q : List V → Hp → Prop) (us : List Value) (s' : Shared) : Prop := ∃ vs H', Inv X pins σ H' s' ∧ Vals vs us ∧ Q vs H'
def SP (X : Cx) (pins : List (Addr × Obj)) (D : Ends) (f : Flow) (s' : Shared) : Prop :=
  match f with
  | .next => ∃ σ' H', Inv X pins σ' H' s' ∧ D.nx σ' H'
  | .brk => ∃ σ' H', Inv X pins σ' H' s' ∧ D.bk σ' H'
  | .cont => ∃ σ' H', Inv X pins σ' H' s' ∧ D.ct σ' H'
  | .ret u => ∃ v σ' H', Inv X pins σ' H' s' ∧ RelV v u ∧ D.rt v H'
def PE (X : Cx) (e : Expr) (t : TE) : Prop :=
  ∀ (pins : List (Addr × Obj)) (s : Shared) (σ : St) (H : Hp) (Q : VK), Inv X pins σ H s → t σ H Q → wpAny (model X.prog X.w) X.A (eval e X.env) (EP X pins σ Q) X.xe s
def PT (X : Cx) (e : Expr) (t : TT) : Prop :=
  ∀ (pins : List (Addr × Obj)) (s : Shared) (σ : St) (H : Hp) (Q : Bool → Hp → Prop), Inv X pins σ H s → t σ H Q → wpAny (model X.prog X.w) X.A (isTrue e X.env (eval e X.env)) (TP X pins σ Q) X.xe s
def PW (X : Cx) (e : Expr) (t : TT) : Prop :=
  ∀ (whole : Sem Value) (pins : List (Addr × Obj)) (s : Shared) (σ : St) (H : Hp) (Q : Bool → Hp → Prop), Inv X pins σ H s → t σ H Q → wpAny (model X.prog X.w) X.A (isTrue e X.env whole) (TP X pins σ Q) X.xe s
theorem PW.pt {X : Cx} {e : Expr} {t : TT} (h : PW X e t) : PT X e t := h _
def PA (X : Cx) (es : List Expr) (t : TA) : Prop :=
  ∀ (pos : Pos) (pins : List (Addr × Obj)) (s : Shared) (σ : St) (H : Hp) (Q : List V → Hp → Prop), Inv X pins σ H s → t σ H Q → wpAny (model X.prog X.w) X.A (spliced (backTo pos (starEach es X.env))) (AP X pins σ Q) X.xe s
def PS (X : Cx) (st : Stmt) (t : TS) : Prop :=
  ∀ (pins : List (Addr × Obj)) (s : Shared) (σ : St) (H : Hp) (D : Ends), Inv X pins σ H s → t D σ H → wpAny (model X.prog X.w) X.A (exec st X.env) (SP X pins D) X.xe s
def PSs (X : Cx) (st : List Stmt) (t : TS) : Prop :=
  ∀ (pins : List (Addr × Obj)) (s : Shared) (σ : St) (H : Hp) (D : Ends), Inv X pins σ H s → t D σ H → wpAny (model X.prog X.w) X.A (execs st X.env) (SP X pins D) X.xe s
theorem thn {α : Type} {t : Sem α} {Q Q' : α → Shared → Prop} {M : Model} {A : Around} {E : Value → Shared → Prop} {s : Shared} (h : wpAny M A t Q E s) (hQ : ∀ a s, Q a s → Q' a s) : wpAny M A t Q' E s := wpAny_mono h hQ fun _ _ x => x
end L2
namespace L2
open PySem PySem.Spec PyProof.Rows
section
variable {X : Cx}
theorem bin {a b : Expr} {ta tb : TE} (ha : PE X a ta) (hb : PE X b tb) {pins : List (Addr × Obj)} {s : Shared} {σ : St} {H : Hp} {R : V → V → Hp → Prop} (I : Inv X pins σ H s) (h : ta σ H fun x H1 => tb σ H1 fun y H2 => R x y H2)
    {α : Type} {Q : α → Shared → Prop} {f : Value → Value → Sem α}
    (hf : ∀ v u s2 x y H2, Inv X pins σ H2 s2 → RelV x v → RelV y u → R x y H2 → wpAny (model X.prog X.w) X.A (f v u) Q X.xe s2) :
    wpAny (model X.prog X.w) X.A (eval a X.env) (fun v s₁ => wpAny (model X.prog X.w) X.A (eval b X.env) (fun u s₂ => wpAny (model X.prog X.w) X.A (f v u) Q X.xe s₂) X.xe s₁) X.xe s := by
  refine thn (ha pins s σ H _ I h) fun v s1 ⟨x, H1, I1, r1, q1⟩ => ?_
  refine thn (hb pins s1 σ H1 _ I1 q1) fun u s2 ⟨y, H2, I2, r2, q2⟩ => ?_
  exact hf v u s2 x y H2 I2 r1 r2 q2
def tVar (i : Nat) : TE := fun σ H Q => ∃ v, σ[i]? = some (some v) ∧ Q v H
def tC (v : V) : TE := fun _ H Q => Q v H
theorem pe_var {i : Nat} {x : Str} {pos : Pos} (hN : X.N[i]? = some x) (hv : Vis X.env.scope x) (hd : (x == ("__debug__" : Str)) = false := by decide) (hcd : (x == ("__classdict__" : Str)) = false := by decide) : PE X (.Name x pos) (tVar i) := by
  intro pins s σ H Q I h
  obtain ⟨v, e, h⟩ := h
  obtain ⟨m, hn, hl⟩ := I.loc
  obtain ⟨u, r, l⟩ := hl i x v hN e hv
  have fin : EP X pins σ Q u s := ⟨v, H, I, r, h⟩
  rcases l with ⟨hk, hm⟩ | ⟨hk, c, hc, hcell⟩
  · exact wpAny_Name (wpAny_loadName_local I.ok.kind hk hn hm fin) hd
  · rcases hk with hk | hk
    · exact wpAny_Name (wpAny_loadName_cell I.ok.kind hk hc hcell fin) hd
    · exact wpAny_Name (wpAny_loadName_free I.ok.kind hk hc hcell fin hcd) hd
theorem pe_int {i j pos} : PE X (.Constant (.int i) j pos) (tC (.int i)) := fun _ _ _ H _ I h => wpAny_Constant_int ⟨.int i, H, I.tok _, ⟨_, rfl⟩, h⟩
theorem pe_bl {b j pos} : PE X (.Constant (.bool b) j pos) (tC (.bl b)) := fun _ _ _ H _ I h => Constant_bool ⟨.bl b, H, I, rfl, h⟩
theorem pe_non {j pos} : PE X (.Constant .none j pos) (tC .non) := fun _ _ _ H _ I h => Constant_none ⟨.non, H, I, rfl, h⟩
theorem pe_str {x j pos} : PE X (.Constant (.str x) j pos) (tC (.str x)) := fun _ _ _ H _ I h => Calls.Constant_str ⟨.str x, H, I.tok _, ⟨_, rfl⟩, h⟩
def Gl (X : Cx) (x : Str) : Prop := X.env.kindOf x = some .globalImplicit
theorem ld_glob {E : Value → Shared → Prop} {pins : List (Addr × Obj)} {s : Shared} {σ : St} {H : Hp} {x : Str} {u : Value} {pos : Pos} {Q : Value → Shared → Prop} (I : Inv X pins σ H s) (hg : Gl X x) (hm : X.mg x = some u) (h : Q u s)
    (hd : (x == ("__debug__" : Str)) = false := by decide) : wpAny (model X.prog X.w) X.A (eval (.Name x pos) X.env) Q E s :=
  Calls.Name_function_global I.ok.kind hg (Calls.loadGlobal_global (by rw [I.ok.glob]; exact I.mod.glob.keeps I.bk) hm h) hd
theorem ld_blt {E : Value → Shared → Prop} {pins : List (Addr × Obj)} {s : Shared} {σ : St} {H : Hp} {x : Str} {u : Value} {pos : Pos} {Q : Value → Shared → Prop} (I : Inv X pins σ H s) (hg : Gl X x) (hm : X.mg x = none) (hv : bootBuiltins x = some u) (h : Q u s)
    (hn : x ≠ "__name__" := by decide) (hd : (x == ("__debug__" : Str)) = false := by decide) : wpAny (model X.prog X.w) X.A (eval (.Name x pos) X.env) Q E s := by
  obtain ⟨mb, h1, h2⟩ := I.mod.blt
  exact Calls.Name_function_global I.ok.kind hg (Calls.loadGlobal_builtin (by rw [I.ok.glob]; exact I.mod.glob.keeps I.bk) hm (by rw [I.ok.blt]; exact h1.keeps I.bk) ((h2 x hn).trans hv) h) hd
theorem pe_glob {x : Str} {v : V} {u : Value} {pos : Pos} (hg : Gl X x) (hm : X.mg x = some u) (r : RelV v u) (hd : (x == ("__debug__" : Str)) = false := by decide) : PE X (.Name x pos) (tC v) :=
  fun _ _ _ H _ I h => ld_glob I hg hm ⟨v, H, I, r, h⟩ hd
theorem pe_bltn {x : Str} {v : V} {u : Value} {pos : Pos} (hg : Gl X x) (hm : X.mg x = none) (hv : bootBuiltins x = some u) (r : RelV v u) (hn : x ≠ "__name__" := by decide) (hd : (x == ("__debug__" : Str)) = false := by decide) : PE X (.Name x pos) (tC v) :=
  fun _ _ _ H _ I h => ld_blt I hg hm hv ⟨v, H, I, r, h⟩ hn hd
def t2I (ta tb : TE) (k : Int → Int → Hp → Prop) : St → Hp → Prop := fun σ H => ta σ H fun x H1 => tb σ H1 fun y H2 => ∃ i j, x = .int i ∧ y = .int j ∧ k i j H2
def tAdd (ta tb : TE) : TE := fun σ H Q => t2I ta tb (fun i j H2 => Q (.int (i + j)) H2) σ H
def tSub (ta tb : TE) : TE := fun σ H Q => t2I ta tb (fun i j H2 => Q (.int (i - j)) H2) σ H
def tMul (ta tb : TE) : TE := fun σ H Q => t2I ta tb (fun i j H2 => (-(2 ^ 64) < i ∧ i < 2 ^ 64) ∧ Q (.int (i * j)) H2) σ H
variable {a b : Expr} {ta tb : TE} {pos : Pos}
theorem pe_add (ha : PE X a ta) (hb : PE X b tb) : PE X (.BinOp a .Add b pos) (tAdd ta tb) := by
  intro pins s σ H Q I h
  refine wpAny_BinOp (bin ha hb I h fun v u s2 x y H2 I2 rx ry q => ?_)
  obtain ⟨i, j, rfl, rfl, q⟩ := q
  obtain ⟨t, rfl⟩ := rx
  obtain ⟨t', rfl⟩ := ry
  exact add_int ⟨.int _, H2, I2.tok _, ⟨_, rfl⟩, q⟩
theorem pe_sub (ha : PE X a ta) (hb : PE X b tb) : PE X (.BinOp a .Sub b pos) (tSub ta tb) := by
  intro pins s σ H Q I h
  refine wpAny_BinOp (bin ha hb I h fun v u s2 x y H2 I2 rx ry q => ?_)
  obtain ⟨i, j, rfl, rfl, q⟩ := q
  obtain ⟨t, rfl⟩ := rx
  obtain ⟨t', rfl⟩ := ry
  exact sub_int ⟨.int _, H2, I2.tok _, ⟨_, rfl⟩, q⟩
theorem pe_mul (ha : PE X a ta) (hb : PE X b tb) : PE X (.BinOp a .Mult b pos) (tMul ta tb) := by
  intro pins s σ H Q I h
  refine wpAny_BinOp (bin ha hb I h fun v u s2 x y H2 I2 rx ry q => ?_)
  obtain ⟨i, j, rfl, rfl, ⟨q1, q2⟩, q⟩ := q
  obtain ⟨t, rfl⟩ := rx
  obtain ⟨t', rfl⟩ := ry
  exact mul_int ⟨.int _, H2, I2.tok _, ⟨_, rfl⟩, q⟩ (.of_left (intBits_le_64 q1 q2))
def PC (X : Cx) (op : CmpOp) (a b : Expr) (t : TE) : Prop :=
  ∀ (pins : List (Addr × Obj)) (s : Shared) (σ : St) (H : Hp) (Q : VK), Inv X pins σ H s → t σ H Q →
    wpAny (model X.prog X.w) X.A (eval a X.env) (fun v s₁ => wpAny (model X.prog X.w) X.A (eval b X.env) (fun u s₂ => wpAny (model X.prog X.w) X.A (compareOp op v u) (EP X pins σ Q) X.xe s₂) X.xe s₁) X.xe s
theorem nobehind (b : Expr) {op : CmpOp} (h : op ≠ .In) (h2 : op ≠ .NotIn) : behindInMarks op b = false := by
  have e1 : (op == CmpOp.In) = false := by cases op <;> first | rfl | exact absurd rfl h
  have e2 : (op == CmpOp.NotIn) = false := by cases op <;> first | rfl | exact absurd rfl h2
  cases b <;> simp [behindInMarks, e1, e2]
def tCmp (p : Int → Int → Bool) (ta tb : TE) : TE := fun σ H Q => t2I ta tb (fun i j H2 => Q (.bl (p i j)) H2) σ H
abbrev tLt : TE → TE → TE := tCmp fun i j => decide (i < j)
abbrev tLe : TE → TE → TE := tCmp fun i j => decide (i ≤ j)
abbrev tGt : TE → TE → TE := tCmp fun i j => decide (j < i)
abbrev tGe : TE → TE → TE := tCmp fun i j => decide (j ≤ i)
abbrev tEqI : TE → TE → TE := tCmp fun i j => decide (i = j)
abbrev tNeI : TE → TE → TE := tCmp fun i j => !decide (i = j)
theorem pc_int {op : CmpOp} {p : Int → Int → Bool} (ha : PE X a ta) (hb : PE X b tb)
    (rule : ∀ (i j : Int) (t u : Tok) (Q : Value → Shared → Prop) (s : Shared), Q (.bool (p i j)) s → wpAny (model X.prog X.w) X.A (compareOp op (.int i t) (.int j u)) Q X.xe s) : PC X op a b (tCmp p ta tb) := by
  intro pins s σ H Q I h
  refine bin ha hb I h fun v u s2 x y H2 I2 rx ry q => ?_
  obtain ⟨i, j, rfl, rfl, q⟩ := q
  obtain ⟨t, rfl⟩ := rx
  obtain ⟨t', rfl⟩ := ry
  exact rule i j t t' _ s2 ⟨.bl _, H2, I2, rfl, q⟩
theorem pc_lt (ha : PE X a ta) (hb : PE X b tb) : PC X .Lt a b (tLt ta tb) := pc_int ha hb fun _ _ _ _ _ _ h => lt_int h
theorem pc_le (ha : PE X a ta) (hb : PE X b tb) : PC X .LtE a b (tLe ta tb) := pc_int ha hb fun _ _ _ _ _ _ h => le_int h
theorem pc_gt (ha : PE X a ta) (hb : PE X b tb) : PC X .Gt a b (tGt ta tb) := pc_int ha hb fun _ _ _ _ _ _ h => gt_int h
theorem pc_ge (ha : PE X a ta) (hb : PE X b tb) : PC X .GtE a b (tGe ta tb) := pc_int ha hb fun _ _ _ _ _ _ h => ge_int h
theorem pc_eqI (ha : PE X a ta) (hb : PE X b tb) : PC X .Eq a b (tEqI ta tb) := pc_int ha hb fun _ _ _ _ _ _ h => eq_int (by rw [Bool.beq_eq_decide_eq]; exact h)
theorem pc_neI (ha : PE X a ta) (hb : PE X b tb) : PC X .NotEq a b (tNeI ta tb) := pc_int ha hb fun _ _ _ _ _ _ h => ne_int (by rw [bne, Bool.beq_eq_decide_eq]; exact h)
def tIsN (ta : TE) : TE := fun σ H Q => ta σ H fun x H1 => Q (.bl (decide (x = .non))) H1
def tNotN (ta : TE) : TE := fun σ H Q => ta σ H fun x H1 => Q (.bl (!decide (x = .non))) H1
theorem RelV.none_iff {x : V} {v : Value} (r : RelV x v) : (v == Value.none) = decide (x = .non) := by
  cases x with
  | non => cases r; rfl
  | bl _ => cases r; rfl
  | int _ => obtain ⟨t, rfl⟩ := r; rfl
  | str _ => obtain ⟨t, rfl⟩ := r; rfl
  | byt _ => obtain ⟨t, rfl⟩ := r; rfl
  | flt _ => obtain ⟨t, rfl⟩ := r; rfl
  | ref _ => cases r; rfl
  | ty _ => cases r; rfl
theorem pc_isN {j pos'} (ha : PE X a ta) : PC X .Is a (.Constant .none j pos') (tIsN ta) := by
  intro pins s σ H Q I h
  refine thn (ha pins s σ H _ I h) fun v s1 ⟨x, H1, I1, r1, q1⟩ => ?_
  exact Constant_none (is_none_gen ⟨.bl _, H1, I1, by rw [r1.none_iff]; rfl, q1⟩)
theorem pc_notN {j pos'} (ha : PE X a ta) : PC X .IsNot a (.Constant .none j pos') (tNotN ta) := by
  intro pins s σ H Q I h
  refine thn (ha pins s σ H _ I h) fun v s1 ⟨x, H1, I1, r1, q1⟩ => ?_
  exact Constant_none (isnot_none_gen ⟨.bl _, H1, I1, by rw [r1.none_iff]; rfl, q1⟩)
def tB (t : TE) : TT := fun σ H Q => t σ H fun x H1 => ∃ c, x = .bl c ∧ Q c H1
theorem pe_cmp {op : CmpOp} {t : TE} (h : PC X op a b t) (h1 : behindInMarks op b = false := by first | exact nobehind _ (by decide) (by decide) | rfl) : PE X (.Compare a [op] [b] pos) t := fun pins s σ H Q I hw => wpAny_Compare1 (h pins s σ H Q I hw) h1
theorem pt_cmp {op : CmpOp} {t : TE} (h : PC X op a b t) (h1 : behindInMarks op b = false := by first | exact nobehind _ (by decide) (by decide) | rfl) : PT X (.Compare a [op] [b] pos) (tB t) := by
  intro pins s σ H Q I hw
  refine wpAny_isTrue_Compare1 (thn (h pins s σ H _ I hw) fun v s1 h1 => thn h1 fun u s2 h2 => thn h2 fun c s3 ⟨x, H1, I1, r1, q1⟩ => ?_) h1
  obtain ⟨d, rfl, q⟩ := q1
  cases r1
  exact wpAny_truthy_bool ⟨H1, I1, q⟩
theorem pt_val {e : Expr} {t : TE} (h : PE X e t) (he : ∀ whole, isTrue e X.env whole = (do let v ← whole; standAt e.pos; holding [v] (truthy v)) := by intro _; rfl) : PT X e (tB t) := by
  intro pins s σ H Q I hw
  refine isTrue_plain (thn (h pins s σ H _ I hw) fun v s1 ⟨x, H1, I1, r1, q1⟩ => ?_) (he _)
  obtain ⟨d, rfl, q⟩ := q1
  cases r1
  exact wpAny_truthy_bool ⟨H1, I1, q⟩
variable {tA tB' : TT} {rest : List Expr}
def tAnd (t u : TT) : TT := fun σ H Q => t σ H fun c H1 => if c = true then u σ H1 Q else Q false H1
def tOr (t u : TT) : TT := fun σ H Q => t σ H fun c H1 => if c = true then Q true H1 else u σ H1 Q
def tNot (t : TT) : TT := fun σ H Q => t σ H fun c H1 => Q (!c) H1
theorem pw_and1 (ha : PT X a tA) : PW X (.BoolOp .And [a] pos) tA := by
  intro wh pins s σ H Q I h
  refine isTrue_and (thn (ha pins s σ H Q I h) fun c s1 e => ?_)
  cases c with
  | true => exact isTrue_and_nil e
  | false => exact e
theorem pw_or1 (ha : PT X a tA) : PW X (.BoolOp .Or [a] pos) tA := by
  intro wh pins s σ H Q I h
  refine isTrue_or (thn (ha pins s σ H Q I h) fun c s1 e => ?_)
  cases c with
  | false => exact isTrue_or_nil e
  | true => exact e
theorem pw_and (ha : PT X a tA) (hb : PW X (.BoolOp .And (b :: rest) pos) tB') : PW X (.BoolOp .And (a :: b :: rest) pos) (tAnd tA tB') := by
  intro wh pins s σ H Q I h
  refine isTrue_and (thn (ha pins s σ H _ I h) fun c s1 ⟨H1, I1, q1⟩ => ?_)
  cases c with
  | true => exact hb wh pins s1 σ H1 Q I1 q1
  | false => exact ⟨H1, I1, q1⟩
theorem pw_or (ha : PT X a tA) (hb : PW X (.BoolOp .Or (b :: rest) pos) tB') : PW X (.BoolOp .Or (a :: b :: rest) pos) (tOr tA tB') := by
  intro wh pins s σ H Q I h
  refine isTrue_or (thn (ha pins s σ H _ I h) fun c s1 ⟨H1, I1, q1⟩ => ?_)
  cases c with
  | true => exact ⟨H1, I1, q1⟩
  | false => exact hb wh pins s1 σ H1 Q I1 q1
theorem pt_not (ha : PT X a tA) : PT X (.UnaryOp .Not a pos) (tNot tA) := by
  intro pins s σ H Q I h
  exact isTrue_not (ha pins s σ H (fun c H1 => Q (!c) H1) I h)
def tAndV (ta tb : TE) : TE := fun σ H Q => ta σ H fun x H1 => ∃ c, x = .bl c ∧ if c = true then tb σ H1 Q else Q (.bl false) H1
def tOrV (ta tb : TE) : TE := fun σ H Q => ta σ H fun x H1 => ∃ c, x = .bl c ∧ if c = true then Q (.bl true) H1 else tb σ H1 Q
def tNotV (ta : TE) : TE := fun σ H Q => ta σ H fun x H1 => ∃ c, x = .bl c ∧ Q (.bl (!c)) H1
theorem pe_one {op} {t : TE} (h : PE X a t) : PE X (.BoolOp op [a] pos) t := fun pins s σ H Q I hw => BoolOp_one (h pins s σ H Q I hw)
theorem pe_and (ha : PE X a ta) (hb : PE X (.BoolOp .And (b :: rest) pos) tb) : PE X (.BoolOp .And (a :: b :: rest) pos) (tAndV ta tb) := by
  intro pins s σ H Q I h
  refine BoolOp_and (thn (ha pins s σ H _ I h) fun v s1 ⟨x, H1, I1, r1, q1⟩ => ?_)
  obtain ⟨c, rfl, q1⟩ := q1
  cases r1
  refine wpAny_truthy_bool ?_
  cases c with
  | true => exact hb pins s1 σ H1 Q I1 q1
  | false => exact ⟨.bl false, H1, I1, rfl, q1⟩
theorem pe_or (ha : PE X a ta) (hb : PE X (.BoolOp .Or (b :: rest) pos) tb) : PE X (.BoolOp .Or (a :: b :: rest) pos) (tOrV ta tb) := by
  intro pins s σ H Q I h
  refine BoolOp_or (thn (ha pins s σ H _ I h) fun v s1 ⟨x, H1, I1, r1, q1⟩ => ?_)
  obtain ⟨c, rfl, q1⟩ := q1
  cases r1
  refine wpAny_truthy_bool ?_
  cases c with
  | false => exact hb pins s1 σ H1 Q I1 q1
  | true => exact ⟨.bl true, H1, I1, rfl, q1⟩
theorem pe_not (ha : PE X a ta) : PE X (.UnaryOp .Not a pos) (tNotV ta) := by
  intro pins s σ H Q I h
  refine UnaryOp_ (thn (ha pins s σ H _ I h) fun v s1 ⟨x, H1, I1, r1, q1⟩ => ?_)
  obtain ⟨c, rfl, q1⟩ := q1
  cases r1
  exact not_of (wpAny_truthy_bool ⟨.bl (!c), H1, I1, rfl, q1⟩)
def tIf (t : TT) (ta tb : TE) : TE := fun σ H Q => t σ H fun c H1 => if c = true then ta σ H1 Q else tb σ H1 Q
theorem pe_ifExp {c : Expr} (hc : PT X c tA) (ha : PE X a ta) (hb : PE X b tb) : PE X (.IfExp c a b pos) (tIf tA ta tb) := by
  intro pins s σ H Q I h
  refine wpAny_IfExp (thn (hc pins s σ H _ I h) fun d s1 ⟨H1, I1, q1⟩ => ?_)
  cases d with
  | true => exact ha pins s1 σ H1 Q I1 q1
  | false => exact hb pins s1 σ H1 Q I1 q1
end
end L2
namespace L2
open PySem PySem.Spec PyProof.Rows
def SqL (K : PySem.W.Frag) (H : Hp) (a : Addr) (xs : List V) : Prop :=
  Rd H a (.lst xs) ∨
    ∃ (o : Obj) (its : Array Value) (n : Nat), K.lookup a = some o ∧ o.cls = .type "list" ∧ o.dict = none ∧ o.data = .seq its n ∧ its.size ≤ sizeLine ∧ Vals xs its.toList
def SqT (K : PySem.W.Frag) (H : Hp) (a : Addr) (xs : List V) : Prop :=
  Rd H a (.tup xs) ∨
    ∃ (o : Obj) (its : Array Value) (n : Nat), K.lookup a = some o ∧ o.cls = .type "tuple" ∧ o.data = .seq its n ∧ its.size ≤ sizeLine ∧ Vals xs its.toList
def absV : Value → Option V
  | .none => some .non
  | .bool b => some (.bl b)
  | .int i _ => some (.int i)
  | .str x _ => some (.str x)
  | .bytes b _ => some (.byt b)
  | .float b _ => some (.flt b)
  | .ref a => some (.ref a)
  | .type n => some (.ty n)
  | _ => none
theorem RelV.abs {x : V} {u : Value} (r : RelV x u) : absV u = some x := by
  cases x with
  | non => cases r; rfl
  | bl _ => cases r; rfl
  | int _ => obtain ⟨t, rfl⟩ := r; rfl
  | str _ => obtain ⟨t, rfl⟩ := r; rfl
  | byt _ => obtain ⟨t, rfl⟩ := r; rfl
  | flt _ => obtain ⟨t, rfl⟩ := r; rfl
  | ref _ => cases r; rfl
  | ty _ => cases r; rfl
theorem RelV.inj {x y : V} {u : Value} (r : RelV x u) (q : RelV y u) : x = y := Option.some.inj (r.abs.symm.trans q.abs)
theorem Vals.inj : ∀ {xs ys : List V} {us : List Value}, Vals xs us → Vals ys us → xs = ys
  | _, _, _, .nil, .nil => rfl
  | _, _, _, .cons r t, .cons r' t' => by rw [r.inj r', Vals.inj t t']
section
variable {X : Cx} {pins : List (Addr × Obj)} {σ : St} {H : Hp} {s : Shared} {a : Addr} {xs ys : List V}
theorem SqL.of {K : PySem.W.Frag} (h : H a = some (.lst xs)) : SqL K H a xs := .inl (.inl h)
theorem SqT.of {K : PySem.W.Frag} (h : H a = some (.tup xs)) : SqT K H a xs := .inl (.inl h)
theorem Inv.list (I : Inv X pins σ H s) (h : SqL X.K H a xs) : ∃ its : List Value, Vals xs its ∧ PlainL s.heap a its.toArray ∧ xs.length ≤ sizeLine := by
  rcases h with h | ⟨o, its, n, hk, hc, hd, hs, hz, r⟩
  · obtain ⟨z, its, n, r, e⟩ := h.ok I.hok
    exact ⟨its, r, ⟨_, n, e, rfl, rfl, rfl⟩, z⟩
  · refine ⟨its.toList, r, ⟨o, n, I.kIn a o hk, hc, hd, by simpa using hs⟩, ?_⟩
    have e := r.length
    simp only [Array.length_toList] at e
    omega
theorem Inv.tuple (I : Inv X pins σ H s) (h : SqT X.K H a xs) : ∃ its : List Value, Vals xs its ∧ IsTup s.heap a its.toArray ∧ xs.length ≤ sizeLine := by
  rcases h with h | ⟨o, its, n, hk, hc, hs, hz, r⟩
  · obtain ⟨z, its, r, p⟩ := h.ok I.hok
    exact ⟨its, r, p, z⟩
  · refine ⟨its.toList, r, ⟨o, I.kIn a o hk, hc, n, by simpa using hs⟩, ?_⟩
    have e := r.length
    simp only [Array.length_toList] at e
    omega
theorem Inv.list_inj (I : Inv X pins σ H s) (h : SqL X.K H a xs) (h' : SqL X.K H a ys) : xs = ys := by
  obtain ⟨its, r, ⟨o, n, e, _, _, d⟩, _⟩ := I.list h
  obtain ⟨its', r', ⟨o', n', e', _, _, d'⟩, _⟩ := I.list h'
  rw [e] at e'; cases e'
  rw [d] at d'
  injection d' with d1 _
  have : its = its' := by simpa using congrArg Array.toList d1
  subst this
  exact r.inj r'
theorem Inv.tuple_inj (I : Inv X pins σ H s) (h : SqT X.K H a xs) (h' : SqT X.K H a ys) : xs = ys := by
  obtain ⟨its, r, ⟨o, e, _, n, d⟩, _⟩ := I.tuple h
  obtain ⟨its', r', ⟨o', e', _, n', d'⟩, _⟩ := I.tuple h'
  rw [e] at e'; cases e'
  rw [d] at d'
  injection d' with d1 _
  have : its = its' := by simpa using congrArg Array.toList d1
  subst this
  exact r.inj r'
end
abbrev Cx.wish (X : Cx) (E : Value → Shared → Prop) : Cx := { X with xe := E }
abbrev Cx.nox (X : Cx) : Cx := X.wish fun _ _ => False
theorem Cx.Ok.wish {X : Cx} (ok : X.Ok) (E : Value → Shared → Prop) : (X.wish E).Ok :=
  ⟨ok.mod, ok.kind, ok.glob, ok.blt, ok.above, ok.inj, ok.has, ok.cab, ok.hd, ok.frames, ok.stk, ok.exf, ok.bs, ok.bsz, ok.noex, ok.exfs, ok.funs, ok.frf⟩
theorem Cx.Ok.unwish {X : Cx} {E : Value → Shared → Prop} (ok : (X.wish E).Ok) : X.Ok :=
  ⟨ok.mod, ok.kind, ok.glob, ok.blt, ok.above, ok.inj, ok.has, ok.cab, ok.hd, ok.frames, ok.stk, ok.exf, ok.bs, ok.bsz, ok.noex, ok.exfs, ok.funs, ok.frf⟩
section
variable {X : Cx} {pins : List (Addr × Obj)} {σ : St} {H : Hp} {s : Shared} {E : Value → Shared → Prop}
theorem Inv.wish (I : Inv X pins σ H s) (E : Value → Shared → Prop) : Inv (X.wish E) pins σ H s := ⟨I.ok.wish E, I.os, I.bare, I.base, I.loc, I.cell, I.free, I.freeC, I.pin, I.hok, I.len⟩
theorem Inv.unwish (I : Inv (X.wish E) pins σ H s) : Inv X pins σ H s := ⟨I.ok.unwish, I.os, I.bare, I.base, I.loc, I.cell, I.free, I.freeC, I.pin, I.hok, I.len⟩
theorem SP.unwish {D : Ends} {f : Flow} {s' : Shared} (h : SP (X.wish E) pins D f s') : SP X pins D f s' := by
  cases f with
  | next => obtain ⟨σ', H', I, q⟩ := h; exact ⟨σ', H', I.unwish, q⟩
  | brk => obtain ⟨σ', H', I, q⟩ := h; exact ⟨σ', H', I.unwish, q⟩
  | cont => obtain ⟨σ', H', I, q⟩ := h; exact ⟨σ', H', I.unwish, q⟩
  | ret u => obtain ⟨v, σ', H', I, r, q⟩ := h; exact ⟨v, σ', H', I.unwish, r, q⟩
theorem PE.nox {e : Expr} {t : TE} (h : PE X.nox e t) : PE X e t := fun pins s σ H Q I hw =>
  wpAny_mono (h pins s σ H Q (I.wish _) hw) (fun _ _ ⟨v, H', I', r, q⟩ => ⟨v, H', I'.unwish, r, q⟩) fun _ _ z => False.elim z
theorem PT.nox {e : Expr} {t : TT} (h : PT X.nox e t) : PT X e t := fun pins s σ H Q I hw =>
  wpAny_mono (h pins s σ H Q (I.wish _) hw) (fun _ _ ⟨H', I', q⟩ => ⟨H', I'.unwish, q⟩) fun _ _ z => False.elim z
theorem PSs.nox {st : List Stmt} {t : TS} (h : PSs X.nox st t) : PSs X st t := fun pins s σ H D I hw =>
  wpAny_mono (h pins s σ H D (I.wish _) hw) (fun _ _ q => q.unwish) fun _ _ z => False.elim z
end
section
variable {X : Cx} {st : Stmt} {rest : List Stmt} {t u : TS} {e : Expr} {te : TE} {pos : Pos}
def tNext : TS := fun D σ H => D.nx σ H
def tSeq (t u : TS) : TS := fun D σ H => t { D with nx := u D } σ H
theorem pss_nil : PSs X [] tNext := fun _ _ σ H _ I h => wpAny_execs_nil ⟨σ, H, I, h⟩
theorem pss_cons (h1 : PS X st t) (h2 : PSs X rest u) : PSs X (st :: rest) (tSeq t u) := by
  intro pins s σ H D I h
  refine wpAny_execs_cons (thn (h1 pins s σ H { D with nx := u D } I h) fun f s1 q => ?_)
  cases f with
  | next =>
    obtain ⟨σ', H', I', q⟩ := q
    exact h2 pins s1 σ' H' D I' q
  | ret v => exact q
  | brk => exact q
  | cont => exact q
theorem pss_one (h1 : PS X st t) : PSs X [st] t := by
  intro pins s σ H D I h
  refine wpAny_execs_cons (thn (h1 pins s σ H D I h) fun f s1 q => ?_)
  cases f with
  | next => exact wpAny_execs_nil q
  | ret v => exact q
  | brk => exact q
  | cont => exact q
def tBreak : TS := fun D σ H => D.bk σ H
def tCont : TS := fun D σ H => D.ct σ H
theorem ps_pass : PS X (.Pass pos) tNext := fun _ _ σ H _ I h => wpAny_Pass ⟨σ, H, I, h⟩
theorem ps_break : PS X (.Break pos) tBreak := fun _ _ σ H _ I h => wpAny_Break ⟨σ, H, I, h⟩
theorem ps_continue : PS X (.Continue pos) tCont := fun _ _ σ H _ I h => wpAny_Continue ⟨σ, H, I, h⟩
theorem Inv.quiet {pins : List (Addr × Obj)} {σ : St} {H : Hp} {s : Shared} (I : Inv X pins σ H s) : interactive X.env = false := by simp [interactive, I.ok.kind]
theorem ps_doc {x j pos pos'} : PS X (.Expr (.Constant (.str x) j pos) pos') tNext := fun _ s σ H _ I h => wpAny_Expr (Calls.Constant_str (show SP X _ _ .next { s with toks := s.toks + 1 } from ⟨σ, H, I.tok _, h⟩)) I.quiet
def tDrop (te : TE) : TS := fun D σ H => te σ H fun _ H1 => D.nx σ H1
theorem ps_expr (he : PE X e te) (hs : swapsWith e none pos.line X.env = pure false := by rfl) : PS X (.Expr e pos) (tDrop te) := by
  intro pins s σ H D I h
  exact wpAny_Expr_any (thn (he pins s σ H _ I h) fun v s1 ⟨x, H1, I1, r1, q1⟩ => ⟨σ, H1, I1, q1⟩) I.quiet hs
def tRet (te : TE) : TS := fun D σ H => te σ H D.rt
theorem ps_ret (he : PE X e te) : PS X (.Return (some e) pos) (tRet te) := by
  intro pins s σ H D I h
  exact wpAny_Return_some (thn (he pins s σ H _ I h) fun v s1 ⟨x, H1, I1, r1, q1⟩ => ⟨x, σ, H1, I1, r1, q1⟩)
def tRetN : TS := fun D _ H => D.rt .non H
theorem ps_retN : PS X (.Return none pos) tRetN := fun _ _ σ H _ I h => wpAny_Return_none ⟨.non, σ, H, I, rfl, h⟩
def tIfS (c : TT) (t u : TS) : TS := fun D σ H => c σ H fun b H1 => if b = true then t D σ H1 else u D σ H1
theorem ps_if {c : Expr} {a b : List Stmt} {tc : TT} (hc : PT X c tc) (ha : PSs X a t) (hb : PSs X b u) : PS X (.If c a b pos) (tIfS tc t u) := by
  intro pins s σ H D I h
  refine wpAny_If (thn (hc pins s σ H _ I h) fun d s1 ⟨H1, I1, q1⟩ => ?_)
  cases d with
  | true => exact ha pins s1 σ H1 D I1 q1
  | false => exact hb pins s1 σ H1 D I1 q1
def tNever : TS := fun _ _ _ => False
theorem ps_never : PS X st tNever := fun _ _ _ _ _ _ h => h.elim
theorem pss_never {sts : List Stmt} : PSs X sts tNever := fun _ _ _ _ _ _ h => h.elim
end
abbrev TG := V → St → Hp → (St → Hp → Prop) → Prop
abbrev TGs := List V → St → Hp → (St → Hp → Prop) → Prop
def PG (X : Cx) (target : Expr) (t : TG) : Prop :=
  ∀ (pins : List (Addr × Obj)) (s : Shared) (σ : St) (H : Hp) (v : V) (u : Value) (Q : St → Hp → Prop), Inv X pins σ H s → RelV v u → t v σ H Q →
    wpAny (model X.prog X.w) X.A (assign target X.env u) (fun _ s' => ∃ σ' H', Inv X pins σ' H' s' ∧ Q σ' H') X.xe s
def PGs (X : Cx) (ts : List Expr) (t : TGs) : Prop :=
  ∀ (pins : List (Addr × Obj)) (s : Shared) (σ : St) (H : Hp) (vs : List V) (us : List Value) (Q : St → Hp → Prop), Inv X pins σ H s → Vals vs us → t vs σ H Q →
    wpAny (model X.prog X.w) X.A (assignInOrder ((assignEach ts X.env).map (·.2)) us) (fun _ s' => ∃ σ' H', Inv X pins σ' H' s' ∧ Q σ' H') X.xe s
abbrev TSet := V → V → V → Hp → (Hp → Prop) → Prop
def PSet (X : Cx) (t : TSet) : Prop :=
  ∀ (pins : List (Addr × Obj)) (s : Shared) (σ : St) (H : Hp) (o i v : V) (ov iv u : Value) (Q : Hp → Prop), Inv X pins σ H s → RelV o ov → RelV i iv → RelV v u → t o i v H Q →
    wpAny (model X.prog X.w) X.A (setItem ov iv u) (fun _ s' => ∃ H', Inv X pins σ H' s' ∧ Q H') X.xe s
abbrev TIp := V → V → Hp → VK → Prop
def PIp (X : Cx) (op : Operator) (t : TIp) : Prop :=
  ∀ (pins : List (Addr × Obj)) (s : Shared) (σ : St) (H : Hp) (x y : V) (v u : Value) (Q : VK), Inv X pins σ H s → RelV x v → RelV y u → t x y H Q →
    wpAny (model X.prog X.w) X.A (inplaceOp op v u) (EP X pins σ Q) X.xe s
section
variable {X : Cx} {pos : Pos}
def gName (i : Nat) : TG := fun v σ H Q => Q (σ.set i (some v)) H
theorem pg_name {i : Nat} {x : Str} (hN : X.N.Nodup) (hi : X.N[i]? = some x) (hx : Loc X.env.scope x) (hf : X.fn x = true ∨ X.env.scope.names.lookup x = some .local := by first | exact .inl rfl | exact .inr rfl | assumption) : PG X (.Name x pos) (gName i) := by
  intro pins s σ H v u Q I r h
  exact wpAny_assign_Name (store_ok I hN hi hx r (fun s' I' => ⟨_, H, I', h⟩) hf)
def gNil : TGs := fun vs σ H Q => vs = [] ∧ Q σ H
def gCons (t : TG) (u : TGs) : TGs := fun vs σ H Q => ∃ v r, vs = v :: r ∧ t v σ H fun σ' H' => u r σ' H' Q
theorem pgs_nil : PGs X [] gNil := by
  intro pins s σ H vs us Q I r h
  obtain ⟨e, h⟩ := h
  subst e
  cases r
  exact assignInOrder_nil ⟨σ, H, I, h⟩
theorem pgs_cons {e : Expr} {es : List Expr} {t : TG} {u : TGs} (h1 : PG X e t) (h2 : PGs X es u)
    (hs : (assignEach (e :: es) X.env).map (·.2) = assign e X.env :: (assignEach es X.env).map (·.2) := by rfl) : PGs X (e :: es) (gCons t u) := by
  intro pins s σ H vs us Q I r h
  obtain ⟨v, vr, e1, h⟩ := h
  subst e1
  cases r with
  | cons r rr =>
    rw [hs]
    refine assignInOrder_cons (thn (h1 pins s σ H _ _ _ I r h) fun _ s1 ⟨σ1, H1, I1, q1⟩ => ?_)
    exact h2 pins s1 σ1 H1 _ _ Q I1 rr q1
def gTup (K : PySem.W.Frag) (n : Nat) (t : TGs) : TG := fun v σ H Q => ∃ a xs, v = .ref a ∧ SqT K H a xs ∧ xs.length = n ∧ t xs σ H Q
theorem pg_tup {es : List Expr} {k : Nat} {t : TGs} {n : Nat} (hc : X.calm = true) (h : PGs X es t)
    (hn : (assignEach es X.env).length = n := by rfl) (hst : (assignEach es X.env).findIdx? (·.1) = none := by rfl) : PG X (.Tuple es k pos) (gTup X.K n t) := by
  intro pins s σ H v u Q I r hw
  obtain ⟨a, xs, e1, hq, hl, hw⟩ := hw
  subst e1
  cases r
  obtain ⟨its, rv, ht, hz⟩ := I.tuple hq
  refine assign_Tuple_tuple (I.ok.hd hc) ht (by simp [hn, ← hl, rv.length]) hst fun h' hx => ?_
  have I1 : Inv X pins σ H { s with heap := h' } := I.kept (t' := s.toks) fun b o e => hx b o (Nat.ne_of_lt (Heap.lt_size e)) e
  exact h pins _ σ H xs _ Q I1 (by simpa using rv) hw
def gSub (to ti : TE) (t : TSet) : TG := fun v σ H Q => to σ H fun o H1 => ti σ H1 fun i H2 => t o i v H2 fun H3 => Q σ H3
theorem pg_sub {o i : Expr} {to ti : TE} {t : TSet} (ho : PE X o to) (hi : PE X i ti) (hs : PSet X t)
    (ha : ∀ v, assign (.Subscript o i pos) X.env v = (do
      let ov ← holding [v] (eval o X.env)
      let iv ← holding [v, ov] (eval i X.env)
      standAt pos
      holding [v, ov, iv] (setItem ov iv v)
      release [v, ov, iv] []) := by intro _; rfl) : PG X (.Subscript o i pos) (gSub to ti t) := by
  intro pins s σ H v u Q I r h
  rw [ha]
  refine wpAny_bind (wpAny_holding (thn (ho pins s σ H _ I h) fun ov s1 ⟨x, H1, I1, r1, q1⟩ => ?_))
  refine wpAny_bind (wpAny_holding (thn (hi pins s1 σ H1 _ I1 q1) fun iv s2 ⟨y, H2, I2, r2, q2⟩ => ?_))
  refine wpAny_bind (wpAny_standAt (wpAny_bind (wpAny_holding (thn (hs pins s2 σ H2 x y v ov iv u _ I2 r1 r2 r q2) fun _ s3 ⟨H3, I3, q3⟩ => ?_))))
  exact wpAny_release ⟨σ, H3, I3, q3⟩
def tAsg (te : TE) (g : TG) : TS := fun D σ H => te σ H fun x H1 => g x σ H1 D.nx
theorem ps_asg {tg e : Expr} {te : TE} {g : TG} (he : PE X e te) (hg : PG X tg g) (hs : swapsWithSole [tg] e pos.line X.env = pure false := by rfl) (hw : swappedStores [tg] e X.env = pure none := by rfl)
    (h1 : (assignEach [tg] X.env).map (·.2) = [assign tg X.env] := by rfl) : PS X (.Assign [tg] e pos) (tAsg te g) := by
  intro pins s σ H D I h
  refine wpAny_Assign_stores (thn (he pins s σ H _ I h) fun v s1 ⟨x, H1, I1, r1, q1⟩ => ?_) hs hw
  rw [h1]
  exact thn (hg pins s1 σ H1 x v _ I1 r1 q1) fun _ s2 q => q
theorem ps_set {i : Nat} {x : Str} {e : Expr} {te : TE} {pos' : Pos} (hN : X.N.Nodup) (hi : X.N[i]? = some x) (hx : Loc X.env.scope x) (he : PE X e te) (hs : swapsWith e (some (.Name x pos')) pos.line X.env = pure false := by rfl) (hf : X.fn x = true ∨ X.env.scope.names.lookup x = some .local := by first | exact .inl rfl | exact .inr rfl | assumption) :
    PS X (.Assign [.Name x pos'] e pos) (tAsg te (gName i)) := by
  intro pins s σ H D I h
  refine wpAny_Assign_Name (thn (he pins s σ H _ I h) fun v s1 ⟨y, H1, I1, r1, q1⟩ => ?_) hs
  exact store_ok I1 hN hi hx r1 (fun s2 I2 => ⟨_, H1, I2, q1⟩) hf
def tPar (i j : Nat) (ta : TA) : TS := fun D σ H => ta σ H fun vs H1 => ∃ v w, vs = [v, w] ∧ D.nx ((σ.set i (some v)).set j (some w)) H1
theorem ps_par {i j : Nat} {x y : Str} {a b : Expr} {ta : TA} {px py pt : Pos} {kt k2 pt2} (hc : X.calm = true) (hN : X.N.Nodup) (hi : X.N[i]? = some x) (hj : X.N[j]? = some y) (hij : i ≠ j)
    (hx : X.env.scope.names.lookup x = some .local) (hy : X.env.scope.names.lookup y = some .local) (ha : PA X [a, b] ta)
    (hw : swappedStores [.Tuple [.Name x px, .Name y py] kt pt] (.Tuple [a, b] k2 pt2) X.env = pure (some [x, y]))
    (hs : swapsWithSole [.Tuple [.Name x px, .Name y py] kt pt] (.Tuple [a, b] k2 pt2) pos.line X.env = pure false := by rfl) :
    PS X (.Assign [.Tuple [.Name x px, .Name y py] kt pt] (.Tuple [a, b] k2 pt2) pos) (tPar i j ta) := by
  intro pins s σ H D I h
  rw [exec_Assign_arm]
  refine wpAny_bind (wpAny_standAt ?_)
  rw [hs]
  refine wpAny_bind (wpAny_pure ?_)
  rw [if_neg (by decide)]
  refine wpAny_bind (Tuple_ (thn (ha _ pins s σ H _ I h) fun us s1 ⟨vs, H1, I1, r1, q1⟩ => ?_))
  obtain ⟨v, w, e1, q1⟩ := q1
  subst e1
  obtain ⟨u1, u2, rfl, rv, rw'⟩ : ∃ u1 u2, us = [u1, u2] ∧ RelV v u1 ∧ RelV w u2 := by
    cases r1 with
    | cons p q =>
      cases q with
      | cons p' q' =>
        cases q'
        exact ⟨_, _, rfl, p, p'⟩
  refine wpAny_newObj_type ?_ (by show 2 ≤ sizeLine; decide)
  have I2 : Inv X pins σ H1 { s1 with heap := s1.heap.push { cls := .type "tuple", data := .seq [u1, u2].toArray } } := I1.kept (t' := s1.toks) fun b o e => Heap.get?_push_of_some _ e
  rw [hw]
  refine wpAny_bind (wpAny_pure ?_)
  show wpAny (model X.prog X.w) X.A (do rule "assign.swapped-stores"; let items ← unpackItems (.ref s1.heap.objs.size) 2 none; assignInOrder [fun v => bindName X.env y v, fun v => bindName X.env x v] items.reverse; pure Flow.next) _ _ _
  refine wpAny_bind (wpAny_rule (wpAny_bind (unpackItems_tuple (items := #[u1, u2]) (I.ok.hd hc) (IsTup.new s1.heap _) fun h' hx' => ?_)))
  have I3 := I2.kept (h' := h') (t' := s1.toks) fun b o e => hx' b o (Nat.ne_of_lt (Heap.lt_size e)) e
  show wpAny _ _ (assignInOrder [fun v => bindName X.env y v, fun v => bindName X.env x v] [u2, u1] >>= fun _ => pure Flow.next) _ _ _
  refine wpAny_bind (assignInOrder_cons (wpAny_bindName (store_ok I3 hN hj (.inl hy) rw' (fun s2 I4 => ?_) (.inr hy))))
  refine assignInOrder_cons (wpAny_bindName (store_ok I4 hN hi (.inl hx) rv (fun s3 I5 => assignInOrder_nil (wpAny_pure ?_)) (.inr hx)))
  rw [List.set_comm _ _ (Ne.symm hij)] at I5
  exact ⟨_, H1, I5, q1⟩
def tAug (i : Nat) (te : TE) (ti : TIp) : TS := fun D σ H => ∃ x, σ[i]? = some (some x) ∧ te σ H fun y H1 => ti x y H1 fun z H2 => D.nx (σ.set i (some z)) H2
theorem ps_aug {i : Nat} {x : Str} {e : Expr} {te : TE} {op : Operator} {ti : TIp} {pos' : Pos} (hN : X.N.Nodup) (hi : X.N[i]? = some x) (hx : Loc X.env.scope x) (he : PE X e te) (ho : PIp X op ti) (hf : X.fn x = true ∨ X.env.scope.names.lookup x = some .local := by first | exact .inl rfl | exact .inr rfl | assumption) :
    PS X (.AugAssign (.Name x pos') op e pos) (tAug i te ti) := by
  intro pins s σ H D I h
  obtain ⟨v, e1, h⟩ := h
  obtain ⟨m, hn, hl⟩ := I.loc
  have vis : Vis X.env.scope x := by rcases hx with k | k; exact .inl k; exact .inr (.inl k)
  obtain ⟨u, r, l⟩ := hl i x v hi e1 vis
  refine wpAny_AugAssign_Name ?_
  have go : wpAny (model X.prog X.w) X.A (eval e X.env) (fun w s₂ => wpAny (model X.prog X.w) X.A (inplaceOp op u w) (fun r s₃ => wpAny (model X.prog X.w) X.A (storeName X.env x r) (fun _ => SP X pins D .next) X.xe s₃) X.xe s₂) X.xe s := by
    refine thn (he pins s σ H _ I h) fun w s1 ⟨y, H1, I1, r1, q1⟩ => ?_
    refine thn (ho pins s1 σ H1 v y u w _ I1 r r1 q1) fun z s2 ⟨zv, H2, I2, r2, q2⟩ => ?_
    exact store_ok I2 hN hi hx r2 (fun s3 I3 => ⟨_, H2, I3, q2⟩) hf
  rcases l with ⟨hk, hm⟩ | ⟨hk, c, hc, hcell⟩
  · exact wpAny_loadName_local I.ok.kind hk hn hm go
  · rcases hk with hk | hk
    · exact wpAny_loadName_cell I.ok.kind hk hc hcell go
    · rcases hx with k | k
      · have : X.env.scope.names.lookup x = some .free := hk
        rw [k] at this; cases this
      · have : X.env.scope.names.lookup x = some .free := hk
        rw [k] at this; cases this
def tAugS (to ti te : TE) (tget : V → V → Hp → VK → Prop) (tip : TIp) (tset : TSet) : TS := fun D σ H => to σ H fun o H1 => ti σ H1 fun i H2 => tget o i H2 fun x H3 => te σ H3 fun y H4 => tip x y H4 fun z H5 => tset o i z H5 fun H6 => D.nx σ H6
def PGet (X : Cx) (t : V → V → Hp → VK → Prop) : Prop :=
  ∀ (pins : List (Addr × Obj)) (s : Shared) (σ : St) (H : Hp) (o i : V) (ov iv : Value) (Q : VK), Inv X pins σ H s → RelV o ov → RelV i iv → t o i H Q →
    wpAny (model X.prog X.w) X.A (getItem ov iv) (EP X pins σ Q) X.xe s
theorem ps_augS {o i e : Expr} {to ti te : TE} {tget : V → V → Hp → VK → Prop} {tip : TIp} {tset : TSet} {op : Operator} {tpos : Pos} (ho : PE X o to) (hi : PE X i ti) (hg : PGet X tget) (he : PE X e te) (hp : PIp X op tip) (hs : PSet X tset)
    (ha : ∀ ov iv new, augStore i ov iv new = (do holding [new, ov, iv] (setItem ov iv new); release [new, ov, iv] []; pure .next) := by intros; rfl) : PS X (.AugAssign (.Subscript o i tpos) op e pos) (tAugS to ti te tget tip tset) := by
  intro pins s σ H D I h
  refine wpAny_AugAssign_SubscriptAny (thn (ho pins s σ H _ I h) fun ov s1 ⟨x1, H1, I1, r1, q1⟩ => ?_) ha
  refine thn (hi pins s1 σ H1 _ I1 q1) fun iv s2 ⟨x2, H2, I2, r2, q2⟩ => ?_
  refine thn (hg pins s2 σ H2 x1 x2 ov iv _ I2 r1 r2 q2) fun old s3 ⟨x3, H3, I3, r3, q3⟩ => ?_
  refine thn (he pins s3 σ H3 _ I3 q3) fun v s4 ⟨x4, H4, I4, r4, q4⟩ => ?_
  refine thn (hp pins s4 σ H4 x3 x4 old v _ I4 r3 r4 q4) fun new s5 ⟨x5, H5, I5, r5, q5⟩ => ?_
  exact thn (hs pins s5 σ H5 x1 x2 x5 ov iv new _ I5 r1 r2 r5 q5) fun _ s6 ⟨H6, I6, q6⟩ => ⟨σ, H6, I6, q6⟩
def ipI (f : Int → Int → Int) : TIp := fun x y H Q => ∃ i j, x = .int i ∧ y = .int j ∧ Q (.int (f i j)) H
theorem ip_add : PIp X .Add (ipI fun i j => i + j) := by
  intro pins s σ H x y v u Q I r1 r2 h
  obtain ⟨i, j, e1, e2, q⟩ := h
  subst e1; subst e2
  obtain ⟨t, rfl⟩ := r1
  obtain ⟨t', rfl⟩ := r2
  exact iadd_int ⟨.int _, H, I.tok _, ⟨_, rfl⟩, q⟩
theorem ip_sub : PIp X .Sub (ipI fun i j => i - j) := by
  intro pins s σ H x y v u Q I r1 r2 h
  obtain ⟨i, j, e1, e2, q⟩ := h
  subst e1; subst e2
  obtain ⟨t, rfl⟩ := r1
  obtain ⟨t', rfl⟩ := r2
  exact isub_int ⟨.int _, H, I.tok _, ⟨_, rfl⟩, q⟩
end
section
variable {X : Cx} {pos : Pos}
def tWhile (c : TT) (tb : TS) : TS := fun D σ H => ∃ W : Nat → St → Hp → Prop, (∃ m, W m σ H) ∧ ∀ m σ H, W m σ H →
  c σ H fun b H1 => if b = true then ∃ N : St → Hp → Prop, (∀ σ' H', N σ' H' → ∃ m', m' < m ∧ W m' σ' H') ∧ tb { D with nx := N, ct := N, bk := D.nx } σ H1 else D.nx σ H1
theorem ps_while {c : Expr} {body : List Stmt} {tc : TT} {tb : TS} (hp : PassesOwn (model X.prog X.w) X.A X.env X.xe) (hc : PT X c tc) (hb : PSs X body tb) : PS X (.While c body [] pos) (tWhile tc tb) := by
  intro pins s σ H D I h
  obtain ⟨W, ⟨m0, w0⟩, turn⟩ := h
  refine wpAny_While (codeAny_whileLoop (fun n s' => ∃ σ' H', Inv X pins σ' H' s' ∧ W n σ' H') ?_ m0 ⟨σ, H, I, w0⟩)
  rintro n s1 ⟨σ1, H1, I1, w1⟩
  refine wpAny_passesOwn hp (thn (hc pins s1 σ1 H1 _ I1 (turn n σ1 H1 w1)) fun b s2 ⟨H2, I2, q2⟩ => ?_)
  cases b with
  | true =>
    obtain ⟨N, hN, q2⟩ := q2
    rw [if_pos rfl]
    refine wpAny_passesOwn hp (thn (hb pins s2 σ1 H2 _ I2 q2) fun f s3 q3 => ?_)
    cases f with
    | next =>
      obtain ⟨σ3, H3, I3, n3⟩ := q3
      obtain ⟨m', hm, w3⟩ := hN σ3 H3 n3
      exact ⟨m', hm, σ3, H3, I3, w3⟩
    | cont =>
      obtain ⟨σ3, H3, I3, n3⟩ := q3
      obtain ⟨m', hm, w3⟩ := hN σ3 H3 n3
      exact ⟨m', hm, σ3, H3, I3, w3⟩
    | brk => exact q3
    | ret v => exact q3
  | false =>
    rw [if_neg Bool.false_ne_true]
    exact wpAny_execs_nil ⟨σ1, H2, I2, q2⟩
end
structure It where
  go : Nat → Hp → Prop
  yld : Nat → Hp → V → Hp → Prop
  stop : Nat → Hp → Prop
def FpOk (X : Cx) (pins : List (Addr × Obj)) (H : Hp) (b : Addr) : Prop :=
  H b = none ∧ b ≠ X.env.locals ∧ b ∉ X.fs ∧ (b ∈ X.ex ∨ X.s₀.heap.objs.size ≤ b) ∧ (∀ x c, X.env.cells.lookup x = some c → c ≠ b) ∧ ∀ p ∈ X.pn ++ pins, p.1 ≠ b
theorem Inv.fpOk {X : Cx} {pins : List (Addr × Obj)} {σ : St} {H H' : Hp} {s : Shared} {b : Addr} (I : Inv X pins σ H s) (hb : s.heap.objs.size ≤ b) (hn : H' b = none) : FpOk X pins H' b := by
  refine ⟨hn, Nat.ne_of_gt (Nat.lt_of_lt_of_le I.lt hb), I.nofs hb, .inr (Nat.le_trans I.sz hb), fun x c e z => ?_, fun p hp z => ?_⟩
  · obtain ⟨v, q⟩ := I.cell x c e
    exact absurd (Nat.lt_of_lt_of_le q.lt (by rw [z]; exact hb)) (Nat.lt_irrefl _)
  · exact absurd (Nat.lt_of_lt_of_le (Heap.lt_size (I.pin p hp).1) (by rw [z]; exact hb)) (Nat.lt_irrefl _)
structure Turn (P : Program) (w : World) (K : PySem.W.Frag) (tg : Expr) (J : It) (fp : List Addr) (it : Addr) (tn : Nat → Heap → Prop) : Prop where
  mem : it ∈ fp
  obj : ∀ i h, tn i h → ∀ b ∈ fp, ∃ o, h.get? b = some o ∧ ∀ v, o.data ≠ .cell v
  keep : ∀ i h h', tn i h → (∀ b ∈ fp, ∀ o, h.get? b = some o → h'.get? b = some o) → tn i h'
  item : ∀ (X : Cx), X.prog = P → X.w = w → X.K = K → X.calm = true → ∀ (i : Nat) (pins : List (Addr × Obj)) (s : Shared) (σ : St) (H : Hp) (E : Value → Shared → Prop), Inv X pins σ H s → (∀ b ∈ fp, FpOk X pins H b) → tn i s.heap → J.go i H →
    wpAny (model P w) X.A (pyNext (.ref it)) (fun r s1 => ∃ u, r = some u ∧
      wpAny (model P w) X.A (letOwnedTupleGo tg (.ref it) u) (fun _ s2 => ∃ x H', Inv X pins σ H' s2 ∧ RelV x u ∧ J.yld i H x H' ∧ tn (i + 1) s2.heap ∧ ∀ b ∈ fp, H' b = none) E s1) E s
  done : ∀ (X : Cx), X.prog = P → X.w = w → X.K = K → X.calm = true → ∀ (i : Nat) (pins : List (Addr × Obj)) (s : Shared) (σ : St) (H : Hp) (E : Value → Shared → Prop), Inv X pins σ H s → (∀ b ∈ fp, FpOk X pins H b) → tn i s.heap → J.stop i H →
    wpAny (model P w) X.A (pyNext (.ref it)) (fun r s1 => r = none ∧ Inv X pins σ H s1) E s
  self : ∀ (A : Around) (i : Nat) (s : Shared) (Q : Value → Shared → Prop) (E : Value → Shared → Prop), tn i s.heap → Q (.ref it) s → wpAny (model P w) A (pyIter (.ref it)) Q E s
abbrev TI := St → Hp → (It → Hp → Prop) → Prop
def PIE (X : Cx) (pins : List (Addr × Obj)) (σ : St) (tg : Expr) (R : It → Hp → Prop) (itv : Value) (s2 : Shared) : Prop :=
  ∃ (it : Addr) (fp : List Addr) (tn : Nat → Heap → Prop) (J : It) (H' : Hp), itv = .ref it ∧ Inv X pins σ H' s2 ∧ Turn X.prog X.w X.K tg J fp it tn ∧ tn 0 s2.heap ∧ (∀ b ∈ fp, FpOk X pins H' b) ∧ R J H'
def PI (X : Cx) (tg iter : Expr) (wi : TI) : Prop :=
  ∀ (pins : List (Addr × Obj)) (s : Shared) (σ : St) (H : Hp) (R : It → Hp → Prop), Inv X pins σ H s → wi σ H R →
    wpAny (model X.prog X.w) X.A (eval iter X.env) (fun v s1 => wpAny (model X.prog X.w) X.A (pyIter v) (PIE X pins σ tg R) X.xe s1) X.xe s
theorem go_of {M : Model} {A : Around} {E : Value → Shared → Prop} {s : Shared} {tg : Expr} {it : Addr} {u : Value} {o : Obj} {n : String} {vs : Array Value} {Q : Unit → Shared → Prop} (ho : s.heap.get? it = some o) (hc : o.cls = .type n) (hd : o.data = .fields vs)
    (hn : ["enumerate", "zip", "dict_itemiterator", "dict_reverseitemiterator", "odict_iterator", "itertools.zip_longest", "itertools.pairwise"].contains n = false) (hQ : Q () s) : wpAny M A (letOwnedTupleGo tg (.ref it) u) Q E s := by
  unfold letOwnedTupleGo
  cases tg <;> first
    | exact wpAny_pure hQ
    | (cases u <;> first
        | exact wpAny_pure hQ
        | (refine wpAny_bind (wpAny_load ho ?_)
           rw [hc, hd]
           show wpAny M A (if (["enumerate", "zip", "dict_itemiterator", "dict_reverseitemiterator", "odict_iterator", "itertools.zip_longest", "itertools.pairwise"].contains n && vs[0]? == some (rawInt _)) = true then _ else _) Q E s
           rw [if_neg (by intro h; rw [hn, Bool.false_and] at h; cases h)]
           exact wpAny_pure hQ))
def Itl (K : PySem.W.Frag) (a : Addr) : It :=
  ⟨fun i H => ∃ xs x, SqL K H a xs ∧ xs[i]? = some x, fun i H x H' => H' = H ∧ ∀ xs, SqL K H a xs → xs[i]? = some x, fun i H => ∃ xs, SqL K H a xs ∧ xs.length ≤ i⟩
def Itt (K : PySem.W.Frag) (a : Addr) : It :=
  ⟨fun i H => ∃ xs x, SqT K H a xs ∧ xs[i]? = some x, fun i H x H' => H' = H ∧ ∀ xs, SqT K H a xs → xs[i]? = some x, fun i H => ∃ xs, SqT K H a xs ∧ xs.length ≤ i⟩
def Itr (lo : Int) (n : Nat) : It := ⟨fun i _ => i < n, fun i H x H' => H' = H ∧ x = .int (lo + i), fun i _ => n ≤ i⟩
theorem turn_list {P : Program} {w : World} {K : PySem.W.Frag} {tg : Expr} (a it : Addr) : Turn P w K tg (Itl K a) [it] it (fun i h => h.IsListIter it a i) where
  mem := by simp
  obj := fun i h st b hb => by
    have e : b = it := by simpa using hb
    subst e
    obtain ⟨o, e, c, d⟩ := st
    exact ⟨o, e, fun v z => by rw [d] at z; cases z⟩
  keep := fun i h h' st k => st.at fun o e => k it (by simp) o e
  item := by
    intro X hP hw hK hc i pins s σ H E I hf st hg
    subst hP hw hK
    obtain ⟨xs, x, hq, hx⟩ := hg
    obtain ⟨its, rv, p, hz⟩ := I.list hq
    obtain ⟨u, hu, ru⟩ := rv.get hx
    obtain ⟨f0, f1, f2, f3, f4, f5⟩ := hf it (by simp)
    refine wpAny_pyNext_list_item st p.isList (x := u) (by simpa using hu) fun h' st' sb => ?_
    have I1 : Inv X pins σ H { s with heap := h' } := I.turned (t' := s.toks) (fun b o hb e => (sb.2 b hb).trans e) f0 f1 f3 f4 f5
    obtain ⟨o, e, c, d⟩ := id st'
    exact ⟨u, rfl, go_of (s := { s with heap := h' }) e c d (by decide) ⟨x, H, I1, ru, ⟨rfl, fun ys hy => by rw [I.list_inj hy hq]; exact hx⟩, st', fun b hb => (hf b hb).1⟩⟩
  done := by
    intro X hP hw hK hc i pins s σ H E I hf st hg
    subst hP hw hK
    obtain ⟨xs, hq, hx⟩ := hg
    obtain ⟨its, rv, p, hz⟩ := I.list hq
    obtain ⟨f0, f1, f2, f3, f4, f5⟩ := hf it (by simp)
    have hl := rv.length
    exact wpAny_pyNext_list_end (I.ok.hd hc) st p.isList (by simp; omega) fun h' eb => ⟨rfl, I.turned (t' := s.toks) (fun b o hb e => eb b o hb e) f0 f1 f3 f4 f5⟩
  self := fun _ _ _ _ _ st h => wpAny_pyIter_listiter st h
theorem turn_tuple {P : Program} {w : World} {K : PySem.W.Frag} {tg : Expr} (a it : Addr) : Turn P w K tg (Itt K a) [it] it (fun i h => h.IsTupleIter it a i) where
  mem := by simp
  obj := fun i h st b hb => by
    have e : b = it := by simpa using hb
    subst e
    obtain ⟨o, e, c, d⟩ := st
    exact ⟨o, e, fun v z => by rw [d] at z; cases z⟩
  keep := fun i h h' st k => st.at fun o e => k it (by simp) o e
  item := by
    intro X hP hw hK hc i pins s σ H E I hf st hg
    subst hP hw hK
    obtain ⟨xs, x, hq, hx⟩ := hg
    obtain ⟨its, rv, p, hz⟩ := I.tuple hq
    obtain ⟨u, hu, ru⟩ := rv.get hx
    obtain ⟨f0, f1, f2, f3, f4, f5⟩ := hf it (by simp)
    refine wpAny_pyNext_tuple_item st (show s.heap.IsTuple a its.toArray from p) (x := u) (by simpa using hu) fun h' st' sb => ?_
    have I1 : Inv X pins σ H { s with heap := h' } := I.turned (t' := s.toks) (fun b o hb e => (sb.2 b hb).trans e) f0 f1 f3 f4 f5
    obtain ⟨o, e, c, d⟩ := id st'
    exact ⟨u, rfl, go_of (s := { s with heap := h' }) e c d (by decide) ⟨x, H, I1, ru, ⟨rfl, fun ys hy => by rw [I.tuple_inj hy hq]; exact hx⟩, st', fun b hb => (hf b hb).1⟩⟩
  done := by
    intro X hP hw hK hc i pins s σ H E I hf st hg
    subst hP hw hK
    obtain ⟨xs, hq, hx⟩ := hg
    obtain ⟨its, rv, p, hz⟩ := I.tuple hq
    obtain ⟨f0, f1, f2, f3, f4, f5⟩ := hf it (by simp)
    have hl := rv.length
    exact wpAny_pyNext_tuple_end (I.ok.hd hc) st (show s.heap.IsTuple a its.toArray from p) (by simp; omega) fun h' eb => ⟨rfl, I.turned (t' := s.toks) (fun b o hb e => eb b o hb e) f0 f1 f3 f4 f5⟩
  self := fun _ _ _ _ _ st h => wpAny_pyIter_tupleiter st h
theorem turn_range {P : Program} {w : World} {K : PySem.W.Frag} {tg : Expr} (it : Addr) (lo : Int) (n : Nat) : Turn P w K tg (Itr lo n) [it] it (fun i h => IsRangeIter h it (lo + (i : Nat) * 1) ((n : Int) - (i : Nat)) 1) where
  mem := by simp
  obj := fun i h st b hb => by
    have e : b = it := by simpa using hb
    subst e
    exact ⟨_, st, fun v z => by
      have z' : Data.fields _ = Data.cell v := z
      cases z'⟩
  keep := fun i h h' st k => k it (by simp) _ st
  item := by
    intro X hP hw hK hc i pins s σ H E I hf st hg
    subst hP hw hK
    obtain ⟨f0, f1, f2, f3, f4, f5⟩ := hf it (by simp)
    have W := Walks.range (prog := X.prog) (w := X.w) (I.ok.hd hc) it lo 1 n
    refine W.item i s _ _ hg st fun v h' tk hv st' kk => ?_
    obtain ⟨t, rfl⟩ := hv
    have I1 : Inv X pins σ H { s with heap := h', toks := tk } := I.turned (fun b o hb e => kk b o (by simpa using hb) e) f0 f1 f3 f4 f5
    refine ⟨_, rfl, go_of (s := { s with heap := h', toks := tk }) (n := "range_iterator") st' rfl rfl (by decide) ⟨.int (lo + i), H, I1, ⟨t, ?_⟩, ⟨rfl, rfl⟩, st', fun b hb => (hf b hb).1⟩⟩
    rw [Int.mul_one]
  done := by
    intro X hP hw hK hc i pins s σ H E I hf st hg
    subst hP hw hK
    obtain ⟨f0, f1, f2, f3, f4, f5⟩ := hf it (by simp)
    exact wpAny_pyNext_range_end (I.ok.hd hc) st (by have : n ≤ i := hg; omega) fun h' eb => ⟨rfl, I.turned (t' := s.toks) (fun b o hb e => eb b o hb e) f0 f1 f3 f4 f5⟩
  self := fun _ _ _ _ _ st h => wpAny_pyIter_rangeiter st h
end L2
namespace L2
open PySem PySem.Spec PyProof.Rows
section
variable {X : Cx} {tg : Expr}
def iList (K : PySem.W.Frag) (tl : TE) : TI := fun σ H R => tl σ H fun x H1 => ∃ a, x = .ref a ∧ (∃ xs, SqL K H1 a xs) ∧ R (Itl K a) H1
def iTup (K : PySem.W.Frag) (tl : TE) : TI := fun σ H R => tl σ H fun x H1 => ∃ a, x = .ref a ∧ (∃ xs, SqT K H1 a xs) ∧ R (Itt K a) H1
theorem pi_list {l : Expr} {tl : TE} (hl : PE X l tl) : PI X tg l (iList X.K tl) := by
  intro pins s σ H R I h
  refine thn (hl pins s σ H _ I h) fun v s1 ⟨x, H1, I1, r1, q1⟩ => ?_
  obtain ⟨a, e, ⟨xs, hq⟩, q⟩ := q1
  subst e
  cases r1
  obtain ⟨its, rv, p, hz⟩ := I1.list hq
  refine wpAny_pyIter_list p.isList ?_
  refine ⟨s1.heap.objs.size, [s1.heap.objs.size], _, _, H1, rfl, I1.kept (t' := s1.toks) fun b o e => Heap.get?_push_of_some _ e, turn_list a _, ⟨_, Heap.get?_push_size _ rfl, rfl, rfl⟩, fun b hb => ?_, q⟩
  have e : b = s1.heap.objs.size := by simpa using hb
  subst e
  exact I1.fpOk (Nat.le_refl _) (I1.hok.fresh (Nat.le_refl _))
theorem pi_tup {l : Expr} {tl : TE} (hl : PE X l tl) : PI X tg l (iTup X.K tl) := by
  intro pins s σ H R I h
  refine thn (hl pins s σ H _ I h) fun v s1 ⟨x, H1, I1, r1, q1⟩ => ?_
  obtain ⟨a, e, ⟨xs, hq⟩, q⟩ := q1
  subst e
  cases r1
  obtain ⟨its, rv, p, hz⟩ := I1.tuple hq
  refine wpAny_pyIter_tuple (show s1.heap.IsTuple a its.toArray from p) ?_
  refine ⟨s1.heap.objs.size, [s1.heap.objs.size], _, _, H1, rfl, I1.kept (t' := s1.toks) fun b o e => Heap.get?_push_of_some _ e, turn_tuple a _, ⟨_, Heap.get?_push_size _ rfl, rfl, rfl⟩, fun b hb => ?_, q⟩
  have e : b = s1.heap.objs.size := by simpa using hb
  subst e
  exact I1.fpOk (Nat.le_refl _) (I1.hok.fresh (Nat.le_refl _))
theorem range_it {pins : List (Addr × Obj)} {σ : St} {H : Hp} {s : Shared} {R : It → Hp → Prop} {E : Value → Shared → Prop} {lo hi : Int} {t u v : Tok} {tk : Nat} (I : Inv X pins σ H s) (h1 : -(2 ^ 62) ≤ lo) (h2 : lo < 2 ^ 62) (h3 : -(2 ^ 62) ≤ hi) (h4 : hi < 2 ^ 62)
    (q : R (Itr lo (hi - lo).toNat) H) : wpAny (model X.prog X.w) X.A (pyIter (.ref s.heap.objs.size)) (PIE X pins σ tg R) E { s with heap := s.heap.push { cls := .type "range", data := .fields #[.int lo t, .int hi u, .int 1 v] }, toks := tk } := by
  refine wpAny_pyIter_range (IsRange.new ..) (small_one h1 h2 h3 h4) ?_
  have I1 : Inv X pins σ H { s with heap := s.heap.push { cls := .type "range", data := .fields #[.int lo t, .int hi u, .int 1 v] }, toks := tk } := I.kept fun b o e => Heap.get?_push_of_some _ e
  refine ⟨(s.heap.push { cls := .type "range", data := .fields #[.int lo t, .int hi u, .int 1 v] }).objs.size, [(s.heap.push { cls := .type "range", data := .fields #[.int lo t, .int hi u, .int 1 v] }).objs.size], _, _, H, rfl,
    I1.kept (t' := tk) fun b o e => Heap.get?_push_of_some _ e, turn_range _ lo (hi - lo).toNat, ?_, fun b hb => ?_, q⟩
  · have e1 : lo + ((0 : Nat) : Int) * 1 = lo := by simp
    have e2 : (((hi - lo).toNat : Nat) : Int) - ((0 : Nat) : Int) = Builtin.Range.rangeSize lo hi 1 := by rw [rangeSize_one]; split <;> omega
    show IsRangeIter _ _ (lo + ((0 : Nat) : Int) * 1) ((((hi - lo).toNat : Nat) : Int) - ((0 : Nat) : Int)) 1
    rw [e1, e2]
    exact Heap.get?_push_size _ rfl
  · have e : b = (s.heap.push { cls := .type "range", data := .fields #[.int lo t, .int hi u, .int 1 v] }).objs.size := by simpa using hb
    subst e
    exact I1.fpOk (Nat.le_refl _) (I1.hok.fresh (Nat.le_refl _))
def iRng1 (ta : TA) : TI := fun σ H R => ta σ H fun vs H1 => ∃ j : Int, vs = [.int j] ∧ -(2 ^ 62) ≤ j ∧ j < 2 ^ 62 ∧ R (Itr 0 j.toNat) H1
def iRng2 (ta : TA) : TI := fun σ H R => ta σ H fun vs H1 => ∃ i j : Int, vs = [.int i, .int j] ∧ (-(2 ^ 62) ≤ i ∧ i < 2 ^ 62 ∧ -(2 ^ 62) ≤ j ∧ j < 2 ^ 62) ∧ R (Itr i (j - i).toNat) H1
theorem pi_range1 {a : Expr} {ta : TA} {p pos : Pos} (hg : Gl X "range") (hm : X.mg "range" = none) (ha : PA X [a] ta) (hs : starEach [a] X.env = [(false, eval a X.env)] := by rfl) : PI X tg (.Call (.Name "range" p) [a] [] pos) (iRng1 ta) := by
  intro pins s σ H R I h
  refine Call_ (ld_blt I hg hm boot_range (PyProof.Rows.callWith_type1 (thn (ha pos pins s σ H _ I h) fun us s1 ⟨vs, H1, I1, r1, q1⟩ => ?_) hs rfl))
  obtain ⟨j, e, q1, q2, q⟩ := q1
  subst e
  cases r1 with
  | cons r rr =>
    cases rr
    obtain ⟨t, rfl⟩ := r
    exact call_range_1 (range_it I1 (by omega) (by omega) q1 q2 (by simpa using q))
theorem pi_range2 {a b : Expr} {ta : TA} {p pos : Pos} (hg : Gl X "range") (hm : X.mg "range" = none) (ha : PA X [a, b] ta) (hs : starEach [a, b] X.env = [(false, eval a X.env), (false, eval b X.env)] := by rfl) (hs2 : starEach [b] X.env = [(false, eval b X.env)] := by rfl) :
    PI X tg (.Call (.Name "range" p) [a, b] [] pos) (iRng2 ta) := by
  intro pins s σ H R I h
  refine Call_ (ld_blt I hg hm boot_range (PyProof.Rows.callWith_type1 (thn (ha pos pins s σ H _ I h) fun us s1 ⟨vs, H1, I1, r1, q1⟩ => ?_) (by rw [hs, hs2]) (by rw [hs2]; rfl)))
  obtain ⟨i, j, e, ⟨q1, q2, q3, q4⟩, q⟩ := q1
  subst e
  cases r1 with
  | cons r rr =>
    cases rr with
    | cons r' rr =>
      cases rr
      obtain ⟨t, rfl⟩ := r
      obtain ⟨t', rfl⟩ := r'
      exact call_range_2 (range_it I1 q1 q2 q3 q4 q)
def tFor (wi : TI) (g : TG) (tb : TS) : TS := fun D σ H => wi σ H fun J H1 => ∃ W : Nat → Nat → St → Hp → Prop, (∃ m, W 0 m σ H1) ∧ ∀ i m σ H, W i m σ H →
  (J.stop i H ∧ D.nx σ H) ∨ (J.go i H ∧ ∃ N : St → Hp → Prop, (∀ σ' H', N σ' H' → ∃ m', m' < m ∧ W (i + 1) m' σ' H') ∧ ∀ x H', J.yld i H x H' → g x σ H' fun σ2 H2 => tb { D with nx := N, ct := N, bk := D.nx } σ2 H2)
def pinsAt (fp : List Addr) (h : Heap) : List (Addr × Obj) := fp.filterMap fun b => (h.get? b).map fun o => (b, o)
theorem mem_pinsAt {fp : List Addr} {h : Heap} {b : Addr} {o : Obj} (hb : b ∈ fp) (e : h.get? b = some o) : (b, o) ∈ pinsAt fp h := List.mem_filterMap.mpr ⟨b, hb, by rw [e]; rfl⟩
theorem of_pinsAt {fp : List Addr} {h : Heap} {p : Addr × Obj} (hp : p ∈ pinsAt fp h) : p.1 ∈ fp ∧ h.get? p.1 = some p.2 := by
  obtain ⟨b, hb, e⟩ := List.mem_filterMap.mp hp
  cases q : h.get? b with
  | none => rw [q] at e; cases e
  | some o =>
    rw [q] at e
    have e' : (b, o) = p := Option.some.inj e
    subst e'
    exact ⟨hb, q⟩
theorem Inv.pinned {pins : List (Addr × Obj)} {σ : St} {H : Hp} {s : Shared} {fp : List Addr} (I : Inv X pins σ H s) (hf : ∀ b ∈ fp, FpOk X pins H b) (ho : ∀ b ∈ fp, ∃ o, s.heap.get? b = some o ∧ ∀ v, o.data ≠ .cell v) : Inv X (pins ++ pinsAt fp s.heap) σ H s :=
  I.pins_of fun p hp => (List.mem_append.mp hp).elim (fun z => I.pin p (List.mem_append_right _ z)) fun z => by
    obtain ⟨hb, e⟩ := of_pinsAt z
    obtain ⟨f0, f1, f2, _⟩ := hf p.1 hb
    obtain ⟨o, e', d⟩ := ho p.1 hb
    rw [e] at e'; cases e'
    exact ⟨e, f0, f1, f2, d⟩
theorem Inv.unpinned {pins pl : List (Addr × Obj)} {σ : St} {H : Hp} {s : Shared} (I : Inv X (pins ++ pl) σ H s) : Inv X pins σ H s := I.pins_of fun p hp => I.pin p (List.mem_append_right _ (List.mem_append_left _ hp))
theorem ps_for {iter : Expr} {body : List Stmt} {wi : TI} {g : TG} {tb : TS} {pos : Pos} (hp : PassesOwn (model X.prog X.w) X.A X.env X.xe) (hc : X.calm = true) (hi : PI X tg iter wi) (hg : PG X tg g) (hb : PSs X body tb)
    (hs : ∀ x, foldedSetIterable iter X.env x = pure x := by intro _; rfl) : PS X (.For tg iter body [] pos) (tFor wi g tb) := by
  intro pins s σ H D I h
  refine wpAny_For (thn (hi pins s σ H _ I h) fun v s1 h1 => thn h1 fun itv s2 h2 => ?_) hs
  obtain ⟨it, fp, tn, J, H2, e, I2, T, st2, f2, W, ⟨m0, w0⟩, turn⟩ := h2
  subst e
  have stat : ∀ {H' : Hp}, (∀ b ∈ fp, H' b = none) → ∀ b ∈ fp, FpOk X pins H' b := fun hn b hb => ⟨hn b hb, (f2 b hb).2⟩
  refine codeAny_forLoop_any (fun n s' => ∃ i σ' H', Inv X pins σ' H' s' ∧ tn i s'.heap ∧ (∀ b ∈ fp, H' b = none) ∧ W i n σ' H') ?_ m0 ⟨0, σ, H2, I2, st2, fun b hb => (f2 b hb).1, w0⟩
  rintro n s3 ⟨i, σ3, H3, I3, st3, fr3, w3⟩
  rcases turn i n σ3 H3 w3 with ⟨stop, qn⟩ | ⟨go, N, hN, step⟩
  · refine wpAny_passesOwn hp (thn (T.done X rfl rfl rfl hc i pins s3 σ3 H3 X.xe I3 (stat fr3) st3 stop) fun r s4 ⟨hr, I4⟩ => ?_)
    subst hr
    exact wpAny_execs_nil ⟨σ3, H3, I4, qn⟩
  · refine wpAny_passesOwn hp (thn (T.item X rfl rfl rfl hc i pins s3 σ3 H3 X.xe I3 (stat fr3) st3 go) fun r s4 ⟨u, hr, h4⟩ => ?_)
    subst hr
    refine wpAny_passesOwn hp (thn h4 fun _ s5 ⟨x, H5, I5, r5, y5, st5, fr5⟩ => ?_)
    have I5' := I5.pinned (stat fr5) (T.obj _ _ st5)
    refine wpAny_passesOwn hp (thn (hg _ s5 σ3 H5 x u _ I5' r5 (step x H5 y5)) fun _ s6 ⟨σ6, H6, I6, q6⟩ => ?_)
    refine wpAny_passesOwn hp (thn (hb _ s6 σ6 H6 _ I6 q6) fun f s7 q7 => ?_)
    have again : ∀ {σ7 : St} {H7 : Hp}, Inv X (pins ++ pinsAt fp s5.heap) σ7 H7 s7 → N σ7 H7 → ∃ m, m < n ∧ ∃ i σ' H', Inv X pins σ' H' s7 ∧ tn i s7.heap ∧ (∀ b ∈ fp, H' b = none) ∧ W i m σ' H' := fun {σ7 H7} I7 n7 => by
      obtain ⟨m', hm, w7⟩ := hN σ7 H7 n7
      refine ⟨m', hm, i + 1, σ7, H7, I7.unpinned, T.keep _ _ _ st5 fun b hb o e => (I7.pin (b, o) (List.mem_append_right _ (List.mem_append_right _ (mem_pinsAt hb e)))).1, fun b hb => ?_, w7⟩
      obtain ⟨o, e, d⟩ := T.obj _ _ st5 b hb
      exact (I7.pin (b, o) (List.mem_append_right _ (List.mem_append_right _ (mem_pinsAt hb e)))).2.1
    cases f with
    | next => obtain ⟨σ7, H7, I7, n7⟩ := q7; exact again I7 n7
    | cont => obtain ⟨σ7, H7, I7, n7⟩ := q7; exact again I7 n7
    | brk => obtain ⟨σ7, H7, I7, q7⟩ := q7; exact ⟨σ7, H7, I7.unpinned, q7⟩
    | ret v => obtain ⟨x7, σ7, H7, I7, r7, q7⟩ := q7; exact ⟨x7, σ7, H7, I7.unpinned, r7, q7⟩
end
theorem for_list {K : PySem.W.Frag} {a : Addr} {xs : List V} {g : TG} {tb : TS} {D : Ends} {σ : St} {H : Hp} (Pv : Nat → St → Hp → Prop) (h0 : Pv 0 σ H) (hl : ∀ i σ H, i ≤ xs.length → Pv i σ H → SqL K H a xs)
    (hs : ∀ i x σ H, xs[i]? = some x → Pv i σ H → g x σ H fun σ2 H2 => tb { D with nx := Pv (i + 1), ct := Pv (i + 1), bk := D.nx } σ2 H2) (hd : ∀ σ H, Pv xs.length σ H → D.nx σ H) :
    ∃ W : Nat → Nat → St → Hp → Prop, (∃ m, W 0 m σ H) ∧ ∀ i m σ H, W i m σ H →
      ((Itl K a).stop i H ∧ D.nx σ H) ∨ ((Itl K a).go i H ∧ ∃ N : St → Hp → Prop, (∀ σ' H', N σ' H' → ∃ m', m' < m ∧ W (i + 1) m' σ' H') ∧ ∀ x H', (Itl K a).yld i H x H' → g x σ H' fun σ2 H2 => tb { D with nx := N, ct := N, bk := D.nx } σ2 H2) := by
  refine ⟨fun i m σ H => m = xs.length - i ∧ i ≤ xs.length ∧ Pv i σ H, ⟨xs.length, by simp, Nat.zero_le _, h0⟩, ?_⟩
  rintro i m σ H ⟨rfl, hi, p⟩
  have q := hl i σ H hi p
  by_cases hlt : i < xs.length
  · refine .inr ⟨⟨xs, xs[i], q, by simp [hlt]⟩, Pv (i + 1), fun σ' H' p' => ⟨xs.length - (i + 1), by omega, rfl, hlt, p'⟩, fun x H' y => ?_⟩
    obtain ⟨e, y⟩ := y
    subst e
    exact hs i x σ _ (y xs q) p
  · have e : i = xs.length := by omega
    subst e
    exact .inl ⟨⟨xs, q, Nat.le_refl _⟩, hd σ H p⟩
theorem for_tup {K : PySem.W.Frag} {a : Addr} {xs : List V} {g : TG} {tb : TS} {D : Ends} {σ : St} {H : Hp} (Pv : Nat → St → Hp → Prop) (h0 : Pv 0 σ H) (hl : ∀ i σ H, i ≤ xs.length → Pv i σ H → SqT K H a xs)
    (hs : ∀ i x σ H, xs[i]? = some x → Pv i σ H → g x σ H fun σ2 H2 => tb { D with nx := Pv (i + 1), ct := Pv (i + 1), bk := D.nx } σ2 H2) (hd : ∀ σ H, Pv xs.length σ H → D.nx σ H) :
    ∃ W : Nat → Nat → St → Hp → Prop, (∃ m, W 0 m σ H) ∧ ∀ i m σ H, W i m σ H →
      ((Itt K a).stop i H ∧ D.nx σ H) ∨ ((Itt K a).go i H ∧ ∃ N : St → Hp → Prop, (∀ σ' H', N σ' H' → ∃ m', m' < m ∧ W (i + 1) m' σ' H') ∧ ∀ x H', (Itt K a).yld i H x H' → g x σ H' fun σ2 H2 => tb { D with nx := N, ct := N, bk := D.nx } σ2 H2) := by
  refine ⟨fun i m σ H => m = xs.length - i ∧ i ≤ xs.length ∧ Pv i σ H, ⟨xs.length, by simp, Nat.zero_le _, h0⟩, ?_⟩
  rintro i m σ H ⟨rfl, hi, p⟩
  have q := hl i σ H hi p
  by_cases hlt : i < xs.length
  · refine .inr ⟨⟨xs, xs[i], q, by simp [hlt]⟩, Pv (i + 1), fun σ' H' p' => ⟨xs.length - (i + 1), by omega, rfl, hlt, p'⟩, fun x H' y => ?_⟩
    obtain ⟨e, y⟩ := y
    subst e
    exact hs i x σ _ (y xs q) p
  · have e : i = xs.length := by omega
    subst e
    exact .inl ⟨⟨xs, q, Nat.le_refl _⟩, hd σ H p⟩
theorem for_range {lo : Int} {n : Nat} {g : TG} {tb : TS} {D : Ends} {σ : St} {H : Hp} (Pv : Nat → St → Hp → Prop) (h0 : Pv 0 σ H)
    (hs : ∀ i σ H, i < n → Pv i σ H → g (.int (lo + i)) σ H fun σ2 H2 => tb { D with nx := Pv (i + 1), ct := Pv (i + 1), bk := D.nx } σ2 H2) (hd : ∀ σ H, Pv n σ H → D.nx σ H) :
    ∃ W : Nat → Nat → St → Hp → Prop, (∃ m, W 0 m σ H) ∧ ∀ i m σ H, W i m σ H →
      ((Itr lo n).stop i H ∧ D.nx σ H) ∨ ((Itr lo n).go i H ∧ ∃ N : St → Hp → Prop, (∀ σ' H', N σ' H' → ∃ m', m' < m ∧ W (i + 1) m' σ' H') ∧ ∀ x H', (Itr lo n).yld i H x H' → g x σ H' fun σ2 H2 => tb { D with nx := N, ct := N, bk := D.nx } σ2 H2) := by
  refine ⟨fun i m σ H => m = n - i ∧ i ≤ n ∧ Pv i σ H, ⟨n, by simp, Nat.zero_le _, h0⟩, ?_⟩
  rintro i m σ H ⟨rfl, hi, p⟩
  by_cases hlt : i < n
  · refine .inr ⟨hlt, Pv (i + 1), fun σ' H' p' => ⟨n - (i + 1), by omega, rfl, hlt, p'⟩, fun x H' y => ?_⟩
    obtain ⟨e, y⟩ := y
    subst e y
    exact hs i σ _ hlt p
  · have e : i = n := by omega
    subst e
    exact .inl ⟨Nat.le_refl _, hd σ H p⟩
theorem while_by {c : TT} {tb : TS} {D : Ends} {σ : St} {H : Hp} (Pv : St → Hp → Prop) (μ : St → Hp → Nat) (h0 : Pv σ H)
    (hs : ∀ σ H, Pv σ H → c σ H fun b H1 => if b = true then tb { D with nx := fun σ' H' => Pv σ' H' ∧ μ σ' H' < μ σ H, ct := fun σ' H' => Pv σ' H' ∧ μ σ' H' < μ σ H, bk := D.nx } σ H1 else D.nx σ H1)
    (mono : ∀ σ H Q Q', (∀ b H1, Q b H1 → Q' b H1) → c σ H Q → c σ H Q') : tWhile c tb D σ H := by
  refine ⟨fun m σ H => m = μ σ H ∧ Pv σ H, ⟨_, rfl, h0⟩, ?_⟩
  rintro m σ H ⟨rfl, p⟩
  refine mono σ H _ _ (fun b H1 q => ?_) (hs σ H p)
  cases b with
  | true => exact ⟨_, fun σ' H' ⟨p', l⟩ => ⟨_, l, rfl, p'⟩, q⟩
  | false => exact q
end L2
namespace L2
open PySem PySem.Spec PyProof.Rows
abbrev R2 := V → V → Hp → VK → Prop
def OpR (X : Cx) (f : Value → Value → Sem Value) (r : R2) : Prop :=
  ∀ (pins : List (Addr × Obj)) (s : Shared) (σ : St) (H : Hp) (x y : V) (v u : Value) (Q : VK), Inv X pins σ H s → RelV x v → RelV y u → r x y H Q →
    wpAny (model X.prog X.w) X.A (f v u) (EP X pins σ Q) X.xe s
def UnR (X : Cx) (f : Value → Sem Value) (r : V → Hp → VK → Prop) : Prop :=
  ∀ (pins : List (Addr × Obj)) (s : Shared) (σ : St) (H : Hp) (x : V) (v : Value) (Q : VK), Inv X pins σ H s → RelV x v → r x H Q →
    wpAny (model X.prog X.w) X.A (f v) (EP X pins σ Q) X.xe s
def CallR (X : Cx) (f : Value) (r : List V → Hp → VK → Prop) : Prop :=
  ∀ (pins : List (Addr × Obj)) (s : Shared) (σ : St) (H : Hp) (xs : List V) (us : List Value) (Q : VK), Inv X pins σ H s → Vals xs us → r xs H Q →
    wpAny (model X.prog X.w) X.A (call f us) (EP X pins σ Q) X.xe s
def TruR (X : Cx) (r : V → Hp → (Bool → Hp → Prop) → Prop) : Prop :=
  ∀ (pins : List (Addr × Obj)) (s : Shared) (σ : St) (H : Hp) (x : V) (v : Value) (Q : Bool → Hp → Prop), Inv X pins σ H s → RelV x v → r x H Q →
    wpAny (model X.prog X.w) X.A (truthy v) (TP X pins σ Q) X.xe s
def tOp (r : R2) (ta tb : TE) : TE := fun σ H Q => ta σ H fun x H1 => tb σ H1 fun y H2 => r x y H2 Q
def tUn (r : V → Hp → VK → Prop) (ta : TE) : TE := fun σ H Q => ta σ H fun x H1 => r x H1 Q
def rI (C : Int → Int → Prop) (g : Int → Int → V) : R2 := fun x y H Q => ∃ i j, x = .int i ∧ y = .int j ∧ C i j ∧ Q (g i j) H
def rI0 (g : Int → Int → V) : R2 := fun x y H Q => ∃ i j, x = .int i ∧ y = .int j ∧ Q (g i j) H
def rU (g : Int → V) : V → Hp → VK → Prop := fun x H Q => ∃ i, x = .int i ∧ Q (g i) H
section
variable {X : Cx} {a b c : Expr} {ta tb tc : TE} {pos : Pos}
theorem binT (ha : PE X a ta) (hb : PE X b tb) {pins : List (Addr × Obj)} {s : Shared} {σ : St} {H : Hp} {R : V → V → Hp → Prop} (I : Inv X pins σ H s)
    (h : ta σ H fun x H1 => tb σ H1 fun y H2 => R x y H2) {Q : Value → Shared → Prop} {f : Value → Value → Sem Value}
    (hf : ∀ v u s2 x y H2, Inv X pins σ H2 s2 → RelV x v → RelV y u → R x y H2 → wpAny (model X.prog X.w) X.A (f v u) Q X.xe s2) :
    wpAny (model X.prog X.w) X.A (eval a X.env) (fun v s₁ => wpAny (model X.prog X.w) X.A (eval b X.env) (fun u s₂ => wpAny (model X.prog X.w) X.A (f v u) Q X.xe s₂) X.xe s₁) X.xe s := by
  refine thn (ha pins s σ H _ I h) fun v s1 ⟨x, H1, I1, r1, q1⟩ => ?_
  refine thn (hb pins s1 σ H1 _ I1 q1) fun u s2 ⟨y, H2, I2, r2, q2⟩ => ?_
  exact hf v u s2 x y H2 I2 r1 r2 q2
theorem pe_op {op : Operator} {r : R2} (ho : OpR X (binaryOp op) r) (ha : PE X a ta) (hb : PE X b tb) : PE X (.BinOp a op b pos) (tOp r ta tb) := by
  intro pins s σ H Q I h
  exact wpAny_BinOp (binT ha hb I h fun v u s2 x y H2 I2 rx ry q => ho pins s2 σ H2 x y v u Q I2 rx ry q)
theorem pe_un {op : UnaryOp} {r : V → Hp → VK → Prop} (ho : UnR X (unaryOp op) r) (ha : PE X a ta) : PE X (.UnaryOp op a pos) (tUn r ta) := by
  intro pins s σ H Q I h
  exact UnaryOp_ (thn (ha pins s σ H _ I h) fun v s1 ⟨x, H1, I1, r1, q1⟩ => ho pins s1 σ H1 x v Q I1 r1 q1)
theorem augR {op : Operator} {r : R2} (ho : OpR X (inplaceOp op) r) {pins : List (Addr × Obj)} {s : Shared} {σ : St} {H : Hp} {x y : V} {v u : Value} {Q : VK} (I : Inv X pins σ H s)
    (rx : RelV x v) (ry : RelV y u) (q : r x y H Q) : wpAny (model X.prog X.w) X.A (inplaceOp op v u) (EP X pins σ Q) X.xe s := ho pins s σ H x y v u Q I rx ry q
theorem opI {f : Value → Value → Sem Value} {C : Int → Int → Prop} {g : Int → Int → Int}
    (rule : ∀ (i j : Int) (t u : Tok) (s : Shared) (Q : Value → Shared → Prop) (E : Value → Shared → Prop), C i j → Q (.int (g i j) s.toks) { s with toks := s.toks + 1 } → wpAny (model X.prog X.w) X.A (f (.int i t) (.int j u)) Q E s) :
    OpR X f (rI C fun i j => .int (g i j)) := by
  intro pins s σ H x y v u Q I rx ry h
  obtain ⟨i, j, rfl, rfl, hc, q⟩ := h
  obtain ⟨t, rfl⟩ := rx
  obtain ⟨t', rfl⟩ := ry
  exact rule i j t t' s _ _ hc ⟨.int (g i j), H, I.tok _, ⟨_, rfl⟩, q⟩
theorem opI0 {f : Value → Value → Sem Value} {g : Int → Int → Int}
    (rule : ∀ (i j : Int) (t u : Tok) (s : Shared) (Q : Value → Shared → Prop) (E : Value → Shared → Prop), Q (.int (g i j) s.toks) { s with toks := s.toks + 1 } → wpAny (model X.prog X.w) X.A (f (.int i t) (.int j u)) Q E s) :
    OpR X f (rI0 fun i j => .int (g i j)) := by
  intro pins s σ H x y v u Q I rx ry h
  obtain ⟨i, j, rfl, rfl, q⟩ := h
  obtain ⟨t, rfl⟩ := rx
  obtain ⟨t', rfl⟩ := ry
  exact rule i j t t' s _ _ ⟨.int (g i j), H, I.tok _, ⟨_, rfl⟩, q⟩
theorem opB0 {f : Value → Value → Sem Value} {g : Int → Int → Bool}
    (rule : ∀ (i j : Int) (t u : Tok) (s : Shared) (Q : Value → Shared → Prop) (E : Value → Shared → Prop), Q (.bool (g i j)) s → wpAny (model X.prog X.w) X.A (f (.int i t) (.int j u)) Q E s) :
    OpR X f (rI0 fun i j => .bl (g i j)) := by
  intro pins s σ H x y v u Q I rx ry h
  obtain ⟨i, j, rfl, rfl, q⟩ := h
  obtain ⟨t, rfl⟩ := rx
  obtain ⟨t', rfl⟩ := ry
  exact rule i j t t' s _ _ ⟨.bl (g i j), H, I, rfl, q⟩
def CDiv (i j : Int) : Prop := 0 < j ∧ j < 1073741824
def CDivN (i j : Int) : Prop := j ≠ 0 ∧ j.natAbs < 1073741824
def CPow (i j : Int) : Prop := 0 ≤ j ∧ j ≤ 1000000 ∧ i.natAbs < 2 ^ 64
def CMul (i j : Int) : Prop := (-(2 ^ 64) < i ∧ i < 2 ^ 64) ∨ (-(2 ^ 64) < j ∧ j < 2 ^ 64)
theorem CMul.ok {i j : Int} (h : CMul i j) : IntMulOk i j := by
  rcases h with ⟨h1, h2⟩ | ⟨h1, h2⟩
  · exact .of_left (intBits_le_64 h1 h2)
  · exact .of_right (intBits_le_64 h1 h2)
theorem two_pow_nn (k : Nat) : (0 : Int) ≤ 2 ^ k := by
  rw [two_pow_cast]
  exact Int.natCast_nonneg _
theorem op_add : OpR X (binaryOp .Add) (rI0 fun i j => .int (i + j)) := opI0 fun _ _ _ _ _ _ _ q => add_int q
theorem op_sub : OpR X (binaryOp .Sub) (rI0 fun i j => .int (i - j)) := opI0 fun _ _ _ _ _ _ _ q => sub_int q
theorem op_mul : OpR X (binaryOp .Mult) (rI CMul fun i j => .int (i * j)) := opI fun _ _ _ _ _ _ _ hc q => mul_int q hc.ok
theorem op_fdiv : OpR X (binaryOp .FloorDiv) (rI CDiv fun i j => .int (i / j)) := opI fun i j _ _ _ _ _ hc q => by
  have h1 : (0 : Int) < j := hc.1
  have h2 : j < 1073741824 := hc.2
  exact floordiv_int (by omega) (by rw [Int.fdiv_eq_ediv_of_nonneg i (by omega)]; exact q) (.inl (PyProof.noPylong_small (by omega)))
theorem op_fdivN : OpR X (binaryOp .FloorDiv) (rI CDivN fun i j => .int (i.fdiv j)) := opI fun _ _ _ _ _ _ _ hc q => floordiv_int hc.1 q (.inl (PyProof.noPylong_small hc.2))
theorem op_mod : OpR X (binaryOp .Mod) (rI (fun _ j => 0 < j) fun i j => .int (i % j)) := opI fun i j _ _ _ _ _ hc q => by
  have h1 : (0 : Int) < j := hc
  exact mod_int' (by omega) (by rw [Int.fmod_eq_emod_of_nonneg i (by omega)]; exact q)
theorem op_modN : OpR X (binaryOp .Mod) (rI (fun _ j => j ≠ 0) fun i j => .int (i.fmod j)) := opI fun _ _ _ _ _ _ _ hc q => mod_int' hc q
theorem op_pow : OpR X (binaryOp .Pow) (rI CPow fun i j => .int (i ^ j.toNat)) := opI fun _ _ _ _ _ _ _ hc q => pow_int_small hc.1 hc.2.1 hc.2.2 q
theorem op_shl : OpR X (binaryOp .LShift) (rI CPow fun i j => .int (i * 2 ^ j.toNat)) := opI fun _ _ _ _ _ _ _ hc q => lshift_int_small hc.1 hc.2.1 hc.2.2 q
theorem op_shr : OpR X (binaryOp .RShift) (rI (fun _ j => 0 ≤ j) fun i j => .int (i / 2 ^ j.toNat)) := opI fun i j _ _ _ _ _ hc q =>
  rshift_int hc (by rw [Int.fdiv_eq_ediv_of_nonneg i (two_pow_nn _)]; exact q)
theorem op_and : OpR X (binaryOp .BitAnd) (rI0 fun i j => .int (Builtin.bitAnd i j)) := opI0 fun _ _ _ _ _ _ _ q => and_int q
theorem op_or : OpR X (binaryOp .BitOr) (rI0 fun i j => .int (Builtin.bitOr i j)) := opI0 fun _ _ _ _ _ _ _ q => or_int q
theorem op_xor : OpR X (binaryOp .BitXor) (rI0 fun i j => .int (Builtin.bitXor i j)) := opI0 fun _ _ _ _ _ _ _ q => xor_int q
theorem iop_add : OpR X (inplaceOp .Add) (rI0 fun i j => .int (i + j)) := opI0 fun _ _ _ _ _ _ _ q => iadd_int q
theorem iop_sub : OpR X (inplaceOp .Sub) (rI0 fun i j => .int (i - j)) := opI0 fun _ _ _ _ _ _ _ q => isub_int q
theorem iop_mul : OpR X (inplaceOp .Mult) (rI CMul fun i j => .int (i * j)) := opI fun _ _ _ _ _ _ _ hc q => imul_int q hc.ok
theorem iop_fdiv : OpR X (inplaceOp .FloorDiv) (rI CDiv fun i j => .int (i / j)) := opI fun i j _ _ _ _ _ hc q => by
  have h1 : (0 : Int) < j := hc.1
  have h2 : j < 1073741824 := hc.2
  exact ifloordiv_int (by omega) (by rw [Int.fdiv_eq_ediv_of_nonneg i (by omega)]; exact q) (.inl (PyProof.noPylong_small (by omega)))
theorem iop_mod : OpR X (inplaceOp .Mod) (rI (fun _ j => 0 < j) fun i j => .int (i % j)) := opI fun i j _ _ _ _ _ hc q => by
  have h1 : (0 : Int) < j := hc
  exact imod_int (by omega) (by rw [Int.fmod_eq_emod_of_nonneg i (by omega)]; exact q)
theorem iop_shl : OpR X (inplaceOp .LShift) (rI CPow fun i j => .int (i * 2 ^ j.toNat)) := opI fun _ _ _ _ _ _ _ hc q => ilshift_int_small hc.1 hc.2.1 hc.2.2 q
theorem iop_shr : OpR X (inplaceOp .RShift) (rI (fun _ j => 0 ≤ j) fun i j => .int (i / 2 ^ j.toNat)) := opI fun i j _ _ _ _ _ hc q =>
  irshift_int hc (by rw [Int.fdiv_eq_ediv_of_nonneg i (two_pow_nn _)]; exact q)
theorem iop_and : OpR X (inplaceOp .BitAnd) (rI0 fun i j => .int (Builtin.bitAnd i j)) := opI0 fun _ _ _ _ _ _ _ q => iand_int q
theorem iop_or : OpR X (inplaceOp .BitOr) (rI0 fun i j => .int (Builtin.bitOr i j)) := opI0 fun _ _ _ _ _ _ _ q => ior_int q
theorem iop_xor : OpR X (inplaceOp .BitXor) (rI0 fun i j => .int (Builtin.bitXor i j)) := opI0 fun _ _ _ _ _ _ _ q => ixor_int q
theorem unI {f : Value → Sem Value} {g : Int → Int}
    (rule : ∀ (i : Int) (t : Tok) (s : Shared) (Q : Value → Shared → Prop) (E : Value → Shared → Prop), Q (.int (g i) s.toks) { s with toks := s.toks + 1 } → wpAny (model X.prog X.w) X.A (f (.int i t)) Q E s) :
    UnR X f (rU fun i => .int (g i)) := by
  intro pins s σ H x v Q I rx h
  obtain ⟨i, rfl, q⟩ := h
  obtain ⟨t, rfl⟩ := rx
  exact rule i t s _ _ ⟨.int (g i), H, I.tok _, ⟨_, rfl⟩, q⟩
theorem un_neg : UnR X (unaryOp .USub) (rU fun i => .int (-i)) := unI fun _ _ _ _ _ q => neg_int q
theorem un_inv : UnR X (unaryOp .Invert) (rU fun i => .int (Builtin.bitNot i)) := unI fun _ _ _ _ _ q => invert_int q
theorem op_add_ib : OpR X (binaryOp .Add) (fun x y H Q => ∃ i k, x = .int i ∧ y = .bl k ∧ Q (.int (i + b2i k)) H) := by
  intro pins s σ H x y v u Q I rx ry h
  obtain ⟨i, k, rfl, rfl, q⟩ := h
  obtain ⟨t, rfl⟩ := rx
  cases ry
  exact add_int_bool ⟨.int (i + b2i k), H, I.tok _, ⟨_, rfl⟩, q⟩
end
def scal : V → V → Bool
  | .non, .non => true | .non, .int _ => true | .int _, .non => true | .non, .bl _ => true | .bl _, .non => true | .non, .str _ => true | .str _, .non => true
  | .int _, .int _ => true | .bl _, .bl _ => true | .str _, .str _ => true | .byt _, .byt _ => true
  | .int _, .str _ => true | .str _, .int _ => true | .bl _, .str _ => true | .str _, .bl _ => true
  | _, _ => false
def rEq : R2 := fun x y H Q => scal x y = true ∧ Q (.bl (decide (x = y))) H
def rNe : R2 := fun x y H Q => scal x y = true ∧ Q (.bl (!decide (x = y))) H
theorem dec_int {i j : Int} : decide (V.int i = V.int j) = (i == j) := by
  rw [Bool.eq_iff_iff]
  simp
theorem dec_bl {i j : Bool} : decide (V.bl i = V.bl j) = (i == j) := by
  rw [Bool.eq_iff_iff]
  simp
theorem dec_str {i j : Str} : decide (V.str i = V.str j) = (i == j) := by
  rw [Bool.eq_iff_iff]
  simp
theorem dec_byt {i j : Array UInt8} : decide (V.byt i = V.byt j) = (i.toList == j.toList) := by
  rw [Bool.eq_iff_iff]
  cases i
  cases j
  simp
section
variable {X : Cx} {a b c : Expr} {ta tb tc : TE} {pos : Pos}
theorem fin_bl {pins : List (Addr × Obj)} {σ : St} {H : Hp} {s : Shared} {Q : VK} {k k' : Bool} (I : Inv X pins σ H s) (q : Q (.bl k) H) (e : k = k') : EP X pins σ Q (.bool k') s := by
  subst e
  exact ⟨.bl k, H, I, rfl, q⟩
theorem op_eq : OpR X (compareOp .Eq) rEq := by
  intro pins s σ H x y v u Q I rx ry h
  obtain ⟨hs, q⟩ := h
  cases x with
  | non =>
    cases rx
    cases y with
    | non => cases ry; exact PySem.EqNone.eq_none_none (fin_bl I q (by simp))
    | bl j => cases ry; exact PySem.EqNone.eq_none_bool (fin_bl I q (by simp))
    | int j => obtain ⟨t', rfl⟩ := ry; exact PySem.EqNone.eq_none_int (fin_bl I q (by simp))
    | str j => obtain ⟨t', rfl⟩ := ry; exact PySem.EqNone.eq_none_str (fin_bl I q (by simp))
    | _ => exact absurd (show false = true from hs) Bool.false_ne_true
  | bl i =>
    cases rx
    cases y with
    | non => cases ry; exact PySem.EqNone.eq_bool_none (fin_bl I q (by simp))
    | bl j => cases ry; exact eq_bool (fin_bl I q dec_bl)
    | str j => obtain ⟨t', rfl⟩ := ry; exact PySem.EqMixed.eq_bool_str (fin_bl I q (by simp))
    | _ => exact absurd (show false = true from hs) Bool.false_ne_true
  | int i =>
    obtain ⟨t, rfl⟩ := rx
    cases y with
    | non => cases ry; exact PySem.EqNone.eq_int_none (fin_bl I q (by simp))
    | int j => obtain ⟨t', rfl⟩ := ry; exact eq_int (fin_bl I q dec_int)
    | str j => obtain ⟨t', rfl⟩ := ry; exact PySem.EqMixed.eq_int_str (fin_bl I q (by simp))
    | _ => exact absurd (show false = true from hs) Bool.false_ne_true
  | str i =>
    obtain ⟨t, rfl⟩ := rx
    cases y with
    | non => cases ry; exact PySem.EqNone.eq_str_none (fin_bl I q (by simp))
    | bl j => cases ry; exact PySem.EqMixed.eq_str_bool (fin_bl I q (by simp))
    | int j => obtain ⟨t', rfl⟩ := ry; exact PySem.EqMixed.eq_str_int (fin_bl I q (by simp))
    | str j => obtain ⟨t', rfl⟩ := ry; exact eq_str (fin_bl I q dec_str)
    | _ => exact absurd (show false = true from hs) Bool.false_ne_true
  | byt i =>
    obtain ⟨t, rfl⟩ := rx
    cases y with
    | byt j => obtain ⟨t', rfl⟩ := ry; exact PySem.W.eq_bytes (fin_bl I q dec_byt)
    | _ => exact absurd (show false = true from hs) Bool.false_ne_true
  | _ => cases y <;> exact absurd (show false = true from hs) Bool.false_ne_true
theorem op_ne : OpR X (compareOp .NotEq) rNe := by
  intro pins s σ H x y v u Q I rx ry h
  obtain ⟨hs, q⟩ := h
  cases x with
  | non =>
    cases rx
    cases y with
    | non => cases ry; exact PySem.EqNone.ne_none_none (fin_bl I q (by simp))
    | bl j => cases ry; exact PySem.EqNone.ne_none_bool (fin_bl I q (by simp))
    | int j => obtain ⟨t', rfl⟩ := ry; exact PySem.EqNone.ne_none_int (fin_bl I q (by simp))
    | str j => obtain ⟨t', rfl⟩ := ry; exact PySem.EqNone.ne_none_str (fin_bl I q (by simp))
    | _ => exact absurd (show false = true from hs) Bool.false_ne_true
  | bl i =>
    cases rx
    cases y with
    | non => cases ry; exact PySem.EqNone.ne_bool_none (fin_bl I q (by simp))
    | bl j => cases ry; exact ne_bool (fin_bl I q (congrArg not dec_bl))
    | str j => obtain ⟨t', rfl⟩ := ry; exact PySem.EqMixed.ne_bool_str (fin_bl I q (by simp))
    | _ => exact absurd (show false = true from hs) Bool.false_ne_true
  | int i =>
    obtain ⟨t, rfl⟩ := rx
    cases y with
    | non => cases ry; exact PySem.EqNone.ne_int_none (fin_bl I q (by simp))
    | int j => obtain ⟨t', rfl⟩ := ry; exact ne_int (fin_bl I q (congrArg not dec_int))
    | str j => obtain ⟨t', rfl⟩ := ry; exact PySem.EqMixed.ne_int_str (fin_bl I q (by simp))
    | _ => exact absurd (show false = true from hs) Bool.false_ne_true
  | str i =>
    obtain ⟨t, rfl⟩ := rx
    cases y with
    | non => cases ry; exact PySem.EqNone.ne_str_none (fin_bl I q (by simp))
    | bl j => cases ry; exact PySem.EqMixed.ne_str_bool (fin_bl I q (by simp))
    | int j => obtain ⟨t', rfl⟩ := ry; exact PySem.EqMixed.ne_str_int (fin_bl I q (by simp))
    | str j => obtain ⟨t', rfl⟩ := ry; exact ne_str (fin_bl I q (congrArg not dec_str))
    | _ => exact absurd (show false = true from hs) Bool.false_ne_true
  | byt i =>
    obtain ⟨t, rfl⟩ := rx
    cases y with
    | byt j => obtain ⟨t', rfl⟩ := ry; exact PySem.W.ne_bytes (fin_bl I q (congrArg not dec_byt))
    | _ => exact absurd (show false = true from hs) Bool.false_ne_true
  | _ => cases y <;> exact absurd (show false = true from hs) Bool.false_ne_true
theorem op_lt : OpR X (compareOp .Lt) (rI0 fun i j => .bl (decide (i < j))) := opB0 fun _ _ _ _ _ _ _ q => lt_int q
theorem op_le : OpR X (compareOp .LtE) (rI0 fun i j => .bl (decide (i ≤ j))) := opB0 fun _ _ _ _ _ _ _ q => le_int q
theorem op_gt : OpR X (compareOp .Gt) (rI0 fun i j => .bl (decide (j < i))) := opB0 fun _ _ _ _ _ _ _ q => gt_int q
theorem op_ge : OpR X (compareOp .GtE) (rI0 fun i j => .bl (decide (j ≤ i))) := opB0 fun _ _ _ _ _ _ _ q => ge_int q
theorem op_lt_str : OpR X (compareOp .Lt) (fun x y H Q => ∃ i j, x = .str i ∧ y = .str j ∧ Q (.bl (decide (i.cps.toList < j.cps.toList))) H) := by
  intro pins s σ H x y v u Q I rx ry h
  obtain ⟨i, j, rfl, rfl, q⟩ := h
  obtain ⟨t, rfl⟩ := rx
  obtain ⟨t', rfl⟩ := ry
  exact lt_str (fin_bl I q rfl)
theorem op_in_str : OpR X (compareOp .In) (fun x y H Q => ∃ i j, x = .str i ∧ y = .str j ∧ Q (.bl (!(Builtin.Str.occurrences j i 0 j.length 1).isEmpty)) H) := by
  intro pins s σ H x y v u Q I rx ry h
  obtain ⟨i, j, rfl, rfl, q⟩ := h
  obtain ⟨t, rfl⟩ := rx
  obtain ⟨t', rfl⟩ := ry
  exact in_str (fin_bl I q rfl)
theorem op_isN : OpR X (compareOp .Is) (fun x y H Q => y = .non ∧ Q (.bl (decide (x = .non))) H) := by
  intro pins s σ H x y v u Q I rx ry h
  obtain ⟨rfl, q⟩ := h
  cases ry
  refine is_none_gen (fin_bl I q ?_)
  cases x <;> first
    | (cases rx; rfl)
    | (obtain ⟨t, rfl⟩ := rx; rfl)
theorem op_notN : OpR X (compareOp .IsNot) (fun x y H Q => y = .non ∧ Q (.bl (!decide (x = .non))) H) := by
  intro pins s σ H x y v u Q I rx ry h
  obtain ⟨rfl, q⟩ := h
  cases ry
  refine isnot_none_gen (fin_bl I q ?_)
  cases x <;> first
    | (cases rx; rfl)
    | (obtain ⟨t, rfl⟩ := rx; rfl)
theorem op_notin_str : OpR X (compareOp .NotIn) (fun x y H Q => ∃ i j, x = .str i ∧ y = .str j ∧ Q (.bl (!(!(Builtin.Str.occurrences j i 0 j.length 1).isEmpty))) H) := by
  intro pins s σ H x y v u Q I rx ry h
  obtain ⟨i, j, rfl, rfl, q⟩ := h
  obtain ⟨t, rfl⟩ := rx
  obtain ⟨t', rfl⟩ := ry
  exact notIn_str (fin_bl I q rfl)
def isObj : HO → Bool
  | .lst _ => true
  | .ins _ _ _ => true
  | _ => false
theorem obj_there {pins : List (Addr × Obj)} {s : Shared} {σ : St} {H : Hp} {a : Addr} {o : HO} (I : Inv X pins σ H s) (h : H a = some o) (p : isObj o = true) : ∃ ob, s.heap.get? a = some ob ∧ ob.cls ≠ .type "tuple" := by
  cases o with
  | lst xs =>
    obtain ⟨_, its, n, _, e⟩ : xs.length ≤ sizeLine ∧ ∃ (its : List Value) (n : Nat), Vals xs its ∧ s.heap.get? a = some { cls := .type "list", data := .seq its.toArray n } := I.hok a _ h
    exact ⟨_, e, (by show Value.type "list" ≠ .type "tuple"; decide +kernel)⟩
  | ins C dx fs =>
    have x := I.hok a _ h
    obtain ⟨_, _, _, e, _⟩ := x
    exact ⟨_, e, (by show Value.ref C ≠ .type "tuple"; exact fun z => by cases z)⟩
  | _ => exact absurd (show false = true from p) Bool.false_ne_true
theorem op_is_ref : OpR X (compareOp .Is) (fun x y H Q => ∃ a b oa ob, x = .ref a ∧ y = .ref b ∧ H a = some oa ∧ isObj oa = true ∧ H b = some ob ∧ isObj ob = true ∧ Q (.bl (decide (a = b))) H) := by
  intro pins s σ H x y v u Q I rx ry h
  obtain ⟨a, b, oa, ob, rfl, rfl, ha, pa, hb, pb, q⟩ := h
  cases rx
  cases ry
  obtain ⟨o1, e1, n1⟩ := obj_there I ha pa
  obtain ⟨o2, e2, _⟩ := obj_there I hb pb
  by_cases z : a = b
  · subst z
    exact wpAny_is_ref_self (fin_bl I q (by simp))
  · exact wpAny_is_ref_other z e1 e2 n1 (fin_bl I q (by simp [z]))
theorem op_isnot_ref : OpR X (compareOp .IsNot) (fun x y H Q => ∃ a b oa ob, x = .ref a ∧ y = .ref b ∧ H a = some oa ∧ isObj oa = true ∧ H b = some ob ∧ isObj ob = true ∧ Q (.bl (!decide (a = b))) H) := by
  intro pins s σ H x y v u Q I rx ry h
  obtain ⟨a, b, oa, ob, rfl, rfl, ha, pa, hb, pb, q⟩ := h
  cases rx
  cases ry
  obtain ⟨o1, e1, n1⟩ := obj_there I ha pa
  obtain ⟨o2, e2, _⟩ := obj_there I hb pb
  by_cases z : a = b
  · subst z
    exact wpAny_isNot_ref_self (fin_bl I q (by simp))
  · exact wpAny_isNot_ref_other z e1 e2 n1 (fin_bl I q (by simp [z]))
theorem OpR.or {f : Value → Value → Sem Value} {r r' : R2} (h : OpR X f r) (h' : OpR X f r') : OpR X f (fun x y H Q => r x y H Q ∨ r' x y H Q) := by
  intro pins s σ H x y v u Q I rx ry q
  rcases q with q | q
  · exact h pins s σ H x y v u Q I rx ry q
  · exact h' pins s σ H x y v u Q I rx ry q
theorem nomark (b : Expr) {op : CmpOp} (h : op ≠ .In := by decide) (h2 : op ≠ .NotIn := by decide) : behindInMarks op b = false := by
  have e1 : (op == CmpOp.In) = false := by cases op <;> first | rfl | exact absurd rfl h
  have e2 : (op == CmpOp.NotIn) = false := by cases op <;> first | rfl | exact absurd rfl h2
  cases b <;> simp [behindInMarks, e1, e2]
theorem pe_cmpR {op : CmpOp} {r : R2} (ho : OpR X (compareOp op) r) (ha : PE X a ta) (hb : PE X b tb) (hm : behindInMarks op b = false) : PE X (.Compare a [op] [b] pos) (tOp r ta tb) := by
  intro pins s σ H Q I h
  exact wpAny_Compare1 (binT ha hb I h fun v u s2 x y H2 I2 rx ry q => ho pins s2 σ H2 x y v u Q I2 rx ry q) hm
def tTest (t : TE) : TT := fun σ H Q => t σ H fun x H' => ∃ k, x = .bl k ∧ Q k H'
theorem pt_cmpR {op : CmpOp} {r : R2} (ho : OpR X (compareOp op) r) (ha : PE X a ta) (hb : PE X b tb) (hm : behindInMarks op b = false) : PT X (.Compare a [op] [b] pos) (tTest (tOp r ta tb)) := by
  intro pins s σ H Q I h
  refine wpAny_isTrue_Compare1 (thn (ha pins s σ H _ I h) fun v s1 ⟨x, H1, I1, r1, q1⟩ => thn (hb pins s1 σ H1 _ I1 q1) fun u s2 ⟨y, H2, I2, r2, q2⟩ =>
    thn (ho pins s2 σ H2 x y v u _ I2 r1 r2 q2) fun c s3 ⟨z, H3, I3, r3, k, e, q3⟩ => ?_) hm
  subst e
  cases r3
  exact wpAny_truthy_bool ⟨H3, I3, q3⟩
def tChain (r r' : R2) (ta tb tc : TE) : TE := fun σ H Q => ta σ H fun x H1 => tb σ H1 fun y H2 => r x y H2 fun z H3 => ∃ k, z = .bl k ∧
  (if k = true then tc σ H3 fun w' H4 => r' y w' H4 Q else Q (.bl false) H3)
theorem pe_chain {op op' : CmpOp} {r r' : R2} (ho : OpR X (compareOp op) r) (ho' : OpR X (compareOp op') r') (ha : PE X a ta) (hb : PE X b tb) (hc : PE X c tc)
    (hm : lastMarks [op, op'] [b, c] = false := by with_unfolding_all rfl) : PE X (.Compare a [op, op'] [b, c] pos) (tChain r r' ta tb tc) := by
  intro pins s σ H Q I h
  refine Compare_chain (thn (ha pins s σ H _ I h) fun v s1 ⟨x, H1, I1, r1, q1⟩ => chain_link (thn (hb pins s1 σ H1 _ I1 q1) fun u s2 ⟨y, H2, I2, r2, q2⟩ =>
    thn (ho pins s2 σ H2 x y v u _ I2 r1 r2 q2) fun d s3 ⟨z, H3, I3, r3, k, e, q3⟩ => ?_)) hm
  subst e
  cases r3
  refine wpAny_truthy_bool ?_
  cases k with
  | false => exact ite_ff ⟨.bl false, H3, I3, rfl, q3⟩
  | true => exact ite_tt (chain_last (thn (hc pins s3 σ H3 _ I3 q3) fun w' s4 ⟨z', H4, I4, r4, q4⟩ => ho' pins s4 σ H4 y z' u w' Q I4 r2 r4 q4))
theorem pt_chain {op op' : CmpOp} {r r' : R2} (ho : OpR X (compareOp op) r) (ho' : OpR X (compareOp op') r') (ha : PE X a ta) (hb : PE X b tb) (hc : PE X c tc)
    (hm : lastMarks [op, op'] [b, c] = false := by with_unfolding_all rfl) : PT X (.Compare a [op, op'] [b, c] pos) (tTest (tChain r r' ta tb tc)) := by
  intro pins s σ H Q I h
  refine isTrue_chain (thn (ha pins s σ H _ I h) fun v s1 ⟨x, H1, I1, r1, q1⟩ => test_link (thn (hb pins s1 σ H1 _ I1 q1) fun u s2 ⟨y, H2, I2, r2, q2⟩ =>
    thn (ho pins s2 σ H2 x y v u _ I2 r1 r2 q2) fun d s3 ⟨z, H3, I3, r3, k, e, q3⟩ => ?_)) hm
  subst e
  cases r3
  refine wpAny_truthy_bool ?_
  cases k with
  | false =>
    obtain ⟨k', e', q'⟩ := q3
    cases e'
    exact ite_ff ⟨H3, I3, q'⟩
  | true =>
    refine ite_tt (test_last (thn (hc pins s3 σ H3 _ I3 q3) fun w' s4 ⟨z', H4, I4, r4, q4⟩ => thn (ho' pins s4 σ H4 y z' u w' _ I4 r2 r4 q4) fun d' s5 ⟨z2, H5, I5, r5, k2, e2, q5⟩ => ?_))
    subst e2
    cases r5
    exact wpAny_truthy_bool ⟨H5, I5, q5⟩
def TruV (K : PySem.W.Frag) (x : V) (H : Hp) (k : Bool) : Prop :=
  match x with
  | .non => k = false
  | .bl b => k = b
  | .int i => k = (i != 0)
  | .str y => y.length ≤ sizeLine ∧ k = ((y.length : Int) != 0)
  | .byt y => y.size ≤ sizeLine ∧ k = ((y.size : Int) != 0)
  | .ref p => (∃ xs, SqL K H p xs ∧ k = !xs.isEmpty) ∨ (∃ xs, SqT K H p xs ∧ k = !xs.isEmpty) ∨ ∃ kvs, H p = some (.dK kvs) ∧ k = !kvs.isEmpty
  | _ => False
theorem isEmpty_kv {κ : Type} {kvs : List (κ × V)} {vs : List (κ × Value)} (r : KV kvs vs) : (!vs.isEmpty) = !kvs.isEmpty := by
  cases r <;> rfl
theorem isEmpty_of {xs : List V} {its : List Value} (r : Vals xs its) : (!its.toArray.isEmpty) = !xs.isEmpty := by
  cases r <;> simp
theorem line63 : (sizeLine : Nat) < 2 ^ 63 := by rw [sizeLine_eq]; decide
theorem tru_ok : TruR X (fun x H Q => ∃ k, TruV X.K x H k ∧ Q k H) := by
  intro pins s σ H x v Q I rx h
  obtain ⟨k, e, q⟩ := h
  have hl := line63
  have hs : sizeLine = 16777216 := sizeLine_eq
  cases x with
  | non =>
    cases rx
    have e' : k = false := e
    subst e'
    exact truthy_none ⟨H, I, q⟩
  | bl b =>
    cases rx
    have e' : k = b := e
    subst e'
    exact wpAny_truthy_bool ⟨H, I, q⟩
  | int i =>
    obtain ⟨t, rfl⟩ := rx
    have e' : k = (i != 0) := e
    subst e'
    exact PySem.P.truthy_int ⟨H, I, q⟩
  | str y =>
    obtain ⟨t, rfl⟩ := rx
    obtain ⟨hy, e'⟩ : y.length ≤ sizeLine ∧ k = ((y.length : Int) != 0) := e
    subst e'
    exact PySem.P.truthy_str (by omega) ⟨H, I.tok _, q⟩
  | byt y =>
    obtain ⟨t, rfl⟩ := rx
    obtain ⟨hy, e'⟩ : y.size ≤ sizeLine ∧ k = ((y.size : Int) != 0) := e
    subst e'
    exact PySem.W.truthy_bytes (by omega) ⟨H, I.tok _, q⟩
  | ref p =>
    cases rx
    have e' : (∃ xs, SqL X.K H p xs ∧ k = !xs.isEmpty) ∨ (∃ xs, SqT X.K H p xs ∧ k = !xs.isEmpty) ∨ ∃ kvs, H p = some (.dK kvs) ∧ k = !kvs.isEmpty := e
    rcases e' with ⟨xs, hx, e'⟩ | ⟨xs, hx, e'⟩ | ⟨kvs, hx, e'⟩
    · subst e'
      obtain ⟨its, r, pl, hz⟩ := I.list hx
      have hlen := r.length
      exact wpAny_truthy_list pl.isList (by simp only [List.size_toArray]; omega) ⟨H, I.tok _, by rw [isEmpty_of r]; exact q⟩
    · subst e'
      obtain ⟨its, r, pl, hz⟩ := I.tuple hx
      have hlen := r.length
      exact truthy_tuple pl (by simp only [List.size_toArray]; omega) ⟨H, I.tok _, by rw [isEmpty_of r]; exact q⟩
    · subst e'
      obtain ⟨hz, hS, vs, r, m⟩ : kvs.length ≤ sizeLine ∧ (p == sysModules) = false ∧ ∃ vs, KV kvs vs ∧ s.heap.DictOf (mixKind X.prog X.w) p vs := I.hok p _ hx
      have hlen : kvs.length = vs.length := Paired.length r
      exact wpAny_truthy_dict hS m (by omega) ⟨H, I.tok _, by rw [isEmpty_kv r]; exact q⟩
  | _ => exact (show False from e).elim
theorem pt_truth (ha : PE X a ta) (he : ∀ whole, isTrue a X.env whole = (do let v ← whole; standAt a.pos; holding [v] (truthy v))) :
    PT X a (fun σ H Q => ta σ H fun x H' => ∃ k, TruV X.K x H' k ∧ Q k H') := by
  intro pins s σ H Q I h
  exact isTrue_plain (thn (ha pins s σ H _ I h) fun v s1 ⟨x, H1, I1, r1, q1⟩ => tru_ok pins s1 σ H1 x v Q I1 r1 q1) (he _)
theorem pe_byt {x : List UInt8} {k : Nat} : PE X (.Constant (.bytes x) k pos) (fun _ H Q => Q (.byt x.toArray) H) := fun _ _ _ H _ I h => PySem.W.Constant_bytes ⟨.byt x.toArray, H, I.tok _, ⟨_, rfl⟩, h⟩
theorem op_add_str : OpR X (binaryOp .Add) (fun x y H Q => ∃ i j, x = .str i ∧ y = .str j ∧ i.length + j.length ≤ sizeLine ∧ Q (.str (i ++ j)) H) := by
  intro pins s σ H x y v u Q I rx ry h
  obtain ⟨i, j, rfl, rfl, hz, q⟩ := h
  obtain ⟨t, rfl⟩ := rx
  obtain ⟨t', rfl⟩ := ry
  exact add_str (fun t' tk => ⟨.str (i ++ j), H, I.tok _, ⟨_, rfl⟩, q⟩) hz
theorem iop_add_str : OpR X (inplaceOp .Add) (fun x y H Q => ∃ i j, x = .str i ∧ y = .str j ∧ i.length + j.length ≤ sizeLine ∧ Q (.str (i ++ j)) H) := by
  intro pins s σ H x y v u Q I rx ry h
  obtain ⟨i, j, rfl, rfl, hz, q⟩ := h
  obtain ⟨t, rfl⟩ := rx
  obtain ⟨t', rfl⟩ := ry
  exact iadd_str (fun t' tk => ⟨.str (i ++ j), H, I.tok _, ⟨_, rfl⟩, q⟩) hz
theorem op_add_byt : OpR X (binaryOp .Add) (fun x y H Q => ∃ i j, x = .byt i ∧ y = .byt j ∧ i.size + j.size ≤ 16777216 ∧ Q (.byt (i ++ j)) H) := by
  intro pins s σ H x y v u Q I rx ry h
  obtain ⟨i, j, rfl, rfl, hz, q⟩ := h
  obtain ⟨t, rfl⟩ := rx
  obtain ⟨t', rfl⟩ := ry
  exact PySem.W.KBy.add_bytes hz (fun t' tk => ⟨.byt (i ++ j), H, I.tok _, ⟨_, rfl⟩, q⟩)
def PlainIxT (b : Expr) : Prop := ∀ o i, subscripted b false o i = operate [o, i] (getItem o i)
theorem pe_item_str (ha : PE X a ta) (hb : PE X b tb) (hs : PlainIxT b) :
    PE X (.Subscript a b pos) (tOp (fun x y H Q => ∃ z i c, x = .str z ∧ y = .int i ∧ 0 ≤ i ∧ i < 2 ^ 63 ∧ i < z.length ∧ z.cps[i.toNat]? = some c ∧ Q (.str ⟨#[c]⟩) H) ta tb) := by
  intro pins s σ H Q I h
  refine Subscript_ (binT ha hb I h fun v u s2 x y H2 I2 rx ry q => ?_)
  obtain ⟨z, i, c, rfl, rfl, h0, h63, h1, hc, q⟩ := q
  obtain ⟨t, rfl⟩ := rx
  obtain ⟨t', rfl⟩ := ry
  have e : seqIndex? i z.length = some i.toNat := PySem.StrLaws.seqIndex_nonneg h0 h1
  exact tail_any (typeIs_str s2 z t) slot_str_getitem.lookup (getItem_str (c := c) (by
    have e1 : decide (i < -(2 ^ 63 : Int)) = false := decide_eq_false (by omega)
    have e2 : decide (i ≥ 2 ^ 63) = false := decide_eq_false (by omega)
    rw [e1, e2] <;> rfl) (by rw [e]; exact hc) ⟨.str ⟨#[c]⟩, H2, I2.tok _, ⟨_, rfl⟩, q⟩) (hs _ _)
theorem pe_item_byt (ha : PE X a ta) (hb : PE X b tb) (hs : PlainIxT b) :
    PE X (.Subscript a b pos) (tOp (fun x y H Q => ∃ (z : List UInt8) (i : Int), x = .byt z.toArray ∧ y = .int i ∧ z.length ≤ sizeLine ∧ 0 ≤ i ∧ i < z.length ∧ Q (.int ((z.getD i.toNat 0).toNat : Nat)) H) ta tb) := by
  intro pins s σ H Q I h
  refine Subscript_ (binT ha hb I h fun v u s2 x y H2 I2 rx ry q => ?_)
  obtain ⟨z, i, rfl, rfl, hz, h0, h1, q⟩ := q
  obtain ⟨t, rfl⟩ := rx
  obtain ⟨t', rfl⟩ := ry
  have hl : sizeLine = 16777216 := sizeLine_eq
  exact tail_any (PySem.W.typeIs_bytes s2 z.toArray t) PySem.W.FB.slot_bytes_getitem.lookup (PySem.W.getItem_bytes (by omega) h0 h1 ⟨.int ((z.getD i.toNat 0).toNat : Nat), H2, I2.tok _, ⟨_, rfl⟩, q⟩) (hs _ _)
theorem vals1 {x : V} {us : List Value} (r : Vals [x] us) : ∃ u, us = [u] ∧ RelV x u := by
  cases r with
  | cons r1 r2 => cases r2; exact ⟨_, rfl, r1⟩
theorem vals2 {x y : V} {us : List Value} (r : Vals [x, y] us) : ∃ u w', us = [u, w'] ∧ RelV x u ∧ RelV y w' := by
  cases r with
  | cons r1 r2 =>
    cases r2 with
    | cons r3 r4 => cases r4; exact ⟨_, _, rfl, r1, r3⟩
theorem call_abs : CallR X (.builtin "abs") (fun xs H Q => ∃ i, xs = [.int i] ∧ Q (.int (if i < 0 then -i else i)) H) := by
  intro pins s σ H xs us Q I r h
  obtain ⟨i, rfl, q⟩ := h
  obtain ⟨u, rfl, t, rfl⟩ := vals1 r
  exact call_abs_int fun u tk => ⟨.int (if i < 0 then -i else i), H, I.tok _, ⟨_, rfl⟩, q⟩
theorem call_max2 (hc : X.calm = true) : CallR X (.builtin "max") (fun xs H Q => ∃ i j, xs = [.int i, .int j] ∧ Q (.int (if j > i then j else i)) H) := by
  intro pins s σ H xs us Q I r h
  obtain ⟨i, j, rfl, q⟩ := h
  obtain ⟨u, w', rfl, ⟨t, rfl⟩, ⟨t', rfl⟩⟩ := vals2 r
  refine max_two_ints (I.ok.hd hc) fun h' tk k => ⟨_, H, I.kept k, ?_, q⟩
  by_cases hj : j > i
  · rw [if_pos hj, if_pos hj]; exact ⟨_, rfl⟩
  · rw [if_neg hj, if_neg hj]; exact ⟨_, rfl⟩
theorem call_min2 (hc : X.calm = true) : CallR X (.builtin "min") (fun xs H Q => ∃ i j, xs = [.int i, .int j] ∧ Q (.int (if j < i then j else i)) H) := by
  intro pins s σ H xs us Q I r h
  obtain ⟨i, j, rfl, q⟩ := h
  obtain ⟨u, w', rfl, ⟨t, rfl⟩, ⟨t', rfl⟩⟩ := vals2 r
  refine min_two_ints (I.ok.hd hc) fun h' tk k => ⟨_, H, I.kept k, ?_, q⟩
  by_cases hj : j < i
  · rw [if_pos hj, if_pos hj]; exact ⟨_, rfl⟩
  · rw [if_neg hj, if_neg hj]; exact ⟨_, rfl⟩
theorem call_int1 : CallR X (.type "int") (fun xs H Q => (∃ i, xs = [.int i] ∧ Q (.int i) H) ∨ ∃ k, xs = [.bl k] ∧ Q (.int (if k then 1 else 0)) H) := by
  intro pins s σ H xs us Q I r h
  rcases h with ⟨i, rfl, q⟩ | ⟨k, rfl, q⟩
  · obtain ⟨u, rfl, t, rfl⟩ := vals1 r
    exact call_int_int ⟨.int i, H, I, ⟨_, rfl⟩, q⟩
  · obtain ⟨u, rfl, r1⟩ := vals1 r
    cases r1
    exact call_int_bool ⟨.int (if k then 1 else 0), H, I.tok _, ⟨_, rfl⟩, q⟩
theorem call_bool1 : CallR X (.type "bool") (fun xs H Q => (∃ i, xs = [.int i] ∧ Q (.bl (i != 0)) H) ∨ ∃ k, xs = [.bl k] ∧ Q (.bl k) H) := by
  intro pins s σ H xs us Q I r h
  rcases h with ⟨i, rfl, q⟩ | ⟨k, rfl, q⟩
  · obtain ⟨u, rfl, t, rfl⟩ := vals1 r
    exact call_bool_int ⟨.bl (i != 0), H, I, rfl, q⟩
  · obtain ⟨u, rfl, r1⟩ := vals1 r
    cases r1
    exact call_bool_bool ⟨.bl k, H, I, rfl, q⟩
theorem call_str_int : CallR X (.type "str") (fun xs H Q => ∃ i, xs = [.int i] ∧ i.natAbs.log2 < 1920 ∧ Q (.str (toString i)) H) := by
  intro pins s σ H xs us Q I r h
  obtain ⟨i, rfl, hz, q⟩ := h
  obtain ⟨u, rfl, t, rfl⟩ := vals1 r
  exact PySem.P.str_of_int hz ⟨.str _, H, I.tok _, ⟨_, rfl⟩, q⟩
theorem call_ord : CallR X (.builtin "ord") (fun xs H Q => ∃ x, xs = [.str x] ∧ x.length = 1 ∧ Q (.int (x.cps.getD 0 0 : Nat)) H) := by
  intro pins s σ H xs us Q I r h
  obtain ⟨x, rfl, hz, q⟩ := h
  obtain ⟨u, rfl, t, rfl⟩ := vals1 r
  exact ord_of_one hz ⟨.int _, H, I.tok _, ⟨_, rfl⟩, q⟩
theorem call_chr : CallR X (.builtin "chr") (fun xs H Q => ∃ i, xs = [.int i] ∧ 0 ≤ i ∧ i ≤ 1114111 ∧ Q (.str ⟨#[i.toNat]⟩) H) := by
  intro pins s σ H xs us Q I r h
  obtain ⟨i, rfl, h0, h1, q⟩ := h
  obtain ⟨u, rfl, t, rfl⟩ := vals1 r
  exact chr_of_range h0 h1 ⟨.str _, H, I.tok _, ⟨_, rfl⟩, q⟩
def LenV (K : PySem.W.Frag) (x : V) (H : Hp) (n : Nat) : Prop :=
  match x with
  | .str y => y.length ≤ sizeLine ∧ n = y.length
  | .byt y => y.size ≤ sizeLine ∧ n = y.size
  | .ref p => (∃ xs, SqL K H p xs ∧ n = xs.length) ∨ ∃ xs, SqT K H p xs ∧ n = xs.length
  | _ => False
theorem call_len : CallR X (.builtin "len") (fun xs H Q => ∃ x n, xs = [x] ∧ LenV X.K x H n ∧ Q (.int n) H) := by
  intro pins s σ H xs us Q I r h
  obtain ⟨x, n, rfl, e, q⟩ := h
  obtain ⟨u, rfl, rx⟩ := vals1 r
  have hl := line63
  have hs : sizeLine = 16777216 := sizeLine_eq
  cases x with
  | str y =>
    obtain ⟨t, rfl⟩ := rx
    obtain ⟨hy, e'⟩ : y.length ≤ sizeLine ∧ n = y.length := e
    subst e'
    exact len_str (by omega) ⟨.int _, H, I.tok _, ⟨_, rfl⟩, q⟩
  | byt y =>
    obtain ⟨t, rfl⟩ := rx
    obtain ⟨hy, e'⟩ : y.size ≤ sizeLine ∧ n = y.size := e
    subst e'
    exact PySem.W.len_bytes (by omega) ⟨.int _, H, I.tok _, ⟨_, rfl⟩, q⟩
  | ref p =>
    cases rx
    have e' : (∃ xs, SqL X.K H p xs ∧ n = xs.length) ∨ ∃ xs, SqT X.K H p xs ∧ n = xs.length := e
    rcases e' with ⟨xs, hx, e'⟩ | ⟨xs, hx, e'⟩
    · subst e'
      obtain ⟨its, r', pl, hz⟩ := I.list hx
      have hlen := r'.length
      exact Calls.call_len_list pl.isList (by simp only [List.size_toArray]; omega) ⟨.int xs.length, H, I.tok _, ⟨_, by simp only [List.size_toArray]; rw [hlen]⟩, q⟩
    · subst e'
      obtain ⟨its, r', pl, hz⟩ := I.tuple hx
      have hlen := r'.length
      exact len_tuple pl (by simp only [List.size_toArray]; omega) ⟨.int xs.length, H, I.tok _, ⟨_, by simp only [List.size_toArray]; rw [hlen]⟩, q⟩
  | _ => exact (show False from e).elim
theorem call_divmod : CallR X (.builtin "divmod") (fun xs H Q => ∃ i j, xs = [.int i, .int j] ∧ CDiv i j ∧ ∀ p, H p = none → Q (.ref p) (upd H p (.tup [.int (i / j), .int (i % j)]))) := by
  intro pins s σ H xs us Q I r h
  obtain ⟨i, j, rfl, ⟨h1, h2⟩, q⟩ := h
  obtain ⟨u, w', rfl, ⟨t, rfl⟩, ⟨t', rfl⟩⟩ := vals2 r
  refine divmod_int (by omega) ?_ (.inl (PyProof.noPylong_small (by omega)))
  rw [Int.fdiv_eq_ediv_of_nonneg i (by omega), Int.fmod_eq_emod_of_nonneg i (by omega)]
  have hn : H s.heap.objs.size = none := I.hok.fresh (Nat.le_refl _)
  refine ⟨.ref s.heap.objs.size, _, ?_, rfl, q _ hn⟩
  refine I.laid (fun b o e => Heap.get?_push_of_some _ e) (Nat.le_refl _) ⟨by simp only [List.length_cons, List.length_nil]; rw [sizeLine_eq]; decide, [.int (i / j) s.toks, .int (i % j) (s.toks + 1)], .cons ⟨_, rfl⟩ (.cons ⟨_, rfl⟩ .nil), ?_⟩
  exact ⟨_, Heap.get?_push_size s.heap rfl, rfl, 0, rfl⟩
end
end L2
namespace L2
open PySem PySem.Spec PyProof.Rows
structure ObjM (h : Heap) (x dx C : Addr) (mA : Str → Option Value) : Prop where
  obj : h.get? x = some (PySem.W.instObj C dx)
  ns : h.Ns1 dx mA
  ne : dx ≠ x
theorem lookIn_ns {h : Heap} {dx : Addr} {mA : Str → Option Value} (n : h.Ns1 dx mA) : ∃ od, h.get? dx = some od ∧ ∀ name, PySem.W.lookIn name od = some (mA name) := by
  obtain ⟨o, es, ep, ho, hd, hk, _, hm⟩ := n
  refine ⟨o, ho, fun name => ?_⟩
  have e := hm name
  unfold nsFind findBy at e
  rw [← Array.find?_toList] at e
  unfold PySem.W.lookIn
  rw [hd]
  dsimp only
  split
  · rename_i y q
    rw [q] at e
    exact congrArg some e
  · rename_i q
    rw [q] at e
    have a : es.toList.any (·.refKey) = false := by
      rw [List.any_eq_false]
      intro y hy
      obtain ⟨z, t, hkey⟩ := hk y (Array.mem_toList_iff.mp hy)
      simp [DictEntry.refKey, hkey]
    have a' : ¬ es.toList.any (·.refKey) = true := by rw [a]; exact Bool.false_ne_true
    rw [if_neg a']
    exact congrArg some e
theorem ObjM.look {h : Heap} {x dx C : Addr} {mA : Str → Option Value} (I : ObjM h x dx C mA) : ∃ od, PySem.W.InstAt h x (PySem.W.instObj C dx) C (some od) ∧ ∀ name, PySem.W.lookIn name od = some (mA name) :=
  let ⟨od, ho, hl⟩ := lookIn_ns I.ns
  ⟨od, ⟨I.obj, rfl, rfl, ho⟩, hl⟩
section
variable {prog : Program} {w : World} {A : Around} {E : Value → Shared → Prop} {s : Shared} {K : PySem.W.Frag} {x dx C f : Addr} {mA : Str → Option Value} {name : Str} {v : Value}
theorem get_map {expr : Bool} {Q : Value → Shared → Prop} (X : K.In s.heap) (I : ObjM s.heap x dx C mA) (hg : PySem.W.plainGet K C name = true) (hh : PySem.W.hasDictIn K C = true)
    (ha : PySem.W.findIn K (.ref C) name = some none) (hv : mA name = some v) (hv' : PySem.W.handedIn v = true) (h : Q v { s with toks := s.toks + 1 }) :
    wpAny (model prog w) A (getAttr (.ref x) name expr) Q E s := by
  obtain ⟨od, J, hl⟩ := I.look
  exact PySem.W.get_value X J (PySem.W.plainGet_of hg).1 (PySem.W.findObj_own hh ha rfl (by rw [hl, hv])) hv' h
theorem get_const {expr : Bool} {a : Value} {Q : Value → Shared → Prop} (X : K.In s.heap) (I : ObjM s.heap x dx C mA) (hg : PySem.W.plainGet K C name = true) (hh : PySem.W.hasDictIn K C = true)
    (ha : PySem.W.findIn K (.ref C) name = some (some a)) (hn : PySem.W.specialIn K a "__get__" = some none) (hc : PySem.W.copiedNames.contains name = false) (hv : mA name = none) (hv' : PySem.W.handedIn a = true)
    (h : Q a { s with toks := s.toks + 1 }) : wpAny (model prog w) A (getAttr (.ref x) name expr) Q E s := by
  obtain ⟨od, J, hl⟩ := I.look
  exact PySem.W.get_value X J (PySem.W.plainGet_of hg).1 (PySem.W.findObj_cls hh ha hn hv' hc (by rw [hl, hv])) hv' h
theorem get_meth {pl : Sem Bool} {Q : Value × List Value → Shared → Prop} (X : K.In s.heap) (I : ObjM s.heap x dx C mA) (hg : PySem.W.plainGet K C name = true)
    (hf : PySem.W.findIn K (.ref C) name = some (some (.ref f))) (ht : PySem.W.isFn K (.ref f) = true) (hv : mA name = none) (h : Q (.ref f, [.ref x]) s) :
    wpAny (model prog w) A (getMethod (.ref x) name pl) Q E s := by
  obtain ⟨od, J, hl⟩ := I.look
  exact PySem.W.method_fn X J (PySem.W.plainGet_of hg).1 (PySem.W.plainGet_of hg).2 hf (beq_iff_eq.mp ht) (by show (PySem.W.lookIn name od).map (·.isSome) = some false; rw [hl, hv]; rfl) h
theorem set_map {ns : List Str} {Q : Unit → Shared → Prop} (X : K.In s.heap) (I : ObjM s.heap x dx C mA)
    (hs : PySem.W.findIn K (.ref C) "__setattr__" = some (some (.builtin "object.__setattr__"))) (hp : PySem.W.plainOver K C = true) (ht : PySem.W.takerIn K C name = some none) (hh : PySem.W.hasDictIn K C = true)
    (hw : PySem.Within mA ns) (hsz : ns.length ≤ sizeLine)
    (h : ∀ h', ObjM h' x dx C (fun y => if y = name then some v else mA y) → Heap.SameBut dx s.heap h' → Q () { s with heap := h', toks := s.toks + 2 }) :
    wpAny (model prog w) A (setAttr (.ref x) name v) Q E s := by
  obtain ⟨od, J, hl⟩ := I.look
  refine PySem.W.set_plain X J hs (PySem.W.osa_open (s := { s with toks := s.toks + 1 }) (r := none) X J hp ht fun b => ?_)
  obtain ⟨cd, hc, hd'⟩ := PySem.W.any_some hh
  have hx : s.heap.get? x = some ⟨.ref C, some dx, .plain, #[]⟩ := I.obj
  refine wpAny_bind (wpAny_pure (wpAny_bind (wpAny_bind (wpAny_loadPart hx (wpAny_bind (PySem.W.Looks.here (s := { s with toks := s.toks + 1 }) (PySem.W.looks_clsIn X hc) ?_))))))
  rw [hd']
  refine wpAny_pure (a := some dx) (wpAny_bind (wpAny_pure (wpAny_bind ?_)))
  refine wpAny_nsSet1 (s := { s with toks := s.toks + 1 }) I.ns fun h' hn2 hs2 => ?_
  obtain ⟨oD, esD, epD, hoD, hdD, hcD⟩ := hn2.count (PySem.Within.cons name v hw)
  refine wpAny_bind (wpAny_lookBehind hoD (by rw [hdD]; exact pastItsLine_dict (Nat.le_trans hcD (by rw [List.length_cons]; omega))) ?_)
  exact wpAny_pure (h _ ⟨(hs2.2 _ (Ne.symm I.ne)).trans I.obj, hn2, I.ne⟩ hs2)
theorem make_map {R : Result → Shared → Prop} {vs : List Value} {kw : List (Str × Value)} (X : K.In s.heap) (hm : PySem.W.makesIn K C = true)
    (hi : PySem.W.findIn K (.ref C) "__init__" = some (some (.ref f))) (hf : PySem.W.typeIn K (.ref f) = some (.type "function"))
    (h : codeAny (model prog w) (A.under (.builtin "type.__call__" ⟨.ref C :: vs, kw⟩)) (.call (.ref f) ⟨.ref (s.heap.objs.size + 1) :: vs, kw⟩) (PySem.W.InitBack (s.heap.objs.size + 1) R)
      { s with heap := (s.heap.push PySem.W.emptyDict).push (PySem.W.instObj C s.heap.objs.size) }) :
    codeAny (model prog w) A (.call (.ref C) ⟨vs, kw⟩) R s := by
  obtain ⟨hh, g, d, t, os⟩ := s
  exact PySem.W.make_core (PySem.W.makes_of X hm) (PySem.W.looks_findIn X hi) (fun self => PySem.W.bind_fn X self hf) (.inl rfl) h
theorem make_map0 {R : Result → Shared → Prop} (X : K.In s.heap) (hm : PySem.W.makesIn K C = true)
    (hi : PySem.W.findIn K (.ref C) "__init__" = some (some (.builtin "object.__init__")))
    (hb : ∀ self, PySem.W.Looks (model prog w) s.heap (bindSpecial (.builtin "object.__init__") self) (.builtin "object.__init__", [self]))
    (h : codeAny (model prog w) (A.under (.builtin "type.__call__" ⟨[.ref C], []⟩)) (.call (.builtin "object.__init__") ⟨[.ref (s.heap.objs.size + 1)], []⟩) (PySem.W.InitBack (s.heap.objs.size + 1) R)
      { s with heap := (s.heap.push PySem.W.emptyDict).push (PySem.W.instObj C s.heap.objs.size) }) :
    codeAny (model prog w) A (.call (.ref C) ⟨[], []⟩) R s := by
  obtain ⟨hh, g, d, t, os⟩ := s
  exact PySem.W.make_core (PySem.W.makes_of X hm) (PySem.W.looks_findIn X hi) hb (.inr ⟨rfl, rfl⟩) h
end
def putF (f : Str) (v : V) : List (Str × V) → List (Str × V)
  | [] => [(f, v)]
  | (g, x) :: r => if g = f then (g, v) :: r else (g, x) :: putF f v r
theorem lookup_putF (f g : Str) (v : V) : ∀ fs : List (Str × V), (putF f v fs).lookup g = if g = f then some v else fs.lookup g
  | [] => by
    show List.lookup g [(f, v)] = _
    by_cases h : g = f
    · have hb : (g == f) = true := beq_iff_eq.mpr h
      simp only [List.lookup, hb, if_pos h]
    · have hb : (g == f) = false := beq_eq_false_iff_ne.mpr h
      simp only [List.lookup, hb, if_neg h]
  | (k, x) :: r => by
    have ih := lookup_putF f g v r
    rw [show putF f v ((k, x) :: r) = (if k = f then (k, v) :: r else (k, x) :: putF f v r) from rfl]
    by_cases hk : k = f
    · rw [if_pos hk]
      by_cases h : g = k
      · have hb : (g == k) = true := beq_iff_eq.mpr h
        simp only [List.lookup, hb, if_pos (h.trans hk)]
      · have hb : (g == k) = false := beq_eq_false_iff_ne.mpr h
        simp only [List.lookup, hb, if_neg (fun e : g = f => h (e.trans hk.symm))]
    · rw [if_neg hk]
      by_cases h : g = k
      · have hb : (g == k) = true := beq_iff_eq.mpr h
        simp only [List.lookup, hb, if_neg (fun e : g = f => hk (h.symm.trans e))]
      · have hb : (g == k) = false := beq_eq_false_iff_ne.mpr h
        simp only [List.lookup, hb]
        exact ih
theorem keys_putF (f : Str) (v : V) : ∀ fs : List (Str × V), f ∈ (putF f v fs).map (·.1) ∧ ∀ g, g ∈ fs.map (·.1) → g ∈ (putF f v fs).map (·.1)
  | [] => ⟨by simp [putF], fun g h => by simp at h⟩
  | (k, x) :: r => by
    obtain ⟨i1, i2⟩ := keys_putF f v r
    rw [show putF f v ((k, x) :: r) = (if k = f then (k, v) :: r else (k, x) :: putF f v r) from rfl]
    by_cases hk : k = f
    · rw [if_pos hk]
      subst hk
      exact ⟨by simp, fun g h => by simpa using h⟩
    · rw [if_neg hk]
      refine ⟨?_, fun g h => ?_⟩
      · rw [List.map_cons]
        exact List.mem_cons_of_mem _ i1
      · rw [List.map_cons] at h ⊢
        rcases List.mem_cons.mp h with e | e
        · exact List.mem_cons.mpr (.inl e)
        · exact List.mem_cons_of_mem _ (i2 g e)
theorem length_putF (f : Str) (v : V) : ∀ fs : List (Str × V), (putF f v fs).length ≤ fs.length + 1
  | [] => by simp [putF]
  | (k, x) :: r => by
    have ih := length_putF f v r
    rw [show putF f v ((k, x) :: r) = (if k = f then (k, v) :: r else (k, x) :: putF f v r) from rfl]
    by_cases hk : k = f
    · rw [if_pos hk, List.length_cons, List.length_cons]; omega
    · rw [if_neg hk, List.length_cons, List.length_cons]; omega
theorem RelO.some_of {v : V} {o : Option Value} (r : RelO (some v) o) : ∃ u, o = some u ∧ RelV v u := by
  cases o with
  | none => exact (show False from r).elim
  | some u => exact ⟨u, rfl, r⟩
theorem RelO.none_of {o : Option Value} (r : RelO none o) : o = none := by
  cases o with
  | none => rfl
  | some u => exact (show False from r).elim
theorem handed_of {v : V} {u : Value} (r : RelV v u) : PySem.W.handedIn u = true := by
  cases v with
  | non => cases (show u = Value.none from r); rfl
  | bl b => cases (show u = Value.bool b from r); rfl
  | int i => obtain ⟨t, e⟩ := (show ∃ t, u = Value.int i t from r); cases e; rfl
  | str x => obtain ⟨t, e⟩ := (show ∃ t, u = Value.str x t from r); cases e; rfl
  | byt b => obtain ⟨t, e⟩ := (show ∃ t, u = Value.bytes b t from r); cases e; rfl
  | flt b => obtain ⟨t, e⟩ := (show ∃ t, u = Value.float b t from r); cases e; rfl
  | ref a => cases (show u = Value.ref a from r); rfl
  | ty n => cases (show u = Value.type n from r); rfl
section
variable {P : Program} {w : World} {H H' : Hp} {h h' : Heap} {a C dx : Addr} {fs fs' : List (Str × V)}
theorem ins_get (hok : HOk P w H h) (e : H a = some (.ins C dx fs)) : ∃ mA, ObjM h a dx C mA ∧ (∀ f, RelO (fs.lookup f) (mA f)) ∧ PySem.Within mA (fs.map (·.1)) ∧ fs.length ≤ 1000 ∧ H dx = some (.own a) := by
  obtain ⟨d, z, ne, ob, mA, n, r, q⟩ := (show ObjOk P w H h a (.ins C dx fs) from hok a _ e)
  exact ⟨mA, ⟨ob, n, ne⟩, r, q, z, d⟩
end
structure Cls (K : PySem.W.Frag) (C : Addr) : Prop where
  pg : PySem.W.plainGet K C Str.empty = true
  hd : PySem.W.hasDictIn K C = true
  po : PySem.W.plainOver K C = true
  sa : PySem.W.findIn K (.ref C) "__setattr__" = some (some (.builtin "object.__setattr__"))
theorem Cls.get {K : PySem.W.Frag} {C : Addr} (c : Cls K C) (f : Str) : PySem.W.plainGet K C f = true := c.pg
def NoAttr (K : PySem.W.Frag) (C : Addr) (f : Str) : Prop := PySem.W.findIn K (.ref C) f = some none
theorem NoAttr.taker {K : PySem.W.Frag} {C : Addr} {f : Str} (n : NoAttr K C f) : PySem.W.takerIn K C f = some none := by
  unfold PySem.W.takerIn
  rw [show PySem.W.findIn K (.ref C) f = some none from n]
  rfl
structure Con (K : PySem.W.Frag) (C : Addr) (f : Str) (v : V) (u : Value) : Prop where
  at_ : PySem.W.findIn K (.ref C) f = some (some u)
  rel : RelV v u
  get : PySem.W.specialIn K u "__get__" = some none
  cp : PySem.W.copiedNames.contains f = false
structure Meth (K : PySem.W.Frag) (C : Addr) (m : Str) (f : Addr) : Prop where
  at_ : PySem.W.findIn K (.ref C) m = some (some (.ref f))
  fn : PySem.W.isFn K (.ref f) = true
  kp : PySem.W.keepIn K (.ref f) = true
section
variable {X : Cx} {pins : List (Addr × Obj)} {σ : St} {H : Hp} {s : Shared} {a C dx : Addr} {fs : List (Str × V)} {f : Str} {v : V} {A : Around} {E : Value → Shared → Prop}
theorem getattr_ok {b : Bool} {Q : Value → Shared → Prop} (I : Inv X pins σ H s) (e : H a = some (.ins C dx fs)) (c : Cls X.K C) (n : NoAttr X.K C f) (l : fs.lookup f = some v)
    (h : ∀ u s', Inv X pins σ H s' → RelV v u → Q u s') : wpAny (model X.prog X.w) A (getAttr (.ref a) f b) Q E s := by
  obtain ⟨mA, O, r, _, _, _⟩ := ins_get I.hok e
  obtain ⟨u, hu, ru⟩ := RelO.some_of (v := v) (o := mA f) (by rw [← l]; exact r f)
  exact get_map I.kIn O (c.get f) c.hd n hu (handed_of ru) (h u _ (I.tok _) ru)
theorem getcon_ok {b : Bool} {u : Value} {Q : Value → Shared → Prop} (I : Inv X pins σ H s) (e : H a = some (.ins C dx fs)) (c : Cls X.K C) (k : Con X.K C f v u) (l : fs.lookup f = none)
    (h : ∀ s', Inv X pins σ H s' → Q u s') : wpAny (model X.prog X.w) A (getAttr (.ref a) f b) Q E s := by
  obtain ⟨mA, O, r, _, _, _⟩ := ins_get I.hok e
  have hn : mA f = none := RelO.none_of (by rw [← l]; exact r f)
  exact get_const I.kIn O (c.get f) c.hd k.at_ k.get k.cp hn (handed_of k.rel) (h _ (I.tok _))
theorem getmeth_ok {m : Str} {g : Addr} {pl : Sem Bool} {Q : Value × List Value → Shared → Prop} (I : Inv X pins σ H s) (e : H a = some (.ins C dx fs)) (c : Cls X.K C) (k : Meth X.K C m g) (l : fs.lookup m = none)
    (h : Q (.ref g, [.ref a]) s) : wpAny (model X.prog X.w) A (getMethod (.ref a) m pl) Q E s := by
  obtain ⟨mA, O, r, _, _, _⟩ := ins_get I.hok e
  have hn : mA m = none := RelO.none_of (by rw [← l]; exact r m)
  exact get_meth I.kIn O (c.get m) k.at_ k.fn hn h
theorem setattr_ok {y : V} {u : Value} {Q : Unit → Shared → Prop} (I : Inv X pins σ H s) (e : H a = some (.ins C dx fs)) (c : Cls X.K C) (n : NoAttr X.K C f) (hl : fs.length < 1000) (ry : RelV y u)
    (h : ∀ s', Inv X pins σ (upd H a (.ins C dx (putF f y fs))) s' → Q () s') : wpAny (model X.prog X.w) A (setAttr (.ref a) f u) Q E s := by
  obtain ⟨mA, O, r, wi, _, ho⟩ := ins_get I.hok e
  have hz : (fs.map (·.1)).length ≤ sizeLine := by rw [List.length_map, sizeLine_eq]; omega
  refine set_map I.kIn O c.sa c.po n.taker c.hd wi hz fun h' O' sb => h _ ?_
  have hd : ∃ o, h'.get? dx = some o := let ⟨o, _, _, e', _⟩ := O'.ns; ⟨o, e'⟩
  refine I.write (x := a) (e := dx) (by rw [e]; exact True.intro) (.inr ho) (fun b q hb z => (sb.2 b hb).trans z) hd ?_
  refine ⟨by rw [upd_ne O.ne]; exact ho, ?_, O.ne, O'.obj, _, O'.ns, fun g => ?_, fun g hg => ?_⟩
  · have := length_putF f y fs; omega
  · show RelO ((putF f y fs).lookup g) (if g = f then some u else mA g)
    rw [lookup_putF]
    by_cases q : g = f
    · rw [if_pos q, if_pos q]; exact ry
    · rw [if_neg q, if_neg q]; exact r g
  · by_cases q : g = f
    · rw [q]; exact (keys_putF f y fs).1
    · refine (keys_putF f y fs).2 g (wi g fun z => hg ?_)
      show (if g = f then some u else mA g) = none
      rw [if_neg q]; exact z
theorem Inv.made (I : Inv X pins σ H s) : Inv X pins σ (upd (upd H s.heap.objs.size (.own (s.heap.objs.size + 1))) (s.heap.objs.size + 1) (.ins C s.heap.objs.size []))
    { s with heap := (s.heap.push PySem.W.emptyDict).push (PySem.W.instObj C s.heap.objs.size) } := by
  have e1 : (s.heap.push PySem.W.emptyDict).get? s.heap.objs.size = some PySem.W.emptyDict := Heap.get?_push_size s.heap rfl
  have e2 : ((s.heap.push PySem.W.emptyDict).push (PySem.W.instObj C s.heap.objs.size)).get? (s.heap.objs.size + 1) = some (PySem.W.instObj C s.heap.objs.size) := by
    have := Heap.get?_push_size (s.heap.push PySem.W.emptyDict) (o := PySem.W.instObj C s.heap.objs.size) rfl
    rwa [Heap.size_push] at this
  have e3 : (s.heap.push PySem.W.emptyDict).Ns s.heap.objs.size (fun _ => none) := ⟨PySem.W.emptyDict, #[], _, e1, rfl, (fun e he => absurd he (by simp)), fun _ => rfl⟩
  have I1 := I.laid (a := s.heap.objs.size) (o := .own (s.heap.objs.size + 1)) (h' := s.heap.push PySem.W.emptyDict) (t' := s.toks) (fun b u q => Heap.get?_push_of_some _ q) (Nat.le_refl _) ⟨_, e1⟩
  refine I1.laid (a := s.heap.objs.size + 1) (o := .ins C s.heap.objs.size []) (t' := s.toks) (fun b u q => Heap.get?_push_of_some _ q) (Nat.le_of_eq (Heap.size_push _ _)) ?_
  have ne : s.heap.objs.size ≠ s.heap.objs.size + 1 := Nat.ne_of_lt (Nat.lt_succ_self _)
  refine ⟨by rw [upd_ne ne, upd_same], Nat.zero_le _, ne, e2, fun _ => none, (Heap.Ns1.of_empty e3).at fun o q => Heap.get?_push_of_some _ q, fun _ => True.intro, fun y hy => absurd rfl hy⟩
theorem attr_of {prog : Program} {w : World} {env : Env} {e : Expr} {f : Str} {pos : Pos} {s : Shared} {Q : Value → Shared → Prop} (hb : attributeBase e f env (eval e env) = eval e env)
    (h : wpAny (model prog w) A (eval e env) (fun o s₁ => wpAny (model prog w) A (getAttr o f true) Q E s₁) E s) : wpAny (model prog w) A (eval (.Attribute e f pos) env) Q E s :=
  Attribute_any_ h (by rw [arm_eval_Attribute, hb])
end
def tFld (K : PySem.W.Frag) (ta : TE) (f : Str) : TE := fun σ H Q => ta σ H fun x H1 => ∃ a C dx fs v, x = .ref a ∧ H1 a = some (.ins C dx fs) ∧ Cls K C ∧ NoAttr K C f ∧ fs.lookup f = some v ∧ Q v H1
def tCon (K : PySem.W.Frag) (ta : TE) (f : Str) : TE := fun σ H Q => ta σ H fun x H1 => ∃ a C dx fs v u, x = .ref a ∧ H1 a = some (.ins C dx fs) ∧ Cls K C ∧ Con K C f v u ∧ fs.lookup f = none ∧ Q v H1
def sFld (K : PySem.W.Frag) (ta tv : TE) (f : Str) : TS := fun D σ H => tv σ H fun y H1 => ta σ H1 fun x H2 => ∃ a C dx fs, x = .ref a ∧ H2 a = some (.ins C dx fs) ∧ Cls K C ∧ NoAttr K C f ∧ fs.length < 1000 ∧
  D.nx σ (upd H2 a (.ins C dx (putF f y fs)))
def InOp (X : Cx) (op : Operator) (rd : V → V → Hp → VK → Prop) : Prop :=
  ∀ (pins : List (Addr × Obj)) (s : Shared) (σ : St) (H : Hp) (x y : V) (u v : Value) (Q : VK), Inv X pins σ H s → RelV x u → RelV y v → rd x y H Q → wpAny (model X.prog X.w) X.A (inplaceOp op u v) (EP X pins σ Q) X.xe s
def sFldAug (K : PySem.W.Frag) (ta tv : TE) (rd : V → V → Hp → VK → Prop) (f : Str) : TS := fun D σ H => ta σ H fun x H1 => ∃ a C dx fs v, x = .ref a ∧ H1 a = some (.ins C dx fs) ∧ Cls K C ∧ NoAttr K C f ∧ fs.lookup f = some v ∧
  tv σ H1 fun y H2 => rd v y H2 fun z H3 => ∃ dx' fs', H3 a = some (.ins C dx' fs') ∧ fs'.length < 1000 ∧ D.nx σ (upd H3 a (.ins C dx' (putF f z fs')))
section
variable {X : Cx} {o e value : Expr} {f : Str} {pos pos' tpos : Pos} {ta tv : TE}
theorem pe_fld (he : PE X e ta) (hb : attributeBase e f X.env (eval e X.env) = eval e X.env) : PE X (.Attribute e f pos) (tFld X.K ta f) := by
  intro pins s σ H Q I h
  refine attr_of hb (thn (he pins s σ H _ I h) fun u s1 ⟨x, H1, I1, rx, a, C, dx, fs, v, ex, ea, c, n, l, q⟩ => ?_)
  subst ex
  obtain rfl : u = Value.ref a := rx
  exact getattr_ok I1 ea c n l fun u' s2 I2 ru => ⟨v, H1, I2, ru, q⟩
theorem pe_con (he : PE X e ta) (hb : attributeBase e f X.env (eval e X.env) = eval e X.env) : PE X (.Attribute e f pos) (tCon X.K ta f) := by
  intro pins s σ H Q I h
  refine attr_of hb (thn (he pins s σ H _ I h) fun u s1 ⟨x, H1, I1, rx, a, C, dx, fs, v, u0, ex, ea, c, k, l, q⟩ => ?_)
  subst ex
  obtain rfl : u = Value.ref a := rx
  exact getcon_ok I1 ea c k l fun s2 I2 => ⟨v, H1, I2, k.rel, q⟩
theorem ps_fld (ha : PE X o ta) (hv : PE X value tv) (hs : swapsWith value (some (.Attribute o f pos')) pos.line X.env = pure false) : PS X (.Assign [.Attribute o f pos'] value pos) (sFld X.K ta tv f) := by
  intro pins s σ H D I h
  refine plainObj_wpAny_Assign_Attribute (thn (hv pins s σ H _ I h) fun u s1 ⟨y, H1, I1, ry, q⟩ => thn (ha pins s1 σ H1 _ I1 q) fun ov s2 ⟨x, H2, I2, rx, a, C, dx, fs, ex, ea, c, n, l, q2⟩ => ?_) hs
  subst ex
  obtain rfl : ov = Value.ref a := rx
  exact setattr_ok I2 ea c n l ry fun s3 I3 => ⟨σ, _, I3, q2⟩
theorem ps_fldaug {op : Operator} {rd : V → V → Hp → VK → Prop} (ha : PE X o ta) (hv : PE X value tv) (hop : InOp X op rd) : PS X (.AugAssign (.Attribute o f tpos) op value pos) (sFldAug X.K ta tv rd f) := by
  intro pins s σ H D I h
  refine wpAny_AugAssign_AttributeAny (thn (ha pins s σ H _ I h) fun ov s1 ⟨x, H1, I1, rx, a, C, dx, fs, v, ex, ea, c, n, l, q⟩ => ?_)
  subst ex
  obtain rfl : ov = Value.ref a := rx
  refine getattr_ok I1 ea c n l fun u s2 I2 ru => thn (hv pins s2 σ H1 _ I2 q) fun w3 s3 ⟨y, H2, I3, ry, q3⟩ => thn (hop pins s3 σ H2 v y u w3 _ I3 ru ry q3) fun w4 s4 ⟨z, H3, I4, rz, dx', fs', ea', l', q4⟩ => ?_
  exact setattr_ok I4 ea' c n l' rz fun s5 I5 => ⟨σ, _, I5, q4⟩
def rAdd : V → V → Hp → VK → Prop := fun x y H Q => ∃ i j, x = .int i ∧ y = .int j ∧ Q (.int (i + j)) H
def rSub : V → V → Hp → VK → Prop := fun x y H Q => ∃ i j, x = .int i ∧ y = .int j ∧ Q (.int (i - j)) H
theorem in_add : InOp X .Add rAdd := by
  rintro pins s σ H x y u v Q I rx ry ⟨i, j, rfl, rfl, q⟩
  obtain ⟨t, rfl⟩ := (show ∃ t, u = Value.int i t from rx)
  obtain ⟨t', rfl⟩ := (show ∃ t', v = Value.int j t' from ry)
  exact PyProof.Rows.iadd_int ⟨.int (i + j), H, I.tok _, ⟨_, rfl⟩, q⟩
theorem in_sub : InOp X .Sub rSub := by
  rintro pins s σ H x y u v Q I rx ry ⟨i, j, rfl, rfl, q⟩
  obtain ⟨t, rfl⟩ := (show ∃ t, u = Value.int i t from rx)
  obtain ⟨t', rfl⟩ := (show ∃ t', v = Value.int j t' from ry)
  exact PyProof.Rows.isub_int ⟨.int (i - j), H, I.tok _, ⟨_, rfl⟩, q⟩
theorem methcall_of {pl : Sem Bool} {m : Str} {apos : Pos} {args : List Expr} {pins : List (Addr × Obj)} {s : Shared} {σ : St} {H : Hp} {Q : Value → Shared → Prop} {te : TE} (he : PE X e te) (I : Inv X pins σ H s)
    (h : te σ H fun x H1 => ∃ a C dx fs g, x = .ref a ∧ H1 a = some (.ins C dx fs) ∧ Cls X.K C ∧ Meth X.K C m g ∧ fs.lookup m = none ∧
      ∀ s1, Inv X pins σ H1 s1 → wpAny (model X.prog X.w) X.A (callWith pos (.ref g) [.ref a] (backTo pos (starEach args X.env)) (backToKw pos (keywordEach [] X.env))) Q X.xe s1)
    (ht : eval (.Call (.Attribute e m apos) args [] pos) X.env = (do
      let ov ← eval e X.env
      standAt apos.atName
      let (f, first) ← holding [ov] (getMethod ov m pl)
      callWith pos f first (backTo pos (starEach args X.env)) (backToKw pos (keywordEach [] X.env)))) :
    wpAny (model X.prog X.w) X.A (eval (.Call (.Attribute e m apos) args [] pos) X.env) Q X.xe s := by
  refine PySem.W.methodCall_KW (pl := pl) (thn (he pins s σ H _ I h) fun u s1 ⟨x, H1, I1, rx, a, C, dx, fs, g, ex, ea, c, k, l, q⟩ => ?_) ht
  subst ex
  obtain rfl : u = Value.ref a := rx
  exact getmeth_ok I1 ea c k l (q s1 I1)
end
section
variable {X : Cx} {pins : List (Addr × Obj)} {σ : St} {H : Hp} {s : Shared} {A : Around} {E : Value → Shared → Prop} {Q : Value → Shared → Prop} {c : Value} {b : Bool}
inductive TyOf (K : PySem.W.Frag) (H : Hp) : V → Value → Prop where
  | non : TyOf K H .non (.type "NoneType")
  | bl (x : Bool) : TyOf K H (.bl x) (.type "bool")
  | int (i : Int) : TyOf K H (.int i) (.type "int")
  | str (x : Str) : TyOf K H (.str x) (.type "str")
  | flt (x : UInt64) : TyOf K H (.flt x) (.type "float")
  | lst {a : Addr} {xs : List V} (e : H a = some (.lst xs)) : TyOf K H (.ref a) (.type "list")
  | frz {a : Addr} {o : Obj} {xs : List V} (e : H a = some (.frz o (.lst xs))) : TyOf K H (.ref a) (.type "list")
  | tup {a : Addr} {xs : List V} (e : H a = some (.tup xs)) : TyOf K H (.ref a) (.type "tuple")
  | dK {a : Addr} {kvs : List (Key × V)} (e : H a = some (.dK kvs)) : TyOf K H (.ref a) (.type "dict")
  | dT {a : Addr} {kvs : List (List Key × V)} (e : H a = some (.dT kvs)) : TyOf K H (.ref a) (.type "dict")
  | ins {a C dx : Addr} {fs : List (Str × V)} (e : H a = some (.ins C dx fs)) (cl : Cls K C) (ha : PySem.W.findIn K (.ref C) "__class__" = some (some (.builtin "object.__class__")))
      (hn : PySem.W.specialIn K (.builtin "object.__class__") "__get__" = some (some (.builtin "getset_descriptor.__get__"))) (htk : PySem.W.takesIn K (.builtin "object.__class__") = some true)
      (hm : PySem.W.mroIn K C (.type "object") = some true) : TyOf K H (.ref a) (.ref C)
theorem isinst_ok {x : V} {u t : Value} (I : Inv X pins σ H s) (rx : RelV x u) (ty : TyOf X.K H x t) (e : PySem.W.kitOne X.K t c = some b) (h : ∀ tk, Q (.bool b) { s with toks := tk }) :
    wpAny (model X.prog X.w) A (call (.builtin "isinstance") [u, c]) Q E s := by
  cases ty with
  | non => cases (show u = Value.none from rx); exact PySem.W.kia_one PySem.W.kitx_none I.kIn True.intro e (fun z => nomatch z) h
  | bl y => cases (show u = Value.bool y from rx); exact PySem.W.kia_one PySem.W.kitx_bool I.kIn True.intro e (fun z => nomatch z) h
  | int i => obtain ⟨t, q⟩ := (show ∃ t, u = Value.int i t from rx); cases q; exact PySem.W.kia_one PySem.W.kitx_int I.kIn True.intro e (fun z => nomatch z) h
  | str y => obtain ⟨t, q⟩ := (show ∃ t, u = Value.str y t from rx); cases q; exact PySem.W.kia_one PySem.W.kitx_str I.kIn True.intro e (fun z => nomatch z) h
  | flt y => obtain ⟨t, q⟩ := (show ∃ t, u = Value.float y t from rx); cases q; exact PySem.W.kia_one PySem.W.kitx_float I.kIn True.intro e (fun z => nomatch z) h
  | @lst a xs ea =>
    cases (show u = Value.ref a from rx)
    obtain ⟨_, _, n, _, h1⟩ := (show ObjOk X.prog X.w H s.heap a (.lst xs) from I.hok a _ ea)
    exact PySem.W.kia_one PySem.W.kitx_list I.kIn ⟨_, h1, rfl⟩ e (fun z => nomatch z) h
  | @frz a ob xs ea =>
    cases (show u = Value.ref a from rx)
    obtain ⟨_, _, _, n, _, h1⟩ := (show ObjOk X.prog X.w H s.heap a (.frz ob (.lst xs)) from I.hok a _ ea)
    exact PySem.W.kia_one PySem.W.kitx_list I.kIn ⟨_, h1, rfl⟩ e (fun z => nomatch z) h
  | @tup a xs ea =>
    cases (show u = Value.ref a from rx)
    obtain ⟨_, _, _, p⟩ := (show ObjOk X.prog X.w H s.heap a (.tup xs) from I.hok a _ ea)
    obtain ⟨o, h1, h2, _⟩ := p
    exact PySem.W.kia_one PySem.W.kitx_tuple I.kIn ⟨o, h1, h2⟩ e (fun z => nomatch z) h
  | @dK a kvs ea =>
    cases (show u = Value.ref a from rx)
    obtain ⟨_, _, vs, _, p⟩ := (show ObjOk X.prog X.w H s.heap a (.dK kvs) from I.hok a _ ea)
    obtain ⟨o, es, ep, h1, h2, _⟩ := p
    exact PySem.W.kia_one PySem.W.kitx_dict I.kIn ⟨o, h1, h2.1⟩ e (fun z => nomatch z) h
  | @dT a kvs ea =>
    cases (show u = Value.ref a from rx)
    obtain ⟨_, _, xs, _, o, es, ep, h1, h2, _⟩ := (show ObjOk X.prog X.w H s.heap a (.dT kvs) from I.hok a _ ea)
    exact PySem.W.kia_one PySem.W.kitx_dict I.kIn ⟨o, h1, h2.1⟩ e (fun z => nomatch z) h
  | @ins a C dx fs ea cl ha hn htk hm =>
    cases (show u = Value.ref a from rx)
    obtain ⟨mA, O, _⟩ := ins_get I.hok ea
    obtain ⟨od, J, _⟩ := O.look
    exact PySem.W.kia_one (PySem.W.kitx_own (cl.get _) cl.hd ha hn htk hm) I.kIn J e (fun z => nomatch z) h
end
end L2
namespace L2
open PySem PySem.Spec PyProof.Rows
structure Room (k : Nat) (A : Around) : Prop where
  hd : A.handled = none
  dp : A.depth + 3 * k + 5 < recursionLimit
  un : A.units + 16 * k + 200 < cLine
  gd : A.guards = some [] := by rfl
theorem Room.mono {j k : Nat} {A : Around} (r : Room k A) (h : j ≤ k) : Room j A := ⟨r.hd, by have := r.dp; omega, by have := r.un; omega, r.gd⟩
theorem Room.deeper {k : Nat} {A : Around} (r : Room (k + 1) A) (env : Env) : Room k (A.deeper env) :=
  ⟨r.hd, by have := r.dp; show A.depth + 1 + 3 * k + 5 < _; omega, by have := r.un; show A.units + 3 + 16 * k + 200 < _; omega, r.gd⟩
theorem Room.in1 {k : Nat} {A : Around} (r : Room (k + 1) A) : Room k A.in1 :=
  ⟨r.hd, by have := r.dp; show A.depth + 3 * k + 5 < _; omega, by have := r.un; show A.units + 1 + 16 * k + 200 < _; omega, r.gd⟩
theorem make_depth {A : Around} {C : Addr} {us : List Value} {kw : List (Str × Value)} : (A.under (.builtin "type.__call__" ⟨.ref C :: us, kw⟩)).depth = A.depth + 1 := by
  first | rfl | simp [Around.under, Code.weight, Code.isCreation, Code.isGuard, Code.isCaller, Code.frames, Code.isFrame, guardIds]
theorem make_units {A : Around} {C : Addr} {us : List Value} {kw : List (Str × Value)} : (A.under (.builtin "type.__call__" ⟨.ref C :: us, kw⟩)).units = A.units + 1 := by
  first | rfl | simp [Around.under, Code.cUnits, Code.frames, Code.isFrame]
theorem Room.make {k : Nat} {A : Around} (r : Room (k + 1) A) (C : Addr) (us : List Value) (kw : List (Str × Value)) : Room k (A.under (.builtin "type.__call__" ⟨.ref C :: us, kw⟩)) :=
  ⟨r.hd, by have := r.dp; rw [make_depth]; omega, by have := r.un; rw [make_units]; omega, by first | exact r.gd | (simpa [Around.under, Code.guards, Code.isGuard, pushGuards, guardIds] using r.gd)⟩
theorem Room.depth {k : Nat} {A : Around} (r : Room k A) : A.depth < recursionLimit := by have := r.dp; omega
theorem Room.units {k : Nat} {A : Around} (r : Room k A) : A.units + 64 < cLine := by have := r.un; omega
theorem Room.units0 {k : Nat} {A : Around} (r : Room k A) : A.units < cLine := by have := r.un; omega
def tNil : TA := fun _ H Q => Q [] H
def tCons (ta : TE) (tr : TA) : TA := fun σ H Q => ta σ H fun x H1 => tr σ H1 fun xs H2 => Q (x :: xs) H2
section
variable {X : Cx} {e : Expr} {es : List Expr} {te : TE} {t : TA} {pos : Pos}
theorem pa_nil : PA X [] tNil := fun _ _ _ _ H Q I h => Calls.spliced_nil ⟨[], H, I, .nil, h⟩
theorem pa_cons (ha : PE X e te) (hr : PA X es t) (hs : starEach (e :: es) X.env = (false, eval e X.env) :: starEach es X.env := by rfl) : PA X (e :: es) (tCons te t) := by
  intro pos pins s σ H Q I h
  rw [hs]
  show wpAny _ _ (spliced ((false, eval e X.env) :: backTo pos (starEach es X.env))) _ _ s
  refine Calls.spliced_cons (thn (ha pins s σ H _ I h) fun u s1 ⟨x, H1, I1, r1, q1⟩ => ?_)
  exact thn (hr pos pins s1 σ H1 _ I1 q1) fun us s2 ⟨xs, H2, I2, r2, q2⟩ => ⟨x :: xs, H2, I2, .cons r1 r2, q2⟩
def tTup (t : TA) : TE := fun σ H Q => t σ H fun xs H1 => xs.length ≤ sizeLine ∧ ∀ p, H1 p = none → Q (.ref p) (upd H1 p (.tup xs))
def tLst (t : TA) : TE := fun σ H Q => t σ H fun xs H1 => xs.length ≤ sizeLine ∧ ∀ p, H1 p = none → Q (.ref p) (upd H1 p (.lst xs))
theorem pe_tup {x1} (h : PA X es t) : PE X (.Tuple es x1 pos) (tTup t) := by
  intro pins s σ H Q I hq
  refine wpAny_Tuple_spliced (thn (h pos pins s σ H _ I hq) fun us s1 ⟨xs, H1, I1, r, z, q⟩ => ⟨by rw [← r.length]; exact z, ?_⟩)
  have hf : H1 s1.heap.objs.size = none := I1.hok.fresh (Nat.le_refl _)
  refine ⟨.ref s1.heap.objs.size, upd H1 s1.heap.objs.size (.tup xs), I1.laid (t' := s1.toks) (fun b u e => Heap.get?_push_of_some _ e) (Nat.le_refl _) ?_, rfl, q _ hf⟩
  exact ⟨z, us, r, ⟨_, Heap.get?_push_size _ rfl, rfl, _, rfl⟩⟩
theorem pe_lst (h : PA X es t) : PE X (.List es pos) (tLst t) := by
  intro pins s σ H Q I hq
  refine wpAny_List_spliced (thn (h pos pins s σ H _ I hq) fun us s1 ⟨xs, H1, I1, r, z, q⟩ => ⟨by rw [← r.length]; exact z, ?_⟩)
  have hf : H1 s1.heap.objs.size = none := I1.hok.fresh (Nat.le_refl _)
  refine ⟨.ref s1.heap.objs.size, upd H1 s1.heap.objs.size (.lst xs), I1.laid (t' := s1.toks) (fun b u e => Heap.get?_push_of_some _ e) (Nat.le_refl _) ?_, rfl, q _ hf⟩
  exact ⟨z, us, 0, r, Heap.get?_push_size _ rfl⟩
end
abbrev Sp := List V → Hp → VK → XK → Prop
abbrev CXT := List Env → Hp → Shared → XK → Value → Shared → Prop
structure Env0 (P : Program) (w : World) (K : PySem.W.Frag) (mg : Str → Option Value) (base : Heap) (A : Around) (outer : List Env) (s : Shared) (H : Hp) : Prop where
  frames : A.frames = some outer
  mod : Mod K mg base
  bs : ∀ b o, base.get? b = some o → s.heap.get? b = some o ∧ H b = none
  bsz : base.objs.size ≤ s.heap.objs.size
  funs : s.heap.FunFrames base outer
  frf : ∀ b ∈ frs outer, H b = none
  hok : HOk P w H s.heap
  bare : AllBare s.gens
def CE (outer : List Env) (P : Program) (w : World) (H : Hp) (s : Shared) (Q : VK) (u : Value) (s' : Shared) : Prop :=
  ∃ v H', s'.os = s.os ∧ AllBare s'.gens ∧ Un (frs outer) [] H H' s.heap s'.heap ∧ HOk P w H' s'.heap ∧ RelV v u ∧ Q v H'
def CR (CX : CXT) (outer : List Env) (P : Program) (w : World) (H : Hp) (s : Shared) (Q : VK) (E : XK) (r : Result) (s' : Shared) : Prop :=
  match r with
  | .ok (.ret u) => CE outer P w H s Q u s'
  | .ok _ => False
  | .error e => CX outer H s E e s'
structure FnOk (P : Program) (w : World) (K : PySem.W.Frag) (mg : Str → Option Value) (base : Heap) (CX : CXT) (k : Nat) (f : Addr) (fd : FuncData) (ps : List Str) (sp : Sp) : Prop where
  len : ∀ vs H Q E, sp vs H Q E → vs.length = ps.length
  run : ∀ (A : Around) (outer : List Env) (s : Shared) (H : Hp) (args : Args) (us : List Value) (vs : List V) (Q : VK) (E : XK), Room k A → Env0 P w K mg base A outer s H → BindsTo s fd args (ps.zip us) → Vals vs us → sp vs H Q E →
    codeAny (model P w) A (.call (.ref f) args) (CR CX outer P w H s Q E) s
theorem FnOk.mono {P : Program} {w : World} {K : PySem.W.Frag} {mg : Str → Option Value} {base : Heap} {CX : CXT} {j k : Nat} {f : Addr} {fd : FuncData} {ps : List Str} {sp : Sp} (F : FnOk P w K mg base CX j f fd ps sp) (h : j ≤ k) :
    FnOk P w K mg base CX k f fd ps sp := ⟨F.len, fun A outer s H args us vs Q E hr => F.run A outer s H args us vs Q E (hr.mono h)⟩
theorem FnOk.imp {P : Program} {w : World} {K : PySem.W.Frag} {mg : Str → Option Value} {base : Heap} {CX : CXT} {k : Nat} {f : Addr} {fd : FuncData} {ps : List Str} {sp sp' : Sp} (F : FnOk P w K mg base CX k f fd ps sp)
    (h : ∀ vs H Q E, sp' vs H Q E → sp vs H Q E) : FnOk P w K mg base CX k f fd ps sp' :=
  ⟨fun vs H Q E q => F.len vs H Q E (h _ _ _ _ q), fun A outer s H args us vs Q E hr he hb hv hs => F.run A outer s H args us vs Q E hr he hb hv (h _ _ _ _ hs)⟩
theorem Env0.make {P : Program} {w : World} {K : PySem.W.Frag} {mg : Str → Option Value} {base : Heap} {A : Around} {outer : List Env} {s : Shared} {H : Hp} (e : Env0 P w K mg base A outer s H) (C : Addr) (us : List Value) (kw : List (Str × Value)) :
    Env0 P w K mg base (A.under (.builtin "type.__call__" ⟨.ref C :: us, kw⟩)) outer s H := ⟨by first | exact e.frames | (simpa [Around.under, Code.envs, Code.isFrame, pushEnvs] using e.frames), e.mod, e.bs, e.bsz, e.funs, e.frf, e.hok, e.bare⟩
theorem Env0.in1 {P : Program} {w : World} {K : PySem.W.Frag} {mg : Str → Option Value} {base : Heap} {A : Around} {outer : List Env} {s : Shared} {H : Hp} (e : Env0 P w K mg base A outer s H) :
    Env0 P w K mg base A.in1 outer s H := ⟨e.frames, e.mod, e.bs, e.bsz, e.funs, e.frf, e.hok, e.bare⟩
section
variable {X : Cx} {pins : List (Addr × Obj)} {σ : St} {H : Hp} {s s' : Shared}
theorem Inv.env0 (I : Inv X pins σ H s) : Env0 X.prog X.w X.K X.mg X.base X.A X.stack s H :=
  ⟨I.ok.frames, I.ok.mod, I.bs, Nat.le_trans I.ok.bsz I.sz, I.stack, I.stkFree, I.hok, I.bare⟩
theorem Inv.after {Q : VK} {u : Value} (I : Inv X pins σ H s) (h : CE X.stack X.prog X.w H s Q u s') : EP X pins σ Q u s' := by
  obtain ⟨v, H', os, bare, un, hok, r, q⟩ := h
  obtain ⟨hh, g, d, t, os'⟩ := s'
  obtain rfl : os' = s.os := os
  exact ⟨v, H', I.call (h' := hh) (g' := g) (d' := d) (t' := t) (ch := []) un hok bare (fun b z => absurd z (by simp)), r, q⟩
end
def tCall (sp : Sp) (dvs : List V) (E : XK) (t : TA) : TE := fun σ H Q => t σ H fun vs H1 => sp (vs ++ dvs) H1 Q E
def tMeth (C : Addr) (m : Str) (sp : Sp) (dvs : List V) (E : XK) (ta : TE) (t : TA) : TE := fun σ H Q => ta σ H fun x H1 => ∃ a dx fs, x = .ref a ∧ H1 a = some (.ins C dx fs) ∧ fs.lookup m = none ∧
  t σ H1 fun vs H2 => sp (x :: (vs ++ dvs)) H2 Q E
def tMake (C : Addr) (sp : Sp) (dvs : List V) (E : XK) (t : TA) : TE := fun σ H Q => t σ H fun vs H1 => ∀ x dx, H1 x = none → H1 dx = none → dx ≠ x →
  sp (.ref x :: (vs ++ dvs)) (upd (upd H1 dx (.own x)) x (.ins C dx [])) (fun v H2 => v = .non ∧ Q (.ref x) H2) E
def Binds (K : PySem.W.Frag) (fd : FuncData) (ps : List Str) (ds : List Value) : Prop :=
  ∀ (s : Shared) (us : List Value), K.In s.heap → (us ++ ds).length = ps.length → BindsTo s fd ⟨us, []⟩ (ps.zip (us ++ ds))
theorem Binds.all {K : PySem.W.Frag} {fd : FuncData} {ps : List Str} (h : ∀ us : List Value, us.length = ps.length → bindArgs fd ⟨us, []⟩ = pure (ps.zip us)) : Binds K fd ps [] := fun s us _ hl => by
  rw [List.append_nil] at hl ⊢
  exact .of_eq (h us hl)
def Passes (CX : CXT) (X : Cx) (E : XK) : Prop := ∀ (pins : List (Addr × Obj)) (σ : St) (H : Hp) (s : Shared) (e : Value) (s' : Shared), Inv X pins σ H s → CX X.stack H s E e s' → X.xe e s'
section
variable {X : Cx} {CX : CXT} {k : Nat} {f C : Addr} {fd : FuncData} {ps : List Str} {sp : Sp} {dvs : List V} {ds : List Value} {E : XK} {x m : Str} {p pos apos : Pos} {e o : Expr} {es : List Expr} {ta : TE} {t : TA}
theorem run_fn {pins : List (Addr × Obj)} {σ : St} {H : Hp} {s : Shared} {Q : VK} {us : List Value} {vs : List V} (F : FnOk X.prog X.w X.K X.mg X.base CX k f fd ps sp) (hr : Room k X.A) (hb : Binds X.K fd ps ds) (hd : Vals dvs ds) (hx : Passes CX X E)
    (I : Inv X pins σ H s) (r : Vals vs us) (h : sp (vs ++ dvs) H Q E) : wpAny (model X.prog X.w) X.A (call (.ref f) us) (EP X pins σ Q) X.xe s := by
  have r2 : Vals (vs ++ dvs) (us ++ ds) := r.append hd
  have hl : (us ++ ds).length = ps.length := by rw [← r2.length]; exact F.len _ _ _ _ h
  refine wpAny_call (codeAny_mono (F.run X.A X.stack s H ⟨us, []⟩ (us ++ ds) (vs ++ dvs) Q E hr I.env0 (hb s us I.kIn hl) r2 h) fun r s' hq => ?_)
  cases r with
  | error e => exact hx pins σ H s e s' I hq
  | ok fl =>
    cases fl with
    | ret u => exact I.after hq
    | next => exact False.elim hq
    | brk => exact False.elim hq
    | cont => exact False.elim hq
theorem pe_call (F : FnOk X.prog X.w X.K X.mg X.base CX k f fd ps sp) (hr : Room k X.A) (hg : Gl X x) (hm : X.mg x = some (.ref f)) (hk : PySem.W.keepIn X.K (.ref f) = true) (hb : Binds X.K fd ps ds) (hd : Vals dvs ds) (hx : Passes CX X E)
    (ha : PA X (e :: es) t) (hdb : (x == ("__debug__" : Str)) = false := by decide) (he : starEach (e :: es) X.env = (false, eval e X.env) :: starEach es X.env := by rfl) (hpl : (backTo pos (starEach es X.env)).any (·.1) = false := by rfl) :
    PE X (.Call (.Name x p) (e :: es) [] pos) (tCall sp dvs E t) := by
  intro pins s σ H Q I h
  refine wpAny_Call_Name_kw (ld_glob I hg hm ?_ hdb)
  refine PySem.W.callWith_K (h₀ := X.base) I.ok.mod.kin hk (thn (ha pos pins s σ H _ I h) fun us s1 ⟨vs, H1, I1, r, q⟩ => ⟨I1.kIn, ?_⟩) he hpl
  exact run_fn F hr hb hd hx I1 r q
theorem pe_call0 (F : FnOk X.prog X.w X.K X.mg X.base CX k f fd ps sp) (hr : Room k X.A) (hg : Gl X x) (hm : X.mg x = some (.ref f)) (hk : PySem.W.keepIn X.K (.ref f) = true) (hb : Binds X.K fd ps ds) (hd : Vals dvs ds) (hx : Passes CX X E)
    (hdb : (x == ("__debug__" : Str)) = false := by decide) : PE X (.Call (.Name x p) [] [] pos) (tCall sp dvs E tNil) := by
  intro pins s σ H Q I h
  refine wpAny_Call_Name_kw (ld_glob I hg hm ?_ hdb)
  exact PySem.W.callWith_K0 I.kIn hk (run_fn (us := []) F hr hb hd hx I .nil h)
theorem pe_meth {pl : Sem Bool} (he : PE X o ta) (c : Cls X.K C) (hm : Meth X.K C m f) (F : FnOk X.prog X.w X.K X.mg X.base CX k f fd ps sp) (hr : Room k X.A) (hb : Binds X.K fd ps ds) (hd : Vals dvs ds) (hx : Passes CX X E) (ha : PA X (e :: es) t)
    (hst : starEach (e :: es) X.env = (false, eval e X.env) :: starEach es X.env := by rfl) (hpl : (backTo pos (starEach es X.env)).any (·.1) = false := by rfl)
    (ht : eval (.Call (.Attribute o m apos) (e :: es) [] pos) X.env = (do
      let ov ← eval o X.env
      standAt apos.atName
      let (f, first) ← holding [ov] (getMethod ov m pl)
      callWith pos f first (backTo pos (starEach (e :: es) X.env)) (backToKw pos (keywordEach [] X.env))) := by rfl) :
    PE X (.Call (.Attribute o m apos) (e :: es) [] pos) (tMeth C m sp dvs E ta t) := by
  intro pins s σ H Q I h
  refine PySem.W.methodCall_KW (pl := pl) (thn (he pins s σ H _ I h) fun u s1 ⟨x, H1, I1, rx, a, dx, fs, ex, ea, l, q⟩ => ?_) ht
  subst ex
  obtain rfl : u = Value.ref a := rx
  refine getmeth_ok I1 ea c hm l ?_
  refine PySem.W.callWith_K (first := [.ref a]) (h₀ := X.base) I.ok.mod.kin hm.kp (thn (ha pos pins s1 σ H1 _ I1 q) fun us s2 ⟨vs, H2, I2, r, q2⟩ => ⟨I2.kIn, ?_⟩) hst hpl
  exact run_fn (us := .ref a :: us) (vs := .ref a :: vs) F hr hb hd hx I2 (.cons rfl r) q2
theorem pe_meth0 {pl : Sem Bool} (he : PE X o ta) (c : Cls X.K C) (hm : Meth X.K C m f) (F : FnOk X.prog X.w X.K X.mg X.base CX k f fd ps sp) (hr : Room k X.A) (hb : Binds X.K fd ps ds) (hd : Vals dvs ds) (hx : Passes CX X E)
    (ht : eval (.Call (.Attribute o m apos) [] [] pos) X.env = (do
      let ov ← eval o X.env
      standAt apos.atName
      let (f, first) ← holding [ov] (getMethod ov m pl)
      callWith pos f first (backTo pos (starEach [] X.env)) (backToKw pos (keywordEach [] X.env))) := by rfl) :
    PE X (.Call (.Attribute o m apos) [] [] pos) (tMeth C m sp dvs E ta tNil) := by
  intro pins s σ H Q I h
  refine PySem.W.methodCall_KW (pl := pl) (thn (he pins s σ H _ I h) fun u s1 ⟨x, H1, I1, rx, a, dx, fs, ex, ea, l, q⟩ => ?_) ht
  subst ex
  obtain rfl : u = Value.ref a := rx
  refine getmeth_ok I1 ea c hm l ?_
  exact PySem.W.callWith_K0 (first := [.ref a]) I1.kIn hm.kp (run_fn (us := [.ref a]) (vs := [.ref a]) F hr hb hd hx I1 (.cons rfl .nil) q)
structure Mk (K : PySem.W.Frag) (C f : Addr) : Prop where
  makes : PySem.W.makesIn K C = true
  init : PySem.W.findIn K (.ref C) "__init__" = some (some (.ref f))
  fn : PySem.W.isFn K (.ref f) = true
  kp : PySem.W.keepIn K (.ref C) = true
theorem run_make {pins : List (Addr × Obj)} {σ : St} {H : Hp} {s : Shared} {Q : VK} {us : List Value} {vs : List V} (M : Mk X.K C f) (F : FnOk X.prog X.w X.K X.mg X.base CX k f fd ps sp) (hr : Room (k + 1) X.A) (hb : Binds X.K fd ps ds) (hd : Vals dvs ds)
    (hx : Passes CX X E) (I : Inv X pins σ H s) (r : Vals vs us)
    (h : ∀ x dx, H x = none → H dx = none → dx ≠ x → sp (.ref x :: (vs ++ dvs)) (upd (upd H dx (.own x)) x (.ins C dx [])) (fun v H2 => v = .non ∧ Q (.ref x) H2) E) :
    wpAny (model X.prog X.w) X.A (call (.ref C) us) (EP X pins σ Q) X.xe s := by
  have hq := h (s.heap.objs.size + 1) s.heap.objs.size (I.hok.fresh (Nat.le_succ _)) (I.hok.fresh (Nat.le_refl _)) (Nat.ne_of_lt (Nat.lt_succ_self _))
  have I2 := Inv.made (C := C) I
  have r2 : Vals (V.ref (s.heap.objs.size + 1) :: (vs ++ dvs)) (Value.ref (s.heap.objs.size + 1) :: (us ++ ds)) := .cons rfl (r.append hd)
  have hl : (Value.ref (s.heap.objs.size + 1) :: us ++ ds).length = ps.length := by
    have e := r2.length
    rw [F.len _ _ _ _ hq] at e
    exact e.symm
  refine wpAny_call (make_map (f := f) I.kIn M.makes M.init (beq_iff_eq.mp M.fn) (codeAny_mono (F.run _ X.stack _ _ ⟨Value.ref (s.heap.objs.size + 1) :: us, []⟩ (Value.ref (s.heap.objs.size + 1) :: (us ++ ds)) _ _ E (hr.make C us [])
    (I2.env0.make C us []) (hb _ (Value.ref (s.heap.objs.size + 1) :: us) I2.kIn hl) r2 hq) fun r s' hq' => ?_))
  cases r with
  | error e => exact hx pins σ _ _ e s' I2 hq'
  | ok fl =>
    cases fl with
    | ret u =>
      obtain ⟨v, H', I3, rv, ev, q3⟩ := I2.after hq'
      subst ev
      exact ⟨rv, ⟨V.ref (s.heap.objs.size + 1), H', I3, rfl, q3⟩⟩
    | next => exact False.elim hq'
    | brk => exact False.elim hq'
    | cont => exact False.elim hq'
theorem pe_make (M : Mk X.K C f) (F : FnOk X.prog X.w X.K X.mg X.base CX k f fd ps sp) (hr : Room (k + 1) X.A) (hg : Gl X x) (hm : X.mg x = some (.ref C)) (hb : Binds X.K fd ps ds) (hd : Vals dvs ds) (hx : Passes CX X E)
    (ha : PA X (e :: es) t) (hdb : (x == ("__debug__" : Str)) = false := by decide) (he : starEach (e :: es) X.env = (false, eval e X.env) :: starEach es X.env := by rfl) (hpl : (backTo pos (starEach es X.env)).any (·.1) = false := by rfl) :
    PE X (.Call (.Name x p) (e :: es) [] pos) (tMake C sp dvs E t) := by
  intro pins s σ H Q I h
  refine wpAny_Call_Name_kw (ld_glob I hg hm ?_ hdb)
  refine PySem.W.callWith_K (h₀ := X.base) I.ok.mod.kin M.kp (thn (ha pos pins s σ H _ I h) fun us s1 ⟨vs, H1, I1, r, q⟩ => ⟨I1.kIn, ?_⟩) he hpl
  exact run_make M F hr hb hd hx I1 r q
theorem pe_make0 (M : Mk X.K C f) (F : FnOk X.prog X.w X.K X.mg X.base CX k f fd ps sp) (hr : Room (k + 1) X.A) (hg : Gl X x) (hm : X.mg x = some (.ref C)) (hb : Binds X.K fd ps ds) (hd : Vals dvs ds) (hx : Passes CX X E)
    (hdb : (x == ("__debug__" : Str)) = false := by decide) : PE X (.Call (.Name x p) [] [] pos) (tMake C sp dvs E tNil) := by
  intro pins s σ H Q I h
  refine wpAny_Call_Name_kw (ld_glob I hg hm ?_ hdb)
  exact PySem.W.callWith_K0 I.kIn M.kp (run_make (us := []) M F hr hb hd hx I .nil h)
end
def PK (X : Cx) (kws : List Keyword) (t : TA) : Prop :=
  ∀ (pos : Pos) (pins : List (Addr × Obj)) (s : Shared) (σ : St) (H : Hp) (Q : List V → Hp → Prop), Inv X pins σ H s → t σ H Q → wpAny (model X.prog X.w) X.A (evalAll ((backToKw pos (keywordEach kws X.env)).map (·.2))) (AP X pins σ Q) X.xe s
section
variable {X : Cx} {CX : CXT} {k : Nat} {f C : Addr} {fd : FuncData} {ps ks : List Str} {sp : Sp} {E : XK} {x m : Str} {p pos apos kpos : Pos} {e o : Expr} {es : List Expr} {kws : List Keyword} {te ta : TE} {t tk : TA} {nm : Option Str}
theorem pk_nil : PK X [] tNil := fun _ _ _ _ H Q I h => wpAny_evalAll_nil ⟨[], H, I, .nil, h⟩
theorem pk_cons (ha : PE X e te) (hr : PK X kws t) : PK X (⟨nm, e, kpos⟩ :: kws) (tCons te t) := by
  intro pos pins s σ H Q I h
  show wpAny _ _ (evalAll ((do let v ← eval e X.env; standAt pos; pure v) :: (backToKw pos (keywordEach kws X.env)).map (·.2))) _ _ s
  refine wpAny_evalAll_cons (wpAny_bind (thn (ha pins s σ H _ I h) fun u s1 ⟨x, H1, I1, r1, q1⟩ => wpAny_bind (wpAny_standAt (wpAny_pure ?_))))
  exact thn (hr pos pins s1 σ H1 _ I1 q1) fun us s2 ⟨xs, H2, I2, r2, q2⟩ => ⟨x :: xs, H2, I2, .cons r1 r2, q2⟩
structure KBinds (K : PySem.W.Frag) (fd : FuncData) (ps ks : List Str) (g : List Value → List Value → List Value) (gV : List V → List V → List V) : Prop where
  to : ∀ (s : Shared) (us ws : List Value), K.In s.heap → (g us ws).length = ps.length → BindsTo s fd ⟨us, ks.zip ws⟩ (ps.zip (g us ws))
  rel : ∀ {vs : List V} {us : List Value} {zs : List V} {ws : List Value}, Vals vs us → Vals zs ws → Vals (gV vs zs) (g us ws)
def tCallK (sp : Sp) (gV : List V → List V → List V) (E : XK) (t tk : TA) : TE := fun σ H Q => t σ H fun vs H1 => tk σ H1 fun zs H2 => sp (gV vs zs) H2 Q E
variable {g : List Value → List Value → List Value} {gV : List V → List V → List V}
theorem run_fnk {pins : List (Addr × Obj)} {σ : St} {H : Hp} {s : Shared} {Q : VK} {us ws : List Value} {vs zs : List V} (F : FnOk X.prog X.w X.K X.mg X.base CX k f fd ps sp) (hr : Room k X.A) (hb : KBinds X.K fd ps ks g gV) (hx : Passes CX X E)
    (I : Inv X pins σ H s) (r : Vals vs us) (rz : Vals zs ws) (h : sp (gV vs zs) H Q E) : wpAny (model X.prog X.w) X.A (call (.ref f) us (ks.zip ws)) (EP X pins σ Q) X.xe s := by
  have r2 := hb.rel r rz
  have hl : (g us ws).length = ps.length := by rw [← r2.length]; exact F.len _ _ _ _ h
  refine wpAny_call (codeAny_mono (F.run X.A X.stack s H ⟨us, ks.zip ws⟩ (g us ws) (gV vs zs) Q E hr I.env0 (hb.to s us ws I.kIn hl) r2 h) fun r s' hq => ?_)
  cases r with
  | error e => exact hx pins σ H s e s' I hq
  | ok fl =>
    cases fl with
    | ret u => exact I.after hq
    | next => exact False.elim hq
    | brk => exact False.elim hq
    | cont => exact False.elim hq
theorem pe_callK (F : FnOk X.prog X.w X.K X.mg X.base CX k f fd ps sp) (hr : Room k X.A) (hg : Gl X x) (hm : X.mg x = some (.ref f)) (hk : PySem.W.keepIn X.K (.ref f) = true) (hb : KBinds X.K fd ps ks g gV) (hx : Passes CX X E)
    (ha : PA X (e :: es) t) (hkw : PK X kws tk) (hall : (backToKw pos (keywordEach kws X.env)).all (·.1.isSome) = true := by rfl) (hks : (backToKw pos (keywordEach kws X.env)).filterMap (·.1) = ks := by rfl)
    (hdb : (x == ("__debug__" : Str)) = false := by decide) (he : starEach (e :: es) X.env = (false, eval e X.env) :: starEach es X.env := by rfl)
    (hpl : ((backTo pos (starEach (e :: es) X.env)).any (·.1) || (backToKw pos (keywordEach kws X.env)).any (·.1.isNone)) = false := by rfl) :
    PE X (.Call (.Name x p) (e :: es) kws pos) (tCallK sp gV E t tk) := by
  intro pins s σ H Q I h
  refine wpAny_Call_Name_kw (ld_glob I hg hm ?_ hdb)
  refine PySem.W.callWith_KW (h₀ := X.base) I.ok.mod.kin hk hall (thn (ha pos pins s σ H _ I h) fun us s1 ⟨vs, H1, I1, r, q⟩ => ?_) hpl he
  refine thn (hkw pos pins s1 σ H1 _ I1 q) fun ws s2 ⟨zs, H2, I2, rz, q2⟩ => ⟨I2.kIn, ?_⟩
  rw [hks]
  exact run_fnk F hr hb hx I2 r rz q2
end
structure FnScope (N P : List Str) (sc : Scope) : Prop where
  kind : sc.kind = .function
  co : sc.isCoroutine = false
  gen : sc.isGenerator = false
  nd : N.Nodup
  pre : N.take P.length = P
  par : ∀ x ∈ P, sc.names.lookup x = some .local ∨ sc.names.lookup x = some .cell
  nofree : ∀ y ∈ sc.names, y.2 ≠ .free
theorem bindL_out {kindOf : Str → Option NameKind} {x : Str} : ∀ {binds : List (Str × Value)} {m : Str → Option Value}, (∀ v, (x, v) ∉ binds) → bindL kindOf binds m x = m x
  | [], _, _ => rfl
  | (n, v) :: r, m, h => by
    unfold bindL
    rw [bindL_out fun w hw => h w (List.mem_cons_of_mem _ hw)]
    split
    · have : x ≠ n := by rintro rfl; exact h v List.mem_cons_self
      simp [this]
    · rfl
theorem bindC_out {kindOf : Str → Option NameKind} {x : Str} : ∀ {binds : List (Str × Value)} {m : Str → Option Value}, (∀ v, (x, v) ∉ binds) → bindC kindOf binds m x = m x
  | [], _, _ => rfl
  | (n, v) :: r, m, h => by
    unfold bindC
    rw [bindC_out fun w hw => h w (List.mem_cons_of_mem _ hw)]
    split
    · rfl
    · have : x ≠ n := by rintro rfl; exact h v List.mem_cons_self
      simp [this]
theorem bindL_get {kindOf : Str → Option NameKind} {x : Str} {v : Value} : ∀ {P : List Str} {vs : List Value} {i : Nat} {m : Str → Option Value}, P.Nodup → P[i]? = some x → vs[i]? = some v → kindOf x = some .local →
    bindL kindOf (P.zip vs) m x = some v
  | [], _, _, _, _, h, _, _ => by simp at h
  | _ :: _, [], _, _, _, _, h, _ => by simp at h
  | p :: P, w :: vs, 0, m, nd, h1, h2, hk => by
    simp at h1 h2; subst h1; subst h2
    show bindL kindOf ((p, w) :: P.zip vs) m p = _
    unfold bindL
    rw [bindL_out fun v hv => (List.nodup_cons.mp nd).1 (List.of_mem_zip hv).1, if_pos hk]
    simp
  | p :: P, w :: vs, i + 1, m, nd, h1, h2, hk => by
    show bindL kindOf ((p, w) :: P.zip vs) m x = _
    unfold bindL
    exact bindL_get (i := i) (List.nodup_cons.mp nd).2 (by simpa using h1) (by simpa using h2) hk
theorem bindC_get {kindOf : Str → Option NameKind} {x : Str} {v : Value} : ∀ {P : List Str} {vs : List Value} {i : Nat} {m : Str → Option Value}, P.Nodup → P[i]? = some x → vs[i]? = some v → kindOf x ≠ some .local →
    bindC kindOf (P.zip vs) m x = some v
  | [], _, _, _, _, h, _, _ => by simp at h
  | _ :: _, [], _, _, _, _, h, _ => by simp at h
  | p :: P, w :: vs, 0, m, nd, h1, h2, hk => by
    simp at h1 h2; subst h1; subst h2
    show bindC kindOf ((p, w) :: P.zip vs) m p = _
    unfold bindC
    rw [bindC_out fun v hv => (List.nodup_cons.mp nd).1 (List.of_mem_zip hv).1, if_neg hk]
    simp
  | p :: P, w :: vs, i + 1, m, nd, h1, h2, hk => by
    show bindC kindOf ((p, w) :: P.zip vs) m x = _
    unfold bindC
    exact bindC_get (i := i) (List.nodup_cons.mp nd).2 (by simpa using h1) (by simpa using h2) hk
def start (N : List Str) (vs : List V) : St := vs.map some ++ List.replicate (N.length - vs.length) none
def cxOf (CX : CXT) (P : Program) (w : World) (K : PySem.W.Frag) (mg : Str → Option Value) (base : Heap) (N : List Str) (qual : Str) (scope : Scope) (f : Addr) (cd : Value) (A : Around) (outer : List Env) (s : Shared) (H : Hp) (E : XK) : Cx where
  prog := P
  w := w
  K := K
  mg := mg
  base := base
  A := A.deeper (envOfC qual scope s.heap.objs.size f cd)
  N := N
  s₀ := s
  H₀ := H
  env := envOfC qual scope s.heap.objs.size f cd
  outer := outer
  stack := envOfC qual scope s.heap.objs.size f cd :: outer
  ex := []
  calm := true
  fn := fun _ => true
  pn := []
  xe := fun e s' => wpAny (model P w) (A.deeper (envOfC qual scope s.heap.objs.size f cd)) (leaving (envOfC qual scope s.heap.objs.size f cd) e) (fun _ s'' => CX outer H s E e s'') (fun e' s'' => CX outer H s E e' s'') s'
theorem cell_has {sc : Scope} {n : Nat} {x : Str} (h : sc.names.lookup x = some .cell) : ∃ c, (cellsFrom n sc.names []).lookup x = some c := by
  have q := PySem.W.cellsFrom_some sc.names n [] (.inl h)
  exact Option.isSome_iff_exists.mp q
theorem inv_start {CX : CXT} {P : Program} {w : World} {K : PySem.W.Frag} {mg : Str → Option Value} {base : Heap} {N ps : List Str} {qual : Str} {scope : Scope} {f : Addr} {cd : Value} {A : Around} {outer : List Env} {s s1 : Shared} {H : Hp} {E : XK} {us : List Value} {vs : List V}
    (S : FnScope N ps scope) (hd : A.handled = none) (e0 : Env0 P w K mg base A outer s H) (hl : vs.length = ps.length) (r : Vals vs us)
    (x : InCallC s s.heap.objs.size (bindL (envOfC qual scope s.heap.objs.size f cd).kindOf (ps.zip us) fun _ => none) (cellsFrom (s.heap.objs.size + 1) scope.names []) (bindC (envOfC qual scope s.heap.objs.size f cd).kindOf (ps.zip us) fun _ => none) s1) :
    Inv (cxOf CX P w K mg base N qual scope f cd A outer s H E) [] (start N vs) H s1 := by
  have hpl : ps.length ≤ N.length := by have := congrArg List.length S.pre; rw [List.length_take] at this; omega
  obtain ⟨h1, tk, rfl, hk⟩ := x.done
  have noA : ∀ b : Addr, b ∉ (cxOf CX P w K mg base N qual scope f cd A outer s H E).ex := fun b z => absurd (show b ∈ ([] : List Addr) from z) (by simp)
  refine ⟨⟨e0.mod, S.kind, rfl, rfl, Nat.le_refl _, fun y z c h1 h2 => ?_, fun y hy => ?_, fun y c _ h => ?_, fun _ => hd, Around.frames_deeper e0.frames, .inr ⟨rfl, rfl⟩, fun b z => absurd z (noA b), e0.bs, e0.bsz, fun b _ _ => noA b, fun b z => absurd z (noA b), e0.funs, e0.frf⟩,
    rfl, e0.bare, Un.kept hk, ⟨_, x.toInCall.ns, fun i y v h1 h2 h3 => ?_⟩, fun y c h => ⟨_, x.cell y c h⟩, e0.hok.fresh (Nat.le_refl _), fun y c h => ?_, fun p hp => absurd (show p ∈ ([] : List (Addr × Obj)) from hp) (by simp), e0.hok.kept hk, ?_⟩
  · exact name_of_addr x.apart (PySem.mem_of_lookup h1) (PySem.mem_of_lookup h2)
  · have hy : scope.names.lookup y = some .cell ∨ scope.names.lookup y = some .free := hy
    rcases hy with hy | hy
    · exact cell_has hy
    · exact absurd rfl (S.nofree _ (PySem.mem_of_lookup hy))
  · exact Nat.le_of_lt (x.above y c (PySem.mem_of_lookup h))
  · have hi : i < vs.length := by
      unfold start at h2
      by_cases hi : i < vs.length
      · exact hi
      · rw [List.getElem?_append_right (by simpa using hi)] at h2
        rw [List.getElem?_replicate] at h2
        split at h2 <;> cases h2
    have ha : vs[i]? = some v := by
      unfold start at h2
      rw [List.getElem?_append_left (by simpa using hi), List.getElem?_map] at h2
      cases e : vs[i]? with
      | none => rw [e] at h2; cases h2
      | some a => rw [e] at h2; cases h2; rfl
    obtain ⟨u, hu, rv⟩ := r.get ha
    have hp : ps[i]? = some y := by
      rw [← S.pre, List.getElem?_take_of_lt (by omega)]; exact h1
    have ndP : ps.Nodup := by rw [← S.pre]; exact S.nd.sublist (List.take_sublist _ _)
    refine ⟨u, rv, ?_⟩
    rcases S.par y (List.mem_of_getElem? hp) with k | k
    · exact .inl ⟨k, bindL_get ndP hp hu k⟩
    · obtain ⟨c, e⟩ := cell_has (n := s.heap.objs.size + 1) k
      refine .inr ⟨.inl k, c, e, ?_⟩
      have q := x.cell y c e
      rw [bindC_get ndP hp hu (by show scope.names.lookup y ≠ _; rw [k]; decide)] at q
      exact q
  · exact e0.hok.fresh (Nat.le_of_lt (x.above y c (PySem.mem_of_lookup h)))
  · unfold start
    show _ = N.length
    rw [List.length_append, List.length_map, List.length_replicate]
    omega
theorem fn_of {CX : CXT} {P : Program} {w : World} {K : PySem.W.Frag} {mg : Str → Option Value} {base : Heap} {k : Nat} {f : Addr} {name qual : Str} {params : Arguments} {body : List Stmt} {scope : Scope} {dV kV doc pm cdv ct oc : Value} {an od : Option Addr}
    {osl : Array (Option Value)} {N ps : List Str} {sp : Sp} (lk : K.lookup f = some ⟨oc, od, .func (PySem.W.fnOf name qual params body scope dV kV doc pm an cdv ct), osl⟩) (hcd : PySem.W.codeIn K cdv qual = true) (S : FnScope N ps scope)
    (len : ∀ vs H Q E, sp vs H Q E → vs.length = ps.length)
    (hbody : ∀ (A : Around) (outer : List Env) (s : Shared) (H : Hp) (vs : List V) (Q : VK) (E : XK), Room k (A.deeper (envOfC qual scope s.heap.objs.size f cdv)) → sp vs H Q E →
      ∃ t, PSs (cxOf CX P w K mg base N qual scope f cdv A outer s H E) body t ∧ t { nx := fun _ H' => Q .non H', rt := Q } (start N vs) H) :
    FnOk P w K mg base CX (k + 1) f (PySem.W.fnOf name qual params body scope dV kV doc pm an cdv ct) ps sp := by
  refine ⟨len, fun A outer s H args us vs Q E hr e0 hb r hsp => ?_⟩
  have hl := len _ _ _ _ hsp
  have KX : K.In s.heap := e0.mod.kin.keeps fun b o e => (e0.bs b o e).1
  have lim : s.heap.NoLimit := e0.mod.nolimit.keeps fun b o e => (e0.bs b o e).1
  have hkind : ∀ y ∈ ps.zip us, scope.names.lookup y.1 = some .local ∨ (scope.names.lookup y.1 = some .cell ∧ ((cellsFrom (s.heap.objs.size + 1) scope.names []).lookup y.1).isSome = true) := fun ⟨n, v⟩ hy => by
    rcases S.par n (List.of_mem_zip hy).1 with q | q
    · exact .inl q
    · exact .inr ⟨q, PySem.W.cellsFrom_some _ _ _ (.inl q)⟩
  refine codeAny_call_function hr.depth (KX _ _ lk) rfl S.co S.gen rfl (PySem.W.codeRec_of KX hcd) (hb _ _ _ _ ?_)
  refine wpAny_newFunctionEnv_cells S.kind hkind fun env he s1 x => ?_
  subst he
  refine ⟨lim.keeps x.toInCall.keep, codeAny_func ?_⟩
  obtain ⟨t, ht, hq⟩ := hbody A outer s H vs Q E (hr.deeper _) hsp
  have I : Inv (cxOf CX P w K mg base N qual scope f cdv A outer s H E) [] (start N vs) H s1 := inv_start S hr.hd e0 hl r x
  refine wpAny_mono (ht [] s1 (start N vs) H _ I hq) (fun fl s' hs => ?_) fun e s' hs => hs
  have fin : ∀ {σ' : St} {H' : Hp} {v : V} {u : Value}, Inv (cxOf CX P w K mg base N qual scope f cdv A outer s H E) [] σ' H' s' → RelV v u → Q v H' → CE outer P w H s Q u s' :=
    fun {σ' H' v u} J rv q => ⟨v, H', J.os, J.bare, J.base, J.hok, rv, q⟩
  cases fl with
  | ret u =>
    obtain ⟨v, σ', H', J, rv, q⟩ := hs
    exact fin J rv q
  | next =>
    obtain ⟨σ', H', J, q⟩ := hs
    exact fin (v := V.non) (u := Value.none) J rfl q
  | brk =>
    obtain ⟨_, _, _, q⟩ := hs
    exact False.elim q
  | cont =>
    obtain ⟨_, _, _, q⟩ := hs
    exact False.elim q
end L2
namespace L2
open PySem PySem.Spec PyProof.Rows
section
variable {X : Cx} {x : Str} {p pos : Pos} {e : Expr} {es : List Expr} {t : TA} {id T : String} {r : List V → Hp → VK → Prop}
def tCB (r : List V → Hp → VK → Prop) (t : TA) : TE := fun σ H Q => t σ H fun vs H1 => r vs H1 Q
theorem pe_callB (hc : CallR X (.builtin id) r) (hg : Gl X x) (hm : X.mg x = none) (hv : bootBuiltins x = some (.builtin id)) (ha : PA X (e :: es) t) (hn : x ≠ "__name__" := by decide) (hdb : (x == ("__debug__" : Str)) = false := by decide)
    (he : starEach (e :: es) X.env = (false, eval e X.env) :: starEach es X.env := by rfl) (hpl : (backTo pos (starEach es X.env)).any (·.1) = false := by rfl) : PE X (.Call (.Name x p) (e :: es) [] pos) (tCB r t) := by
  intro pins s σ H Q I h
  refine wpAny_Call_Name_kw (ld_blt I hg hm hv ?_ hn hdb)
  exact PyProof.Rows.callWith_builtin1 (thn (ha pos pins s σ H _ I h) fun us s1 ⟨vs, H1, I1, r1, q1⟩ => hc pins s1 σ H1 vs us Q I1 r1 q1) he hpl
theorem pe_callTy (hc : CallR X (.type T) r) (hg : Gl X x) (hm : X.mg x = none) (hv : bootBuiltins x = some (.type T)) (ha : PA X (e :: es) t) (hn : x ≠ "__name__" := by decide) (hdb : (x == ("__debug__" : Str)) = false := by decide)
    (he : starEach (e :: es) X.env = (false, eval e X.env) :: starEach es X.env := by rfl) (hpl : (backTo pos (starEach es X.env)).any (·.1) = false := by rfl) : PE X (.Call (.Name x p) (e :: es) [] pos) (tCB r t) := by
  intro pins s σ H Q I h
  refine wpAny_Call_Name_kw (ld_blt I hg hm hv ?_ hn hdb)
  exact PyProof.Rows.callWith_type1 (thn (ha pos pins s σ H _ I h) fun us s1 ⟨vs, H1, I1, r1, q1⟩ => hc pins s1 σ H1 vs us Q I1 r1 q1) he hpl
theorem pe_callTy0 (hc : CallR X (.type T) r) (hg : Gl X x) (hm : X.mg x = none) (hv : bootBuiltins x = some (.type T)) (hn : x ≠ "__name__" := by decide) (hdb : (x == ("__debug__" : Str)) = false := by decide) :
    PE X (.Call (.Name x p) [] [] pos) (tCB r tNil) := by
  intro pins s σ H Q I h
  refine wpAny_Call_Name_kw (ld_blt I hg hm hv ?_ hn hdb)
  exact PyProof.Rows.callWith_type0 (hc pins s σ H [] [] Q I .nil h)
end
end L2
namespace HT
open PySem PyProof.Rows
def lexLt : List Int → List Int → Bool
  | [], [] => false
  | [], _ :: _ => true
  | _ :: _, [] => false
  | x :: xs, y :: ys => if x = y then lexLt xs ys else decide (x < y)
theorem lexLt_cons (x y : Int) (xs ys : List Int) : lexLt (x :: xs) (y :: ys) = if x = y then lexLt xs ys else decide (x < y) := rfl
theorem lexLt_nil_nil : lexLt [] [] = false := rfl
theorem lexLt_nil_cons (y : Int) (ys : List Int) : lexLt [] (y :: ys) = true := rfl
theorem lexLt_cons_nil (x : Int) (xs : List Int) : lexLt (x :: xs) [] = false := rfl
theorem eqAt_int (A : Around) (s : Shared) (a : Int) (t : Tok) (c : Int) (u : Tok) : ∃ e, SeqAt.EqAt A s (.int a t) (.int c u) e ∧ (e = true ↔ a = c) :=
  ⟨(a == c), SeqAt.EqAt.int_int a t c u, by simp⟩
theorem rcLt_int (A : Around) (s : Shared) (a : Int) (t : Tok) (c : Int) (u : Tok) (prog : Program) (w : World) (E : Value → Shared → Prop) (Q : Value → Shared → Prop) (h : Q (.bool (decide (a < c))) s) :
    wpAny (model prog w) A (richCompare .Lt (.int a t) (.int c u)) Q E s :=
  (PyProof.Rows.lt_int h : wpAny (model prog w) A (compareOp .Lt (.int a t) (.int c u)) Q E s)
section
open PySem.SeqAt
open PySem.AutoSeq1 (wpAny_loadPart')
open PySem.MeetsSeq PySem.MeetsSeq2 PySem.MeetsSeq3
theorem tuple_lt_ints (l b : Addr) (items items2 : Array Value) (n n2 : Nat) (dd dd2 : Option Addr) (sl sl2 : Array (Option Value)) (ns ms : List Int) (hi : IntsAre items.toList ns) (hj : IntsAre items2.toList ms) :
    Meets (Builtin.«tuple.__lt__» ⟨[.ref l, .ref b], []⟩)
      (fun _ R s => s.heap.get? l = some { cls := .type "tuple", dict := dd, data := .seq items n, slots := sl } ∧ s.heap.get? b = some { cls := .type "tuple", dict := dd2, data := .seq items2 n2, slots := sl2 } ∧
        R (.ok (.ret (.bool (lexLt ns ms)))) s) :=
  .of_wp fun prog w A R s h => by
    obtain ⟨hp, g, d, tk, os⟩ := s; obtain ⟨hl, hb, h⟩ := h
    have f2 := AutoSeq1.sub_tuple_tuple
    have z1 : items.size = ns.length := by rw [← hi.length]; simp
    have z2 : items2.size = ms.length := by rw [← hj.length]; simp
    wp_walk using wpAny_loadPart' hl, wpAny_loadPart' hb, wpAny_forIn_list _ (fun rest b s' => b.1 = none ∧ s' = ⟨hp, g, d, tk, os⟩ ∧ ∃ (vs ws : List Value) (ns' ms' : List Int), rest = vs.zip ws ∧
      IntsAre vs ns' ∧ IntsAre ws ms' ∧ ns'.length + items2.size = ms'.length + items.size ∧ R (.ok (.ret (.bool (lexLt ns' ms')))) ⟨hp, g, d, tk, os⟩) _
    case turn =>
      rintro ⟨y, x⟩ rest b s' ⟨hb', rfl, vs, ws, ns', ms', hz, hvi, hwi, hlen, hR⟩
      cases hvi with
      | nil => rw [List.zip_nil_left] at hz; cases hz
      | cons a t hvi' =>
        cases hwi with
        | nil => rw [List.zip_nil_right] at hz; cases hz
        | cons c u hwi' =>
          rw [List.zip_cons_cons] at hz
          injection hz with hyx hrest
          injection hyx with hy hx
          subst hy hx
          rw [lexLt_cons] at hR
          simp only [List.length_cons] at hlen
          obtain ⟨e, he, hiff⟩ := eqAt_int A.in1 ⟨hp, g, d, tk, os⟩ a t c u
          refine wpAny_bind (he prog w _ _ ?_)
          cases e with
          | true =>
            rw [if_pos (hiff.mp rfl)] at hR
            wp_walk
            exact ⟨rfl, rfl, _, _, _, _, hrest, hvi', hwi', by omega, hR⟩
          | false =>
            rw [if_neg (fun q => absurd (hiff.mpr q) Bool.false_ne_true)] at hR
            have hri := rcLt_int A.in1 ⟨hp, g, d, tk, os⟩ a t c u prog w
            wp_walk using hri
            exact ⟨_, rfl, by simpa using hR⟩
    case fin =>
      rintro ⟨b1, b2⟩ s' ⟨hb', rfl, vs, ws, ns', ms', hz, hvi, hwi, hlen, hR⟩
      simp only at hb'
      subst hb'
      have hv : lexLt ns' ms' = decide (items.size < items2.size) := by
        cases hvi with
        | nil =>
          cases hwi with
          | nil =>
            simp only [List.length_nil] at hlen
            rw [lexLt_nil_nil]
            exact (decide_eq_false (by omega)).symm
          | cons c u hw =>
            simp only [List.length_nil, List.length_cons] at hlen
            rw [lexLt_nil_cons]
            exact (decide_eq_true (by omega)).symm
        | cons a t hv =>
          cases hwi with
          | nil =>
            simp only [List.length_nil, List.length_cons] at hlen
            rw [lexLt_cons_nil]
            exact (decide_eq_false (by omega)).symm
          | cons c u hw =>
            rw [List.zip_cons_cons] at hz
            cases hz
      rw [hv] at hR
      wp_walk
      exact ⟨_, rfl, by simpa [Builtin.Tuple.tupleCompareSizes] using hR⟩
    case h =>
      exact ⟨rfl, rfl, items.toList, items2.toList, ns, ms, rfl, hi, hj, by omega, h⟩
end
section
variable {prog : Program} {w : World} {A : Around} {E : Value → Shared → Prop} {s : Shared}
theorem lt_tupInts {l b : Addr} {items items2 : Array Value} {ns ms : List Int} {Q : Value → Shared → Prop} (hl : IsTup s.heap l items) (hb : IsTup s.heap b items2) (hi : IntsAre items.toList ns) (hj : IntsAre items2.toList ms)
    (hu : A.units < cLine) (h : Q (.bool (lexLt ns ms)) s) : wpAny (model prog w) A (compareOp .Lt (.ref l) (.ref b)) Q E s := by
  obtain ⟨⟨cls, dd, data, sl⟩, ho, hc, n, hd⟩ := id hl
  obtain ⟨⟨cls2, dd2, data2, sl2⟩, ho2, hc2, n2, hd2⟩ := id hb
  simp only at hc hd hc2 hd2
  subst hc hd hc2 hd2
  exact richCompare_meets_room (op := .Lt) ⟨_, ho, rfl⟩ ⟨_, ho2, rfl⟩ PySem.F.slot_tuple_lt PySem.F.entry_tuple_lt (PySem.F.args_tuple_lt_2 _ _) (tuple_lt_ints l b items items2 n n2 dd dd2 sl sl2 ns ms hi hj)
    ⟨ho, ho2, show Value.bool (lexLt ns ms) ≠ Value.notImplemented ∧ Q (.bool (lexLt ns ms)) s from ⟨(fun x => nomatch x), h⟩⟩ hu
theorem cat_tup {t b : Addr} {vs ws : List Value} {Q : Value → Shared → Prop} (ht : IsTup s.heap t vs.toArray) (hb : IsTup s.heap b ws.toArray) (hv : vs ≠ [])
    (h1 : ws = [] → Q (.ref t) s) (h2 : ws ≠ [] → Q (.ref s.heap.objs.size) { s with heap := s.heap.push { cls := .type "tuple", data := .seq (vs ++ ws).toArray } })
    (hsz : vs.length + ws.length ≤ sizeLine) : wpAny (model prog w) A (binaryOp .Add (.ref t) (.ref b)) Q E s := by
  obtain ⟨⟨cls, dd, data, sl⟩, ho, hc, n, hd⟩ := id ht
  obtain ⟨⟨cls2, dd2, data2, sl2⟩, ho2, hc2, n2, hd2⟩ := id hb
  simp only at hc hd hc2 hd2
  subst hc hd hc2 hd2
  have e : vs.toArray ++ ws.toArray = (vs ++ ws).toArray := by simp
  by_cases hw : ws = []
  · exact concat_meets ⟨_, ho, rfl⟩ ⟨_, ho2, rfl⟩ noFill_tuple_add seq_tuple_add PySem.F.slot_tuple_add PySem.F.entry_tuple_add (PySem.F.args_tuple_add_2 _ _)
      (tuple_addW1 t b vs.toArray ws.toArray n n2 dd dd2 sl sl2 (by simpa using hv) (by simp [hw])) ⟨ho, ho2, h1 hw⟩
  · refine concat_meets ⟨_, ho, rfl⟩ ⟨_, ho2, rfl⟩ noFill_tuple_add seq_tuple_add PySem.F.slot_tuple_add PySem.F.entry_tuple_add (PySem.F.args_tuple_add_2 _ _)
      (tuple_addW2 t b vs.toArray ws.toArray n n2 dd dd2 sl sl2 (by simpa using hv) (by simpa using hw) (by rw [List.size_toArray, List.size_toArray]; exact hsz)) ⟨ho, ho2, ?_⟩
    rw [e]
    exact h2 hw
def sIx (n d : Nat) : Option Int → Nat
  | none => d
  | some v => if v < 0 then (v + (n : Int)).toNat else min v.toNat n
theorem sIx_none (n d : Nat) : sIx n d none = d := rfl
theorem sIx_nat (n d k : Nat) : sIx n d (some (k : Int)) = min k n := by
  show (if (k : Int) < 0 then ((k : Int) + (n : Int)).toNat else min (k : Int).toNat n) = min k n
  rw [if_neg (by omega), Int.toNat_natCast]
theorem sIx_le (n d : Nat) (hd : d ≤ n) (o : Option Int) : sIx n d o ≤ n := by
  cases o with
  | none => exact hd
  | some v =>
    show (if v < 0 then (v + (n : Int)).toNat else min v.toNat n) ≤ n
    by_cases hv : v < 0
    · rw [if_pos hv]; omega
    · rw [if_neg hv]; exact Nat.min_le_right _ _
theorem clip_eq (v : Int) (n d : Nat) : (if v < 0 then max (v + (n : Int)) 0 else min v (n : Int)) = ((sIx n d (some v) : Nat) : Int) := by
  show (if v < 0 then max (v + (n : Int)) 0 else min v (n : Int)) = (((if v < 0 then (v + (n : Int)).toNat else min v.toNat n) : Nat) : Int)
  by_cases hv : v < 0
  · simp only [if_pos hv]; omega
  · simp only [if_neg hv]; omega
theorem adjust_gen (lo hi : Option Int) (n : Nat) : Builtin.Slice.sliceAdjust lo hi 1 (n : Int) = (((sIx n 0 lo : Nat) : Int), ((sIx n n hi : Nat) : Int)) := by
  have h1 : ¬ ((1 : Int) < 0) := by omega
  unfold Builtin.Slice.sliceAdjust
  simp only [h1, if_false]
  refine Prod.ext ?_ ?_
  · cases lo with
    | none => rfl
    | some v => exact clip_eq v n 0
  · cases hi with
    | none => rfl
    | some v => exact clip_eq v n n
theorem places_gen (i j : Nat) : Builtin.Slice.slicePlaces (i : Int) (j : Int) 1 = j - i := by
  unfold Builtin.Slice.slicePlaces
  have h1 : (1 : Int) > 0 := by omega
  simp only [h1, if_true, Int.ediv_one]
  split <;> omega
theorem slicePart_ {v : Value} {o : Option Int} {Q : Option Int → Shared → Prop} (p : IsPart v o) (h : Q o s) : wpAny (model prog w) A (Builtin.Slice.slicePartIndex v) Q E s := by
  cases p with
  | none => exact slicePart_none h
  | int i t => exact slicePart_int h
theorem sliceApplied_gen {sl : Addr} {vl vu : Value} {lo hi : Option Int} {n : Nat} {Q : Int × Int × Nat → Shared → Prop} (hs : s.heap.IsSliceOf sl vl vu .none) (pl : IsPart vl lo) (pu : IsPart vu hi)
    (h : Q (((sIx n 0 lo : Nat) : Int), 1, sIx n n hi - sIx n 0 lo) s) : wpAny (model prog w) A (Builtin.Slice.sliceApplied (.ref sl) (pure (n : Int))) Q E s := by
  obtain ⟨os, hos, hcs, hds⟩ := id hs
  unfold Builtin.Slice.sliceApplied Builtin.Slice.sliceFields
  refine wpAny_bind (wpAny_bind (wpAny_field hos hds (x := vl) rfl (wpAny_bind (wpAny_field hos hds (x := vu) rfl (wpAny_bind (wpAny_field hos hds (x := .none) rfl (wpAny_pure ?_)))))))
  refine wpAny_bind (slicePart_none ?_)
  show wpAny _ _ (if ((1 : Int) == 0) = true then _ else _) _ _ s
  rw [if_neg (by decide)]
  refine wpAny_bind (slicePart_ pl (wpAny_bind (slicePart_ pu (wpAny_bind (wpAny_pure ?_)))))
  show wpAny _ _ (match Builtin.Slice.sliceAdjust lo hi 1 (n : Int) with | (lo, hi) => pure (lo, (1 : Int), Builtin.Slice.slicePlaces lo hi 1)) _ _ s
  rw [adjust_gen lo hi n]
  show wpAny _ _ (pure (((sIx n 0 lo : Nat) : Int), (1 : Int), Builtin.Slice.slicePlaces ((sIx n 0 lo : Nat) : Int) ((sIx n n hi : Nat) : Int) 1)) _ _ s
  rw [places_gen]
  exact wpAny_pure h
theorem pick_gen (xs : Array Value) (i k : Nat) : ((List.range k).filterMap fun (m : Nat) => xs[((i : Int) + (m : Int) * 1).toNat]?).toArray = ((xs.toList.drop i).take k).toArray := by
  have e : (fun (m : Nat) => xs[((i : Int) + (m : Int) * 1).toNat]?) = fun m => xs[i + m]? := by
    funext m
    have : ((i : Int) + (m : Int) * 1).toNat = i + m := by omega
    rw [this]
  rw [e]
  have := pick_run xs i k
  rw [List.filterMap_map] at this
  have e2 : ((fun x => xs[x]?) ∘ fun x => i + x) = fun m => xs[i + m]? := rfl
  rw [e2] at this
  rw [this]
theorem getItem_tuple_cut {t sl : Addr} {items : Array Value} {vl vu : Value} {lo hi : Option Int} {Q : Value → Shared → Prop} (ht : IsTup s.heap t items) (hs : s.heap.IsSliceOf sl vl vu .none) (pl : IsPart vl lo) (pu : IsPart vu hi)
    (hw : ¬ (sIx items.size 0 lo = 0 ∧ sIx items.size items.size hi = items.size))
    (h : Q (.ref s.heap.objs.size) { s with heap := s.heap.push { cls := .type "tuple", data := .seq ((items.toList.drop (sIx items.size 0 lo)).take (sIx items.size items.size hi - sIx items.size 0 lo)).toArray } })
    (hsz : items.size ≤ sizeLine) : wpAny (model prog w) A (getItem (.ref t) (.ref sl)) Q E s := by
  have htake : sizeOk (.seq ((items.toList.drop (sIx items.size 0 lo)).take (sIx items.size items.size hi - sIx items.size 0 lo)).toArray) := by
    show ((items.toList.drop (sIx items.size 0 lo)).take (sIx items.size items.size hi - sIx items.size 0 lo)).toArray.size ≤ sizeLine
    rw [List.size_toArray, List.length_take, List.length_drop, Array.length_toList]
    omega
  have hj : sIx items.size items.size hi ≤ items.size := sIx_le _ _ (Nat.le_refl _) hi
  obtain ⟨os, hos, hcs, hds⟩ := id hs
  have hTs : s.TypeIs (.ref sl) "slice" := ⟨os, hos, hcs⟩
  unfold getItem
  try with_reducible refine wpAny_holding ?_
  first | refine wpAny_bind (wpAny_pure ?_) | skip
  refine wpAny_bind (wpAny_sequenceKey ht.typeIs (by decide) ?_)
  refine wpAny_bind (wpAny_callSpecial?_slot (name := Str.ofString "__getitem__") ht.typeIs PyProof.Rows.slot_tuple_getitem
    (wpAny_call_entry PyProof.Rows.slot_tuple_getitem ht.typeIs entry_tuple_getitem ?_ (args_tuple_getitem _ _)))
  show wpAny _ _ (Builtin.Tuple.tupleItemsOf (.ref t) >>= _) _ _ s
  refine wpAny_bind (tupleItemsOf_ ht ?_)
  refine wpAny_bind (wpAny_typeOf hTs ?_)
  rw [if_pos (by decide)]
  refine wpAny_bind (sliceApplied_gen hs pl pu ?_)
  have hno : ¬ ((((sIx items.size 0 lo : Nat) : Int) == 0 && (1 : Int) == 1 && (sIx items.size items.size hi - sIx items.size 0 lo) == items.size) = true) := by
    intro q
    rw [Bool.and_eq_true, Bool.and_eq_true] at q
    have q1 : ((sIx items.size 0 lo : Nat) : Int) = 0 := eq_of_beq q.1.1
    have q2 : sIx items.size items.size hi - sIx items.size 0 lo = items.size := eq_of_beq q.2
    exact hw ⟨by omega, by omega⟩
  show wpAny _ _ (if (((sIx items.size 0 lo : Nat) : Int) == 0 && (1 : Int) == 1 && (sIx items.size items.size hi - sIx items.size 0 lo) == items.size) = true then _ else _) _ _ s
  rw [if_neg hno, pick_gen]
  first
    | exact wpAny_bind (m := Builtin.Tuple.tupleExact _) (wpAny_newObj_type (wpAny_pure ⟨_, rfl, wpAny_pure h⟩) htake)
    | exact wpAny_bind (m := Builtin.Tuple.tupleExact _) (wpAny_newObj_type (wpAny_bind (wpAny_pure (wpAny_pure ⟨_, rfl, wpAny_pure h⟩))) htake)
    | exact wpAny_bind (wpAny_bind (m := Builtin.Tuple.tupleExact _) (wpAny_newObj_type (wpAny_pure (wpAny_pure ⟨_, rfl, wpAny_pure h⟩)) htake))
    | exact wpAny_bind (wpAny_bind (m := Builtin.Tuple.tupleExact _) (wpAny_newObj_type (wpAny_pure ⟨_, rfl, wpAny_pure h⟩) htake))
end
end HT
namespace L2
open PySem PySem.Spec PyProof.Rows
abbrev TO := St → Hp → (Option Int → Hp → Prop) → Prop
def PO (X : Cx) (e : Option Expr) (t : TO) : Prop :=
  ∀ (pins : List (Addr × Obj)) (s : Shared) (σ : St) (H : Hp) (Q : Option Int → Hp → Prop), Inv X pins σ H s → t σ H Q →
    wpAny (model X.prog X.w) X.A (evalPart e X.env) (fun u s' => ∃ o H', Inv X pins σ H' s' ∧ IsPart u o ∧ Q o H') X.xe s
def tNoPart : TO := fun _ H Q => Q none H
def tPart (t : TE) : TO := fun σ H Q => t σ H fun x H1 => ∃ i, x = .int i ∧ Q (some i) H1
theorem intsAre_of {ns : List Int} : ∀ {us : List Value}, Vals (ns.map V.int) us → IntsAre us ns := by
  induction ns with
  | nil => intro us r; rw [List.map_nil] at r; cases r; exact .nil
  | cons n ns ih =>
    intro us r
    rw [List.map_cons] at r
    cases r with
    | cons r1 r2 =>
      obtain ⟨t, e⟩ := r1
      subst e
      exact .cons n t (ih r2)
section
variable {X : Cx} {e : Expr} {te : TE} {lo hi : Option Expr} {tl th : TO} {pos p2 : Pos}
theorem po_none : PO X none tNoPart := by
  intro pins s σ H Q I h
  rw [evalPart_none]
  exact wpAny_pure ⟨none, H, I, .none, h⟩
theorem po_some (h : PE X e te) : PO X (some e) (tPart te) := by
  intro pins s σ H Q I hw
  rw [evalPart_some]
  refine thn (h pins s σ H _ I hw) fun u s1 ⟨x, H1, I1, r1, q1⟩ => ?_
  obtain ⟨i, rfl, q⟩ := q1
  obtain ⟨t, rfl⟩ := r1
  exact ⟨some i, H1, I1, .int i t, q⟩
def SlR (X : Cx) (r : V → Option Int → Option Int → Hp → VK → Prop) : Prop :=
  ∀ (pins : List (Addr × Obj)) (s : Shared) (σ : St) (H : Hp) (x : V) (v vl vu : Value) (lo hi : Option Int) (sl : Addr) (Q : VK), Inv X pins σ H s → RelV x v → s.heap.IsSliceOf sl vl vu .none → IsPart vl lo → IsPart vu hi → r x lo hi H Q →
    ∃ T id, typeLookup (.type T) "__getitem__" = pure (some (.builtin id)) ∧ s.TypeIs v T ∧ wpAny (model X.prog X.w) X.A (getItem v (.ref sl)) (EP X pins σ Q) X.xe s
theorem SlR.or {r r' : V → Option Int → Option Int → Hp → VK → Prop} (h : SlR X r) (h' : SlR X r') : SlR X (fun x lo hi H Q => r x lo hi H Q ∨ r' x lo hi H Q) := by
  intro pins s σ H x v vl vu lo hi sl Q I rx hs pl pu q
  rcases q with q | q
  · exact h pins s σ H x v vl vu lo hi sl Q I rx hs pl pu q
  · exact h' pins s σ H x v vl vu lo hi sl Q I rx hs pl pu q
def tSl (r : V → Option Int → Option Int → Hp → VK → Prop) (te : TE) (tl th : TO) : TE := fun σ H Q => te σ H fun x H1 => tl σ H1 fun l H2 => th σ H2 fun u H3 => r x l u H3 Q
theorem pe_slice {r : V → Option Int → Option Int → Hp → VK → Prop} (hr : SlR X r) (he : PE X e te) (hl : PO X lo tl) (hu : PO X hi th) : PE X (.Subscript e (.Slice lo hi none p2) pos) (tSl r te tl th) := by
  intro pins s σ H Q I h
  refine Subscript_ (thn (he pins s σ H _ I h) fun v s1 ⟨x, H1, I1, r1, q1⟩ => ?_)
  refine wpAny_Slice (thn (hl pins s1 σ H1 _ I1 q1) fun vl s2 ⟨l, H2, I2, pl, q2⟩ => thn (hu pins s2 σ H2 _ I2 q2) fun vu s3 ⟨u, H3, I3, pu, q3⟩ => ?_)
  rw [evalPart_none]
  refine wpAny_pure ?_
  have I4 : Inv X pins σ H3 { s3 with heap := s3.heap.push { cls := .type "slice", data := .fields #[vl, vu, .none] } } := I3.kept (t' := s3.toks) fun b ob q => Heap.get?_push_of_some _ q
  obtain ⟨T, id, hT, ht, hg⟩ := hr pins { s3 with heap := s3.heap.push { cls := .type "slice", data := .fields #[vl, vu, .none] } } σ H3 x v vl vu l u s3.heap.objs.size Q I4 r1 (Heap.IsSliceOf.new ..) pl pu q3
  show wpAny (model X.prog X.w) X.A (subscriptTail e (.Slice lo hi none p2) v (.ref s3.heap.objs.size)) (EP X pins σ Q) X.xe { s3 with heap := s3.heap.push { cls := .type "slice", data := .fields #[vl, vu, .none] } }
  exact tail_any (ops := [.ref s3.heap.objs.size, v]) ht hT hg (by with_unfolding_all rfl)
def cutV (xs : List V) (lo hi : Option Int) : List V := (xs.drop (HT.sIx xs.length 0 lo)).take (HT.sIx xs.length xs.length hi - HT.sIx xs.length 0 lo)
theorem cutV_length (xs : List V) (lo hi : Option Int) : (cutV xs lo hi).length ≤ xs.length := by
  unfold cutV
  rw [List.length_take, List.length_drop]
  omega
def rSlT (K : PySem.W.Frag) : V → Option Int → Option Int → Hp → VK → Prop := fun x lo hi H Q => ∃ a xs, x = .ref a ∧ SqT K H a xs ∧
  ¬ (HT.sIx xs.length 0 lo = 0 ∧ HT.sIx xs.length xs.length hi = xs.length) ∧ ∀ p, H p = none → Q (.ref p) (upd H p (.tup (cutV xs lo hi)))
theorem sl_tup : SlR X (rSlT X.K) := by
  intro pins s σ H x v vl vu lo hi sl Q I rx hs pl pu h
  obtain ⟨a, xs, rfl, hx, hw, q⟩ := h
  cases rx
  obtain ⟨its, r, ht, hz⟩ := I.tuple hx
  have hlen : its.toArray.size = xs.length := by rw [List.size_toArray]; exact r.length.symm
  refine ⟨"tuple", _, PyProof.Rows.slot_tuple_getitem.lookup, ht.typeIs, ?_⟩
  refine HT.getItem_tuple_cut ht hs pl pu (by rw [hlen]; exact hw) ?_ (by rw [hlen]; exact hz)
  rw [hlen]
  refine ⟨.ref s.heap.objs.size, _, I.laid (t' := s.toks) (o := .tup (cutV xs lo hi)) (fun b ob q => Heap.get?_push_of_some _ q) (Nat.le_refl _) ?_, rfl, q _ (I.hok.fresh (Nat.le_refl _))⟩
  exact ⟨Nat.le_trans (cutV_length xs lo hi) hz, _, (r.drop (HT.sIx xs.length 0 lo)).take (HT.sIx xs.length xs.length hi - HT.sIx xs.length 0 lo), IsTup.new _ _⟩
def rLtT (K : PySem.W.Frag) : R2 := fun x y H Q => ∃ a b ns ms, x = .ref a ∧ y = .ref b ∧ SqT K H a (ns.map V.int) ∧ SqT K H b (ms.map V.int) ∧ Q (.bl (HT.lexLt ns ms)) H
theorem op_ltT (hu : X.A.units < cLine) : OpR X (compareOp .Lt) (rLtT X.K) := by
  intro pins s σ H x y v u Q I rx ry h
  obtain ⟨a, b, ns, ms, rfl, rfl, ha, hb, q⟩ := h
  cases rx
  cases ry
  obtain ⟨its, r1, p1, _⟩ := I.tuple ha
  obtain ⟨its2, r2, p2, _⟩ := I.tuple hb
  have i1 : IntsAre its.toArray.toList ns := intsAre_of r1
  have i2 : IntsAre its2.toArray.toList ms := intsAre_of r2
  exact HT.lt_tupInts p1 p2 i1 i2 hu ⟨.bl (HT.lexLt ns ms), H, I, rfl, q⟩
def rCatT (K : PySem.W.Frag) : R2 := fun x y H Q => ∃ a b xs ys, x = .ref a ∧ y = .ref b ∧ SqT K H a xs ∧ SqT K H b ys ∧ xs ≠ [] ∧ xs.length + ys.length ≤ sizeLine ∧
  (ys = [] → Q (.ref a) H) ∧ (ys ≠ [] → ∀ p, H p = none → Q (.ref p) (upd H p (.tup (xs ++ ys))))
theorem Vals.nil_iff {xs : List V} {us : List Value} (r : Vals xs us) : us = [] ↔ xs = [] := by
  cases r with
  | nil => simp
  | cons _ _ => simp
theorem op_catT : OpR X (binaryOp .Add) (rCatT X.K) := by
  intro pins s σ H x y v u Q I rx ry h
  obtain ⟨a, b, xs, ys, rfl, rfl, ha, hb, hx, hz, q1, q2⟩ := h
  cases rx
  cases ry
  obtain ⟨its, r1, p1, _⟩ := I.tuple ha
  obtain ⟨its2, r2, p2, _⟩ := I.tuple hb
  refine HT.cat_tup p1 p2 (fun z => hx (r1.nil_iff.mp z)) (fun z => ⟨.ref a, H, I, rfl, q1 (r2.nil_iff.mp z)⟩) (fun z => ?_) (by rw [← r1.length, ← r2.length]; exact hz)
  refine ⟨.ref s.heap.objs.size, _, I.laid (t' := s.toks) (o := .tup (xs ++ ys)) (fun b ob q => Heap.get?_push_of_some _ q) (Nat.le_refl _) ?_, rfl, q2 (fun w => z (r2.nil_iff.mpr w)) _ (I.hok.fresh (Nat.le_refl _))⟩
  exact ⟨by rw [List.length_append]; exact hz, _, r1.append r2, IsTup.new _ _⟩
theorem call_tupleT : CallR X (.type "tuple") (fun xs H Q => ∃ a ys, xs = [.ref a] ∧ SqT X.K H a ys ∧ Q (.ref a) H) := by
  intro pins s σ H xs us Q I r h
  obtain ⟨a, ys, rfl, ha, q⟩ := h
  obtain ⟨u, rfl, ru⟩ := vals1 r
  cases ru
  obtain ⟨its, _, p1, _⟩ := I.tuple ha
  exact call_tuple_same (items := its.toArray) p1 ⟨.ref a, H, I, rfl, q⟩
end
end L2
namespace L2
open PySem PySem.Spec PyProof.Rows
def ixN (n : Nat) (i : Int) : Option Nat := if 0 ≤ i then (if i < n then some i.toNat else none) else if -(n : Int) ≤ i then some (i + n).toNat else none
def atI {α : Type} (xs : List α) (i : Int) : Option α := (ixN xs.length i).bind fun j => xs[j]?
theorem ixN_seq {n : Nat} {i : Int} {j : Nat} (h : ixN n i = some j) : seqIndex? i n = some j ∧ j < n ∧ -(n : Int) ≤ i ∧ i < n := by
  unfold ixN at h
  by_cases h0 : 0 ≤ i
  · rw [if_pos h0] at h
    by_cases h1 : i < n
    · rw [if_pos h1] at h
      have e : i.toNat = j := Option.some.inj h
      exact ⟨by rw [seqIndex_of h0 h1, e], by omega, by omega, h1⟩
    · rw [if_neg h1] at h; cases h
  · rw [if_neg h0] at h
    by_cases h1 : -(n : Int) ≤ i
    · rw [if_pos h1] at h
      have e : (i + n).toNat = j := Option.some.inj h
      exact ⟨by rw [seqIndex_neg (by omega) h1, e], by omega, h1, by omega⟩
    · rw [if_neg h1] at h; cases h
theorem atI_get {α : Type} {xs : List α} {i : Int} {v : α} (h : atI xs i = some v) : ∃ j, seqIndex? i xs.length = some j ∧ xs[j]? = some v ∧ j < xs.length ∧ -(xs.length : Int) ≤ i ∧ i < xs.length := by
  unfold atI at h
  cases e : ixN xs.length i with
  | none => rw [e] at h; cases h
  | some j =>
    rw [e] at h
    obtain ⟨h1, h2, h3, h4⟩ := ixN_seq e
    exact ⟨j, h1, h, h2, h3, h4⟩
theorem atI_nat {α : Type} {xs : List α} {j : Nat} {v : α} (h : xs[j]? = some v) : atI xs (j : Int) = some v := by
  have hj : j < xs.length := (List.getElem?_eq_some_iff.mp h).1
  have e : ixN xs.length (j : Int) = some j := by
    unfold ixN
    rw [if_pos (by omega), if_pos (by omega)]; simp
  unfold atI; rw [e]; exact h
theorem atI_last {α : Type} (xs : List α) (v : α) : atI (xs ++ [v]) (-1) = some v := by
  have hl : (xs ++ [v]).length = xs.length + 1 := by simp
  have e : ixN (xs ++ [v]).length (-1) = some xs.length := by
    unfold ixN
    rw [hl, if_neg (by decide), if_pos (by omega)]
    congr 1
    omega
  unfold atI
  rw [e]
  show (xs ++ [v])[xs.length]? = some v
  simp
def PlainIx (b : Expr) : Prop := ∀ o i, subscripted b false o i = operate [o, i] (getItem o i)
def IxR (X : Cx) (r : R2) : Prop :=
  ∀ (value slice : Expr) (pins : List (Addr × Obj)) (s : Shared) (σ : St) (H : Hp) (x y : V) (v u : Value) (Q : VK), Inv X pins σ H s → RelV x v → RelV y u → r x y H Q →
    subscripted slice false v u = operate [v, u] (getItem v u) → wpAny (model X.prog X.w) X.A (subscriptTail value slice v u) (EP X pins σ Q) X.xe s
def MtR (X : Cx) (id : String) (r : V → List V → Hp → VK → Prop) : Prop :=
  ∀ (pins : List (Addr × Obj)) (s : Shared) (σ : St) (H : Hp) (x : V) (xs : List V) (v : Value) (us : List Value) (Q : VK), Inv X pins σ H s → RelV x v → Vals xs us → r x xs H Q →
    wpAny (model X.prog X.w) X.A (call (.builtin id) (v :: us)) (EP X pins σ Q) X.xe s
section
variable {X : Cx} {a b : Expr} {ta tb : TE} {pos : Pos}
theorem IxR.or {r r' : R2} (h : IxR X r) (h' : IxR X r') : IxR X (fun x y H Q => r x y H Q ∨ r' x y H Q) := by
  intro value slice pins s σ H x y v u Q I rx ry q hs
  rcases q with q | q
  · exact h value slice pins s σ H x y v u Q I rx ry q hs
  · exact h' value slice pins s σ H x y v u Q I rx ry q hs
theorem MtR.or {id : String} {r r' : V → List V → Hp → VK → Prop} (h : MtR X id r) (h' : MtR X id r') : MtR X id (fun x xs H Q => r x xs H Q ∨ r' x xs H Q) := by
  intro pins s σ H x xs v us Q I rx rs q
  rcases q with q | q
  · exact h pins s σ H x xs v us Q I rx rs q
  · exact h' pins s σ H x xs v us Q I rx rs q
theorem pe_ix {r : R2} (hr : IxR X r) (ha : PE X a ta) (hb : PE X b tb) (hs : PlainIx b) : PE X (.Subscript a b pos) (tOp r ta tb) := by
  intro pins s σ H Q I h
  exact Subscript_ (binT ha hb I h fun v u s2 x y H2 I2 rx ry q => hr a b pins s2 σ H2 x y v u Q I2 rx ry q (hs _ _))
def rIxL (K : PySem.W.Frag) : R2 := fun x y H Q => ∃ p xs i v, x = .ref p ∧ y = .int i ∧ SqL K H p xs ∧ atI xs i = some v ∧ Q v H
def rIxT (K : PySem.W.Frag) : R2 := fun x y H Q => ∃ p xs i v, x = .ref p ∧ y = .int i ∧ SqT K H p xs ∧ atI xs i = some v ∧ Q v H
def rIxS : R2 := fun x y H Q => ∃ z i c, x = .str z ∧ y = .int i ∧ z.length ≤ sizeLine ∧ atI z.cps.toList i = some c ∧ Q (.str ⟨#[c]⟩) H
theorem ix_list : IxR X (rIxL X.K) := by
  intro value slice pins s σ H x y v u Q I rx ry h hs
  obtain ⟨p, xs, i, z, rfl, rfl, hq, he, q⟩ := h
  cases rx
  obtain ⟨t, rfl⟩ := ry
  obtain ⟨its, r, pl, hz⟩ := I.list hq
  obtain ⟨j, h1, h2, h3, h4, h5⟩ := atI_get he
  obtain ⟨w, ew, rw'⟩ := r.get h2
  have hl := r.length
  have hn := line63
  have fin : EP X pins σ Q w s := ⟨z, H, I, rw', q⟩
  by_cases h0 : 0 ≤ i
  · have hj : i.toNat = j := by
      rw [seqIndex_of h0 h5] at h1
      exact Option.some.inj h1
    exact item_listR pl.isList h0 (by omega) (by rw [hj]; simpa using ew) fin hs
  · have hj : (i + (its.toArray.size : Int)).toNat = j := by
      rw [seqIndex_neg (by omega) h4] at h1
      rw [List.size_toArray, ← hl]
      exact Option.some.inj h1
    exact subscriptTail_builtinR (x := w) pl.isList.typeIs slot_list_getitem.lookup
      (wpAny_getItem_list_neg (Q := fun r s' => r = w ∧ EP X pins σ Q r s') pl.isList (by omega) (by rw [List.size_toArray] <;> omega) (by omega) (by rw [hj]; simpa using ew) ⟨rfl, fin⟩) hs
theorem ix_tup : IxR X (rIxT X.K) := by
  intro value slice pins s σ H x y v u Q I rx ry h hs
  obtain ⟨p, xs, i, z, rfl, rfl, hq, he, q⟩ := h
  cases rx
  obtain ⟨t, rfl⟩ := ry
  obtain ⟨its, r, pl, hz⟩ := I.tuple hq
  obtain ⟨j, h1, h2, h3, h4, h5⟩ := atI_get he
  obtain ⟨w, ew, rw'⟩ := r.get h2
  have hl := r.length
  have hn := line63
  have fin : EP X pins σ Q w s := ⟨z, H, I, rw', q⟩
  exact subscriptTail_builtinR (x := w) pl.typeIs slot_tuple_getitem.lookup
    (getItem_tuple (j := j) (Q := fun r s' => r = w ∧ EP X pins σ Q r s') pl (by omega) (by omega) (by rw [List.size_toArray, ← hl]; exact h1) (by simpa using ew) ⟨rfl, fin⟩) hs
theorem ix_str : IxR X rIxS := by
  intro value slice pins s σ H x y v u Q I rx ry h hs
  obtain ⟨z, i, c, rfl, rfl, hz, he, q⟩ := h
  obtain ⟨t, rfl⟩ := rx
  obtain ⟨t', rfl⟩ := ry
  obtain ⟨j, h1, h2, h3, h4, h5⟩ := atI_get he
  have hl : z.cps.toList.length = z.length := by simp [Str.length]
  rw [hl] at h1 h4 h5
  have hn := line63
  exact tail_any (typeIs_str s z t) slot_str_getitem.lookup (getItem_str (c := c) (by
    have e1 : decide (i < -(2 ^ 63 : Int)) = false := decide_eq_false (by omega)
    have e2 : decide (i ≥ 2 ^ 63) = false := decide_eq_false (by omega)
    rw [e1, e2, Bool.or_false]) (by rw [h1]; simpa using h2) ⟨.str ⟨#[c]⟩, H, I.tok _, ⟨_, rfl⟩, q⟩) hs
def rIx (K : PySem.W.Frag) : R2 := fun x y H Q => rIxL K x y H Q ∨ rIxT K x y H Q ∨ rIxS x y H Q
theorem ix_seq : IxR X (rIx X.K) := ix_list.or (ix_tup.or ix_str)
theorem mapSeq_set (its : List Value) (n j : Nat) (u : Value) : Obj.mapSeq (·.setIfInBounds j u) { cls := .type "list", data := .seq its.toArray n } = { cls := .type "list", data := .seq (its.set j u).toArray n } := by
  simp [Obj.mapSeq]
theorem Inv.lst {pins : List (Addr × Obj)} {σ : St} {H : Hp} {s : Shared} {p : Addr} {xs : List V} (I : Inv X pins σ H s) (h : H p = some (.lst xs)) :
    ∃ (its : List Value) (n : Nat), Vals xs its ∧ s.heap.get? p = some { cls := .type "list", data := .seq its.toArray n } ∧ xs.length ≤ sizeLine := by
  obtain ⟨z, its, n, r, e⟩ := I.hok p _ h
  exact ⟨its, n, r, e, z⟩
theorem Inv.lstUpd {pins : List (Addr × Obj)} {σ : St} {H : Hp} {s : Shared} {p : Addr} {xs ys : List V} {its its' : List Value} {n n' : Nat} {f : Obj → Obj} (I : Inv X pins σ H s) (h : H p = some (.lst xs))
    (ho : s.heap.get? p = some { cls := .type "list", data := .seq its.toArray n }) (hf : f { cls := .type "list", data := .seq its.toArray n } = { cls := .type "list", data := .seq its'.toArray n' }) (r : Vals ys its') (hz : ys.length ≤ sizeLine) (t : Nat) :
    Inv X pins σ (upd H p (.lst ys)) { s with heap := s.heap.update p f, toks := t } := by
  have e : (s.heap.update p f).get? p = some { cls := .type "list", data := .seq its'.toArray n' } := by
    rw [Heap.get?_update_self f ho (by rw [hf] <;> rfl), hf]
  refine I.write (x := p) (e := p) (by rw [h]; trivial) (.inl rfl) (fun b u hb q => (Heap.get?_update_other _ _ (Ne.symm hb)).trans q) ⟨_, e⟩ ?_
  exact ⟨hz, its', n', r, e⟩
def rSetL : V → V → V → Hp → (Hp → Prop) → Prop := fun o i v H Q => ∃ p xs k j, o = .ref p ∧ i = .int k ∧ H p = some (.lst xs) ∧ ixN xs.length k = some j ∧ Q (upd H p (.lst (xs.set j v)))
theorem set_list : PSet X rSetL := by
  intro pins s σ H o i v ov iv u Q I ro ri rv h
  obtain ⟨p, xs, k, j, rfl, rfl, hp, hj, q⟩ := h
  cases ro
  obtain ⟨t, rfl⟩ := ri
  obtain ⟨its, n, r, ho, hz⟩ := I.lst hp
  obtain ⟨h1, h2, h3, h4⟩ := ixN_seq hj
  have hl := r.length
  have hn := line63
  have I' : Inv X pins σ (upd H p (.lst (xs.set j v))) { s with heap := s.heap.update p (Obj.mapSeq (·.setIfInBounds j u)) } :=
    I.lstUpd hp ho (mapSeq_set its n j u) (r.set rv j) (by rw [List.length_set]; exact hz) s.toks
  by_cases h0 : 0 ≤ k
  · have hk : k.toNat = j := by
      rw [seqIndex_of h0 h4] at h1
      exact Option.some.inj h1
    exact PySem.W.ki_setAt ho h0 (by omega) (by rw [List.size_toArray, ← hl]; exact h4) (by rw [hk]; exact ⟨_, I', q⟩)
  · have hk : (k + (its.toArray.size : Int)).toNat = j := by
      rw [seqIndex_neg (by omega) h3] at h1
      rw [List.size_toArray, ← hl]
      exact Option.some.inj h1
    exact PySem.W.ki_setBack ho (by omega) (by rw [List.size_toArray, ← hl]; exact h3) (by omega) (by rw [hk]; exact ⟨_, I', q⟩)
theorem slice_bounds (lo hi : Option Int) (n : Nat) : (sliceBounds lo hi none n).1 = ((HT.sIx n 0 lo : Nat) : Int) ∧ (sliceBounds lo hi none n).2.1 = ((HT.sIx n n hi : Nat) : Int) ∧ (sliceBounds lo hi none n).2.2 = 1 := by
  refine ⟨?_, ?_, rfl⟩
  · cases lo with
    | none => simp [sliceBounds, HT.sIx]
    | some i =>
      simp only [sliceBounds, HT.sIx, Option.getD_none, show (1 : Int) > 0 by decide, if_true]
      by_cases h : i < 0
      · simp only [h, if_true] <;> omega
      · simp only [h, if_false] <;> omega
  · cases hi with
    | none => simp [sliceBounds, HT.sIx]
    | some i =>
      simp only [sliceBounds, HT.sIx, Option.getD_none, show (1 : Int) > 0 by decide, if_true]
      by_cases h : i < 0
      · simp only [h, if_true] <;> omega
      · simp only [h, if_false] <;> omega
theorem slicePick_cut (its : List Value) (lo hi : Option Int) : slicePick its.toArray lo hi none = ((its.drop (HT.sIx its.length 0 lo)).take (HT.sIx its.length its.length hi - HT.sIx its.length 0 lo)).toArray := by
  obtain ⟨h1, h2, h3⟩ := slice_bounds lo hi its.toArray.size
  unfold slicePick
  rw [h1, h2, h3]
  simp only [sliceRange_one, pick_run, List.size_toArray] <;> rfl
def rSlL (K : PySem.W.Frag) : V → Option Int → Option Int → Hp → VK → Prop := fun x lo hi H Q => ∃ a xs, x = .ref a ∧ SqL K H a xs ∧ ∀ p, H p = none → Q (.ref p) (upd H p (.lst (cutV xs lo hi)))
theorem sl_list : SlR X (rSlL X.K) := by
  intro pins s σ H x v vl vu lo hi sl Q I rx hs pl pu h
  obtain ⟨a, xs, rfl, hx, q⟩ := h
  cases rx
  obtain ⟨its, r, ht, hz⟩ := I.list hx
  have hlen := r.length
  refine ⟨"list", _, slot_list_getitem.lookup, ht.isList.typeIs, ?_⟩
  refine wpAny_getItem_list_slice ht.isList hs pl pu .none (by simp) ?_ (by rw [List.size_toArray] <;> omega)
  rw [slicePick_cut, ← hlen]
  refine ⟨.ref s.heap.objs.size, _, I.laid (t' := s.toks) (o := .lst (cutV xs lo hi)) (fun b ob q => Heap.get?_push_of_some _ q) (Nat.le_refl _) ?_, rfl, q _ (I.hok.fresh (Nat.le_refl _))⟩
  exact ⟨Nat.le_trans (cutV_length xs lo hi) hz, _, 0, (r.drop (HT.sIx xs.length 0 lo)).take (HT.sIx xs.length xs.length hi - HT.sIx xs.length 0 lo), Heap.get?_push_size _ rfl⟩
def flatV : V → Bool
  | .non => true
  | .bl _ => true
  | .int _ => true
  | .str _ => true
  | _ => false
def eqV : V → V → Bool
  | .non, .non => true
  | .bl a, .bl b => a == b
  | .bl a, .int b => (if a then 1 else 0) == b
  | .int a, .bl b => a == (if b then 1 else 0)
  | .int a, .int b => a == b
  | .str a, .str b => a == b
  | _, _ => false
theorem eqAt_V {A : Around} {s : Shared} {y x : V} {u v : Value} (ry : RelV y u) (rx : RelV x v) (fy : flatV y = true) (fx : flatV x = true) : SeqAt.EqAt A s u v (eqV y x) := by
  cases y with
  | non =>
    cases ry
    cases x with
    | non => cases rx; exact SeqAt.EqAt.same _
    | bl b => cases rx; exact SeqAt.EqAt.none_bool b
    | int b => obtain ⟨t, rfl⟩ := rx; exact SeqAt.EqAt.none_int b t
    | str b => obtain ⟨t, rfl⟩ := rx; exact SeqAt.EqAt.none_str b t
    | _ => exact absurd (show false = true from fx) Bool.false_ne_true
  | bl a =>
    cases ry
    cases x with
    | non => cases rx; exact SeqAt.EqAt.bool_none a
    | bl b => cases rx; exact SeqAt.EqAt.bool_bool a b
    | int b => obtain ⟨t, rfl⟩ := rx; exact SeqAt.EqAt.bool_int a b t
    | str b => obtain ⟨t, rfl⟩ := rx; exact SeqAt.EqAt.bool_str a b t
    | _ => exact absurd (show false = true from fx) Bool.false_ne_true
  | int a =>
    obtain ⟨t', rfl⟩ := ry
    cases x with
    | non => cases rx; exact SeqAt.EqAt.int_none a t'
    | bl b => cases rx; exact SeqAt.EqAt.int_bool a t' b
    | int b => obtain ⟨t, rfl⟩ := rx; exact SeqAt.EqAt.int_int a t' b t
    | str b => obtain ⟨t, rfl⟩ := rx; exact SeqAt.EqAt.int_str a t' b t
    | _ => exact absurd (show false = true from fx) Bool.false_ne_true
  | str a =>
    obtain ⟨t', rfl⟩ := ry
    cases x with
    | non => cases rx; exact SeqAt.EqAt.str_none a t'
    | bl b => cases rx; exact SeqAt.EqAt.str_bool a t' b
    | int b => obtain ⟨t, rfl⟩ := rx; exact SeqAt.EqAt.str_int a t' b t
    | str b => obtain ⟨t, rfl⟩ := rx; exact SeqAt.EqAt.str_str a t' b t
    | _ => exact absurd (show false = true from fx) Bool.false_ne_true
  | _ => exact absurd (show false = true from fy) Bool.false_ne_true
def eqU (x : V) (u : Value) : Bool := match u with
  | .none => eqV .non x
  | .bool b => eqV (.bl b) x
  | .int i _ => eqV (.int i) x
  | .str z _ => eqV (.str z) x
  | _ => false
theorem eqU_of {x y : V} {u : Value} (r : RelV y u) (f : flatV y = true) : eqU x u = eqV y x := by
  cases y with
  | non => cases r; rfl
  | bl b => cases r; rfl
  | int i => obtain ⟨t, rfl⟩ := r; rfl
  | str z => obtain ⟨t, rfl⟩ := r; rfl
  | _ => exact absurd (show false = true from f) Bool.false_ne_true
theorem any_eqU {x : V} : ∀ {xs : List V} {us : List Value}, Vals xs us → xs.all flatV = true → us.any (eqU x) = xs.any fun y => eqV y x
  | _, _, .nil, _ => rfl
  | y :: xs, u :: us, .cons r t, f => by
    rw [List.all_cons, Bool.and_eq_true] at f
    rw [List.any_cons, List.any_cons, eqU_of r f.1, any_eqU t f.2]
theorem mem_eqAt {A : Around} {s : Shared} {x : V} {v : Value} (rx : RelV x v) (fx : flatV x = true) : ∀ {xs : List V} {us : List Value}, Vals xs us → xs.all flatV = true → ∀ u ∈ us, SeqAt.EqAt A s u v (eqU x u)
  | _, _, .nil, _ => fun u hu => by cases hu
  | y :: xs, u :: us, .cons r t, f => fun u' hu => by
    rw [List.all_cons, Bool.and_eq_true] at f
    rcases List.mem_cons.mp hu with rfl | hu
    · rw [eqU_of r f.1]; exact eqAt_V r rx f.1 fx
    · exact mem_eqAt rx fx t f.2 u' hu
def inV (x : V) (xs : List V) : Bool := xs.any fun y => eqV y x
def rIn (K : PySem.W.Frag) (neg : Bool) : R2 := fun x y H Q => ∃ p xs, y = .ref p ∧ (SqL K H p xs ∨ SqT K H p xs) ∧ flatV x = true ∧ xs.all flatV = true ∧ Q (.bl (if neg then !inV x xs else inV x xs)) H
theorem op_in_seq : OpR X (compareOp .In) (rIn X.K false) := by
  intro pins s σ H x y v u Q I rx ry h
  obtain ⟨p, xs, rfl, hq, fx, fs, q⟩ := h
  cases ry
  rcases hq with hq | hq
  · obtain ⟨its, r, pl, hz⟩ := I.list hq
    refine SeqAt.in_listAt (eqU x) pl.isList (fun w hw => mem_eqAt rx fx r fs w (by simpa using hw)) ⟨.bl _, H, I, rfl, ?_⟩
    rw [show its.toArray.any (eqU x) = its.any (eqU x) by simp, any_eqU r fs]
    exact q
  · obtain ⟨its, r, pl, hz⟩ := I.tuple hq
    refine SeqAt.in_tupleAt (eqU x) pl (fun w hw => mem_eqAt rx fx r fs w (by simpa using hw)) ⟨.bl _, H, I, rfl, ?_⟩
    rw [show its.toArray.any (eqU x) = its.any (eqU x) by simp, any_eqU r fs]
    exact q
theorem op_notIn_seq : OpR X (compareOp .NotIn) (rIn X.K true) := by
  intro pins s σ H x y v u Q I rx ry h
  obtain ⟨p, xs, rfl, hq, fx, fs, q⟩ := h
  cases ry
  rcases hq with hq | hq
  · obtain ⟨its, r, pl, hz⟩ := I.list hq
    refine SeqAt.notIn_listAt (eqU x) pl.isList (fun w hw => mem_eqAt rx fx r fs w (by simpa using hw)) ⟨.bl _, H, I, rfl, ?_⟩
    rw [show its.toArray.any (eqU x) = its.any (eqU x) by simp, any_eqU r fs]
    exact q
  · obtain ⟨its, r, pl, hz⟩ := I.tuple hq
    refine SeqAt.notIn_tupleAt (eqU x) pl (fun w hw => mem_eqAt rx fx r fs w (by simpa using hw)) ⟨.bl _, H, I, rfl, ?_⟩
    rw [show its.toArray.any (eqU x) = its.any (eqU x) by simp, any_eqU r fs]
    exact q
theorem op_notIn_str : OpR X (compareOp .NotIn) (fun x y H Q => ∃ i j, x = .str i ∧ y = .str j ∧ Q (.bl (!(!(Builtin.Str.occurrences j i 0 j.length 1).isEmpty))) H) := by
  intro pins s σ H x y v u Q I rx ry h
  obtain ⟨i, j, rfl, rfl, q⟩ := h
  obtain ⟨t, rfl⟩ := rx
  obtain ⟨t', rfl⟩ := ry
  exact notIn_str ⟨.bl _, H, I, rfl, q⟩
theorem call_len_seq : CallR X (.builtin "len") (fun xs H Q => ∃ p ys, xs = [.ref p] ∧ (SqL X.K H p ys ∨ SqT X.K H p ys) ∧ Q (.int ys.length) H) := by
  intro pins s σ H xs us Q I r h
  obtain ⟨p, ys, rfl, hq, q⟩ := h
  obtain ⟨u, rfl, rx⟩ := vals1 r
  cases rx
  have hn := line63
  rcases hq with hq | hq
  · obtain ⟨its, r', pl, hz⟩ := I.list hq
    have hlen := r'.length
    exact Calls.call_len_list pl.isList (by simp only [List.size_toArray] <;> omega) ⟨.int ys.length, H, I.tok _, ⟨s.toks + 1, by rw [List.size_toArray, hlen]⟩, q⟩
  · obtain ⟨its, r', pl, hz⟩ := I.tuple hq
    have hlen := r'.length
    exact len_tuple pl (by simp only [List.size_toArray] <;> omega) ⟨.int ys.length, H, I.tok _, ⟨s.toks + 1, by rw [List.size_toArray, hlen]⟩, q⟩
theorem call_len_str : CallR X (.builtin "len") (fun xs H Q => ∃ z, xs = [.str z] ∧ z.length ≤ sizeLine ∧ Q (.int z.length) H) := by
  intro pins s σ H xs us Q I r h
  obtain ⟨z, rfl, hz, q⟩ := h
  obtain ⟨u, rfl, t, rfl⟩ := vals1 r
  have hn := line63
  exact len_str (by omega) ⟨.int z.length, H, I.tok _, ⟨_, rfl⟩, q⟩
theorem CallR.or {f : Value} {r r' : List V → Hp → VK → Prop} (h : CallR X f r) (h' : CallR X f r') : CallR X f (fun xs H Q => r xs H Q ∨ r' xs H Q) := by
  intro pins s σ H xs us Q I rs q
  rcases q with q | q
  · exact h pins s σ H xs us Q I rs q
  · exact h' pins s σ H xs us Q I rs q
theorem call_list_of : CallR X (.type "list") (fun xs H Q => ∃ p ys, xs = [.ref p] ∧ (SqL X.K H p ys ∨ SqT X.K H p ys) ∧ ∀ l, H l = none → Q (.ref l) (upd H l (.lst ys))) := by
  intro pins s σ H xs us Q I r h
  obtain ⟨p, ys, rfl, hq, q⟩ := h
  obtain ⟨u, rfl, rx⟩ := vals1 r
  cases rx
  have fin : ∀ (its : List Value), Vals ys its → ys.length ≤ sizeLine → ∀ (h' : Heap) (c' : Nat), (∀ b o', s.heap.get? b = some o' → h'.get? b = some o') →
      h'.get? s.heap.objs.size = some { cls := .type "list", dict := none, data := .seq its.toArray c', slots := #[] } → EP X pins σ Q (.ref s.heap.objs.size) { s with heap := h' } := fun its r' hz h' c' kp e =>
    ⟨.ref s.heap.objs.size, _, I.laid (t' := s.toks) kp (Nat.le_refl _) (show ObjOk X.prog X.w _ h' _ (.lst ys) from ⟨hz, its, c', r', e⟩), rfl, q _ (I.hok.fresh (Nat.le_refl _))⟩
  rcases hq with hq | hq
  · obtain ⟨its, r', pl, hz⟩ := I.list hq
    have hlen := r'.length
    obtain ⟨o, ho, hc, n, hd⟩ := pl.isList
    exact call_list_seq p (.inl rfl) ho hc hd (fun h' c' kp e => fin its r' hz h' c' kp e) (by simp only [List.size_toArray] <;> omega)
  · obtain ⟨its, r', pl, hz⟩ := I.tuple hq
    have hlen := r'.length
    obtain ⟨o, ho, hc, n, hd⟩ := pl
    exact call_list_seq p (.inr rfl) ho hc hd (fun h' c' kp e => fin its r' hz h' c' kp e) (by simp only [List.size_toArray] <;> omega)
theorem call_tuple_of : CallR X (.type "tuple") (fun xs H Q => ∃ p ys, xs = [.ref p] ∧ ((SqL X.K H p ys ∧ ∀ l, H l = none → Q (.ref l) (upd H l (.tup ys))) ∨ (SqT X.K H p ys ∧ Q (.ref p) H))) := by
  intro pins s σ H xs us Q I r h
  obtain ⟨p, ys, rfl, h⟩ := h
  obtain ⟨u, rfl, rx⟩ := vals1 r
  cases rx
  rcases h with ⟨hq, q⟩ | ⟨hq, q⟩
  · obtain ⟨its, r', pl, hz⟩ := I.list hq
    have hlen := r'.length
    refine call_tuple_list pl.isList (fun h' kp => ?_) (by simp only [List.size_toArray] <;> omega)
    have I1 : Inv X pins σ H { s with heap := h' } := I.kept (t' := s.toks) kp
    have I2 : Inv X pins σ (upd H h'.objs.size (.tup ys)) { s with heap := h'.push { cls := .type "tuple", data := .seq its.toArray } } :=
      I1.laid (t' := s.toks) (fun b o e => Heap.get?_push_of_some _ e) (Nat.le_refl _) (show ObjOk X.prog X.w _ _ _ (.tup ys) from ⟨hz, its, r', IsTup.new _ _⟩)
    exact ⟨.ref h'.objs.size, _, I2, rfl, q _ (I1.hok.fresh (Nat.le_refl _))⟩
  · obtain ⟨its, r', pl, hz⟩ := I.tuple hq
    exact call_tuple_same pl ⟨.ref p, H, I, rfl, q⟩
def tyV (K : PySem.W.Frag) (T : String) (x : V) (H : Hp) : Prop := match x with
  | .str _ => T = "str"
  | .int _ => T = "int"
  | .ref p => (T = "list" ∧ ∃ xs, SqL K H p xs) ∨ (T = "tuple" ∧ ∃ o, K.lookup p = some o ∧ o.cls = .type "tuple" ∧ o.dict = none) ∨
      (T = "dict" ∧ ((∃ kvs, H p = some (.dK kvs)) ∨ ∃ kvs, H p = some (.dT kvs))) ∨ (T = "set" ∧ ∃ S n, H p = some (.set S n))
  | _ => False
theorem tyV_is {pins : List (Addr × Obj)} {σ : St} {H : Hp} {s : Shared} {T : String} {x : V} {v : Value} (I : Inv X pins σ H s) (r : RelV x v) (ty : tyV X.K T x H) :
    s.TypeIs v T ∧ ∀ a, v = .ref a → ∃ ob, s.heap.get? a = some ob ∧ ob.dict = none := by
  cases x with
  | str z =>
    obtain ⟨t, rfl⟩ := r
    cases (show T = "str" from ty)
    exact ⟨typeIs_str s z t, fun _ e => nomatch e⟩
  | int i =>
    obtain ⟨t, rfl⟩ := r
    cases (show T = "int" from ty)
    exact ⟨typeIs_int s i t, fun _ e => nomatch e⟩
  | ref p =>
    cases r
    rcases ty with ⟨rfl, xs, hq⟩ | ⟨rfl, o, hk, hc, hd⟩ | ⟨rfl, hk⟩ | ⟨rfl, S, n, hk⟩
    · obtain ⟨its, _, pl, _⟩ := I.list hq
      refine ⟨pl.isList.typeIs, fun a e => ?_⟩
      cases e
      obtain ⟨o, n, e, c, hd, _⟩ := pl
      exact ⟨o, e, hd⟩
    · refine ⟨⟨o, I.kIn p o hk, hc⟩, fun a e => ?_⟩
      cases e
      exact ⟨o, I.kIn _ o hk, hd⟩
    · have z : ∃ o, s.heap.get? p = some o ∧ o.ExactDict := by
        rcases hk with ⟨kvs, hk⟩ | ⟨kvs, hk⟩
        · obtain ⟨_, _, _, _, o, _, _, e, ex, _⟩ := I.hok p _ hk
          exact ⟨o, e, ex⟩
        · obtain ⟨_, _, _, _, o, _, _, e, ex, _⟩ := I.hok p _ hk
          exact ⟨o, e, ex⟩
      obtain ⟨o, e, ex⟩ := z
      refine ⟨⟨o, e, ex.1⟩, fun a e2 => ?_⟩
      cases e2
      exact ⟨o, e, ex.2.1⟩
    · obtain ⟨o, _, _, _, e, ex, _⟩ := I.hok p _ hk
      refine ⟨⟨o, e, ex.1⟩, fun a e2 => ?_⟩
      cases e2
      exact ⟨o, e, ex.2.1⟩
  | _ => exact False.elim ty
def tBM0 (K : PySem.W.Frag) (T : String) (r : V → List V → Hp → VK → Prop) (to : TE) : TE := fun σ H Q => to σ H fun x H1 => tyV K T x H1 ∧ r x [] H1 Q
def tBM (K : PySem.W.Frag) (T : String) (r : V → List V → Hp → VK → Prop) (to : TE) (t : TA) : TE := fun σ H Q => to σ H fun x H1 => tyV K T x H1 ∧ t σ H1 fun xs H2 => r x xs H2 Q
variable {o e : Expr} {es : List Expr} {to : TE} {t : TA} {name : Str} {apos cpos : Pos} {T id : String} {r : V → List V → Hp → VK → Prop}
theorem pe_bm0 (pa : PlainAttrs T) (slot : Slot T name id) (hty : typeOf (.builtin id) = pure (.type "method_descriptor")) (hm : MtR X id r) (ho : PE X o to)
    (hbase : attributeBase o name X.env (eval o X.env) = eval o X.env := by rfl) (hline : (apos.endLine == cpos.line) = true := by rfl) : PE X (.Call (.Attribute o name apos) [] [] cpos) (tBM0 X.K T r to) := by
  intro pins s σ H Q I h
  refine wpAny_Call_method0_late hbase hline (thn (ho pins s σ H _ I h) fun v s1 ⟨x, H1, I1, r1, ty, q1⟩ => ?_)
  obtain ⟨h1, h2⟩ := tyV_is I1 r1 ty
  exact ⟨T, id, pa, slot, hty, h1, h2, Calls.callWith_builtin rfl (PySem.evalArgs_none (hm pins s1 σ H1 x [] v [] Q I1 r1 .nil q1))⟩
theorem pe_bm (pa : PlainAttrs T) (slot : Slot T name id) (hty : typeOf (.builtin id) = pure (.type "method_descriptor")) (hm : MtR X id r) (ho : PE X o to) (ha : PA X (e :: es) t)
    (hbase : attributeBase o name X.env (eval o X.env) = eval o X.env := by rfl)
    (hfew : ((backTo cpos (starEach (e :: es) X.env)).all (fun x => !x.1) && (backToKw cpos (keywordEach [] X.env)).all (fun x => x.1.isSome)
      && decide ((e :: es).length + ([] : List Keyword).length + (if ([] : List Keyword).isEmpty then 0 else 1) < 30)) = true := by rfl)
    (hline : (apos.endLine == cpos.line) = true := by rfl) (hs : starEach (e :: es) X.env = (false, eval e X.env) :: starEach es X.env := by rfl) (hplain : (backTo cpos (starEach es X.env)).any (·.1) = false := by rfl) :
    PE X (.Call (.Attribute o name apos) (e :: es) [] cpos) (tBM X.K T r to t) := by
  intro pins s σ H Q I h
  refine wpAny_Call_method_late hbase hfew hline rfl (thn (ho pins s σ H _ I h) fun v s1 ⟨x, H1, I1, r1, ty, q1⟩ => ?_)
  obtain ⟨h1, h2⟩ := tyV_is I1 r1 ty
  refine ⟨T, id, pa, slot, hty, h1, h2, ?_⟩
  have hA := ha cpos pins s1 σ H1 _ I1 q1
  rw [hs] at hA ⊢
  refine Calls.callWith_builtin (by show (false || (backTo cpos (starEach es X.env)).any (·.1)) = false; rw [hplain] <;> rfl) (Calls.evalArgs_plain ?_)
  exact thn hA fun us s2 ⟨vs, H2, I2, r2, q2⟩ => hm pins s2 σ H2 x vs v us Q I2 r1 r2 q2
end
end L2
namespace L2
open PySem PySem.Spec PyProof.Rows
def MtM (X : Cx) (id : String) (r : V → List V → Hp → VK → Prop) : Prop :=
  ∀ (pins : List (Addr × Obj)) (s : Shared) (σ : St) (H : Hp) (x : V) (xs : List V) (v : Value) (us : List Value) (Q : VK), Inv X pins σ H s → RelV x v → Vals xs us → r x xs H Q →
    wpAny (model X.prog X.w) X.A (call (.builtin id) (v :: us)) (EP X pins σ Q) X.xe s
theorem Vals.one : ∀ {x : V} {us : List Value}, Vals [x] us → ∃ u, us = [u] ∧ RelV x u
  | _, _, .cons r .nil => ⟨_, rfl, r⟩
theorem Vals.two : ∀ {x y : V} {us : List Value}, Vals [x, y] us → ∃ u v, us = [u, v] ∧ RelV x u ∧ RelV y v
  | _, _, _, .cons r (.cons q .nil) => ⟨_, _, rfl, r, q⟩
theorem Vals.zero : ∀ {us : List Value}, Vals [] us → us = []
  | _, .nil => rfl
theorem Vals.dropLast {xs : List V} {us : List Value} (h : Vals xs us) : Vals xs.dropLast us.dropLast := by
  induction h with
  | nil => exact .nil
  | cons r t ih =>
    cases t with
    | nil => exact .nil
    | cons q t' => exact .cons r ih
theorem Vals.eraseIdx : ∀ {xs : List V} {us : List Value} (i : Nat), Vals xs us → Vals (xs.eraseIdx i) (us.eraseIdx i)
  | _, _, _, .nil => .nil
  | _, _, 0, .cons _ t => t
  | _, _, i + 1, .cons r t => .cons r (Vals.eraseIdx i t)
theorem Vals.reverse {xs : List V} {us : List Value} (h : Vals xs us) : Vals xs.reverse us.reverse := by
  induction h with
  | nil => exact .nil
  | cons r t ih => rw [List.reverse_cons, List.reverse_cons]; exact Vals.append ih (.cons r .nil)
theorem Vals.rep {xs : List V} {us : List Value} (h : Vals xs us) : ∀ k : Nat, Vals (List.replicate k xs).flatten (List.replicate k us).flatten
  | 0 => .nil
  | k + 1 => by
    rw [List.replicate_succ, List.replicate_succ, List.flatten_cons, List.flatten_cons]
    exact Vals.append h (Vals.rep h k)
theorem erase_last {α : Type} (l : List α) : l.eraseIdx (l.length - 1) = l.dropLast := by
  induction l with
  | nil => rfl
  | cons a r ih =>
    cases r with
    | nil => rfl
    | cons b r =>
      have e : (a :: b :: r).length - 1 = ((b :: r).length - 1) + 1 := by
        have h1 : (a :: b :: r).length = r.length + 2 := rfl
        have h2 : (b :: r).length = r.length + 1 := rfl
        omega
      rw [e, List.eraseIdx_cons_succ, ih]
      all_goals rfl
theorem len_erase {α : Type} : ∀ (l : List α) (i : Nat), (l.eraseIdx i).length ≤ l.length
  | [], _ => Nat.le_refl _
  | _ :: _, 0 => Nat.le_succ _
  | _ :: r, i + 1 => Nat.succ_le_succ (len_erase r i)
theorem foldl_rep (its : List Value) : ∀ (k : Nat) (acc : List Value),
    List.foldl (fun x1 x2 => x1 ++ x2) acc.toArray (List.replicate k its.toArray) = (acc ++ (List.replicate k its).flatten).toArray
  | 0, acc => by simp
  | k + 1, acc => by
    have e : acc.toArray ++ its.toArray = (acc ++ its).toArray := by simp
    have e2 : (acc ++ its) ++ (List.replicate k its).flatten = acc ++ (List.replicate (k + 1) its).flatten := by
      rw [List.replicate_succ, List.flatten_cons, List.append_assoc]
    rw [← e2, ← foldl_rep its k (acc ++ its), ← e, List.replicate_succ, List.foldl_cons]
section
variable {X : Cx} {pins : List (Addr × Obj)} {σ : St} {H : Hp} {s : Shared} {l b : Addr} {xs ys zs : List V}
theorem Inv.lset {its its' : List Value} {n : Nat} {f : Array Value → Array Value} {t' : Nat} (I : Inv X pins σ H s) (hH : H l = some (.lst xs))
    (e : s.heap.get? l = some { cls := .type "list", data := .seq its.toArray n }) (hf : f its.toArray = its'.toArray) (hv : Vals ys its') (hz : ys.length ≤ sizeLine) :
    Inv X pins σ (upd H l (.lst ys)) { s with heap := s.heap.update l (Obj.mapSeq f), toks := t' } := by
  have q := PySem.IsL.update e f
  rw [hf] at q
  refine I.write (x := l) (e := l) (by rw [hH]; exact trivial) (.inl rfl) (fun b' u hb hu => (Heap.get?_update_other s.heap (Obj.mapSeq f) (Ne.symm hb)).trans hu) ⟨_, q⟩ ?_
  exact ⟨hz, its', _, hv, q⟩
theorem Inv.lnew {its : List Value} {t' : Nat} (I : Inv X pins σ H s) (hv : Vals ys its) (hz : ys.length ≤ sizeLine) :
    Inv X pins σ (upd H s.heap.objs.size (.lst ys)) { s with heap := s.heap.push { cls := .type "list", data := .seq its.toArray }, toks := t' } :=
  I.laid (fun _ _ q => Heap.get?_push_of_some _ q) (Nat.le_refl _) ⟨hz, its, 0, hv, Heap.get?_push_size _ rfl⟩
theorem Inv.fresh (I : Inv X pins σ H s) : H s.heap.objs.size = none := I.hok.fresh (Nat.le_refl _)
theorem Inv.lstM (I : Inv X pins σ H s) (hH : H l = some (.lst xs)) : xs.length ≤ sizeLine ∧ ∃ (its : List Value) (n : Nat), Vals xs its ∧ xs.length = its.length ∧ s.heap.get? l = some { cls := .type "list", data := .seq its.toArray n } := by
  obtain ⟨z, its, n, r, e⟩ := I.hok l _ hH
  exact ⟨z, its, n, r, r.length, e⟩
theorem notLongL {n : Nat} (h : n ≤ sizeLine) : Builtin.List.listTooLong n = false := by
  unfold Builtin.List.listTooLong
  exact decide_eq_false (by omega)
end
section
variable {X : Cx}
def rAppend : V → List V → Hp → VK → Prop := fun x vs H Q => ∃ l xs y, x = .ref l ∧ vs = [y] ∧ H l = some (.lst xs) ∧ xs.length < sizeLine ∧ Q .non (upd H l (.lst (xs ++ [y])))
theorem mt_append : MtM X "list.append" rAppend := by
  intro pins s σ H x vs v us Q I rx rv h
  obtain ⟨l, xs, y, rfl, rfl, hH, hz, q⟩ := h
  cases rx
  obtain ⟨u, rfl, ru⟩ := rv.one
  obtain ⟨z, its, n, r, hl, e⟩ := I.lstM hH
  refine call_meets F.slot_list_append ⟨_, e, rfl⟩ F.entry_list_append (F.args_list_append_2 _ _) (PySem.list_append l its.toArray n u (by rw [List.size_toArray]; omega)) ⟨e, ?_⟩
  refine ⟨.non, _, I.lset (its' := its ++ [u]) hH e (by simp) (r.append (.cons ru .nil)) ?_, rfl, q⟩
  rw [List.length_append, List.length_singleton]
  omega
def rExtend : V → List V → Hp → VK → Prop := fun x vs H Q => ∃ l b xs zs, x = .ref l ∧ vs = [.ref b] ∧ H l = some (.lst xs) ∧ H b = some (.lst zs) ∧ xs.length + zs.length ≤ sizeLine ∧ Q .non (upd H l (.lst (xs ++ zs)))
theorem mt_extend : MtM X "list.extend" rExtend := by
  intro pins s σ H x vs v us Q I rx rv h
  obtain ⟨l, b, xs, zs, rfl, rfl, hH, hB, hz, q⟩ := h
  cases rx
  obtain ⟨u, rfl, ru⟩ := rv.one
  cases ru
  obtain ⟨z, its, n, r, hl, e⟩ := I.lstM hH
  obtain ⟨z2, its2, n2, r2, hl2, e2⟩ := I.lstM hB
  have hsz : its.toArray.size + its2.toArray.size ≤ sizeLine := by rw [List.size_toArray, List.size_toArray]; omega
  have hlong : ¬ (!its.toArray.isEmpty && Builtin.List.listTooLong (its.toArray.size + its2.toArray.size)) = true := by
    rw [notLongL hsz, Bool.and_false]
    exact Bool.false_ne_true
  refine call_meets F.slot_list_extend ⟨_, e, rfl⟩ F.entry_list_extend (F.args_list_extend_2 _ _)
    (AutoSeq1.list_extend_list_list_0 l its.toArray n b its2.toArray n2 hlong (by rw [List.size_toArray]; omega) (by omega)) ⟨e, e2, ?_⟩
  refine ⟨.non, _, I.lset (its' := its ++ its2) hH e (by simp) (r.append r2) ?_, rfl, q⟩
  rw [List.length_append]
  omega
def rPop : V → List V → Hp → VK → Prop := fun x vs H Q => ∃ l xs y, x = .ref l ∧ vs = [] ∧ H l = some (.lst xs) ∧ xs[xs.length - 1]? = some y ∧ Q y (upd H l (.lst xs.dropLast))
theorem mt_pop : MtM X "list.pop" rPop := by
  intro pins s σ H x vs v us Q I rx rv h
  obtain ⟨l, xs, y, rfl, rfl, hH, hy, q⟩ := h
  cases rx
  have hus := rv.zero
  subst hus
  obtain ⟨z, its, n, r, hl, e⟩ := I.lstM hH
  obtain ⟨u, hu, ru⟩ := r.get hy
  have hy' : its.toArray[its.toArray.size - 1]? = some u := by
    show its.toArray[its.length - 1]? = some u
    rw [← Array.getElem?_toList, ← hl]
    exact hu
  refine call_meets F.slot_list_pop ⟨_, e, rfl⟩ F.entry_list_pop (F.args_list_pop_1 _) (MeetsSeq.list_pop_last l its.toArray n u hy' (by rw [List.size_toArray]; omega)) ⟨e, ?_⟩
  refine ⟨y, _, I.lset (its' := its.dropLast) hH e ?_ r.dropLast ?_, ru, q⟩
  · show its.toArray.eraseIdxIfInBounds (its.toArray.size - 1) = its.dropLast.toArray
    rw [List.size_toArray, List.eraseIdxIfInBounds_toArray, erase_last]
  · rw [List.length_dropLast]
    omega
def rPopAt : V → List V → Hp → VK → Prop := fun x vs H Q => ∃ l xs i k y, x = .ref l ∧ vs = [.int i] ∧ H l = some (.lst xs) ∧ -(2 ^ 63) ≤ i ∧ i < 2 ^ 63 ∧ seqIndex? i xs.length = some k ∧ xs[k]? = some y ∧ Q y (upd H l (.lst (xs.eraseIdx k)))
theorem mt_popAt : MtM X "list.pop" rPopAt := by
  intro pins s σ H x vs v us Q I rx rv h
  obtain ⟨l, xs, i, k, y, rfl, rfl, hH, h1, h2, hk, hy, q⟩ := h
  cases rx
  obtain ⟨u, rfl, ru⟩ := rv.one
  obtain ⟨t, rfl⟩ := ru
  obtain ⟨z, its, n, r, hl, e⟩ := I.lstM hH
  obtain ⟨w, hw, rw'⟩ := r.get hy
  refine call_meets F.slot_list_pop ⟨_, e, rfl⟩ F.entry_list_pop (F.args_list_pop_2 _ _)
    (MeetsSeq.list_pop_at l its.toArray n i t k w (fitsIndex_both h1 h2) (by rw [List.size_toArray, ← hl]; exact hk) (by rw [← Array.getElem?_toList]; exact hw) (by rw [List.size_toArray]; omega)) ⟨e, ?_⟩
  refine ⟨y, _, I.lset (its' := its.eraseIdx k) hH e ?_ (r.eraseIdx k) ?_, rw', q⟩
  · show its.toArray.eraseIdxIfInBounds k = (its.eraseIdx k).toArray
    rw [List.eraseIdxIfInBounds_toArray]
  · have := len_erase xs k
    omega
def rReverse : V → List V → Hp → VK → Prop := fun x vs H Q => ∃ l xs, x = .ref l ∧ vs = [] ∧ H l = some (.lst xs) ∧ Q .non (upd H l (.lst xs.reverse))
theorem mt_reverse : MtM X "list.reverse" rReverse := by
  intro pins s σ H x vs v us Q I rx rv h
  obtain ⟨l, xs, rfl, rfl, hH, q⟩ := h
  cases rx
  have hus := rv.zero
  subst hus
  obtain ⟨z, its, n, r, hl, e⟩ := I.lstM hH
  refine call_meets F.slot_list_reverse ⟨_, e, rfl⟩ F.entry_list_reverse (F.args_list_reverse_1 _) (AutoSeq1.list_reverse_list_0 l its.toArray n (by rw [List.size_toArray]; omega)) ⟨e, ?_⟩
  refine ⟨.non, _, I.lset (its' := its.reverse) hH e (by simp) r.reverse ?_, rfl, q⟩
  rw [List.length_reverse]
  omega
def rClear : V → List V → Hp → VK → Prop := fun x vs H Q => ∃ l xs, x = .ref l ∧ vs = [] ∧ H l = some (.lst xs) ∧ Q .non (upd H l (.lst []))
theorem mt_clear : MtM X "list.clear" rClear := by
  intro pins s σ H x vs v us Q I rx rv h
  obtain ⟨l, xs, rfl, rfl, hH, q⟩ := h
  cases rx
  have hus := rv.zero
  subst hus
  obtain ⟨z, its, n, r, hl, e⟩ := I.lstM hH
  refine call_meets F.slot_list_clear ⟨_, e, rfl⟩ F.entry_list_clear (F.args_list_clear_1 _) (AutoSeq1.list_clear_list_0 l its.toArray n (by rw [List.size_toArray]; omega)) ⟨e, ?_⟩
  exact ⟨.non, _, I.lset (its' := []) (ys := []) hH e rfl .nil (Nat.zero_le _), rfl, q⟩
def rCat : R2 := fun x y H Q => ∃ l b xs zs, x = .ref l ∧ y = .ref b ∧ H l = some (.lst xs) ∧ H b = some (.lst zs) ∧ xs.length + zs.length ≤ sizeLine ∧ ∀ p, H p = none → Q (.ref p) (upd H p (.lst (xs ++ zs)))
theorem op_cat : OpR X (binaryOp .Add) rCat := by
  intro pins s σ H x y v u Q I rx ry h
  obtain ⟨l, b, xs, zs, rfl, rfl, hH, hB, hz, q⟩ := h
  cases rx
  cases ry
  obtain ⟨z, its, n, r, hl, e⟩ := I.lstM hH
  obtain ⟨z2, its2, n2, r2, hl2, e2⟩ := I.lstM hB
  refine PySem.P.add_list e e2 ?_ (by rw [List.size_toArray, List.size_toArray]; omega)
  have ea : its.toArray ++ its2.toArray = (its ++ its2).toArray := by simp
  rw [ea]
  exact ⟨.ref _, _, I.lnew (t' := s.toks) (r.append r2) (by rw [List.length_append]; omega), rfl, q _ I.fresh⟩
def rRep : R2 := fun x y H Q => ∃ l k xs, x = .ref l ∧ y = .int k ∧ H l = some (.lst xs) ∧ -(2 ^ 63) ≤ k ∧ k < 2 ^ 63 ∧ xs.length * k.toNat ≤ sizeLine ∧
  ∀ p, H p = none → Q (.ref p) (upd H p (.lst (List.replicate k.toNat xs).flatten))
theorem len_rep {α : Type} (xs : List α) (k : Nat) : (List.replicate k xs).flatten.length = k * xs.length := by
  induction k with
  | zero => simp
  | succ k ih => rw [List.replicate_succ, List.flatten_cons, List.length_append, ih, Nat.succ_mul, Nat.add_comm]
theorem op_rep : OpR X (binaryOp .Mult) rRep := by
  intro pins s σ H x y v u Q I rx ry h
  obtain ⟨l, k, xs, rfl, rfl, hH, h1, h2, hz, q⟩ := h
  cases rx
  obtain ⟨t, rfl⟩ := ry
  obtain ⟨z, its, n, r, hl, e⟩ := I.lstM hH
  have hlen : its.toArray.size * k.toNat ≤ sizeLine := by rw [List.size_toArray, ← hl]; exact hz
  have hcap : ¬ its.toArray.size * k.toNat > (2 ^ 63 - 1) / 8 := by
    have : (sizeLine : Nat) ≤ (2 ^ 63 - 1) / 8 := by decide
    omega
  have hfit : ¬ (!Builtin.List.listFitsIndex k) = true := by
    rw [fitsIndex_both h1 h2]
    exact Bool.false_ne_true
  have hlong : ¬ Builtin.List.listTooLong (its.toArray.size * k.toNat) = true := by
    rw [notLongL hlen]
    exact Bool.false_ne_true
  have hnew : List.foldl (fun x1 x2 => x1 ++ x2) #[] (List.replicate (if its.toArray.isEmpty = true then 0 else k.toNat) its.toArray) = (List.replicate k.toNat its).flatten.toArray := by
    have f0 : ∀ m : Nat, List.foldl (fun x1 x2 => x1 ++ x2) #[] (List.replicate m its.toArray) = (List.replicate m its).flatten.toArray := fun m => by
      have := foldl_rep its m []
      rw [List.nil_append] at this
      exact this
    rw [f0]
    cases its with
    | nil => simp
    | cons a r' => rw [if_neg (by simp)]
  refine wpAny_binaryOp_repeat_ref (T := "list") (U := "int") (by decide) ⟨_, e, rfl⟩ (fun s' => typeIs_int s' k t) noFill_list_mul F.fills_int_mul F.slot_int_rmul repeat_list F.slot_int_index.lookup
    (call_meets F.slot_int_rmul (typeIs_int s k t) F.entry_int_rmul (F.args_int_rmul_2 _ _) (int___rmul___int_list k t l its.toArray n)
      ⟨e, rfl, ⟨_, e, rfl⟩, call_meets F.slot_list_mul ⟨_, e, rfl⟩ F.entry_list_mul (F.args_list_mul_2 _ _) (AutoListH.list___mul___list_int_3 l its.toArray n k t hfit hcap hlong) ⟨e, ?_⟩⟩)
  rw [hnew]
  exact ⟨.ref _, _, I.lnew (t' := s.toks) (r.rep k.toNat) (by rw [len_rep, Nat.mul_comm]; exact hz), rfl, q _ I.fresh⟩
theorem del_list {pins : List (Addr × Obj)} {s : Shared} {σ : St} {H : Hp} {l : Addr} {xs : List V} {i : Int} {t : Tok} {k : Nat} {Q : Unit → Shared → Prop} (I : Inv X pins σ H s) (hH : H l = some (.lst xs))
    (h1 : -(2 ^ 63) ≤ i) (h2 : i < 2 ^ 63) (hk : seqIndex? i xs.length = some k) (h : ∀ s', Inv X pins σ (upd H l (.lst (xs.eraseIdx k))) s' → Q () s') :
    wpAny (model X.prog X.w) X.A (delItem (.ref l) (.int i t)) Q X.xe s := by
  obtain ⟨z, its, n, r, hl, e⟩ := I.lstM hH
  refine PySem.P.delItem_list (k := k) e (fitsIndex_both h1 h2) (by rw [List.size_toArray, ← hl]; exact hk) (h _ ?_) (by rw [List.size_toArray]; omega)
  refine I.lset (its' := its.eraseIdx k) (t' := s.toks) hH e ?_ (r.eraseIdx k) ?_
  · show its.toArray.eraseIdxIfInBounds k = (its.eraseIdx k).toArray
    rw [List.eraseIdxIfInBounds_toArray]
  · have := len_erase xs k
    omega
end
section
variable {prog : Program} {w : World} {A : Around} {E : Value → Shared → Prop} {s : Shared}
theorem splice_eq (its its2 : List Value) (a c : Nat) : its.toArray.extract 0 a ++ its2.toArray ++ its.toArray.extract c its.toArray.size = (its.take a ++ its2 ++ its.drop c).toArray := by
  apply Array.toList_inj.mp
  first
    | (simp
       exact List.take_of_length_le (by simp))
    | simp [List.take_of_length_le]
    | simp
theorem bounds_run {a c n : Nat} (hac : a ≤ c) (hc : c ≤ n) : sliceBounds (some (a : Int)) (some (c : Int)) none n = ((a : Int), (c : Int), 1) := by
  simp only [sliceBounds, Option.getD_none]
  have h1 : ¬ ((a : Int) < 0) := by omega
  have h2 : ¬ ((c : Int) < 0) := by omega
  simp only [h1, h2, if_false, show (1 : Int) > 0 by decide, if_true]
  congr 1
  · omega
  · congr 1; omega
set_option maxRecDepth 100000 in
theorem setItem_slice {l b sl : Addr} {items new : Array Value} {n n2 : Nat} {vl vu : Value} {a c : Nat} {Q : Unit → Shared → Prop}
    (e : s.heap.get? l = some { cls := .type "list", data := .seq items n }) (e2 : s.heap.get? b = some { cls := .type "list", data := .seq new n2 }) (hne : l ≠ b)
    (hs : s.heap.IsSliceOf sl vl vu .none) (pl : IsPart vl (some (a : Int))) (pu : IsPart vu (some (c : Int))) (hac : a ≤ c) (hc : c ≤ items.size)
    (hsz : items.size + new.size ≤ sizeLine) (h : Q () { s with heap := s.heap.update l (Obj.mapSeq fun xs => xs.extract 0 a ++ new ++ xs.extract c xs.size) }) :
    wpAny (model prog w) A (setItem (.ref l) (.ref sl) (.ref b)) Q E s := by
  have hl : s.heap.IsList l items := PySem.IsL.isList e
  have hb : s.heap.IsList b new := PySem.IsL.isList e2
  obtain ⟨os, hos, hcs, hds⟩ := id hs
  have hTs : s.TypeIs (.ref sl) "slice" := ⟨os, hos, hcs⟩
  have hstep : ¬ ((rawPart none == rawInt 0) = true) := Bool.false_ne_true
  have hsame : Builtin.List.listSameRef (.ref l) (.ref b) = false := by
    unfold Builtin.List.listSameRef
    exact beq_eq_false_iff_ne.mpr hne
  have hmax : (max (a : Int) (c : Int)).toNat = c := by omega
  have hz' : ((fun xs : Array Value => xs.extract 0 a ++ new ++ xs.extract c xs.size) items).size ≤ sizeLine + 1 := by
    simp only [Array.size_append, Array.size_extract]
    omega
  unfold setItem
  try with_reducible refine wpAny_holding ?_
  first | refine wpAny_bind (wpAny_pure ?_) | skip
  refine wpAny_bind (wpAny_sequenceKey hl.typeIs (by decide) ?_)
  refine wpAny_bind (wpAny_callSpecial?_slot (name := Str.ofString "__setitem__") hl.typeIs slot_list_setitem
    (wpAny_call_entry slot_list_setitem hl.typeIs entry_list_setitem ?_ (args_list_setitem _ _ _)))
  show wpAny _ _ (Builtin.List.listSubscript? (.ref sl) >>= _) _ _ s
  refine wpAny_bind ?_
  unfold Builtin.List.listSubscript?
  refine wpAny_bind (wpAny_specialOf hTs slice_no_index ?_)
  simp only [Option.isNone_none, if_true]
  refine wpAny_pure ?_
  show wpAny _ _ (typeOf (.ref sl) >>= _) _ _ s
  refine wpAny_bind (wpAny_typeOf hTs ?_)
  first
    | rw [if_neg (by decide)]
    | refine PySem.W.KFB.if_not (by decide) ?_
  rw [listSliceParts_eq]
  refine wpAny_bind (wpAny_bind (wpAny_field hos hds (x := .none) rfl (wpAny_bind (wpAny_listPart .none ?_))))
  rw [if_neg hstep]
  refine wpAny_bind (wpAny_field hos hds (x := vl) rfl (wpAny_bind (wpAny_listPart pl ?_)))
  refine wpAny_bind (wpAny_field hos hds (x := vu) rfl (wpAny_bind (wpAny_listPart pu (wpAny_pure ?_))))
  first
    | simp only [hsame, Bool.false_eq_true, if_false]
    | refine PySem.W.KFB.if_not hsame ?_
    | (dsimp only
       rw [if_neg (by rw [hsame]; exact Bool.false_ne_true)])
  refine wpAny_bind (m := Builtin.List.listAllItems (.ref b) "must assign iterable to extended slice") ?_
  unfold Builtin.List.listAllItems
  refine wpAny_bind (wpAny_typeOf hb.typeIs ?_)
  first
    | refine PySem.W.KFB.if_so (by decide) ?_
    | rw [if_pos (by decide)]
    | simp only [beq_self_eq_true, Bool.true_or, if_true]
  unfold Builtin.List.listItems
  refine wpAny_bind (wpAny_seqItems e2 rfl (wpAny_pure ?_))
  refine wpAny_bind (wpAny_bind (wpAny_seqItems e rfl (wpAny_pure ?_)))
  refine wpAny_bind (wpAny_of_eq ((sliceIndices_raw (some (a : Int)) (some (c : Int)) none items.size (by simp)).trans (congrArg (pure : Int × Int × Int → Sem (Int × Int × Int)) (bounds_run hac hc))) ?_)
  show wpAny _ _ (if ((1 : Int) == 1) = true then _ else _) _ _ s
  rw [if_pos (by decide)]
  refine wpAny_bind (wpAny_rule ?_)
  first
    | simp only [notLongL hsz, Bool.false_eq_true, if_false]
    | refine PySem.W.KFB.if_not (notLongL hsz) ?_
  first | refine wpAny_bind (wpAny_pure ?_) | skip
  show wpAny _ _ (updateSeq l (fun xs => xs.extract 0 ((a : Int)).toNat ++ new ++ xs.extract (max (a : Int) (c : Int)).toNat xs.size) >>= _) _ _ s
  rw [hmax, Int.toNat_natCast]
  refine wpAny_bind (wpAny_updateSeq (hz := Nat.le_trans (Nat.le_add_right _ _) hsz) (_hz' := hz') e rfl ?_)
  refine wpAny_bind (wpAny_letGo ?_)
  first
    | exact wpAny_bind (wpAny_pure (wpAny_pure ⟨.none, rfl, wpAny_pure h⟩))
    | exact wpAny_pure ⟨.none, rfl, wpAny_pure h⟩
end
section
variable {X : Cx}
theorem set_slice {pins : List (Addr × Obj)} {s : Shared} {σ : St} {H : Hp} {l b sl : Addr} {xs ys : List V} {a c : Int} {vl vu : Value} {Q : Unit → Shared → Prop} (I : Inv X pins σ H s)
    (hH : H l = some (.lst xs)) (hB : H b = some (.lst ys)) (hne : l ≠ b) (hs : s.heap.IsSliceOf sl vl vu .none) (ra : RelV (.int a) vl) (rc : RelV (.int c) vu) (h0 : 0 ≤ a) (hac : a ≤ c) (hc : c ≤ xs.length)
    (hz : xs.length + ys.length ≤ sizeLine) (h : ∀ s', Inv X pins σ (upd H l (.lst (xs.take a.toNat ++ ys ++ xs.drop c.toNat))) s' → Q () s') :
    wpAny (model X.prog X.w) X.A (setItem (.ref l) (.ref sl) (.ref b)) Q X.xe s := by
  obtain ⟨ta, rfl⟩ := ra
  obtain ⟨tc, rfl⟩ := rc
  obtain ⟨z, its, n, r, hl, e⟩ := I.lstM hH
  obtain ⟨z2, its2, n2, r2, hl2, e2⟩ := I.lstM hB
  obtain ⟨a', rfl⟩ := Int.eq_ofNat_of_zero_le h0
  obtain ⟨c', rfl⟩ := Int.eq_ofNat_of_zero_le (Int.le_trans h0 hac)
  simp only [Int.toNat_natCast] at h
  refine setItem_slice (a := a') (c := c') e e2 hne hs (.int _ _) (.int _ _) (by omega) (by rw [List.size_toArray]; omega) (by rw [List.size_toArray, List.size_toArray]; omega) (h _ ?_)
  refine I.lset (its' := its.take a' ++ its2 ++ its.drop c') (t' := s.toks) hH e ?_ (Vals.append (Vals.append (r.take _) r2) (r.drop _)) ?_
  · exact splice_eq its its2 a' c'
  · rw [List.length_append, List.length_append, List.length_take, List.length_drop]
    omega
end
end L2
namespace L2
open PySem PySem.Spec PyProof.Rows
section
variable {κ : Type} [DecidableEq κ]
def valV (kvs : List (κ × V)) (k : κ) : Option V := (kvs.find? fun kv => decide (kv.1 = k)).map (·.2)
def putK (kvs : List (κ × V)) (k : κ) (v : V) : List (κ × V) :=
  if (kvs.any fun kv => decide (kv.1 = k)) = true then kvs.map (fun kv => if kv.1 = k then (kv.1, v) else kv) else kvs ++ [(k, v)]
def dropK (kvs : List (κ × V)) (k : κ) : List (κ × V) := kvs.filter fun kv => decide (kv.1 ≠ k)
theorem valV_nil {k : κ} : valV ([] : List (κ × V)) k = none := rfl
theorem valV_pos {p : κ × V} {r : List (κ × V)} {k : κ} (e : p.1 = k) : valV (p :: r) k = some p.2 := by simp [valV, List.find?_cons, e]
theorem valV_neg {p : κ × V} {r : List (κ × V)} {k : κ} (e : ¬ p.1 = k) : valV (p :: r) k = valV r k := by simp [valV, List.find?_cons, e]
theorem valV_any (k : κ) : ∀ kvs : List (κ × V), (kvs.any fun kv => decide (kv.1 = k)) = (valV kvs k).isSome
  | [] => rfl
  | p :: r => by
    rw [List.any_cons]
    by_cases e : p.1 = k
    · simp only [valV_pos e, decide_eq_true e, Bool.true_or, Option.isSome_some]
    · rw [valV_neg e, decide_eq_false e, Bool.false_or]; exact valV_any k r
theorem valV_map (k j : κ) (y : V) : ∀ kvs : List (κ × V), valV (kvs.map fun kv => if kv.1 = k then (kv.1, y) else kv) j = (valV kvs j).map fun x => if j = k then y else x
  | [] => rfl
  | p :: r => by
    have ih := valV_map k j y r
    rw [List.map_cons]
    by_cases h : p.1 = k
    · rw [if_pos h]
      by_cases e : p.1 = j
      · rw [valV_pos (p := (p.1, y)) e, valV_pos e, Option.map_some, if_pos (e.symm.trans h)]
      · rw [valV_neg (p := (p.1, y)) e, valV_neg e, ih]
    · rw [if_neg h]
      by_cases e : p.1 = j
      · rw [valV_pos (p := p) e, valV_pos e, Option.map_some, if_neg (fun z => h (e.trans z))]
      · rw [valV_neg (p := p) e, valV_neg e, ih]
theorem valV_snoc (k j : κ) (y : V) : ∀ kvs : List (κ × V), valV kvs k = none → valV (kvs ++ [(k, y)]) j = if j = k then some y else valV kvs j
  | [], _ => by
    by_cases e : k = j
    · rw [if_pos e.symm]; exact valV_pos (p := (k, y)) e
    · rw [if_neg (fun z => e z.symm)]; exact valV_neg (p := (k, y)) e
  | p :: r, hn => by
    rw [List.cons_append]
    have hk : ¬ p.1 = k := fun z => by rw [valV_pos z] at hn; cases hn
    rw [valV_neg hk] at hn
    have ih := valV_snoc k j y r hn
    by_cases e : p.1 = j
    · rw [valV_pos e, valV_pos e, if_neg (fun z => hk (e.trans z))]
    · rw [valV_neg e, valV_neg e, ih]
theorem valV_put (kvs : List (κ × V)) (k j : κ) (y : V) : valV (putK kvs k y) j = if j = k then some y else valV kvs j := by
  unfold putK
  by_cases a : (kvs.any fun kv => decide (kv.1 = k)) = true
  · rw [if_pos a, valV_map]
    rw [valV_any] at a
    by_cases e : j = k
    · obtain ⟨x, hx⟩ := Option.isSome_iff_exists.mp a
      rw [if_pos e, e, hx, Option.map_some, if_pos rfl]
    · rw [if_neg e]
      cases valV kvs j with
      | none => rfl
      | some x => rw [Option.map_some, if_neg e]
  · rw [if_neg a]
    refine valV_snoc k j y kvs ?_
    rw [valV_any] at a
    cases q : valV kvs k with
    | none => rfl
    | some x => rw [q] at a; exact (a rfl).elim
theorem length_putK (kvs : List (κ × V)) (k : κ) (v : V) : (putK kvs k v).length ≤ kvs.length + 1 := by
  unfold putK
  split
  · rw [List.length_map]; omega
  · rw [List.length_append, List.length_cons, List.length_nil]; omega
theorem putK_new {kvs : List (κ × V)} {k : κ} (v : V) (h : valV kvs k = none) : putK kvs k v = kvs ++ [(k, v)] := by
  unfold putK
  rw [valV_any, h]
  exact if_neg (by decide)
theorem RelO.isSome_eq {o : Option V} {u : Option Value} (r : RelO o u) : o.isSome = u.isSome := by
  cases o with
  | none => cases u with
    | none => rfl
    | some _ => exact (show False from r).elim
  | some _ => cases u with
    | none => exact (show False from r).elim
    | some _ => rfl
theorem RelO.getD {o : Option V} {u : Option Value} {d : V} {d' : Value} (r : RelO o u) (rd : RelV d d') : RelV (o.getD d) (u.getD d') := by
  cases o with
  | none => cases u with
    | none => exact rd
    | some _ => exact (show False from r).elim
  | some _ => cases u with
    | none => exact (show False from r).elim
    | some _ => exact r
theorem KV.val {kvs : List (κ × V)} {vs : List (κ × Value)} (r : KV kvs vs) (k : κ) : RelO (valV kvs k) (valueAt vs k) := by
  unfold KV at r
  induction r with
  | nil => exact True.intro
  | @cons p q ps qs h t ih =>
    obtain ⟨h1, h2⟩ := h
    by_cases e : p.1 = k
    · have e' : q.1 = k := h1.symm.trans e
      have b : valueAt (q :: qs) k = some q.2 := by simp [valueAt, List.find?_cons, e']
      rw [valV_pos e, b]; exact h2
    · have e' : ¬ q.1 = k := fun z => e (h1.trans z)
      have b : valueAt (q :: qs) k = valueAt qs k := by simp [valueAt, List.find?_cons, e']
      rw [valV_neg e, b]; exact ih
theorem KV.any {kvs : List (κ × V)} {vs : List (κ × Value)} (r : KV kvs vs) (k : κ) : (kvs.any fun kv => decide (kv.1 = k)) = vs.any fun kv => decide (kv.1 = k) := by
  unfold KV at r
  induction r with
  | nil => rfl
  | cons h t ih => rw [List.any_cons, List.any_cons, ih, h.1]
theorem KV.repl {kvs : List (κ × V)} {vs : List (κ × Value)} (r : KV kvs vs) (k : κ) {y : V} {u : Value} (ry : RelV y u) :
    KV (kvs.map fun kv => if kv.1 = k then (kv.1, y) else kv) (vs.map fun kv => if kv.1 = k then (kv.1, u) else kv) := by
  unfold KV at r ⊢
  induction r with
  | nil => exact .nil
  | @cons p q ps qs h t ih =>
    rw [List.map_cons, List.map_cons]
    refine .cons ?_ ih
    obtain ⟨h1, h2⟩ := h
    by_cases e : p.1 = k
    · rw [if_pos e, if_pos (h1.symm.trans e)]; exact ⟨h1, ry⟩
    · rw [if_neg e, if_neg (fun z => e (h1.trans z))]; exact ⟨h1, h2⟩
theorem KV.put {kvs : List (κ × V)} {vs : List (κ × Value)} (r : KV kvs vs) (k : κ) {y : V} {u : Value} (ry : RelV y u) : KV (putK kvs k y) (stored vs k u) := by
  unfold putK stored
  rw [r.any k]
  by_cases e : (vs.any fun kv => decide (kv.1 = k)) = true
  · rw [if_pos e, if_pos e]; exact r.repl k ry
  · rw [if_neg e, if_neg e]; exact Paired.snoc r ⟨rfl, ry⟩
theorem KV.drop {kvs : List (κ × V)} {vs : List (κ × Value)} (r : KV kvs vs) (k : κ) : KV (dropK kvs k) (without vs k) := by
  unfold KV at r ⊢
  unfold dropK without
  induction r with
  | nil => exact .nil
  | @cons p q ps qs h t ih =>
    obtain ⟨h1, h2⟩ := h
    rw [List.filter_cons, List.filter_cons]
    by_cases e : p.1 = k
    · have a : ¬ decide (p.1 ≠ k) = true := by simp [e]
      have b : ¬ decide (q.1 ≠ k) = true := by simp [h1.symm.trans e]
      rw [if_neg a, if_neg b]; exact ih
    · have e' : ¬ q.1 = k := fun z => e (h1.trans z)
      have a : decide (p.1 ≠ k) = true := by simp [e]
      have b : decide (q.1 ≠ k) = true := by simp [e']
      rw [if_pos a, if_pos b]; exact .cons ⟨h1, h2⟩ ih
theorem KV.keys {kvs : List (κ × V)} {vs : List (κ × Value)} (r : KV kvs vs) : kvs.map (·.1) = vs.map (·.1) := by
  unfold KV at r
  induction r with
  | nil => rfl
  | cons h t ih => rw [List.map_cons, List.map_cons, ih, h.1]
theorem KV.length {kvs : List (κ × V)} {vs : List (κ × Value)} (r : KV kvs vs) : kvs.length = vs.length := Paired.length r
theorem dropK_le (kvs : List (κ × V)) (k : κ) : (dropK kvs k).length ≤ kvs.length := List.length_filter_le _ _
end
theorem kV_is {P : Program} {w : World} {k : Key} {u : Value} (r : RelV (kV k) u) : (mixKind P w).is k u = true := by
  cases k with
  | inl i => obtain ⟨t, e⟩ := (show ∃ t, u = Value.int i t from r); subst e; exact mixKind_int P w i t
  | inr x => obtain ⟨t, e⟩ := (show ∃ t, u = Value.str x t from r); subst e; exact mixKind_str P w x t
theorem kV_inj {a b : Key} (e : kV a = kV b) : a = b := by
  cases a with
  | inl i => cases b with
    | inl j => have e' : V.int i = V.int j := e; injection e' with e'; rw [e']
    | inr y => exact nomatch (show V.int i = V.str y from e)
  | inr x => cases b with
    | inl j => exact nomatch (show V.str x = V.int j from e)
    | inr y => have e' : V.str x = V.str y := e; injection e' with e'; rw [e']
theorem kVs_inj : ∀ {a b : List Key}, a.map kV = b.map kV → a = b
  | [], [], _ => rfl
  | [], _ :: _, e => by simp at e
  | _ :: _, [], e => by simp at e
  | x :: xs, y :: ys, e => by
    rw [List.map_cons, List.map_cons] at e
    injection e with e1 e2
    rw [kV_inj e1, kVs_inj e2]
theorem items_are {P : Program} {w : World} : ∀ {ks : List Key} {us : List Value}, Vals (ks.map kV) us → ItemsAre (mixKind P w) ks us
  | [], _, r => by rw [List.map_nil] at r; cases r; exact .nil
  | k :: ks, _, r => by
    rw [List.map_cons] at r
    cases r with
    | cons h t => exact .cons (kV_is h) (items_are t)
abbrev KT (H : Hp) : List (List Key × V) → List (List Key × Addr × Value) → Prop := Paired fun p q => p.1 = q.1 ∧ H q.2.1 = some (.tup (p.1.map kV)) ∧ RelV p.2 q.2.2
theorem KT.val {H : Hp} {kvs : List (List Key × V)} {xs : List (List Key × Addr × Value)} (r : KT H kvs xs) (k : List Key) : RelO (valV kvs k) ((atKey xs k).map (·.2)) := by
  induction r with
  | nil => exact True.intro
  | @cons p q ps qs h t ih =>
    obtain ⟨h1, _, h2⟩ := h
    by_cases e : p.1 = k
    · have e' : q.1 = k := h1.symm.trans e
      have b : atKey (q :: qs) k = some q.2 := by simp [atKey, List.find?_cons, e']
      rw [valV_pos e, b]; exact h2
    · have e' : ¬ q.1 = k := fun z => e (h1.trans z)
      have b : atKey (q :: qs) k = atKey qs k := by simp [atKey, List.find?_cons, e']
      rw [valV_neg e, b]; exact ih
theorem KT.repl {H : Hp} {kvs : List (List Key × V)} {xs : List (List Key × Addr × Value)} (r : KT H kvs xs) (k : List Key) {y : V} {u : Value} (ry : RelV y u) :
    KT H (kvs.map fun kv => if kv.1 = k then (kv.1, y) else kv) (xs.map (putAt k u)) := by
  induction r with
  | nil => exact .nil
  | @cons p q ps qs h t ih =>
    rw [List.map_cons, List.map_cons]
    refine .cons ?_ ih
    obtain ⟨h1, h2, h3⟩ := h
    unfold putAt
    by_cases e : p.1 = k
    · rw [if_pos e, if_pos (h1.symm.trans e)]; exact ⟨h1, h2, ry⟩
    · rw [if_neg e, if_neg (fun z => e (h1.trans z))]; exact ⟨h1, h2, h3⟩
theorem KT.put {H : Hp} {kvs : List (List Key × V)} {xs : List (List Key × Addr × Value)} (r : KT H kvs xs) (k : List Key) {b : Addr} {y : V} {u : Value} (hb : H b = some (.tup (k.map kV))) (ry : RelV y u) :
    KT H (putK kvs k y) (storedH xs k b u) := by
  have e : (kvs.any fun kv => decide (kv.1 = k)) = (atKey xs k).isSome := by
    rw [valV_any, (r.val k).isSome_eq, Option.isSome_map]
  unfold putK storedH
  rw [e]
  by_cases q : (atKey xs k).isSome = true
  · rw [if_pos q, if_pos q]; exact r.repl k ry
  · rw [if_neg q, if_neg q]; exact Paired.snoc r ⟨rfl, hb, ry⟩
theorem KT.keeps {H H' : Hp} {kvs : List (List Key × V)} {xs : List (List Key × Addr × Value)} (r : KT H kvs xs) (ht : ∀ b ys, H b = some (.tup ys) → H' b = some (.tup ys)) : KT H' kvs xs :=
  Paired.mapP r fun _ _ z => ⟨z.1, ht _ _ z.2.1, z.2.2⟩
section
variable {P : Program} {w : World} {H : Hp} {h : Heap} {a : Addr}
theorem rd_of {u : HO} (ok : HOk P w H h) (e : Rd H a u) : ObjOk P w H h a u := e.ok ok
theorem dk_rd {kvs : List (Key × V)} (ok : HOk P w H h) (e : Rd H a (.dK kvs)) : kvs.length ≤ sizeLine ∧ (a == sysModules) = false ∧ ∃ vs, KV kvs vs ∧ h.DictOf (mixKind P w) a vs :=
  show ObjOk P w H h a (.dK kvs) from rd_of ok e
theorem dk_of {kvs : List (Key × V)} (ok : HOk P w H h) (e : H a = some (.dK kvs)) : kvs.length ≤ sizeLine ∧ (a == sysModules) = false ∧ ∃ vs, KV kvs vs ∧ h.DictOf (mixKind P w) a vs := dk_rd ok (.inl e)
theorem key_of {ks : List Key} (ok : HOk P w H h) (e : H a = some (.tup (ks.map kV))) : (tupleKind (mixKind P w)).is h ks a := by
  obtain ⟨_, its, r, o, h1, h2, n, h3⟩ := (show ObjOk P w H h a (.tup (ks.map kV)) from ok a _ e)
  exact ⟨o, its.toArray, n, h1, h2, h3, by simpa using items_are r⟩
theorem dt_rd {kvs : List (List Key × V)} (ok : HOk P w H h) (e : Rd H a (.dT kvs)) : kvs.length ≤ sizeLine ∧ (a == sysModules) = false ∧
    ∃ xs, KT H kvs xs ∧ h.DictOfH (tupleKind (mixKind P w)) a xs := by
  obtain ⟨z, y, xs, r, o, es, ep, h1, h2, h3, h4, h5⟩ := (show ObjOk P w H h a (.dT kvs) from rd_of ok e)
  refine ⟨z, y, xs, r, o, es, ep, h1, h2, h3, h4, fun x hx => ?_, h5⟩
  have all : ∀ {l : List (List Key × V)} {m : List (List Key × Addr × Value)}, KT H l m → ∀ x ∈ m, (tupleKind (mixKind P w)).is h x.1 x.2.1 := by
    intro l m q
    induction q with
    | nil => intro x hx; exact nomatch hx
    | @cons p q ps qs hq t ih =>
      intro x hx
      rcases List.mem_cons.mp hx with e | hx
      · subst e
        exact key_of ok (by rw [← hq.1]; exact hq.2.1)
      · exact ih x hx
  exact all r x hx
theorem dt_of {kvs : List (List Key × V)} (ok : HOk P w H h) (e : H a = some (.dT kvs)) : kvs.length ≤ sizeLine ∧ (a == sysModules) = false ∧
    ∃ xs, KT H kvs xs ∧ h.DictOfH (tupleKind (mixKind P w)) a xs := dt_rd ok (.inl e)
end
def DGet (H : Hp) (a : Addr) (y : V) (r : Option V) : Prop :=
  (∃ kvs k, Rd H a (.dK kvs) ∧ y = kV k ∧ r = valV kvs k) ∨ ∃ kvs k b, Rd H a (.dT kvs) ∧ y = .ref b ∧ H b = some (.tup (k.map kV)) ∧ r = valV kvs k
def DPut (H : Hp) (a : Addr) (y v : V) (H' : Hp) : Prop :=
  (∃ kvs k, H a = some (.dK kvs) ∧ y = kV k ∧ kvs.length < sizeLine ∧ H' = upd H a (.dK (putK kvs k v))) ∨
  ∃ kvs k b, H a = some (.dT kvs) ∧ y = .ref b ∧ H b = some (.tup (k.map kV)) ∧ kvs.length < sizeLine ∧ H' = upd H a (.dT (putK kvs k v))
theorem DGet.k {H : Hp} {a : Addr} {kvs : List (Key × V)} {k : Key} (e : H a = some (.dK kvs)) : DGet H a (kV k) (valV kvs k) := .inl ⟨kvs, k, .inl e, rfl, rfl⟩
theorem DGet.t {H : Hp} {a b : Addr} {kvs : List (List Key × V)} {k : List Key} (e : H a = some (.dT kvs)) (eb : H b = some (.tup (k.map kV))) : DGet H a (.ref b) (valV kvs k) := .inr ⟨kvs, k, b, .inl e, rfl, eb, rfl⟩
theorem DPut.k {H : Hp} {a : Addr} {kvs : List (Key × V)} {k : Key} {v : V} (e : H a = some (.dK kvs)) (hl : kvs.length < sizeLine) : DPut H a (kV k) v (upd H a (.dK (putK kvs k v))) := .inl ⟨kvs, k, e, rfl, hl, rfl⟩
theorem DPut.t {H : Hp} {a b : Addr} {kvs : List (List Key × V)} {k : List Key} {v : V} (e : H a = some (.dT kvs)) (eb : H b = some (.tup (k.map kV))) (hl : kvs.length < sizeLine) :
    DPut H a (.ref b) v (upd H a (.dT (putK kvs k v))) := .inr ⟨kvs, k, b, e, rfl, eb, hl, rfl⟩
section
variable {X : Cx} {pins : List (Addr × Obj)} {σ : St} {H : Hp} {s : Shared} {a : Addr} {y v : V} {u r : Value} {o : Option V} {A : Around} {E : Value → Shared → Prop}
theorem Inv.big (I : Inv X pins σ H s) : sysModules < s.heap.objs.size := by
  have h : mainGlobals < s.heap.objs.size := (I.mod.glob.keeps I.bk).lt
  exact Nat.lt_trans (by decide) h
theorem d_getItem {Q : Value → Shared → Prop} (hu : A.units + 1 < cLine) (I : Inv X pins σ H s) (g : DGet H a y (some v)) (ry : RelV y u) (h : ∀ w' s', Inv X pins σ H s' → RelV v w' → Q w' s') :
    wpAny (model X.prog X.w) A (getItem (.ref a) u) Q E s := by
  rcases g with ⟨kvs, k, e, ey, l⟩ | ⟨kvs, k, b, e, ey, eb, l⟩
  · subst ey
    obtain ⟨z, hd, vs, rel, dd⟩ := dk_rd I.hok e
    obtain ⟨w', hw, rw'⟩ := RelO.some_of (v := v) (o := valueAt vs k) (by rw [l]; exact rel.val k)
    exact wpAny_getItem_of (kV_is ry) dd.mapOf hw (h w' _ (I.tok _) rw')
  · subst ey
    cases (show u = Value.ref b from ry)
    obtain ⟨z, hd, xs, rel, dd⟩ := dt_rd I.hok e
    obtain ⟨w', hw, rw'⟩ := RelO.some_of (v := v) (o := (atKey xs k).map (·.2)) (by rw [l]; exact rel.val k)
    obtain ⟨p, hp, hp2⟩ := Option.map_eq_some_iff.mp hw
    refine wpAny_getItem_heap (tupleKind_room_in1 hu) (key_of I.hok eb) dd hp ?_
    rw [hp2]
    exact h w' _ (I.tok _) rw'
theorem d_in {Q : Value → Shared → Prop} (hu : A.units + 1 < cLine) (I : Inv X pins σ H s) (g : DGet H a y o) (ry : RelV y u) (h : ∀ s', Inv X pins σ H s' → Q (.bool o.isSome) s') :
    wpAny (model X.prog X.w) A (compareOp .In u (.ref a)) Q E s := by
  rcases g with ⟨kvs, k, e, ey, l⟩ | ⟨kvs, k, b, e, ey, eb, l⟩
  · subst ey
    obtain ⟨z, hd, vs, rel, dd⟩ := dk_rd I.hok e
    refine wpAny_in_of (kV_is ry) hd dd.mapOf ?_
    rw [← (rel.val k).isSome_eq, ← l]
    exact h _ (I.tok _)
  · subst ey
    cases (show u = Value.ref b from ry)
    obtain ⟨z, hd, xs, rel, dd⟩ := dt_rd I.hok e
    refine wpAny_in_heap (tupleKind_room_in1 hu) (key_of I.hok eb) hd dd ?_
    have q := (rel.val k).isSome_eq
    rw [Option.isSome_map] at q
    rw [← q, ← l]
    exact h _ (I.tok _)
theorem d_notIn {Q : Value → Shared → Prop} (hu : A.units + 1 < cLine) (I : Inv X pins σ H s) (g : DGet H a y o) (ry : RelV y u) (h : ∀ s', Inv X pins σ H s' → Q (.bool (!o.isSome)) s') :
    wpAny (model X.prog X.w) A (compareOp .NotIn u (.ref a)) Q E s := by
  rcases g with ⟨kvs, k, e, ey, l⟩ | ⟨kvs, k, b, e, ey, eb, l⟩
  · subst ey
    obtain ⟨z, hd, vs, rel, dd⟩ := dk_rd I.hok e
    refine wpAny_notIn_of (kV_is ry) hd dd.mapOf ?_
    rw [← (rel.val k).isSome_eq, ← l]
    exact h _ (I.tok _)
  · subst ey
    cases (show u = Value.ref b from ry)
    obtain ⟨z, hd, xs, rel, dd⟩ := dt_rd I.hok e
    refine wpAny_notIn_heap (tupleKind_room_in1 hu) (key_of I.hok eb) hd dd ?_
    have q := (rel.val k).isSome_eq
    rw [Option.isSome_map] at q
    rw [← q, ← l]
    exact h _ (I.tok _)
theorem d_write {h' : Heap} {t' : Nat} {ob : HO} (I : Inv X pins σ H s) (mu : Mut (H a)) (hs : Heap.SameBut a s.heap h') (he : ∃ q, h'.get? a = some q) (new : ObjOk X.prog X.w (upd H a ob) h' a ob) :
    Inv X pins σ (upd H a ob) { s with heap := h', toks := t' } :=
  I.write (x := a) (e := a) mu (.inl rfl) (fun b q hb z => (hs.2 b hb).trans z) he new
theorem dk_new {P : Program} {w : World} {H' : Hp} {h' : Heap} {kvs : List (Key × V)} {vs : List (Key × Value)} (z : kvs.length ≤ sizeLine) (hd : (a == sysModules) = false) (rel : KV kvs vs) (dd : h'.DictOf (mixKind P w) a vs) :
    ObjOk P w H' h' a (.dK kvs) := ⟨z, hd, vs, rel, dd⟩
theorem d_setItem {H' : Hp} {Q : Unit → Shared → Prop} (hu : A.units + 1 < cLine) (I : Inv X pins σ H s) (g : DPut H a y v H') (ry : RelV y u) (rv : RelV v r) (h : ∀ s', Inv X pins σ H' s' → Q () s') :
    wpAny (model X.prog X.w) A (setItem (.ref a) u r) Q E s := by
  rcases g with ⟨kvs, k, e, ey, l, eH⟩ | ⟨kvs, k, b, e, ey, eb, l, eH⟩
  · subst ey eH
    obtain ⟨z, hd, vs, rel, dd⟩ := dk_of I.hok e
    have hz : vs.length ≤ sizeLine := by rw [← rel.length]; exact z
    have hl : (putK kvs k v).length ≤ sizeLine := by have := length_putK kvs k v; omega
    refine wpAny_setItem_pairs (hsz := hz) (kV_is ry) dd fun h' dd' hs => h _ ?_
    have he : ∃ q, h'.get? a = some q := let ⟨q, _, _, hq, _⟩ := dd'; ⟨q, hq⟩
    exact d_write I (by rw [e]; exact True.intro) hs he (dk_new hl hd (rel.put k rv) dd')
  · subst ey eH
    cases (show u = Value.ref b from ry)
    obtain ⟨z, hd, xs, rel, dd⟩ := dt_of I.hok e
    have hz : xs.length ≤ sizeLine := by rw [← Paired.length rel]; exact z
    have hl : (putK kvs k v).length ≤ sizeLine := by have := length_putK kvs k v; omega
    refine wpAny_setItem_heap (hsz := hz) (tupleKind_room_in1 hu) (key_of I.hok eb) dd fun h' dd' hs => h _ ?_
    obtain ⟨q, es, ep, hq, h2, h3, h4, _, h5⟩ := dd'
    refine d_write I (by rw [e]; exact True.intro) hs ⟨q, hq⟩ ⟨hl, hd, _, (rel.put k eb rv).keeps fun c ys ec => ?_, q, es, ep, hq, h2, h3, h4, h5⟩
    rw [upd_ne (ne_of ec e (fun z => nomatch z))]
    exact ec
end
section
variable {X : Cx} {pins : List (Addr × Obj)} {σ : St} {H : Hp} {s : Shared} {a : Addr} {kvs : List (Key × V)} {k : Key} {u : Value} {A : Around} {E : Value → Shared → Prop}
theorem d_delItem {Q : Unit → Shared → Prop} (I : Inv X pins σ H s) (e : H a = some (.dK kvs)) (ry : RelV (kV k) u) (l : (valV kvs k).isSome = true) (h : ∀ s', Inv X pins σ (upd H a (.dK (dropK kvs k))) s' → Q () s') :
    wpAny (model X.prog X.w) A (delItem (.ref a) u) Q E s := by
  obtain ⟨z, hd, vs, rel, dd⟩ := dk_of I.hok e
  refine wpAny_delItem_slot dd.typeIs (by decide) PySem.F.slot_dict_delitem
    (call_meetsIn PySem.F.slot_dict_delitem dd.typeIs PySem.F.entry_dict_delitem (PySem.F.args_dict_delitem_2 _ _) (meets_dict_delitem_pairs (mixKind X.prog X.w) a (kV_is ry)) ⟨vs, dd, by rw [← rel.length]; exact z, by rw [← (rel.val k).isSome_eq]; exact l, fun h' dd' hs => h _ ?_⟩)
  have he : ∃ q, h'.get? a = some q := let ⟨q, _, _, hq, _⟩ := dd'; ⟨q, hq⟩
  exact d_write I (by rw [e]; exact True.intro) hs he (dk_new (Nat.le_trans (dropK_le kvs k) z) hd (rel.drop k) dd')
theorem d_pop {v : V} {more : List Value} {Q : Value → Shared → Prop} (I : Inv X pins σ H s) (e : H a = some (.dK kvs)) (ry : RelV (kV k) u) (l : valV kvs k = some v) (hm : more = [] ∨ ∃ x, more = [x])
    (h : ∀ w' s', Inv X pins σ (upd H a (.dK (dropK kvs k))) s' → RelV v w' → Q w' s') : wpAny (model X.prog X.w) A (call (.builtin "dict.pop") (.ref a :: u :: more)) Q E s := by
  obtain ⟨z, hd, vs, rel, dd⟩ := dk_of I.hok e
  obtain ⟨w', hw, rw'⟩ := RelO.some_of (v := v) (o := valueAt vs k) (by rw [← l]; exact rel.val k)
  have hp : (keyPart u).isSome = true := by
    cases k with
    | inl i => obtain ⟨t, q⟩ := (show ∃ t, u = Value.int i t from ry); subst q; rfl
    | inr x => obtain ⟨t, q⟩ := (show ∃ t, u = Value.str x t from ry); subst q; rfl
  have ha : argsOk "dict.pop" ⟨.ref a :: u :: more, []⟩ := by
    rcases hm with q | ⟨x, q⟩
    · subst q; exact PySem.F.args_dict_pop_2 _ _
    · subst q; exact PySem.F.args_dict_pop_3 _ _ _
  refine call_meetsIn PySem.F.slot_dict_pop dd.typeIs PySem.F.entry_dict_pop ha (meets_dict_pop_there (mixKind X.prog X.w) a (kV_is ry) more hm hp)
    ⟨vs, w', dd, by rw [← rel.length]; exact z, hw, fun h' dd' hs => h w' _ ?_ rw'⟩
  have he : ∃ q, h'.get? a = some q := let ⟨q, _, _, hq, _⟩ := dd'; ⟨q, hq⟩
  exact d_write I (by rw [e]; exact True.intro) hs he (dk_new (Nat.le_trans (dropK_le kvs k) z) hd (rel.drop k) dd')
theorem d_popD {r : Value} {Q : Value → Shared → Prop} (I : Inv X pins σ H s) (e : H a = some (.dK kvs)) (ry : RelV (kV k) u) (l : valV kvs k = none) (h : ∀ s', Inv X pins σ H s' → Q r s') :
    wpAny (model X.prog X.w) A (call (.builtin "dict.pop") [.ref a, u, r]) Q E s := by
  obtain ⟨z, hd, vs, rel, dd⟩ := dk_of I.hok e
  have hn : valueAt vs k = none := RelO.none_of (by rw [← l]; exact rel.val k)
  have hp : (keyPart u).isSome = true := by
    cases k with
    | inl i => obtain ⟨t, q⟩ := (show ∃ t, u = Value.int i t from ry); subst q; rfl
    | inr x => obtain ⟨t, q⟩ := (show ∃ t, u = Value.str x t from ry); subst q; rfl
  exact call_meetsIn PySem.F.slot_dict_pop dd.typeIs PySem.F.entry_dict_pop (PySem.F.args_dict_pop_3 _ _ _) (meets_dict_pop_default (mixKind X.prog X.w) a (kV_is ry) hd hp r) ⟨vs, dd, hn, h _ (I.tok _)⟩
theorem d_clear {Q : Value → Shared → Prop} (I : Inv X pins σ H s) (e : H a = some (.dK kvs)) (h : ∀ s', Inv X pins σ (upd H a (.dK [])) s' → Q .none s') : wpAny (model X.prog X.w) A (call (.builtin "dict.clear") [.ref a]) Q E s := by
  obtain ⟨z, hd, vs, rel, dd⟩ := dk_of I.hok e
  refine call_meetsIn PySem.F.slot_dict_clear dd.typeIs PySem.F.entry_dict_clear (PySem.F.args_dict_clear_1 _) (meets_dict_clear (mixKind X.prog X.w) a) ⟨vs, dd, by rw [← rel.length]; exact z, fun h' dd' hs => h _ ?_⟩
  have he : ∃ q, h'.get? a = some q := let ⟨q, _, _, hq, _⟩ := dd'; ⟨q, hq⟩
  exact d_write (t' := s.toks) I (by rw [e]; exact True.intro) hs he (dk_new (Nat.zero_le _) hd .nil dd')
theorem d_len {Q : Value → Shared → Prop} (I : Inv X pins σ H s) (e : Rd H a (.dK kvs)) (h : ∀ t s', Inv X pins σ H s' → Q (.int kvs.length t) s') : wpAny (model X.prog X.w) A (call (.builtin "len") [.ref a]) Q E s := by
  obtain ⟨z, hd, vs, rel, dd⟩ := dk_rd I.hok e
  refine call_len_dict hd dd (by rw [← rel.length]; rw [sizeLine_eq] at z; omega) ?_
  rw [← rel.length]
  exact h _ _ (I.tok _)
theorem d_truth {Q : Bool → Shared → Prop} (I : Inv X pins σ H s) (e : Rd H a (.dK kvs)) (h : ∀ s', Inv X pins σ H s' → Q (!kvs.isEmpty) s') : wpAny (model X.prog X.w) A (truthy (.ref a)) Q E s := by
  obtain ⟨z, hd, vs, rel, dd⟩ := dk_rd I.hok e
  refine wpAny_truthy_dict hd dd (by rw [← rel.length]; rw [sizeLine_eq] at z; omega) ?_
  have q : kvs.isEmpty = vs.isEmpty := by cases rel <;> rfl
  rw [← q]
  exact h _ (I.tok _)
end
def NoSl (i : Expr) : Prop := ∀ ov iv, subscripted i false ov iv = operate [ov, iv] (getItem ov iv)
theorem subD_of {prog : Program} {w : World} {A : Around} {E : Value → Shared → Prop} {s : Shared} {env : Env} {value slice : Expr} {pos : Pos} {T id : String} {Q : Value → Shared → Prop}
    (hl : typeLookup (.type T) "__getitem__" = pure (some (.builtin id))) (hs : NoSl slice)
    (h : wpAny (model prog w) A (eval value env) (fun o s₁ => wpAny (model prog w) A (eval slice env) (fun i s₂ => s₂.TypeIs o T ∧ wpAny (model prog w) A (getItem o i) Q E s₂) E s₁) E s) :
    wpAny (model prog w) A (eval (.Subscript value slice pos) env) Q E s := by
  refine Subscript_ (wpAny_mono h (fun o s₁ h₁ => wpAny_mono h₁ (fun i s₂ h₂ => ?_) fun _ _ x => x) fun _ _ x => x)
  obtain ⟨hT, h₂⟩ := h₂
  unfold subscriptTail
  refine wpAny_bind ?_
  rw [getitemInPython_of_ne hT.not_modules]
  refine wpAny_bind (wpAny_specialOf hT hl ?_)
  have fin : wpAny (model prog w) A (subscripted slice false o i) (fun r s₃ => wpAny (model prog w) A (letTemporaryGo value o r >>= fun _ => pure r) Q E s₃) E s₂ := by
    rw [hs o i]
    exact wpAny_operating (wpAny_mono h₂ (fun r s₃ h₃ => wpAny_bind (wpAny_letTemporaryGo (wpAny_pure h₃))) fun _ _ x => x)
  first
    | exact wpAny_pure (wpAny_bind fin)
    | exact wpAny_bind (wpAny_pure (wpAny_bind fin))
    | exact wpAny_bind fin
theorem dict_typeIs {X : Cx} {pins : List (Addr × Obj)} {σ : St} {H : Hp} {s : Shared} {a : Addr} {y : V} {o : Option V} (I : Inv X pins σ H s) (g : DGet H a y o) : s.TypeIs (.ref a) "dict" := by
  rcases g with ⟨kvs, k, e, _, _⟩ | ⟨kvs, k, b, e, _, _, _⟩
  · obtain ⟨_, _, vs, _, dd⟩ := dk_rd I.hok e
    exact dd.typeIs
  · obtain ⟨_, _, xs, _, dd⟩ := dt_rd I.hok e
    exact dd.typeIs
theorem dict_noDict {X : Cx} {pins : List (Addr × Obj)} {σ : St} {H : Hp} {s : Shared} {a : Addr} {y : V} {o : Option V} (I : Inv X pins σ H s) (g : DGet H a y o) :
    ∀ b, Value.ref a = .ref b → ∃ ob, s.heap.get? b = some ob ∧ ob.dict = none := fun b q => by
  cases q
  rcases g with ⟨kvs, k, e, _, _⟩ | ⟨kvs, k, b, e, _, _, _⟩
  · obtain ⟨_, _, vs, _, ob, _, _, h1, h2, _⟩ := dk_rd I.hok e
    exact ⟨ob, h1, h2.2.1⟩
  · obtain ⟨_, _, xs, _, ob, _, _, h1, h2, _⟩ := dt_rd I.hok e
    exact ⟨ob, h1, h2.2.1⟩
def tDGet (td ty : TE) : TE := fun σ H Q => td σ H fun x H1 => ty σ H1 fun y H2 => ∃ a v, x = .ref a ∧ DGet H2 a y (some v) ∧ Q v H2
def tDIn (ty td : TE) : TE := fun σ H Q => ty σ H fun y H1 => td σ H1 fun x H2 => ∃ a o, x = .ref a ∧ DGet H2 a y o ∧ Q (.bl o.isSome) H2
def tDNotIn (ty td : TE) : TE := fun σ H Q => ty σ H fun y H1 => td σ H1 fun x H2 => ∃ a o, x = .ref a ∧ DGet H2 a y o ∧ Q (.bl (!o.isSome)) H2
def sDPut (td ty tv : TE) : TS := fun D σ H => tv σ H fun v H1 => td σ H1 fun x H2 => ty σ H2 fun y H3 => ∃ a H4, x = .ref a ∧ DPut H3 a y v H4 ∧ D.nx σ H4
def sDAug (td ty tv : TE) (rd : V → V → Hp → VK → Prop) : TS := fun D σ H => td σ H fun x H1 => ty σ H1 fun y H2 => ∃ a v, x = .ref a ∧ DGet H2 a y (some v) ∧
  tv σ H2 fun y2 H3 => rd v y2 H3 fun z H4 => ∃ H5, DPut H4 a y z H5 ∧ D.nx σ H5
def sDDel (td ty : TE) : TS := fun D σ H => td σ H fun x H1 => ty σ H1 fun y H2 => ∃ a kvs k, x = .ref a ∧ H2 a = some (.dK kvs) ∧ y = kV k ∧ (valV kvs k).isSome = true ∧ D.nx σ (upd H2 a (.dK (dropK kvs k)))
section
variable {X : Cx} {o i e value : Expr} {pos pos' tpos : Pos} {td ty tv : TE}
theorem pe_dget (hu : X.A.units + 1 < cLine) (ho : PE X o td) (hi : PE X i ty) (hs : NoSl i) : PE X (.Subscript o i pos) (tDGet td ty) := by
  intro pins s σ H Q I h
  refine subD_of PySem.F.slot_dict_getitem.lookup hs (thn (ho pins s σ H _ I h) fun u s1 ⟨x, H1, I1, rx, q1⟩ => thn (hi pins s1 σ H1 _ I1 q1) fun iv s2 ⟨y, H2, I2, ry, a, v, ex, g, q2⟩ => ?_)
  subst ex
  obtain rfl : u = Value.ref a := rx
  exact ⟨dict_typeIs I2 g, d_getItem hu I2 g ry fun w' s3 I3 rw' => ⟨v, H2, I3, rw', q2⟩⟩
theorem pc_din (hu : X.A.units + 1 < cLine) (hi : PE X i ty) (ho : PE X o td) : PC X .In i o (tDIn ty td) := by
  intro pins s σ H Q I h
  refine thn (hi pins s σ H _ I h) fun iv s1 ⟨y, H1, I1, ry, q1⟩ => thn (ho pins s1 σ H1 _ I1 q1) fun u s2 ⟨x, H2, I2, rx, a, ov, ex, g, q2⟩ => ?_
  subst ex
  obtain rfl : u = Value.ref a := rx
  exact d_in hu I2 g ry fun s3 I3 => ⟨.bl ov.isSome, H2, I3, rfl, q2⟩
theorem pc_dnotin (hu : X.A.units + 1 < cLine) (hi : PE X i ty) (ho : PE X o td) : PC X .NotIn i o (tDNotIn ty td) := by
  intro pins s σ H Q I h
  refine thn (hi pins s σ H _ I h) fun iv s1 ⟨y, H1, I1, ry, q1⟩ => thn (ho pins s1 σ H1 _ I1 q1) fun u s2 ⟨x, H2, I2, rx, a, ov, ex, g, q2⟩ => ?_
  subst ex
  obtain rfl : u = Value.ref a := rx
  exact d_notIn hu I2 g ry fun s3 I3 => ⟨.bl (!ov.isSome), H2, I3, rfl, q2⟩
theorem ps_dput (hu : X.A.units + 1 < cLine) (ho : PE X o td) (hi : PE X i ty) (hv : PE X value tv) (hs : swapsWith value (some (.Subscript o i pos')) pos.line X.env = pure false) :
    PS X (.Assign [.Subscript o i pos'] value pos) (sDPut td ty tv) := by
  intro pins s σ H D I h
  refine wpAny_Assign_Subscript (thn (hv pins s σ H _ I h) fun r s1 ⟨v, H1, I1, rv, q1⟩ => thn (ho pins s1 σ H1 _ I1 q1) fun u s2 ⟨x, H2, I2, rx, q2⟩ => thn (hi pins s2 σ H2 _ I2 q2) fun iv s3 ⟨y, H3, I3, ry, a, H4, ex, g, q3⟩ => ?_) hs
  subst ex
  obtain rfl : u = Value.ref a := rx
  exact d_setItem hu I3 g ry rv fun s4 I4 => ⟨σ, H4, I4, q3⟩
theorem ps_daug {op : Operator} {rd : V → V → Hp → VK → Prop} (hu : X.A.units + 1 < cLine) (ho : PE X o td) (hi : PE X i ty) (hv : PE X value tv) (hop : InOp X op rd)
    (ha : ∀ ov iv new, augStore i ov iv new = (do holding [new, ov, iv] (setItem ov iv new); release [new, ov, iv] []; pure .next)) : PS X (.AugAssign (.Subscript o i tpos) op value pos) (sDAug td ty tv rd) := by
  intro pins s σ H D I h
  refine wpAny_AugAssign_SubscriptAny (thn (ho pins s σ H _ I h) fun u s1 ⟨x, H1, I1, rx, q1⟩ => thn (hi pins s1 σ H1 _ I1 q1) fun iv s2 ⟨y, H2, I2, ry, a, v, ex, g, q2⟩ => ?_) ha
  subst ex
  obtain rfl : u = Value.ref a := rx
  refine d_getItem hu I2 g ry fun w' s3 I3 rw' => thn (hv pins s3 σ H2 _ I3 q2) fun w2 s4 ⟨y2, H3, I4, ry2, q3⟩ => thn (hop pins s4 σ H3 v y2 w' w2 _ I4 rw' ry2 q3) fun w3 s5 ⟨z, H4, I5, rz, H5, g5, q4⟩ => ?_
  exact d_setItem hu I5 g5 ry rz fun s6 I6 => ⟨σ, H5, I6, q4⟩
theorem ps_ddel (ho : PE X o td) (hi : PE X i ty) : PS X (.Delete [.Subscript o i tpos] pos) (sDDel td ty) := by
  intro pins s σ H D I h
  refine wpAny_Delete (wpAny_deleteEach_cons (wpAny_delete_Subscript (thn (ho pins s σ H _ I h) fun u s1 ⟨x, H1, I1, rx, q1⟩ => thn (hi pins s1 σ H1 _ I1 q1) fun iv s2 ⟨y, H2, I2, ry, a, kvs, k, ex, e, ey, l, q2⟩ => ?_)))
  subst ex ey
  obtain rfl : u = Value.ref a := rx
  exact d_delItem I2 e ry l fun s3 I3 => wpAny_deleteEach_nil ⟨σ, _, I3, q2⟩
end
theorem dk_empty {P : Program} {w : World} {H : Hp} (h : Heap) (hb : sysModules < h.objs.size) : ObjOk P w H (h.push { cls := .type "dict", data := .dict #[] }) h.objs.size (.dK []) :=
  ⟨Nat.zero_le _, beq_eq_false_iff_ne.mpr (Ne.symm (Nat.ne_of_lt hb)), [], .nil, Heap.DictOf.new h⟩
theorem dt_empty {P : Program} {w : World} {H : Hp} (h : Heap) (hb : sysModules < h.objs.size) : ObjOk P w H (h.push { cls := .type "dict", data := .dict #[] }) h.objs.size (.dT []) :=
  ⟨Nat.zero_le _, beq_eq_false_iff_ne.mpr (Ne.symm (Nat.ne_of_lt hb)), [], .nil, _, #[], 0, Heap.get?_push_size _ rfl, ⟨rfl, rfl, rfl⟩, rfl, rfl, List.nodup_nil⟩
def tDNewK : TE := fun _ H Q => ∀ p, H p = none → Q (.ref p) (upd H p (.dK []))
def tDNewT : TE := fun _ H Q => ∀ p, H p = none → Q (.ref p) (upd H p (.dT []))
section
variable {X : Cx} {pos : Pos}
theorem pe_dnewK : PE X (.Dict [] [] pos) tDNewK := fun pins s σ H Q I h =>
  wpAny_Dict_empty ⟨.ref s.heap.objs.size, _, I.laid (a := s.heap.objs.size) (o := .dK []) (t' := s.toks) (fun _ _ q => Heap.get?_push_of_some _ q) (Nat.le_refl _) (dk_empty s.heap I.big), rfl, h _ (I.hok.fresh (Nat.le_refl _))⟩
theorem pe_dnewT : PE X (.Dict [] [] pos) tDNewT := fun pins s σ H Q I h =>
  wpAny_Dict_empty ⟨.ref s.heap.objs.size, _, I.laid (a := s.heap.objs.size) (o := .dT []) (t' := s.toks) (fun _ _ q => Heap.get?_push_of_some _ q) (Nat.le_refl _) (dt_empty s.heap I.big), rfl, h _ (I.hok.fresh (Nat.le_refl _))⟩
end
def tPairs : List (TE × TE) → St → Hp → (List (V × V) → Hp → Prop) → Prop
  | [], _, H, Q => Q [] H
  | (tk, tv) :: r, σ, H, Q => tk σ H fun x H1 => tv σ H1 fun y H2 => tPairs r σ H2 fun ps H3 => Q ((x, y) :: ps) H3
abbrev VV : List (V × V) → List (Value × Value) → Prop := Paired fun p q => RelV p.1 q.1 ∧ RelV p.2 q.2
def PPs (X : Cx) (pos : Pos) (keys : List (Option Expr)) (values : List Expr) (trs : List (TE × TE)) : Prop :=
  ∀ (pins : List (Addr × Obj)) (s : Shared) (σ : St) (H : Hp) (Q : List (V × V) → Hp → Prop), Inv X pins σ H s → tPairs trs σ H Q →
    wpAny (model X.prog X.w) X.A (evalPairs (pairTrees keys values X.env pos)) (fun vs s' => ∃ ps H', Inv X pins σ H' s' ∧ VV ps vs ∧ Q ps H') X.xe s
theorem pps_nil {X : Cx} {pos : Pos} : PPs X pos [] [] [] := fun pins s σ H Q I h => pairTrees_nil_walk ⟨[], H, I, .nil, h⟩
theorem pps_cons {X : Cx} {pos : Pos} {k v : Expr} {ks : List (Option Expr)} {vs : List Expr} {tk tv : TE} {trs : List (TE × TE)} (hk : PE X k tk) (hv : PE X v tv) (hr : PPs X pos ks vs trs) :
    PPs X pos (some k :: ks) (v :: vs) ((tk, tv) :: trs) := fun pins s σ H Q I h =>
  pairTrees_cons_walk (thn (hk pins s σ H _ I h) fun u s1 ⟨x, H1, I1, rx, q1⟩ => thn (hv pins s1 σ H1 _ I1 q1) fun w2 s2 ⟨y, H2, I2, ry, q2⟩ =>
    thn (hr pins s2 σ H2 _ I2 q2) fun ws s3 ⟨ps, H3, I3, rel, q3⟩ => ⟨(x, y) :: ps, H3, I3, .cons ⟨rx, ry⟩ rel, q3⟩)
def mergeK (kvs more : List (Key × V)) : List (Key × V) := more.foldl (fun acc kv => putK acc kv.1 kv.2) kvs
theorem KV.merge : ∀ {more : List (Key × V)} {rs : List (Key × Value)} {kvs : List (Key × V)} {vs : List (Key × Value)}, KV more rs → KV kvs vs → KV (mergeK kvs more) (merged vs rs) := by
  intro more rs kvs vs r
  unfold KV at r
  induction r generalizing kvs vs with
  | nil => intro q; exact q
  | @cons p q ps qs h t ih =>
    intro r0
    have e : KV (putK kvs p.1 p.2) (stored vs q.1 q.2) := by
      have := r0.put p.1 h.2
      rw [← h.1]; exact this
    exact ih e
theorem length_mergeK : ∀ (more kvs : List (Key × V)), (mergeK kvs more).length ≤ kvs.length + more.length
  | [], kvs => by show kvs.length ≤ kvs.length + 0; omega
  | p :: r, kvs => by
    have h1 := length_mergeK r (putK kvs p.1 p.2)
    have h2 := length_putK kvs p.1 p.2
    show (mergeK (putK kvs p.1 p.2) r).length ≤ _
    rw [List.length_cons]; omega
theorem carries_of {P : Program} {w : World} : ∀ {kvs : List (Key × V)} {ws : List (Value × Value)}, VV (kvs.map fun kv => (kV kv.1, kv.2)) ws → ∃ rs, Carries (mixKind P w) ws rs ∧ KV kvs rs
  | [], _, r => by rw [List.map_nil] at r; cases r; exact ⟨[], True.intro, .nil⟩
  | p :: kvs, _, r => by
    rw [List.map_cons] at r
    cases r with
    | @cons a b as bs h t =>
      obtain ⟨rs, c, q⟩ := carries_of (P := P) (w := w) t
      obtain ⟨b1, b2⟩ := b
      exact ⟨(p.1, b2) :: rs, ⟨kV_is h.1, rfl, c⟩, .cons ⟨rfl, h.2⟩ q⟩
def tDisp (trs : List (TE × TE)) : TE := fun σ H Q => ∀ p, H p = none → tPairs trs σ (upd H p (.dK [])) fun ps H2 => H2 p = some (.dK []) ∧ ∃ kvs : List (Key × V), ps = kvs.map (fun kv => (kV kv.1, kv.2)) ∧ kvs.length ≤ 15 ∧ Q (.ref p) (upd H2 p (.dK (mergeK [] kvs)))
theorem pe_disp {X : Cx} {pos : Pos} {keys : List (Option Expr)} {values : List Expr} {trs : List (TE × TE)} (h : PPs X pos keys values trs) (hall : keys.all (·.isSome) = true) (hl : keys.length = values.length) (h0 : keys ≠ [])
    (h15 : keys.length ≤ 15) : PE X (.Dict keys values pos) (tDisp trs) := by
  intro pins s σ H Q I q
  have hn := I.hok.fresh (Nat.le_refl s.heap.objs.size)
  have I1 := I.laid (a := s.heap.objs.size) (o := .dK []) (h' := s.heap.push { cls := .type "dict", data := .dict #[] }) (t' := s.toks) (fun _ _ q => Heap.get?_push_of_some _ q) (Nat.le_refl _) (dk_empty s.heap I.big)
  refine wpAny_Dict_walk (knd := mixKind X.prog X.w) hall hl h0 h15 (thn (h pins _ σ _ _ I1 (q _ hn)) fun ws s2 ⟨ps, H2, I2, rel, e, kvs, ep, lk, q2⟩ => ?_)
  subst ep
  obtain ⟨rs, c, rk⟩ := carries_of (P := X.prog) (w := X.w) rel
  obtain ⟨z, hd, vs0, r0, dd⟩ := dk_of I2.hok e
  cases r0
  refine ⟨rs, c, dd, fun h' dd' hs => ⟨.ref s.heap.objs.size, _, ?_, rfl, q2⟩⟩
  have hz : (mergeK [] kvs).length ≤ sizeLine := by
    have h1 := length_mergeK kvs []
    rw [List.length_nil] at h1
    rw [sizeLine_eq]; omega
  have he : ∃ q, h'.get? s.heap.objs.size = some q := let ⟨q, _, _, hq, _⟩ := dd'; ⟨q, hq⟩
  exact d_write I2 (by rw [e]; exact True.intro) hs he (dk_new hz hd (rk.merge .nil) dd')
structure M1 (X : Cx) (o : Expr) (m : Str) (apos : Pos) (e : Expr) (cpos : Pos) : Prop where
  base : attributeBase o m X.env (eval o X.env) = eval o X.env
  few : ((backTo cpos (starEach [e] X.env)).all (fun x => !x.1) && (backToKw cpos (keywordEach [] X.env)).all (fun x => x.1.isSome)
    && decide (([e] : List Expr).length + ([] : List Keyword).length + (if ([] : List Keyword).isEmpty then 0 else 1) < 30)) = true
  line : (apos.endLine == cpos.line) = true
  trees : backTo cpos (starEach [e] X.env) = [(false, eval e X.env)]
structure M2 (X : Cx) (o : Expr) (m : Str) (apos : Pos) (e f : Expr) (cpos : Pos) : Prop where
  base : attributeBase o m X.env (eval o X.env) = eval o X.env
  few : ((backTo cpos (starEach [e, f] X.env)).all (fun x => !x.1) && (backToKw cpos (keywordEach [] X.env)).all (fun x => x.1.isSome)
    && decide (([e, f] : List Expr).length + ([] : List Keyword).length + (if ([] : List Keyword).isEmpty then 0 else 1) < 30)) = true
  line : (apos.endLine == cpos.line) = true
  trees : backTo cpos (starEach [e, f] X.env) = [(false, eval e X.env), (false, eval f X.env)]
def IsD (H : Hp) (a : Addr) : Prop := (∃ kvs, Rd H a (.dK kvs)) ∨ ∃ kvs, Rd H a (.dT kvs)
theorem isD_at {X : Cx} {pins : List (Addr × Obj)} {σ : St} {H : Hp} {s : Shared} {a : Addr} (I : Inv X pins σ H s) (d : IsD H a) :
    s.TypeIs (.ref a) "dict" ∧ (∀ b, Value.ref a = .ref b → ∃ ob, s.heap.get? b = some ob ∧ ob.dict = none) ∧ (a == sysModules) = false := by
  rcases d with ⟨kvs, e⟩ | ⟨kvs, e⟩
  · obtain ⟨_, hd, vs, _, dd⟩ := dk_rd I.hok e
    refine ⟨dd.typeIs, fun b q => ?_, hd⟩
    cases q
    obtain ⟨ob, _, _, h1, h2, _⟩ := dd
    exact ⟨ob, h1, h2.2.1⟩
  · obtain ⟨_, hd, xs, _, dd⟩ := dt_rd I.hok e
    refine ⟨dd.typeIs, fun b q => ?_, hd⟩
    cases q
    obtain ⟨ob, _, _, h1, h2, _⟩ := dd
    exact ⟨ob, h1, h2.2.1⟩
section
variable {X : Cx} {pins : List (Addr × Obj)} {σ : St} {H : Hp} {s : Shared} {a : Addr} {y d : V} {u r : Value} {o : Option V} {A : Around} {E : Value → Shared → Prop}
theorem d_get1 {Q : Value → Shared → Prop} (hu : A.units + 1 < cLine) (I : Inv X pins σ H s) (g : DGet H a y o) (ry : RelV y u) (h : ∀ w' s', Inv X pins σ H s' → RelV (o.getD .non) w' → Q w' s') :
    wpAny (model X.prog X.w) A (call (.builtin "dict.get") [.ref a, u]) Q E s := by
  rcases g with ⟨kvs, k, e, ey, l⟩ | ⟨kvs, k, b, e, ey, eb, l⟩
  · subst ey
    obtain ⟨z, hd, vs, rel, dd⟩ := dk_rd I.hok e
    refine call_meetsIn PySem.F.slot_dict_get dd.typeIs PySem.F.entry_dict_get (PySem.F.args_dict_get_2 _ _) (meets_dict_get (mixKind X.prog X.w) a (kV_is ry) hd) ⟨_, dd.mapOf, h _ _ (I.tok _) ?_⟩
    rw [l]
    exact (rel.val k).getD rfl
  · subst ey
    cases (show u = Value.ref b from ry)
    obtain ⟨z, hd, xs, rel, dd⟩ := dt_rd I.hok e
    refine call_meetsIn PySem.F.slot_dict_get dd.typeIs PySem.F.entry_dict_get (PySem.F.args_dict_get_2 _ _) (meetsH_dict_get (tupleKind (mixKind X.prog X.w)) a b hd) ⟨tupleKind_room_in1 hu, k, xs, key_of I.hok eb, dd, h _ _ (I.tok _) ?_⟩
    rw [l]
    exact (rel.val k).getD rfl
theorem d_get2 {Q : Value → Shared → Prop} (hu : A.units + 1 < cLine) (I : Inv X pins σ H s) (g : DGet H a y o) (ry : RelV y u) (rd : RelV d r) (h : ∀ w' s', Inv X pins σ H s' → RelV (o.getD d) w' → Q w' s') :
    wpAny (model X.prog X.w) A (call (.builtin "dict.get") [.ref a, u, r]) Q E s := by
  rcases g with ⟨kvs, k, e, ey, l⟩ | ⟨kvs, k, b, e, ey, eb, l⟩
  · subst ey
    obtain ⟨z, hd, vs, rel, dd⟩ := dk_rd I.hok e
    refine call_meetsIn PySem.F.slot_dict_get dd.typeIs PySem.F.entry_dict_get (PySem.F.args_dict_get_3 _ _ _) (meets_dict_get_default (mixKind X.prog X.w) a (kV_is ry) hd r) ⟨_, dd.mapOf, h _ _ (I.tok _) ?_⟩
    rw [l]
    exact (rel.val k).getD rd
  · subst ey
    cases (show u = Value.ref b from ry)
    obtain ⟨z, hd, xs, rel, dd⟩ := dt_rd I.hok e
    refine call_meetsIn PySem.F.slot_dict_get dd.typeIs PySem.F.entry_dict_get (PySem.F.args_dict_get_3 _ _ _) (meetsH_dict_get_default (tupleKind (mixKind X.prog X.w)) a b hd r) ⟨tupleKind_room_in1 hu, k, xs, key_of I.hok eb, dd, h _ _ (I.tok _) ?_⟩
    rw [l]
    exact (rel.val k).getD rd
end
def tDGet1 (td ty : TE) : TE := fun σ H Q => td σ H fun x H1 => ∃ a, x = .ref a ∧ IsD H1 a ∧ ty σ H1 fun y H2 => ∃ o, DGet H2 a y o ∧ Q (o.getD .non) H2
def tDGet2 (td ty tx : TE) : TE := fun σ H Q => td σ H fun x H1 => ∃ a, x = .ref a ∧ IsD H1 a ∧ ty σ H1 fun y H2 => tx σ H2 fun z H3 => ∃ o, DGet H3 a y o ∧ Q (o.getD z) H3
def tDPop1 (td ty : TE) : TE := fun σ H Q => td σ H fun x H1 => ∃ a, x = .ref a ∧ IsD H1 a ∧ ty σ H1 fun y H2 => ∃ kvs k v, H2 a = some (.dK kvs) ∧ y = kV k ∧ valV kvs k = some v ∧ Q v (upd H2 a (.dK (dropK kvs k)))
def tDPop2 (td ty tx : TE) : TE := fun σ H Q => td σ H fun x H1 => ∃ a, x = .ref a ∧ IsD H1 a ∧ ty σ H1 fun y H2 => tx σ H2 fun z H3 => ∃ kvs k, H3 a = some (.dK kvs) ∧ y = kV k ∧
  (∀ v, valV kvs k = some v → Q v (upd H3 a (.dK (dropK kvs k)))) ∧ (valV kvs k = none → Q z H3)
section
variable {X : Cx} {o e f : Expr} {apos cpos : Pos} {td ty tx : TE}
theorem pe_dget1 (hu : X.A.units + 1 < cLine) (ho : PE X o td) (he : PE X e ty) (m : M1 X o "get" apos e cpos) : PE X (.Call (.Attribute o "get" apos) [e] [] cpos) (tDGet1 td ty) := by
  intro pins s σ H Q I h
  refine wpAny_Call_method m.base m.few m.line PySem.F.plainAttrs_dict PySem.F.slot_dict_get PySem.F.type_dict_get (thn (ho pins s σ H _ I h) fun u s1 ⟨x, H1, I1, rx, a, ex, d, q1⟩ => ?_)
  subst ex
  obtain rfl : u = Value.ref a := rx
  obtain ⟨t1, t2, _⟩ := isD_at I1 d
  refine ⟨t1, t2, ?_⟩
  rw [m.trees]
  refine Calls.callWith_builtin rfl (Calls.evalArgs_plain (Calls.spliced_cons (thn (he pins s1 σ H1 _ I1 q1) fun iv s2 ⟨y, H2, I2, ry, ov, g, q2⟩ => Calls.spliced_nil ?_)))
  exact d_get1 hu I2 g ry fun w' s3 I3 rw' => ⟨_, H2, I3, rw', q2⟩
theorem pe_dget2 (hu : X.A.units + 1 < cLine) (ho : PE X o td) (he : PE X e ty) (hf : PE X f tx) (m : M2 X o "get" apos e f cpos) : PE X (.Call (.Attribute o "get" apos) [e, f] [] cpos) (tDGet2 td ty tx) := by
  intro pins s σ H Q I h
  refine wpAny_Call_method m.base m.few m.line PySem.F.plainAttrs_dict PySem.F.slot_dict_get PySem.F.type_dict_get (thn (ho pins s σ H _ I h) fun u s1 ⟨x, H1, I1, rx, a, ex, d, q1⟩ => ?_)
  subst ex
  obtain rfl : u = Value.ref a := rx
  obtain ⟨t1, t2, _⟩ := isD_at I1 d
  refine ⟨t1, t2, ?_⟩
  rw [m.trees]
  refine Calls.callWith_builtin rfl (Calls.evalArgs_plain (Calls.spliced_cons (thn (he pins s1 σ H1 _ I1 q1) fun iv s2 ⟨y, H2, I2, ry, q2⟩ =>
    Calls.spliced_cons (thn (hf pins s2 σ H2 _ I2 q2) fun fv s3 ⟨z, H3, I3, rz, ov, g, q3⟩ => Calls.spliced_nil ?_))))
  exact d_get2 hu I3 g ry rz fun w' s4 I4 rw' => ⟨_, H3, I4, rw', q3⟩
theorem pe_dpop1 (ho : PE X o td) (he : PE X e ty) (m : M1 X o "pop" apos e cpos) : PE X (.Call (.Attribute o "pop" apos) [e] [] cpos) (tDPop1 td ty) := by
  intro pins s σ H Q I h
  refine wpAny_Call_method m.base m.few m.line PySem.F.plainAttrs_dict PySem.F.slot_dict_pop PySem.F.type_dict_pop (thn (ho pins s σ H _ I h) fun u s1 ⟨x, H1, I1, rx, a, ex, d, q1⟩ => ?_)
  subst ex
  obtain rfl : u = Value.ref a := rx
  obtain ⟨t1, t2, _⟩ := isD_at I1 d
  refine ⟨t1, t2, ?_⟩
  rw [m.trees]
  refine Calls.callWith_builtin rfl (Calls.evalArgs_plain (Calls.spliced_cons (thn (he pins s1 σ H1 _ I1 q1) fun iv s2 ⟨y, H2, I2, ry, kvs, k, v, ea, ey, l, q2⟩ => Calls.spliced_nil ?_)))
  subst ey
  exact d_pop I2 ea ry l (.inl rfl) fun w' s3 I3 rw' => ⟨v, _, I3, rw', q2⟩
theorem pe_dpop2 (ho : PE X o td) (he : PE X e ty) (hf : PE X f tx) (m : M2 X o "pop" apos e f cpos) : PE X (.Call (.Attribute o "pop" apos) [e, f] [] cpos) (tDPop2 td ty tx) := by
  intro pins s σ H Q I h
  refine wpAny_Call_method m.base m.few m.line PySem.F.plainAttrs_dict PySem.F.slot_dict_pop PySem.F.type_dict_pop (thn (ho pins s σ H _ I h) fun u s1 ⟨x, H1, I1, rx, a, ex, d, q1⟩ => ?_)
  subst ex
  obtain rfl : u = Value.ref a := rx
  obtain ⟨t1, t2, _⟩ := isD_at I1 d
  refine ⟨t1, t2, ?_⟩
  rw [m.trees]
  refine Calls.callWith_builtin rfl (Calls.evalArgs_plain (Calls.spliced_cons (thn (he pins s1 σ H1 _ I1 q1) fun iv s2 ⟨y, H2, I2, ry, q2⟩ =>
    Calls.spliced_cons (thn (hf pins s2 σ H2 _ I2 q2) fun fv s3 ⟨z, H3, I3, rz, kvs, k, ea, ey, q3, q4⟩ => Calls.spliced_nil ?_))))
  subst ey
  cases l : valV kvs k with
  | some v => exact d_pop I3 ea ry l (.inr ⟨fv, rfl⟩) fun w' s4 I4 rw' => ⟨v, _, I4, rw', q3 v l⟩
  | none => exact d_popD I3 ea ry l fun s4 I4 => ⟨z, H3, I4, rz, q4 l⟩
end
section
variable {X : Cx} {pins : List (Addr × Obj)} {σ : St} {H : Hp} {s : Shared} {a : Addr} {kvs : List (Key × V)} {A : Around} {E : Value → Shared → Prop}
theorem d_copyOf {Q : Value → Shared → Prop} (I : Inv X pins σ H s) (e : Rd H a (.dK kvs)) (h : ∀ p s', H p = none → Inv X pins σ (upd H p (.dK kvs)) s' → Q (.ref p) s') : wpAny (model X.prog X.w) A (call (.type "dict") [.ref a]) Q E s := by
  obtain ⟨z, hd, vs, rel, dd⟩ := dk_rd I.hok e
  refine kt_call_dict hd dd (by rw [← rel.length]; exact z) fun h' dd' hs => ?_
  refine h _ _ (I.hok.fresh (Nat.le_refl _)) (I.laid (a := s.heap.objs.size) (o := .dK kvs) (t' := s.toks) (fun b q hq => ?_) (Nat.le_refl _) (dk_new z (beq_eq_false_iff_ne.mpr (Ne.symm (Nat.ne_of_lt I.big))) rel dd'))
  exact (hs.2 b (Nat.ne_of_lt (Heap.lt_size hq))).trans (Heap.get?_push_of_some _ hq)
end
section
variable {X : Cx} {pins : List (Addr × Obj)} {σ : St} {H : Hp} {s : Shared} {a : Addr} {y : V} {u : Value} {A : Around} {E : Value → Shared → Prop}
theorem d_missing {Q : Value → Shared → Prop} (hu : A.units + 1 < cLine) (hh : A.handled = none) (I : Inv X pins σ H s) (g : DGet H a y none) (ry : RelV y u)
    (h : ∀ h' e t', Heap.NewExc s.heap h' e "KeyError" → E (.ref e) { s with heap := h', toks := t' }) : wpAny (model X.prog X.w) A (getItem (.ref a) u) Q E s := by
  rcases g with ⟨kvs, k, e, ey, l⟩ | ⟨kvs, k, b, e, ey, eb, l⟩
  · subst ey
    obtain ⟨z, hd, vs, rel, dd⟩ := dk_rd I.hok e
    have hn : valueAt vs k = none := RelO.none_of (by rw [l]; exact rel.val k)
    exact wpAny_getItem_missing_of (kV_is ry) hd hh dd.mapOf hn fun h' ex ne => h h' ex _ ne
  · subst ey
    cases (show u = Value.ref b from ry)
    obtain ⟨z, hd, xs, rel, dd⟩ := dt_rd I.hok e
    have hn : (atKey xs k).map (·.2) = none := RelO.none_of (by rw [l]; exact rel.val k)
    exact wpAny_getItem_missing_heap (tupleKind_room_in1 hu) (key_of I.hok eb) hd hh dd (Option.map_eq_none_iff.mp hn) fun h' ex ne => h h' ex _ ne
end
end L2
namespace Att
open PySem PySem.W PySem.Calls PyProof.Rows
theorem ints_of_wellAll {P : Params} {h : Heap} : ∀ (ns : List Int) (vs : List Value), WellAll P h vs (ns.map WData.int) → IntsAre vs ns := by
  intro ns
  induction ns with
  | nil =>
    intro vs w
    rw [List.map_nil] at w
    cases w
    exact .nil
  | cons n ns ih =>
    intro vs w
    rw [List.map_cons] at w
    cases w with
    | cons a b =>
      cases a
      exact .cons _ _ (ih _ b)
theorem script_of {l : OpenLaw} {n : Nat} (hn : l.most = some n) {P : Params} {h : Heap} {args : List WData} {vals : List Value}
    (hpre : l.row.toRowW.claim.pre args = true) (hwl : WellAll P h vals args) :
    ∃ a vs ns, vals = [Value.ref a] ∧ args = [WData.list (ns.map WData.int)] ∧ h.get? a = some { cls := .type "list", data := .seq vs.toArray } ∧ IntsAre vs ns ∧ ns.length ≤ n := by
  have hsh : WShape.hasAll [] args [.list .int] = true := (pre_splitW hpre).1
  have hc : l.pre.holds [] { args := args } = true := (pre_splitW hpre).2
  obtain ⟨d, r, rfl, h1, h2⟩ := hasAllW_cons hsh
  obtain rfl := hasAllW_nil h2
  obtain ⟨xs, rfl, h3⟩ := hasW_list h1
  obtain ⟨ns, rfl⟩ := items_int h3
  have hlen : ns.length ≤ n := by
    unfold OpenLaw.pre at hc
    have h4 : (WTm.not (.lt (.lit (.int (n : Int))) (.len (.arg 0)))).holds [] { args := [.list (ns.map .int)] } = true := by
      have h4 := (holds_andW hc).1
      rw [hn] at h4
      exact h4
    have h5 := condW_of h4 (w_not (w_lt w_lit (w_len_list (w_arg rfl))))
    rw [List.length_map] at h5
    refine Nat.le_of_not_lt fun q => ?_
    have q' : (n : Int) < ((ns.length : Nat) : Int) := by omega
    first
      | (rw [decide_eq_true q'] at h5; exact absurd h5 (by decide))
      | (simp at h5; omega)
  cases hwl with
  | cons w1 w2 =>
    cases w2
    cases w1 with
    | list ho hall => exact ⟨_, _, ns, rfl, rfl, ho, ints_of_wellAll ns _ hall, hlen⟩
theorem post_true (l : OpenLaw) (args : List WData) : l.row.toRowW.claim.post args (.bool true) args = true :=
  postW_of (r := l.row.toRowW) (X := (true == true))
    (show WShape.has [] (.bool true) .bool = true by first | rfl | decide | simp [WShape.has, WShape.arms, WShape.armsAll])
    (show (WTm.eq .res (.lit (.bool true))).value [] { args := args, res := some (.bool true), after := args } = some (.bool (true == true)) from w_eq_bool (w_res rfl) w_lit) rfl
theorem attach {l : OpenLaw} {n : Nat} {q : Program} {loose : List Str} {XP : (Str → Option Value) → Heap → Prop} {YP : World → Heap → Prop} {d : DefRec} {x : Str}
    (hn : l.most = some n) (hdf : d.params.defaults = [])
    (hbind : ∀ pm cd doc v : Value, bindArgs (docDef d.name d.params d.body d.scope pm cd doc) ⟨[v], []⟩ = pure [(x, v)])
    (hx : d.scope.names.lookup x = some .local ∨ d.scope.names.lookup x = some .cell)
    (hk : d.scope.kind = .function) (hco : d.scope.isCoroutine = false) (hgen : d.scope.isGenerator = false)
    (body : ∀ (w : World) (s₀ s₁ s : Shared) (mg mb : Str → Option Value) (fa : Addr) (o : Obj) (pm cd doc : Value) (a : Addr) (vs : List Value) (ns : List Int),
      Ground q loose [] XP w s₀ mg mb s₁.heap → YP w s₁.heap →
      s₁.heap.get? fa = some o → o.data = .func (docDef d.name d.params d.body d.scope pm cd doc) → s₁.heap.CodeRec cd d.name → mg d.name = some (.ref fa) →
      s₁.heap.get? a = some { cls := .type "list", data := .seq vs.toArray } → IntsAre vs ns → ns.length ≤ n →
      s.gens = #[] → s.os = s₁.os →
      Fr s₁.heap s₁.heap.objs.size s.heap (bindL (envOfC d.name d.scope s₁.heap.objs.size fa cd).kindOf [(x, .ref a)] fun _ => none) →
      Cl s₁.heap.objs.size (cellsFrom (s₁.heap.objs.size + 1) d.scope.names []) s.heap (bindC (envOfC d.name d.scope s₁.heap.objs.size fa cd).kindOf [(x, .ref a)] fun _ => none) →
      wpAny (model l.prog w) (callerA.deeper (envOfC d.name d.scope s₁.heap.objs.size fa cd)) (execs d.body (envOfC d.name d.scope s₁.heap.objs.size fa cd))
        (fun f s' => f = .ret (.bool true) ∧ OldK s₁.heap s'.heap ∧ s'.os = s₁.os ∧ AllBare s'.gens) (fun _ _ => False) s) :
    WalkO q loose XP YP l.row.toRowW d [] (fun f vs => PySem.call f vs) := by
  intro w s₀ s₁ mg mb G Y fa o pm cd doc dV kV ho hd hcd hD hmg hg args vals as hpre hlay hrd hwl hlo
  obtain rfl : dV = .none := Dflts.none hD hdf
  obtain rfl : kV = .none := Dflts.noKw hD
  obtain ⟨a, vs, ns, rfl, rfl, hobj, hints, hlen⟩ := script_of hn hpre hwl
  refine enter_call ?_
  refine call_cells_ret (o := o) (by rw [depth_caller]; decide) ho (fd_plain hd) G.T.nolimit hcd (hbind pm cd doc (.ref a)) (fun y hy => ?_) (fun h₁ tk F X => ?_) hco hgen hk
  · obtain rfl : y = (x, Value.ref a) := List.mem_singleton.mp hy
    rcases hx with e | e
    · exact .inl e
    · exact .inr ⟨e, cellsFrom_some _ _ _ (.inl e)⟩
  · refine wpAny_mono (body w s₀ s₁ { s₁ with heap := h₁, toks := tk } mg mb fa o pm cd doc a vs ns G Y ho (fd_plain hd) hcd hmg hobj hints hlen hg rfl F X) (fun f s' hq => ?_) (fun _ _ hq => hq)
    obtain ⟨rfl, h2, h3, h4⟩ := hq
    exact ⟨.inl ⟨.bool true, .bool true, [], rfl, fun _ => rfl, .bool true, post_true l _, fun _ => ⟨List.Pairwise.nil, fun _ hm => (nomatch hm)⟩⟩, h2, h3, h4⟩
theorem attach_call {l : OpenLaw} {n : Nat} {q : Program} {loose : List Str} {XP : (Str → Option Value) → Heap → Prop} {YP : World → Heap → Prop} {d : DefRec}
    (hn : l.most = some n) (hdf : d.params.defaults = [])
    (call : ∀ (w : World) (s₀ s₁ : Shared) (mg mb : Str → Option Value) (fa : Addr) (o : Obj) (pm cd doc : Value) (a : Addr) (vs : List Value) (ns : List Int),
      Ground q loose [] XP w s₀ mg mb s₁.heap → YP w s₁.heap →
      s₁.heap.get? fa = some o → o.data = .func (docDef d.name d.params d.body d.scope pm cd doc) → s₁.heap.CodeRec cd d.name → mg d.name = some (.ref fa) →
      s₁.heap.get? a = some { cls := .type "list", data := .seq vs.toArray } → IntsAre vs ns → ns.length ≤ n → s₁.gens = #[] →
      codeAny (model l.prog w) callerA (.call (.ref fa) ⟨[.ref a], []⟩) (fun r s' => r = .ok (.ret (.bool true)) ∧ OldK s₁.heap s'.heap ∧ s'.os = s₁.os ∧ AllBare s'.gens) s₁) :
    WalkO q loose XP YP l.row.toRowW d [] (fun f vs => PySem.call f vs) := by
  intro w s₀ s₁ mg mb G Y fa o pm cd doc dV kV ho hd hcd hD hmg hg args vals as hpre hlay hrd hwl hlo
  obtain rfl : dV = .none := Dflts.none hD hdf
  obtain rfl : kV = .none := Dflts.noKw hD
  obtain ⟨a, vs, ns, rfl, rfl, hobj, hints, hlen⟩ := script_of hn hpre hwl
  refine enter_call (codeAny_mono (call w s₀ s₁ mg mb fa o pm cd doc a vs ns G Y ho (fd_plain hd) hcd hmg hobj hints hlen hg) fun r s' hq => ?_)
  obtain ⟨rfl, h2, h3, h4⟩ := hq
  exact ⟨.inl ⟨.bool true, .bool true, [], rfl, fun _ => rfl, .bool true, post_true l _, fun _ => ⟨List.Pairwise.nil, fun _ hm => (nomatch hm)⟩⟩, h2, h3, h4⟩
theorem attachN {l : OpenLaw} {n : Nat} {q : Program} {loose : List Str} {XP : (Str → Option Value) → Heap → Prop} {YP : World → Heap → Prop} {d : DefRec} {x : Str}
    (hn : l.most = some n) (hdf : d.params.defaults = [])
    (hbind : ∀ pm cd doc v : Value, bindArgs (docDef d.name d.params d.body d.scope pm cd doc) ⟨[v], []⟩ = pure [(x, v)])
    (hx : d.scope.names.lookup x = some .local ∨ d.scope.names.lookup x = some .cell)
    (hk : d.scope.kind = .function) (hco : d.scope.isCoroutine = false) (hgen : d.scope.isGenerator = false)
    (body : ∀ (w : World) (s₀ s₁ s : Shared) (mg mb : Str → Option Value) (fa : Addr) (o : Obj) (pm cd doc : Value) (a : Addr) (vs : List Value) (ns : List Int),
      Ground q loose [] XP w s₀ mg mb s₁.heap → YP w s₁.heap →
      s₁.heap.get? fa = some o → o.data = .func (docDef d.name d.params d.body d.scope pm cd doc) → s₁.heap.CodeRec cd d.name → mg d.name = some (.ref fa) →
      s₁.heap.get? a = some { cls := .type "list", data := .seq vs.toArray } → IntsAre vs ns → ns.length ≤ n →
      s.gens = #[] → s.os = s₁.os →
      Fr s₁.heap s₁.heap.objs.size s.heap (bindL (envOfC d.name d.scope s₁.heap.objs.size fa cd).kindOf [(x, .ref a)] fun _ => none) →
      Cl s₁.heap.objs.size (cellsFrom (s₁.heap.objs.size + 1) d.scope.names []) s.heap (bindC (envOfC d.name d.scope s₁.heap.objs.size fa cd).kindOf [(x, .ref a)] fun _ => none) →
      wpAny (model l.prog w) (callerA.deeper (envOfC d.name d.scope s₁.heap.objs.size fa cd)) (execs d.body (envOfC d.name d.scope s₁.heap.objs.size fa cd))
        (fun f s' => f = .ret (.bool true) ∧ (∀ b o, s₁.heap.get? b = some o → s'.heap.get? b = some o) ∧ s'.os = s₁.os ∧ s'.gens = #[]) (fun _ _ => False) s) :
    WalkN q loose XP YP l.row.toRowW d [] (fun f vs => PySem.call f vs) := by
  intro w s₀ s₁ mg mb G Y fa o pm cd doc dV kV ho hd hcd hD hmg hg args vals as hpre hlay hrd hwl hlo
  obtain rfl : dV = .none := Dflts.none hD hdf
  obtain rfl : kV = .none := Dflts.noKw hD
  obtain ⟨a, vs, ns, rfl, rfl, hobj, hints, hlen⟩ := script_of hn hpre hwl
  refine enter_callW ?_
  refine call_cells_ret (o := o) (by rw [depth_caller]; decide) ho (fd_plain hd) G.T.nolimit hcd (hbind pm cd doc (.ref a)) (fun y hy => ?_) (fun h₁ tk F X => ?_) hco hgen hk
  · obtain rfl : y = (x, Value.ref a) := List.mem_singleton.mp hy
    rcases hx with e | e
    · exact .inl e
    · exact .inr ⟨e, cellsFrom_some _ _ _ (.inl e)⟩
  · refine wpAny_mono (body w s₀ s₁ { s₁ with heap := h₁, toks := tk } mg mb fa o pm cd doc a vs ns G Y ho (fd_plain hd) hcd hmg hobj hints hlen hg rfl F X) (fun f s' hq => ?_) (fun _ _ hq => hq)
    obtain ⟨rfl, h2, h3, h4⟩ := hq
    exact ⟨.inl ⟨.bool true, .bool true, [], rfl, fun _ => rfl, .bool true, post_true l _, fun _ => ⟨List.Pairwise.nil, fun _ hm => (nomatch hm)⟩⟩, h2, h3, h4⟩
section
variable {prog : Program} {w : World} {A : Around} {E : Value → Shared → Prop} {s : Shared} {K : Frag}
theorem call_fn {R : Result → Shared → Prop} {name qual : Str} {params : Arguments} {body : List Stmt} {scope : Scope} {dV kV doc pm cdv ct oc : Value} {an od : Option Addr} {osl : Array (Option Value)} {f : Addr} {args : Args} {binds : List (Str × Value)}
    (X : K.In s.heap) (hlim : s.heap.NoLimit) (ho : K.lookup f = some ⟨oc, od, .func (fnOf name qual params body scope dV kV doc pm an cdv ct), osl⟩) (hcd : codeIn K cdv qual = true) (hroom : A.depth < recursionLimit)
    (hbind : BindsTo s (fnOf name qual params body scope dV kV doc pm an cdv ct) args binds)
    (hkind : (binds.all fun y => scope.names.lookup y.1 == some .local || scope.names.lookup y.1 == some .cell) = true)
    (h : ∀ s₁, InCallC s s.heap.objs.size (bindL (envOfC qual scope s.heap.objs.size f cdv).kindOf binds fun _ => none) (cellsFrom (s.heap.objs.size + 1) scope.names [])
        (bindC (envOfC qual scope s.heap.objs.size f cdv).kindOf binds fun _ => none) s₁ →
      wpAny (model prog w) (A.deeper (envOfC qual scope s.heap.objs.size f cdv)) (execs body (envOfC qual scope s.heap.objs.size f cdv))
        (fun fl s' => R (.ok (.ret (match fl with | .ret v => v | _ => .none))) s')
        (fun e s' => wpAny (model prog w) (A.deeper (envOfC qual scope s.heap.objs.size f cdv)) (leaving (envOfC qual scope s.heap.objs.size f cdv) e) (fun _ s'' => R (.error e) s'') (fun e' s'' => R (.error e') s'') s') s₁)
    (hco : scope.isCoroutine = false) (hgen : scope.isGenerator = false) (hk : scope.kind = .function) : codeAny (model prog w) A (.call (.ref f) args) R s := by
  refine codeAny_call_function hroom (X _ _ ho) rfl hco hgen rfl (codeRec_of X hcd) (hbind _ _ _ _ ?_)
  refine wpAny_newFunctionEnv_cells hk (kindsX hkind _) fun env he s₁ x => ?_
  subst he
  exact ⟨hlim.keeps x.toInCall.keep, codeAny_func (h s₁ x)⟩
theorem make_obj {R : Result → Shared → Prop} {C fI : Addr} {rest : List Value} {kw : List (Str × Value)}
    (X : K.In s.heap) (hm : makesIn K C = true) (hi : findIn K (.ref C) "__init__" = some (some (.ref fI))) (hf : isFn K (.ref fI) = true)
    (h : codeAny (model prog w) (A.under (.builtin "type.__call__" ⟨.ref C :: rest, kw⟩)) (.call (.ref fI) ⟨.ref (s.heap.objs.size + 1) :: rest, kw⟩) (InitBack (s.heap.objs.size + 1) R)
      { s with heap := (s.heap.push emptyDict).push (instObj C s.heap.objs.size) }) : codeAny (model prog w) A (.call (.ref C) ⟨rest, kw⟩) R s := by
  obtain ⟨hh, g, d, t, os⟩ := s
  exact make_core (makes_of X hm) (looks_findIn X hi) (fun self => bind_fn X self (beq_iff_eq.mp hf)) (.inl rfl) h
theorem get_field {x C : Addr} {ox : Obj} {es : List DictEntry} {n : Nat} {name : Str} {expr : Bool} {v : Value} {Q : Value → Shared → Prop}
    (X : K.In s.heap) (I : PySem.W.InstAt s.heap x ox C (some (dictOf es n))) (hg : plainGet K C name = true) (hh : hasDictIn K C = true) (ha : findIn K (.ref C) name = some none)
    (hl : getL name es = some (some v)) (hv : handedIn v = true) (h : Q v { s with toks := s.toks + 1 }) : wpAny (model prog w) A (getAttr (.ref x) name expr) Q E s :=
  get_value X I (plainGet_of hg).1 (findObj_own hh ha rfl hl) hv h
theorem get_method {x C f : Addr} {ox : Obj} {es : List DictEntry} {n : Nat} {name : Str} {pl : Sem Bool} {Q : Value × List Value → Shared → Prop}
    (X : K.In s.heap) (I : PySem.W.InstAt s.heap x ox C (some (dictOf es n))) (hg : plainGet K C name = true) (hf : findIn K (.ref C) name = some (some (.ref f))) (ht : isFn K (.ref f) = true)
    (hl : getL name es = some none) (h : Q (.ref f, [.ref x]) s) : wpAny (model prog w) A (getMethod (.ref x) name pl) Q E s :=
  method_fn X I (plainGet_of hg).1 (plainGet_of hg).2 hf (beq_iff_eq.mp ht) (by show (lookIn name (dictOf es n)).map _ = _; rw [lookIn_dict, hl]; rfl) h
def noObjs (h : Heap) : Heap := { h with objs := #[] }
theorem noObjs_get (h : Heap) (b : Addr) : (noObjs h).get? b = none := by
  cases e : (noObjs h).get? b with
  | none => rfl
  | some o => exact absurd (Heap.lt_size e) (Nat.not_lt_zero _)
def ledger (h : Heap) (L d : Addr) : List (Addr × Obj) := (List.range h.objs.size).filterMap fun a => if a = L ∨ a = d then none else (h.get? a).map fun o => (a, o)
theorem mem_ledger {h : Heap} {L d a : Addr} {o : Obj} : (a, o) ∈ ledger h L d ↔ a ≠ L ∧ a ≠ d ∧ h.get? a = some o := by
  unfold ledger
  rw [List.mem_filterMap]
  constructor
  · rintro ⟨b, _, e⟩
    split at e
    · cases e
    · rename_i hb
      obtain ⟨o', ho, e'⟩ := Option.map_eq_some_iff.mp e
      cases e'
      exact ⟨fun q => hb (.inl q), fun q => hb (.inr q), ho⟩
  · rintro ⟨n1, n2, ho⟩
    refine ⟨a, List.mem_range.mpr (Heap.lt_size ho), ?_⟩
    rw [if_neg (show ¬ (a = L ∨ a = d) from fun q => q.elim n1 n2), ho] <;> rfl
theorem news_ledger {h : Heap} {L d : Addr} {od : Obj} (hne : d ≠ L) (ho : h.get? d = some od) : News (noObjs h) L h ([] ++ (d, od) :: ledger h L d) := by
  rintro ⟨a, o⟩ hp
  rcases List.mem_cons.mp hp with e | hp
  · cases e
    exact ⟨ho, hne, noObjs_get _ _⟩
  · obtain ⟨n1, n2, e⟩ := mem_ledger.mp hp
    exact ⟨e, n1, noObjs_get _ _⟩
theorem fr_all {h : Heap} {L : Addr} {m : Str → Option Value} (n : h.Ns L m) : Fr (noObjs h) L h m :=
  ⟨n, fun b o e => (by rw [noObjs_get] at e; cases e), Nat.zero_le _⟩
theorem upd_ledger {h : Heap} {L d : Addr} {o o' : Obj} : Upd d o o' ((d, o) :: ledger h L d) ((d, o') :: ledger h L d) :=
  .head fun ⟨_, _⟩ hp => (mem_ledger.mp hp).2.1
theorem set_field {x C dx L : Addr} {ox : Obj} {m : Str → Option Value} {es es' : List DictEntry} {n n' : Nat} {name : Str} {v : Value} {Q : Unit → Shared → Prop}
    (X : K.In s.heap) (I : PySem.W.InstAt s.heap x ox C (some (dictOf es n))) (hd : ox.dict = some dx) (hL : s.heap.Ns L m) (hne : dx ≠ L)
    (hs : findIn K (.ref C) "__setattr__" = some (some (.builtin "object.__setattr__"))) (hp : plainOver K C = true) (ht : takerIn K C name = some none) (hh : hasDictIn K C = true) (hl : (getL name es).isSome = true)
    (e : (putL name (PyData.keyHash w.params name) (.str name (s.toks + 1)) v es, putN name es n) = (es', n')) (hz : es'.length ≤ 1000)
    (h : ∀ h' : Heap, h'.Ns L m → h'.get? dx = some (dictOf es' n') → (∀ b o, b ≠ dx → b ≠ L → s.heap.get? b = some o → h'.get? b = some o) → Q () { s with heap := h', toks := s.toks + 2 }) :
    wpAny (model prog w) A (setAttr (.ref x) name v) Q E s := by
  obtain ⟨e1, e2⟩ := Prod.mk.inj e
  have hdx : s.heap.get? dx = some (dictOf es n) := by
    have := I.dict
    rw [hd] at this
    exact this
  refine set_plain X I hs (osa_dict (s := { s with toks := s.toks + 1 }) (h₀ := noObjs s.heap) (L := L) (m := m) (od := dictOf es n) (od' := dictOf es' n') (es := es') (n := n') (pre := []) (post := ledger s.heap L dx)
    (fr_all hL) (news_ledger hne hdx) X I hd hp ht hh hl (fun _ q => nomatch q) (fun ⟨_, _⟩ q => (mem_ledger.mp q).2.1) (by rw [putName_dict, e1, e2]) rfl hz fun h' F' N' => ?_)
  exact h h' F'.ns (N'.get (List.Mem.head _)) fun b o n1 n2 ho => N'.get (List.Mem.tail _ (mem_ledger.mpr ⟨n2, n1, ho⟩))
end
end Att
namespace L2
open PySem PySem.Spec PyProof.Rows
theorem vals_ints : ∀ {vs : List Value} {ns : List Int}, IntsAre vs ns → Vals (ns.map V.int) vs
  | _, _, .nil => .nil
  | _, _, .cons n t h => .cons ⟨t, rfl⟩ (vals_ints h)
def Only (H : Hp) : Prop := ∀ b, H b = none ∨ ∃ o xs, H b = some (.frz o (.lst xs))
theorem law_call {P : Program} {w : World} {K : PySem.W.Frag} {mg mb : Str → Option Value} {CX : CXT} {k : Nat} {fa a : Addr} {fd : FuncData} {x : Str} {sp : Sp} {s₁ : Shared} {vs : List Value} {ns : List Int}
    (KX : K.In s₁.heap) (hns : s₁.heap.Ns mainGlobals mg) (hb : s₁.heap.Ns builtinsNs mb) (hbb : ∀ x : Str, x ≠ "__name__" → mb x = bootBuiltins x) (hlim : s₁.heap.NoLimit) (hg : s₁.gens = #[])
    (ha : s₁.heap.get? a = some { cls := .type "list", data := .seq vs.toArray }) (hi : IntsAre vs ns) (hl : ns.length ≤ sizeLine) (hr : Room k callerA)
    (F : ∀ base : Heap, K.In base → base.Ns mainGlobals mg → FnOk P w K mg base CX k fa fd [x] sp) (hbind : ∀ (s : Shared) (u : Value), BindsTo s fd ⟨[u], []⟩ [(x, u)])
    (hsp : ∀ H : Hp, Only H → SqL K H a (ns.map V.int) → sp [.ref a] H (fun v _ => v = .bl true) fun _ _ _ => False)
    (hCX : ∀ H e s', CX [] H s₁ (fun _ _ _ => False) e s' → False) :
    codeAny (model P w) callerA (.call (.ref fa) ⟨[.ref a], []⟩) (fun r s' => r = .ok (.ret (.bool true)) ∧ OldK s₁.heap s'.heap ∧ s'.os = s₁.os ∧ AllBare s'.gens) s₁ := by
  have rv := vals_ints hi
  have lenV := hi.length
  have core : ∀ H : Hp, Only H → SqL K H a (ns.map V.int) → HOk P w H s₁.heap → (∀ b, H b ≠ none → b = a) → (H a ≠ none → K.lookup a = none) →
      codeAny (model P w) callerA (.call (.ref fa) ⟨[.ref a], []⟩) (fun r s' => r = .ok (.ret (.bool true)) ∧ OldK s₁.heap s'.heap ∧ s'.os = s₁.os ∧ AllBare s'.gens) s₁ := by
    intro H hO hS hok hA hK
    have base_of : ∀ {b : Addr} {o : Obj}, s₁.heap.get? b = some o → H b = none → (hidT s₁.heap H).get? b = some o := fun e n => hidT_get e n
    have noA : ∀ {b : Addr} {o : Obj} {es : Array DictEntry} {ep : Nat}, s₁.heap.get? b = some o → o.data = .dict es ep → H b = none := fun {b o es ep} e d => by
      cases q : H b with
      | none => rfl
      | some u =>
        have e' : b = a := hA b (by rw [q]; simp)
        subst e'
        rw [ha] at e; cases e
        have d' : Data.seq vs.toArray _ = Data.dict es ep := d
        cases d'
    have nsK : ∀ {b : Addr} {m : Str → Option Value}, s₁.heap.Ns b m → (hidT s₁.heap H).Ns b m := fun {b m} ⟨o, es, ep, e, d, r⟩ => ⟨o, es, ep, base_of e (noA e d), d, r⟩
    have hKb : K.In (hidT s₁.heap H) := fun b o e => base_of (KX b o e) (by
      cases q : H b with
      | none => rfl
      | some u =>
        have e' : b = a := hA b (by rw [q]; simp)
        subst e'
        rw [hK (by rw [q]; simp)] at e; cases e)
    have hM : Mod K mg (hidT s₁.heap H) := ⟨hKb, nsK hns, ⟨mb, nsK hb, hbb⟩, let ⟨mc, h1, h2⟩ := hlim; ⟨mc, nsK h1, h2⟩⟩
    have e0 : Env0 P w K mg (hidT s₁.heap H) callerA [] s₁ H := ⟨rfl, hM, fun b o e => of_hidT e, Nat.le_of_eq (hidT_size _ _), trivial, fun b hb => absurd (show b ∈ ([] : List Addr) from hb) (by simp), hok, .of_eq hg⟩
    refine codeAny_mono ((F _ hKb (nsK hns)).run callerA [] s₁ H ⟨[.ref a], []⟩ [.ref a] [.ref a] _ _ hr e0 (hbind s₁ (.ref a)) (.cons rfl .nil) (hsp H hO hS)) fun r s' h => ?_
    cases r with
    | error e => exact (hCX H e s' h).elim
    | ok fl =>
      cases fl with
      | next => exact False.elim h
      | brk => exact False.elim h
      | cont => exact False.elim h
      | ret u =>
        obtain ⟨v, H', os, bare, un, hok', r', q⟩ := h
        have q' : v = .bl true := q
        subst q'
        obtain rfl : u = Value.bool true := r'
        refine ⟨rfl, OldK.of_keep fun b o e => ?_, os, bare⟩
        cases q : H b with
        | none => exact un.keep b o e q (by intro z; exact absurd (show b ∈ ([] : List Addr) from z) (by simp)) (by simp)
        | some u =>
          rcases hO b with z | ⟨ob, xs, z⟩
          · rw [q] at z; cases z
          · have z2 := un.frzs b ob _ z
            obtain ⟨e1, _⟩ := hok b _ z
            obtain ⟨e2, _⟩ := hok' b _ z2
            rw [e] at e1; cases e1
            exact e2
  cases hk : K.lookup a with
  | some o =>
    have e := KX a o hk
    rw [ha] at e
    cases e
    refine core (fun _ => none) (fun _ => .inl rfl) (.inr ⟨_, vs.toArray, _, hk, rfl, rfl, rfl, by rw [List.size_toArray, lenV]; exact hl, by simpa using rv⟩) (fun b u z => by have z' : (none : Option HO) = some u := z; cases z') (fun b z => absurd rfl z) fun z => absurd rfl z
  | none =>
    refine core (fun b => if b = a then some (.frz { cls := .type "list", data := .seq vs.toArray } (.lst (ns.map V.int))) else none) (fun b => ?_) (.inl (.inr ⟨{ cls := .type "list", data := .seq vs.toArray }, if_pos rfl⟩)) (fun b u z => ?_) (fun b z => ?_) fun _ => hk
    · by_cases hb : b = a
      · exact .inr ⟨_, _, if_pos hb⟩
      · exact .inl (if_neg hb)
    · by_cases hb : b = a
      · have z' := (if_pos hb).symm.trans z
        cases z'
        subst hb
        exact ⟨ha, by rw [List.length_map]; exact hl, vs, _, rv, ha⟩
      · have z' := (if_neg hb).symm.trans z
        cases z'
    · by_cases hb : b = a
      · exact hb
      · exact absurd (if_neg hb) z
end L2
namespace L2
open PySem PySem.Spec PyProof.Rows
abbrev KOf {K : PySem.W.Frag} {h : Heap} (_ : K.In h) : PySem.W.Frag := K
theorem walk_of {l : PySem.W.OpenLaw} {n k : Nat} {q : Program} {loose : List Str} {XP : (Str → Option Value) → Heap → Prop} {YP : World → Heap → Prop} {d : DefRec} {K : Params → PySem.W.Frag} {CX : World → CXT} {sp : World → Sp} {x : Str}
    (hn : l.most = some n) (hn2 : n ≤ sizeLine) (hdf : d.params.defaults = []) (hr : Room k callerA)
    (hY : ∀ (w : World) (h : Heap), YP w h → (K w.params).In h)
    (F : ∀ (w : World) (mg : Str → Option Value) (fa : Addr) (h : Heap), (K w.params).In h → h.Ns mainGlobals mg → mg d.name = some (.ref fa) →
      ∃ fd : FuncData, (∀ (s : Shared) (u : Value), BindsTo s fd ⟨[u], []⟩ [(x, u)]) ∧
        ∀ base : Heap, (K w.params).In base → base.Ns mainGlobals mg → FnOk l.prog w (K w.params) mg base (CX w) k fa fd [x] (sp w))
    (hsp : ∀ (w : World) (H : Hp) (a : Addr) (ns : List Int), ns.length ≤ n → Only H → SqL (K w.params) H a (ns.map V.int) → sp w [.ref a] H (fun v _ => v = .bl true) fun _ _ _ => False)
    (hCX : ∀ (w : World) (H : Hp) (s : Shared) (e : Value) (s' : Shared), CX w [] H s (fun _ _ _ => False) e s' → False) :
    PySem.W.WalkO q loose XP YP l.row.toRowW d [] (fun f vs => PySem.call f vs) := by
  refine Att.attach_call hn hdf fun w s₀ s₁ mg mb fa o pm cd doc a vs ns G Y ho hd hcd hmg hobj hints hlen hg => ?_
  have KX := hY w _ Y
  obtain ⟨fd, hb, hF⟩ := F w mg fa _ KX G.T.g hmg
  exact law_call KX G.T.g G.T.b G.T.builtins G.T.nolimit hg hobj hints (Nat.le_trans hlen hn2) hr hF hb (fun H hO hS => hsp w H a ns hlen hO hS) fun H e s' => hCX w H s₁ e s'
theorem walk_ofK {l : PySem.W.OpenLaw} {n k : Nat} {q : Program} {loose : List Str} {XP : (Str → Option Value) → Heap → Prop} {YP : World → Heap → Prop} {d : DefRec} {K : Params → PySem.W.Frag} {CX : CXT} {sp : PySem.W.Frag → Sp} {x : Str}
    (hn : l.most = some n) (hn2 : n ≤ sizeLine) (hdf : d.params.defaults = []) (hr : Room k callerA)
    (hY : ∀ (w : World) (h : Heap), YP w h → (K w.params).In h)
    (F : ∀ (w : World) (mg : Str → Option Value) (fa : Addr) (h : Heap), (K w.params).In h → h.Ns mainGlobals mg → mg d.name = some (.ref fa) →
      ∃ fd : FuncData, (∀ (s : Shared) (u : Value), BindsTo s fd ⟨[u], []⟩ [(x, u)]) ∧
        ∀ base : Heap, (K w.params).In base → base.Ns mainGlobals mg → FnOk l.prog w (K w.params) mg base CX k fa fd [x] (sp (K w.params)))
    (hsp : ∀ (K : PySem.W.Frag) (H : Hp) (a : Addr) (ns : List Int), ns.length ≤ n → Only H → SqL K H a (ns.map V.int) → sp K [.ref a] H (fun v _ => v = .bl true) fun _ _ _ => False)
    (hCX : ∀ (H : Hp) (s : Shared) (e : Value) (s' : Shared), CX [] H s (fun _ _ _ => False) e s' → False) :
    PySem.W.WalkO q loose XP YP l.row.toRowW d [] (fun f vs => PySem.call f vs) :=
  walk_of (K := K) (CX := fun _ => CX) (sp := fun w => sp (K w.params)) hn hn2 hdf hr hY F (fun w H a ns h1 h2 h3 => hsp (K w.params) H a ns h1 h2 h3) fun _ H s e s' => hCX H s e s'
end L2
/- THE LAST THEOREM (shape; LID, My.* are yours):
   My.Adr: a structure of the addresses that your layer names (classes, functions); My.Txt K t: a structure (Prop) of the equations over K;
   My.txt_mk : {K} {implicit addresses ..} (e1 : nsIn K mainGlobals "law" = some (some (.ref f))) (e2 : K.lookup f = some ⟨oc, od, .func (fnOf "law" "law" params body scope dV kV doc pm an cdv ct), sl⟩) (e3 : codeIn K cdv "law" = true) .. : ∃ t, My.Txt K t
set_option maxRecDepth 100000 in
set_option maxHeartbeats 0 in
theorem PySem.Challenge.cw_LID_holds : PySem.Challenge.rw_LID.Holds := by
  w_on; o_law; k_head; (case hw => w_witness2)
  k_fill
  refine L2.walk_of (l := PySem.Challenge.rw_LID) (n := 63) (k := 40) (x := "script") (CX := fun w => ..) (sp := fun _ => My.sp_law) rfl (by decide) rfl ⟨rfl, by decide, by decide⟩ (fun w h Y => PySem.W.kIn_of Y) ?F ?S ?C
  case F =>
    intro w mg fa h KX G hmg
    have T : ∃ t, My.Txt (L2.KOf KX) t := by
      dsimp only [L2.KOf]                          -- K must stand as «<heap const> w.params» for k_is
      refine' My.txt_mk ?e1 ?e2 ?e3 ..
      (case e1 => PySem.W.k_is)                    -- in the order: a name -> its address -> its object -> its parts
      (case e2 => PySem.W.k_is)
      ..
    obtain ⟨t, T⟩ := T
    have e0 := hmg.symm.trans (PySem.W.mg_of KX G T.law)
    cases e0                                       -- fa is the law's own address
    exact ⟨_, fun s u => .of_eq rfl, fun base kb nb => My.law_fn T kb nb⟩     -- if «.of_eq rfl» comes too early: refine' ⟨_, ?b, fun base kb nb => My.law_fn T kb nb⟩; exact fun s u => .of_eq rfl
  case S => exact fun w H a ns hl hO hS => ..
  case C => exact ..
(the tactic k_is has no namespace: write k_is) -/
namespace L2
open PySem PySem.Spec PyProof.Rows
def inClass (s : Stmt) (j : Nat) : Stmt := match s with
  | .ClassDef _ _ _ body _ _ _ _ _ _ _ => body.getD j (.Pass ⟨0, 0, 0, 0⟩)
  | _ => .Pass ⟨0, 0, 0, 0⟩
def defArgs (s : Stmt) : Arguments := match s with
  | .FunctionDef _ a _ _ _ _ _ _ _ _ => a
  | _ => { posonlyargs := [], args := [], vararg := none, kwonlyargs := [], kw_defaults := [], kwarg := none, defaults := [] }
def defBody (s : Stmt) : List Stmt := match s with
  | .FunctionDef _ _ b _ _ _ _ _ _ _ => b
  | _ => []
def defScope (s : Stmt) : Scope := match s with
  | .FunctionDef _ _ _ _ _ _ sc _ _ _ => sc
  | _ => { kind := .function, names := [], isGenerator := false, isCoroutine := false }
abbrev CX0 : CXT := fun _ _ _ _ _ _ => False
abbrev E0 : XK := fun _ _ _ => False
theorem pass0 {X : Cx} : Passes CX0 X E0 := fun _ _ _ _ _ _ _ h => h.elim
structure Fun (K : PySem.W.Frag) (x qual : Str) (st : Stmt) (f : Addr) (fd : FuncData) : Prop where
  ex : ∃ (oc : Value) (od : Option Addr) (kV doc pm : Value) (an : Option Addr) (cdv ct : Value) (osl : Array (Option Value)),
    fd = PySem.W.fnOf x qual (defArgs st) (defBody st) (defScope st) .none kV doc pm an cdv ct ∧ K.lookup f = some ⟨oc, od, .func fd, osl⟩ ∧ PySem.W.codeIn K cdv qual = true
  kp : PySem.W.keepIn K (.ref f) = true
section
variable {P : Program} {w : World} {K : PySem.W.Frag} {mg : Str → Option Value} {base : Heap}
theorem Fun.ok {x qual : Str} {st : Stmt} {f : Addr} {fd : FuncData} {N ps : List Str} {k : Nat} {sp : Sp} (F : Fun K x qual st f fd) (S : FnScope N ps (defScope st)) (len : ∀ vs H Q E, sp vs H Q E → vs.length = ps.length)
    (hbody : ∀ (cdv : Value) (A : Around) (outer : List Env) (s : Shared) (H : Hp) (vs : List V) (Q : VK) (E : XK), Room k (A.deeper (envOfC qual (defScope st) s.heap.objs.size f cdv)) → sp vs H Q E →
      ∃ t, PSs (cxOf CX0 P w K mg base N qual (defScope st) f cdv A outer s H E).nox (defBody st) t ∧ t { nx := fun _ H' => Q .non H', rt := Q } (start N vs) H) : FnOk P w K mg base CX0 (k + 1) f fd ps sp := by
  obtain ⟨oc, od, kV, doc, pm, an, cdv, ct, osl, rfl, lk, hcd⟩ := F.ex
  refine fn_of lk hcd S len fun A outer s H vs Q E hr hsp => ?_
  obtain ⟨t, h, q⟩ := hbody cdv A outer s H vs Q E hr hsp
  exact ⟨t, h.nox, q⟩
theorem Fun.binds {x qual : Str} {st : Stmt} {f : Addr} {fd : FuncData} {ps : List Str} (F : Fun K x qual st f fd)
    (h : ∀ (kV doc pm : Value) (an : Option Addr) (cdv ct : Value) (us : List Value), us.length = ps.length → bindArgs (PySem.W.fnOf x qual (defArgs st) (defBody st) (defScope st) .none kV doc pm an cdv ct) ⟨us, []⟩ = pure (ps.zip us)) : Binds K fd ps [] := by
  obtain ⟨oc, od, kV, doc, pm, an, cdv, ct, osl, rfl, lk, hcd⟩ := F.ex
  exact .all (h kV doc pm an cdv ct)
theorem fun_mk {x qual : Str} {st : Stmt} {f : Addr} {oc : Value} {od an : Option Addr} {osl : Array (Option Value)} {kV doc pm cdv ct : Value} (l : K.lookup f = some ⟨oc, od, .func (PySem.W.fnOf x qual (defArgs st) (defBody st) (defScope st) .none kV doc pm an cdv ct), osl⟩)
    (c : PySem.W.codeIn K cdv qual = true) (k : PySem.W.keepIn K (.ref f) = true) : Fun K x qual st f (PySem.W.fnOf x qual (defArgs st) (defBody st) (defScope st) .none kV doc pm an cdv ct) := ⟨⟨oc, od, kV, doc, pm, an, cdv, ct, osl, rfl, l, c⟩, k⟩
end
theorem hu_of {A : Around} {k : Nat} (hr : Room k A) : A.units + 1 < cLine := Nat.lt_of_le_of_lt (Nat.add_le_add_left (by decide : 1 ≤ 64) _) hr.units
theorem small1000 {n : Nat} (h : n ≤ 1000) : n < sizeLine := Nat.lt_of_le_of_lt h (by decide)
section
variable {X : Cx}
theorem pv (i : Nat) {x : Str} {pos : Pos} (hN : X.N[i]? = some x := by rfl) (hv : Vis X.env.scope x := by first | exact Or.inl rfl | exact Or.inr (Or.inl rfl) | exact Or.inr (Or.inr rfl)) (hd : (x == ("__debug__" : Str)) = false := by decide)
    (hcd : (x == ("__classdict__" : Str)) = false := by decide) : PE X (.Name x pos) (tVar i) := pe_var hN hv hd hcd
theorem call_lenD : CallR X (.builtin "len") (fun xs H Q => ∃ a kvs, xs = [V.ref a] ∧ H a = some (.dK kvs) ∧ Q (.int kvs.length) H) := by
  intro pins s σ H xs us Q I r h
  obtain ⟨a, kvs, rfl, ha, q⟩ := h
  obtain ⟨u, rfl, ru⟩ := vals1 r
  cases ru
  exact d_len I (.inl ha) fun t s' I' => ⟨.int kvs.length, H, I', ⟨t, rfl⟩, q⟩
end
theorem iteF {A B : Prop} (h : B) : if false = true then A else B := by
  rw [if_neg Bool.false_ne_true]
  exact h
theorem iteT {A B : Prop} (h : A) : if true = true then A else B := by
  rw [if_pos rfl]
  exact h
theorem ite2 {c A B : Prop} [Decidable c] (h1 : c → A) (h2 : ¬ c → B) : if c then A else B := by
  by_cases h : c
  · rw [if_pos h]
    exact h1 h
  · rw [if_neg h]
    exact h2 h
theorem iteNS {c A B : Prop} [Decidable c] (hc : c) (h : B) : if (!decide c) = true then A else B := by
  rw [decide_eq_true hc]
  exact iteF h
def Same (H H' : Hp) : Prop := ∀ b o, H b = some o → H' b = some o
theorem Same.refl (H : Hp) : Same H H := fun _ _ h => h
theorem Same.trans {H H1 H2 : Hp} (a : Same H H1) (b : Same H1 H2) : Same H H2 := fun c o h => b c o (a c o h)
theorem Same.free {H H' : Hp} (e : Same H H') {l : Addr} (h : H' l = Option.none) : H l = Option.none := by
  cases q : H l with
  | none => rfl
  | some o =>
    rw [e l o q] at h
    cases h
theorem Same.seq {K : PySem.W.Frag} {H H' : Hp} {a : Addr} {xs : List V} (e : Same H H') (h : SqL K H a xs) : SqL K H' a xs := by
  rcases h with (h | ⟨o, h⟩) | h
  · exact .inl (.inl (e _ _ h))
  · exact .inl (.inr ⟨o, e _ _ h⟩)
  · exact .inr h
section
variable {κ : Type} [DecidableEq κ]
theorem valV_not {kvs : List (κ × V)} {k : κ} (h : valV kvs k = none) : ¬ k ∈ kvs.map (·.1) := by
  intro m
  obtain ⟨p, hp, e⟩ := List.mem_map.mp m
  have q : (kvs.any fun kv => decide (kv.1 = k)) = true := List.any_eq_true.mpr ⟨p, hp, decide_eq_true e⟩
  rw [valV_any, h] at q
  exact absurd q (by simp)
theorem valV_in {kvs : List (κ × V)} {k : κ} {v : V} (h : valV kvs k = some v) : k ∈ kvs.map (·.1) := by
  have q : (kvs.any fun kv => decide (kv.1 = k)) = true := by
    rw [valV_any, h]
    all_goals rfl
  obtain ⟨p, hp, e⟩ := List.any_eq_true.mp q
  exact List.mem_map.mpr ⟨p, hp, of_decide_eq_true e⟩
theorem nd_snoc : ∀ {l : List κ} {k : κ}, l.Nodup → ¬ k ∈ l → (l ++ [k]).Nodup
  | [], k, _, _ => by simp
  | a :: r, k, h, hk => by
    obtain ⟨h1, h2⟩ := List.nodup_cons.mp h
    show (a :: (r ++ [k])).Nodup
    refine List.nodup_cons.mpr ⟨fun m => ?_, nd_snoc h2 fun m => hk (List.mem_cons.mpr (Or.inr m))⟩
    rcases List.mem_append.mp m with q | q
    · exact h1 q
    · exact hk (List.mem_cons.mpr (Or.inl (List.mem_singleton.mp q).symm))
theorem nd_putK {kvs : List (κ × V)} {k : κ} (v : V) (hn : (kvs.map (·.1)).Nodup) (h : valV kvs k = none) : ((putK kvs k v).map (·.1)).Nodup := by
  rw [putK_new v h, List.map_append]
  exact nd_snoc hn (valV_not h)
theorem dropK_pos {p : κ × V} {r : List (κ × V)} {k : κ} (e : p.1 = k) : dropK (p :: r) k = dropK r k := by
  unfold dropK
  rw [List.filter_cons, if_neg (by simp [e])]
theorem dropK_neg {p : κ × V} {r : List (κ × V)} {k : κ} (e : ¬ p.1 = k) : dropK (p :: r) k = p :: dropK r k := by
  unfold dropK
  rw [List.filter_cons, if_pos (by simp [e])]
theorem dropK_no : ∀ {kvs : List (κ × V)} {k : κ}, ¬ k ∈ kvs.map (·.1) → dropK kvs k = kvs
  | [], _, _ => rfl
  | p :: r, k, h => by
    have h' : ¬ k ∈ r.map (·.1) := fun m => by
      obtain ⟨q, hq, e⟩ := List.mem_map.mp m
      exact h (List.mem_map.mpr ⟨q, List.mem_cons.mpr (Or.inr hq), e⟩)
    rw [dropK_neg fun e => h (List.mem_map.mpr ⟨p, List.mem_cons.mpr (Or.inl rfl), e⟩), dropK_no h']
theorem dropK_mem {kvs : List (κ × V)} {k : κ} {p : κ × V} (h : p ∈ dropK kvs k) : p ∈ kvs := (List.mem_filter.mp h).1
theorem nd_dropK : ∀ {kvs : List (κ × V)} {k : κ}, (kvs.map (·.1)).Nodup → ((dropK kvs k).map (·.1)).Nodup
  | [], _, _ => List.nodup_nil
  | p :: r, k, h => by
    have h : (p.1 :: r.map (·.1)).Nodup := h
    obtain ⟨h1, h2⟩ := List.nodup_cons.mp h
    by_cases e : p.1 = k
    · rw [dropK_pos e]
      exact nd_dropK h2
    · rw [dropK_neg e]
      show (p.1 :: (dropK r k).map (·.1)).Nodup
      refine List.nodup_cons.mpr ⟨fun m => h1 ?_, nd_dropK h2⟩
      obtain ⟨q, hq, eq⟩ := List.mem_map.mp m
      exact List.mem_map.mpr ⟨q, dropK_mem hq, eq⟩
theorem dropK_len : ∀ {kvs : List (κ × V)} {k : κ}, (kvs.map (·.1)).Nodup → k ∈ kvs.map (·.1) → (dropK kvs k).length + 1 = kvs.length
  | [], _, _, m => by simp at m
  | p :: r, k, h, m => by
    have h : (p.1 :: r.map (·.1)).Nodup := h
    have m : k = p.1 ∨ k ∈ r.map (·.1) := List.mem_cons.mp m
    obtain ⟨h1, h2⟩ := List.nodup_cons.mp h
    by_cases e : p.1 = k
    · subst e
      rw [dropK_pos rfl, dropK_no h1]
      all_goals rfl
    · have m' : k ∈ r.map (·.1) := m.resolve_left fun z => e z.symm
      have q := dropK_len h2 m'
      rw [dropK_neg e, List.length_cons, List.length_cons]
      omega
end
end L2
set_option maxRecDepth 100000
set_option maxHeartbeats 4000000
namespace L2
open PySem PySem.Spec PyProof.Rows
abbrev TB := St → Hp → (St → Hp → Prop) → Prop
def PB (X : Cx) (m : Sem Unit) (B : TB) : Prop :=
  ∀ (pins : List (Addr × Obj)) (s : Shared) (σ : St) (H : Hp) (Q : St → Hp → Prop), Inv X pins σ H s → B σ H Q →
    wpAny (model X.prog X.w) X.A m (fun _ s' => ∃ σ' H', Inv X pins σ' H' s' ∧ Q σ' H') X.xe s
def tAll : List TT → TT
  | [] => fun _ H Q => Q true H
  | t :: r => fun σ H Q => t σ H fun b H1 => if b = true then tAll r σ H1 Q else Q false H1
inductive PTs (X : Cx) : List Expr → List TT → Prop
  | nil : PTs X [] []
  | cons {e es t ts} : PT X e t → PTs X es ts → PTs X (e :: es) (t :: ts)
def testsOf (ifs : List Expr) (env : Env) (b : Bool) : Sem Bool := forIn ifs b fun c r => if r = true then do let ok ← isTrue c env (eval c env); pure (ForInStep.yield ok) else pure (ForInStep.yield r)
theorem tests_false {M : Model} {A : Around} {E : Value → Shared → Prop} {env : Env} {Q : Bool → Shared → Prop} {s : Shared} (h : Q false s) : ∀ ifs : List Expr, wpAny M A (testsOf ifs env false) Q E s
  | [] => wpAny_pure h
  | c :: r => by
    unfold testsOf
    simp only [List.forIn_cons, Bool.false_eq_true, if_false]
    exact wpAny_bind (wpAny_pure (tests_false h r))
theorem tests_ok {X : Cx} : ∀ {ifs : List Expr} {ts : List TT}, PTs X ifs ts → ∀ (pins : List (Addr × Obj)) (s : Shared) (σ : St) (H : Hp) (Q : Bool → Hp → Prop), Inv X pins σ H s → tAll ts σ H Q →
    wpAny (model X.prog X.w) X.A (testsOf ifs X.env true) (TP X pins σ Q) X.xe s
  | _, _, .nil, pins, s, σ, H, Q, I, h => wpAny_pure ⟨H, I, h⟩
  | _, _, .cons (es := es) h1 h2, pins, s, σ, H, Q, I, h => by
    unfold testsOf
    simp only [List.forIn_cons, if_true]
    refine wpAny_bind (wpAny_bind (thn (h1 pins s σ H _ I h) fun b s1 ⟨H1, I1, q1⟩ => wpAny_pure ?_))
    cases b with
    | true => exact tests_ok h2 pins s1 σ H1 Q I1 q1
    | false => exact tests_false (show TP X pins σ Q false s1 from ⟨H1, I1, q1⟩) es
def LoopT (J : It) (g : TG) (tt : TT) (B : TB) : TB := fun σ H Q => ∃ W : Nat → Nat → St → Hp → Prop, (∃ m, W 0 m σ H) ∧ ∀ i m σ H, W i m σ H →
  (J.stop i H ∧ Q σ H) ∨ (J.go i H ∧ ∀ x H', J.yld i H x H' → g x σ H' fun σ2 H2 => tt σ2 H2 fun b H3 =>
    if b = true then B σ2 H3 (fun σ3 H4 => ∃ m', m' < m ∧ W (i + 1) m' σ3 H4) else ∃ m', m' < m ∧ W (i + 1) m' σ2 H3)
def CompR (X : Cx) (pins : List (Addr × Obj)) (Q : St → Hp → Prop) : Result → Shared → Prop
  | .ok _, s' => ∃ σ' H', Inv X pins σ' H' s' ∧ Q σ' H'
  | .error _, _ => False
structure ClauseAt (X : Cx) (e : Expr) (d : Nat) (acc : Value) (tg iter : Expr) (ifs : List Expr) (beh : Sem Unit) : Prop where
  quiet : ∀ it, (Code.compLoop e d it acc X.env).quiet = true
  under : ∀ it, X.A.under (Code.compLoop e d it acc X.env) = X.A
  den : ∀ it, (model X.prog X.w).den (.compLoop e d it acc X.env) = (compTurn e d it acc X.env).onRaise (fun x => do noteFrame x X.env; theTreesLotGoes x)
  turn : ∀ it, compTurn e d it acc X.env = (do
      standAt iter.pos
      match ← pyNext it with
      | none => pure (.done .next)
      | some v =>
        letOwnedTupleGo tg it v
        assign tg X.env v
        let ok ← testsOf ifs X.env true
        if ok then beh
        again (.compLoop e d it acc X.env))
  start : ∀ (it : Value) (R : Result → Shared → Prop) (s : Shared), codeAny (model X.prog X.w) X.A (.compLoop e d it acc X.env) R s →
    wpAny (model X.prog X.w) X.A (pyIter it) (fun it' s' => codeAny (model X.prog X.w) X.A (.compLoop e d it' acc X.env) R s') (fun _ _ => False) s → codeAny (model X.prog X.w) X.A (.compStart e d it acc X.env) R s
theorem comp_loop {X : Cx} {e : Expr} {d : Nat} {acc : Value} {tg iter : Expr} {ifs : List Expr} {beh : Sem Unit} {J : It} {fp : List Addr} {it : Addr} {tn : Nat → Heap → Prop} {g : TG} {tts : List TT} {B : TB}
    (hxe : X.xe = fun _ _ => False) (hc : X.calm = true) (C : ClauseAt X e d acc tg iter ifs beh) (T : Turn X.prog X.w X.K tg J fp it tn) (hg : PG X tg g) (ht : PTs X ifs tts) (hb : PB X beh B)
    {pins : List (Addr × Obj)} {σ : St} {H : Hp} {s : Shared} {Q : St → Hp → Prop} (I : Inv X pins σ H s) (st : tn 0 s.heap) (f : ∀ b ∈ fp, FpOk X pins H b) (q : LoopT J g (tAll tts) B σ H Q) :
    codeAny (model X.prog X.w) X.A (.compLoop e d (.ref it) acc X.env) (CompR X pins Q) s := by
  obtain ⟨W, ⟨m0, w0⟩, turn⟩ := q
  have stat : ∀ {H' : Hp}, (∀ b ∈ fp, H' b = none) → ∀ b ∈ fp, FpOk X pins H' b := fun hn b hb => ⟨hn b hb, (f b hb).2⟩
  refine codeAny_loop (C.quiet _) (fun n s' => ∃ i σ' H', Inv X pins σ' H' s' ∧ tn i s'.heap ∧ (∀ b ∈ fp, H' b = none) ∧ W i n σ' H') ?_ m0 ⟨0, σ, H, I, st, fun b hb => (f b hb).1, w0⟩
  rintro n s3 ⟨i, σ3, H3, I3, st3, fr3, w3⟩
  rw [C.under, C.den]
  refine wpAny_noted ?_
  rw [C.turn]
  refine wpAny_bind (wpAny_standAt ?_)
  have lift : ∀ {α : Type} {t : Sem α} {R : α → Shared → Prop} {s : Shared}, wpAny (model X.prog X.w) X.A t R X.xe s → wpAny (model X.prog X.w) X.A t R (notedBy (model X.prog X.w) X.A X.env fun x s' => CompR X pins Q (.error x) s') s := by
    intro α t R s h
    rw [hxe] at h
    exact wpAny_mono h (fun _ _ z => z) fun _ _ z => z.elim
  rcases turn i n σ3 H3 w3 with ⟨stop, qn⟩ | ⟨go, step⟩
  · refine wpAny_bind (lift (thn (T.done X rfl rfl rfl hc i pins s3 σ3 H3 X.xe I3 (stat fr3) st3 stop) fun r s4 ⟨hr, I4⟩ => ?_))
    subst hr
    exact wpAny_pure ⟨σ3, H3, I4, qn⟩
  · refine wpAny_bind (lift (thn (T.item X rfl rfl rfl hc i pins s3 σ3 H3 X.xe I3 (stat fr3) st3 go) fun r s4 ⟨u, hr, h4⟩ => ?_))
    subst hr
    refine wpAny_bind (lift (thn h4 fun _ s5 ⟨x, H5, I5, r5, y5, st5, fr5⟩ => ?_))
    have I5' := I5.pinned (stat fr5) (T.obj _ _ st5)
    refine wpAny_bind (lift (thn (hg _ s5 σ3 H5 x u _ I5' r5 (step x H5 y5)) fun _ s6 ⟨σ6, H6, I6, q6⟩ => ?_))
    have again : ∀ {σ7 : St} {H7 : Hp} {s7 : Shared}, Inv X (pins ++ pinsAt fp s5.heap) σ7 H7 s7 → (∃ m', m' < n ∧ W (i + 1) m' σ7 H7) → ∃ m, m < n ∧ ∃ i σ' H', Inv X pins σ' H' s7 ∧ tn i s7.heap ∧ (∀ b ∈ fp, H' b = none) ∧ W i m σ' H' := fun {σ7 H7 s7} I7 ⟨m', hm, w7⟩ => by
      refine ⟨m', hm, i + 1, σ7, H7, I7.unpinned, T.keep _ _ _ st5 fun b hb o e => (I7.pin (b, o) (List.mem_append_right _ (List.mem_append_right _ (mem_pinsAt hb e)))).1, fun b hb => ?_, w7⟩
      obtain ⟨o, e, _⟩ := T.obj _ _ st5 b hb
      exact (I7.pin (b, o) (List.mem_append_right _ (List.mem_append_right _ (mem_pinsAt hb e)))).2.1
    refine wpAny_bind (lift (thn (tests_ok ht _ s6 σ6 H6 _ I6 q6) fun ok s7 ⟨H7, I7, q7⟩ => ?_))
    cases ok with
    | false =>
      exact wpAny_pure ⟨rfl, again I7 q7⟩
    | true =>
      refine wpAny_bind (lift (thn (hb _ s7 σ6 H7 _ I7 q7) fun _ s8 ⟨σ8, H8, I8, q8⟩ => ?_))
      exact wpAny_pure ⟨rfl, again I8 q8⟩
end L2
set_option maxRecDepth 100000
set_option maxHeartbeats 4000000
namespace L2
open PySem PySem.Spec PyProof.Rows
theorem closure_go (env : Env) : ∀ (names : List (Str × NameKind)) (cs : List (Str × Addr)), (∀ x ∈ names, x.2 = .free → ∃ c, env.cells.lookup x.1 = some c) →
    (∀ x c, cs.lookup x = some c → env.cells.lookup x = some c) →
    ∃ cl, (forIn names cs fun (x : Str × NameKind) (r : List (Str × Addr)) => (if (x.2 == NameKind.free) = true then do let c ← cellOf env x.1; pure (ForInStep.yield ((x.1, c) :: r)) else pure (ForInStep.yield r) : Sem (ForInStep (List (Str × Addr))))) = pure cl ∧
      (∀ x c, cl.lookup x = some c → env.cells.lookup x = some c) ∧ (∀ x, (x, NameKind.free) ∈ names ∨ (∃ c, cs.lookup x = some c) → ∃ c, cl.lookup x = some c)
  | [], cs, _, h2 => ⟨cs, rfl, h2, fun x h => h.elim (fun z => nomatch z) id⟩
  | (n, k) :: r, cs, h1, h2 => by
    rw [List.forIn_cons]
    have hr : ∀ x ∈ r, x.2 = .free → ∃ c, env.cells.lookup x.1 = some c := fun x hx => h1 x (List.mem_cons_of_mem _ hx)
    by_cases hk : k = .free
    · subst hk
      obtain ⟨c, hc⟩ := h1 (n, .free) List.mem_cons_self rfl
      have hcell : cellOf env n = pure c := by unfold cellOf; rw [hc]
      obtain ⟨cl, e, a, b⟩ := closure_go env r ((n, c) :: cs) hr (fun x d hx => by
        rw [List.lookup_cons] at hx
        cases hxn : x == n with
        | true =>
          rw [hxn] at hx
          have : x = n := eq_of_beq hxn
          cases hx; rw [this]; exact hc
        | false => rw [hxn] at hx; exact h2 x d hx)
      refine ⟨cl, ?_, a, fun x hx => b x ?_⟩
      · rw [hcell]
        exact e
      · by_cases hxn : x = n
        · exact .inr ⟨c, by rw [List.lookup_cons, hxn, beq_self_eq_true]⟩
        · rcases hx with hx | ⟨d, hx⟩
          · rcases List.mem_cons.mp hx with z | z
            · exact absurd (congrArg Prod.fst z) hxn
            · exact .inl z
          · refine .inr ⟨d, ?_⟩
            have : (x == n) = false := by simpa using hxn
            rw [List.lookup_cons, this]; exact hx
    · have hb : (k == NameKind.free) = false := by simpa using hk
      obtain ⟨cl, e, a, b⟩ := closure_go env r cs hr h2
      refine ⟨cl, ?_, a, fun x hx => b x ?_⟩
      · show (if (k == NameKind.free) = true then _ else _) >>= _ = _
        rw [hb]
        exact e
      · rcases hx with hx | hx
        · rcases List.mem_cons.mp hx with z | z
          · exact absurd (congrArg Prod.snd z).symm hk
          · exact .inl z
        · exact .inr hx
theorem closure_of {scope : Scope} {env : Env} (h : ∀ x ∈ scope.names, x.2 = .free → ∃ c, env.cells.lookup x.1 = some c) :
    ∃ cl, closureFor scope env = pure cl ∧ (∀ x c, cl.lookup x = some c → env.cells.lookup x = some c) ∧ ∀ x, (x, NameKind.free) ∈ scope.names → ∃ c, cl.lookup x = some c := by
  obtain ⟨cl, e, a, b⟩ := closure_go env scope.names [] h (fun x c hx => nomatch hx)
  refine ⟨cl, ?_, a, fun x hx => b x (.inl hx)⟩
  unfold closureFor
  show (forIn scope.names ([] : List (Str × Addr)) _) >>= _ = _
  have e2 : (forIn scope.names ([] : List (Str × Addr)) fun (x : Str × NameKind) (r : List (Str × Addr)) => (match x with | (name, kind) => if (kind == NameKind.free) = true then do let c ← cellOf env name; pure (ForInStep.yield ((name, c) :: r)) else pure (ForInStep.yield r) : Sem (ForInStep (List (Str × Addr))))) = pure cl := e
  rw [e2]
  rfl
def relK (env : Env) (x : Str) (k : NameKind) : NameKind := if (k == .free && env.scope.kind == .function && env.kindOf x == some .cell) = true then .cell else k
theorem lookup_relabel (env : Env) (x : Str) : ∀ names : List (Str × NameKind),
    (names.map fun (n, k) => if (k == NameKind.free && env.scope.kind == .function && env.kindOf n == some .cell) then (n, NameKind.cell) else (n, k)).lookup x = (names.lookup x).map (relK env x)
  | [] => rfl
  | (n, k) :: r => by
    have ih := lookup_relabel env x r
    show List.lookup x ((if (k == NameKind.free && env.scope.kind == .function && env.kindOf n == some .cell) = true then (n, NameKind.cell) else (n, k)) :: _) = _
    have e : (if (k == NameKind.free && env.scope.kind == .function && env.kindOf n == some .cell) = true then (n, NameKind.cell) else (n, k)) = (n, relK env n k) := by
      unfold relK; split <;> rfl
    rw [e, List.lookup_cons, List.lookup_cons]
    cases hx : x == n with
    | true => have := eq_of_beq hx; subst this; rfl
    | false => exact ih
theorem kind_relabel (scope : Scope) (env : Env) (x : Str) : (relabel scope env).names.lookup x = (scope.names.lookup x).map (relK env x) := lookup_relabel env x scope.names
def compCx (X : Cx) (own : List Str) (cap : List Nat) (scope : Scope) (cl : List (Str × Addr)) (s : Shared) (H : Hp) (ex : List Addr) : Cx :=
  { X with N := own ++ cap.map (fun j => X.N.getD j ""), env := compEnvC scope cl s.heap.objs.size X.env, s₀ := s, H₀ := H, outer := X.stack, ex := ex, fn := fun _ => false, pn := [], xe := fun _ _ => False }
def compSt (own : List Str) (cap : List Nat) (σ : St) : St := own.map (fun _ => none) ++ cap.map (fun j => (σ[j]?).join)
structure CompScope (X : Cx) (own : List Str) (cap : List Nat) (scope : Scope) : Prop where
  kind : scope.kind = .function
  nocell : ∀ x ∈ scope.names, x.2 ≠ .cell
  names : ∀ x ∈ scope.names, x.2 = .local → scope.names.lookup x.1 = some .local
  free : ∀ x ∈ scope.names, x.2 = .free → X.env.kindOf x.1 = some .cell ∨ X.env.kindOf x.1 = some .free
  own : ∀ x ∈ own, scope.names.lookup x = some .local
  caps : ∀ j ∈ cap, scope.names.lookup (X.N.getD j "") = some .free ∧ j < X.N.length
theorem comp_inv {X : Cx} {own : List Str} {cap : List Nat} {scope : Scope} {cl : List (Str × Addr)} {pins : List (Addr × Obj)} {σ : St} {H : Hp} {s : Shared} {fp : List Addr} {h' : Heap} {tk : Nat} (S : CompScope X own cap scope)
    (I : Inv X pins σ H s) (hcl : ∀ x c, cl.lookup x = some c → X.env.cells.lookup x = some c) (hfr : ∀ x, (x, NameKind.free) ∈ scope.names → ∃ c, cl.lookup x = some c)
    (hf : ∀ b ∈ fp, FpOk X pins H b) (hlt : ∀ b ∈ fp, b < s.heap.objs.size) (hns : h'.Ns s.heap.objs.size (fun x => ([] : List (Str × Value)).reverse.lookup x)) (hk : ∀ b u, s.heap.get? b = some u → h'.get? b = some u) :
    Inv (compCx X own cap scope cl s H fp) [] (compSt own cap σ) H { s with heap := h', toks := tk } := by
  have kc : ∀ x k, (relabel scope X.env).names.lookup x = some k → (k = .cell ∨ k = .free) → (x, NameKind.free) ∈ scope.names := by
    intro x k e hk
    rw [kind_relabel] at e
    cases q : scope.names.lookup x with
    | none => rw [q] at e; cases e
    | some k0 =>
      rw [q] at e
      have e' : relK X.env x k0 = k := Option.some.inj e
      have hm := PySem.mem_of_lookup q
      have h0 : k0 ≠ .cell := S.nocell _ hm
      have : k0 = .free := by
        unfold relK at e'
        by_cases hb : (k0 == NameKind.free && X.env.scope.kind == .function && X.env.kindOf x == some .cell) = true
        · simp only [Bool.and_eq_true, beq_iff_eq] at hb
          exact hb.1.1
        · rw [if_neg hb] at e'
          rcases hk with z | z
          · exact absurd (e'.trans z) h0
          · exact e'.trans z
      rw [this] at hm
      exact hm
  have ok : (compCx X own cap scope cl s H fp).Ok := {
    mod := I.ok.mod
    kind := S.kind
    glob := I.ok.glob
    blt := I.ok.blt
    above := Nat.le_refl _
    inj := fun x y c e1 e2 => I.ok.inj x y c (hcl x c e1) (hcl y c e2)
    has := fun x hx => by
      rcases hx with hx | hx
      · exact hfr x (kc x _ hx (.inl rfl))
      · exact hfr x (kc x _ hx (.inr rfl))
    cab := fun x c h => absurd h (show ¬ (false = true) from Bool.false_ne_true)
    hd := I.ok.hd
    frames := I.ok.frames
    stk := .inl rfl
    exf := fun b hb => ⟨Nat.ne_of_lt (hlt b hb), fun x c e => (hf b hb).2.2.2.2.1 x c (hcl x c e)⟩
    bs := I.bs
    bsz := Nat.le_trans I.ok.bsz I.sz
    noex := fun b o e hb => by
      rcases (hf b hb).2.2.2.1 with z | z
      · exact I.ok.noex b o e z
      · exact absurd (Nat.lt_of_lt_of_le (Heap.lt_size e) (Nat.le_trans I.ok.bsz z)) (Nat.lt_irrefl _)
    exfs := fun b hb hm => by
      rcases List.mem_cons.mp (I.stkSub b hm) with z | z
      · exact (hf b hb).2.1 z
      · exact (hf b hb).2.2.1 z
    funs := I.stack
    frf := I.stkFree }
  refine ⟨ok, rfl, I.bare, Un.kept hk, ⟨_, hns, fun i x v e1 e2 e3 => ?_⟩, fun x c e => ?_, I.hok.fresh (Nat.le_refl _), fun x c e => I.freeC x c (hcl x c e), fun p hp => absurd (show p ∈ ([] : List (Addr × Obj)) from hp) (by simp), I.hok.kept hk, ?_⟩
  · have e1 : (own ++ cap.map (fun j => X.N.getD j ""))[i]? = some x := e1
    have e2 : (own.map (fun _ => (none : Option V)) ++ cap.map (fun j => (σ[j]?).join))[i]? = some (some v) := e2
    by_cases hi : i < own.length
    · rw [List.getElem?_append_left (by simpa using hi), List.getElem?_map] at e2
      cases q : own[i]? with
      | none => rw [q] at e2; cases e2
      | some y => rw [q] at e2; cases e2
    · rw [List.getElem?_append_right (by simpa using hi), List.getElem?_map] at e1
      rw [List.getElem?_append_right (by simpa using hi), List.getElem?_map, List.length_map] at e2
      cases q : cap[i - own.length]? with
      | none => rw [q] at e2; cases e2
      | some j =>
        rw [q] at e1 e2
        have e1' : X.N.getD j "" = x := Option.some.inj e1
        have e2' : (σ[j]?).join = some v := Option.some.inj e2
        obtain ⟨hj, hlj⟩ := S.caps j (List.mem_of_getElem? q)
        rw [e1'] at hj
        have hNj : X.N[j]? = some x := by
          rw [List.getElem?_eq_getElem hlj, ← e1', List.getD_eq_getElem?_getD, List.getElem?_eq_getElem hlj]; rfl
        have hσ : σ[j]? = some (some v) := by
          cases z : σ[j]? with
          | none => rw [z] at e2'; cases e2'
          | some o => rw [z] at e2'; rw [show o = some v from e2']
        obtain ⟨m, hn, hl⟩ := I.loc
        have hm := PySem.mem_of_lookup hj
        have hkx := S.free _ hm rfl
        have vis : Vis X.env.scope x := by
          rcases hkx with z | z
          · exact .inr (.inl z)
          · exact .inr (.inr z)
        obtain ⟨u, r, l⟩ := hl j x v hNj hσ vis
        refine ⟨u, r, .inr ?_⟩
        rcases l with ⟨kl, _⟩ | ⟨_, c, hc, z⟩
        · rcases hkx with z | z
          · rw [kl] at z; cases z
          · rw [kl] at z; cases z
        · obtain ⟨c', hc'⟩ := hfr x hm
          have := hcl x c' hc'
          rw [hc] at this; cases this
          refine ⟨?_, c, hc', ?_⟩
          · have q : (relabel scope X.env).names.lookup x = some (relK X.env x .free) := by rw [kind_relabel, hj]; rfl
            show (relabel scope X.env).names.lookup x = some .cell ∨ (relabel scope X.env).names.lookup x = some .free
            rw [q]
            unfold relK
            split
            · exact .inl rfl
            · exact .inr rfl
          · obtain ⟨o, ho, hd⟩ := z
            exact ⟨o, hk c o ho, hd⟩
  · obtain ⟨v, o, ho, hd⟩ := I.cell x c (hcl x c e)
    exact ⟨v, o, hk c o ho, hd⟩
  · show (own.map (fun _ => (none : Option V)) ++ cap.map (fun j => (σ[j]?).join)).length = (own ++ cap.map (fun j => X.N.getD j "")).length
    simp only [List.length_append, List.length_map]
end L2
set_option maxRecDepth 100000
set_option maxHeartbeats 4000000
namespace L2
open PySem PySem.Spec PyProof.Rows
def NewAcc (X : Cx) (m : Sem Value) (o : HO) : Prop :=
  ∀ (pins : List (Addr × Obj)) (s : Shared) (σ : St) (H : Hp) (E : Value → Shared → Prop) (Q : Value → Shared → Prop), Inv X pins σ H s →
    (∀ l s', s.heap.objs.size ≤ l → H l = none → Inv X pins σ (upd H l o) s' → (∀ b u, s.heap.get? b = some u → s'.heap.get? b = some u) → Q (.ref l) s') → wpAny (model X.prog X.w) X.A m Q E s
theorem acc_list {X : Cx} : NewAcc X (newList []) (.lst []) := by
  intro pins s σ H E Q I h
  exact wpAny_newList (h _ _ (Nat.le_refl _) I.fresh (I.lnew (its := []) (t' := s.toks) .nil (Nat.zero_le _)) fun b u e => Heap.get?_push_of_some _ e)
theorem comp_core {X : Cx} {e : Expr} {tg iter : Expr} {ifs : List Expr} {scope : Scope} {own : List Str} {cap : List Nat} {newAcc : Sem Value} {o : HO} {cl : List (Str × Addr)} {behOf : Value → Env → Sem Unit} {g : TG} {tts : List TT} {Bof : Addr → TB}
    (hc : X.calm = true) (S : CompScope X own cap scope) (hcl : ∀ x c, cl.lookup x = some c → X.env.cells.lookup x = some c) (hfr : ∀ x, (x, NameKind.free) ∈ scope.names → ∃ c, cl.lookup x = some c)
    (hacc : NewAcc X newAcc o)
    (hC : ∀ s H ex l, ClauseAt (compCx X own cap scope cl s H ex) e 0 (.ref l) tg iter ifs (behOf (.ref l) (compCx X own cap scope cl s H ex).env))
    (hg : ∀ s H ex, PG (compCx X own cap scope cl s H ex) tg g) (ht : ∀ s H ex, PTs (compCx X own cap scope cl s H ex) ifs tts)
    (hb : ∀ s H ex l, PB (compCx X own cap scope cl s H ex) (behOf (.ref l) (compCx X own cap scope cl s H ex).env) (Bof l))
    {pins : List (Addr × Obj)} {σ : St} {s2 : Shared} {itv : Value} {Q : Addr → Hp → Prop} {E : Value → Shared → Prop} {R : Value → Addr → Result → Shared → Prop}
    (h : PIE X pins σ tg (fun J H1 => ∀ l, H1 l = none → LoopT J g (tAll tts) (Bof l) (compSt own cap σ) (upd H1 l o) fun _ H2 => Q l H2) itv s2)
    (hR : ∀ l C s' H', Inv X pins σ H' s' → FpOk X pins H' C → (∃ m, s'.heap.Ns C m) → Q l H' → R (.ref l) C (.ok .next) s')
    (hok : ∀ acc C f s', R acc C (.ok .next) s' → R acc C (.ok f) s') :
    wpAny (model X.prog X.w) X.A newAcc (fun acc s₃ => wpAny (model X.prog X.w) X.A (newFunctionEnv scope X.env.globals cl [] X.env.qual none .none (some X.env)) (fun cenv s₄ =>
      codeAny (model X.prog X.w) X.A (.compStart e 0 itv acc { cenv with scope := relabel scope X.env }) (R acc cenv.locals) s₄) E s₃) E s2 := by
  obtain ⟨it, fp, tn, J, H2, rfl, I2, T, st2, f2, q⟩ := h
  have lt2 : ∀ b ∈ fp, b < s2.heap.objs.size := fun b hb => by
    obtain ⟨ob, e, _⟩ := T.obj _ _ st2 b hb
    exact Heap.lt_size e
  refine hacc pins s2 σ H2 E _ I2 fun l s3 hl hn I3 k3 => ?_
  have q' := q l hn
  have f3 : ∀ b ∈ fp, FpOk X pins (upd H2 l o) b := fun b hb => by
    obtain ⟨a1, a2⟩ := f2 b hb
    refine ⟨?_, a2⟩
    rw [upd_ne (Nat.ne_of_lt (Nat.lt_of_lt_of_le (lt2 b hb) hl))]; exact a1
  have lt3 : ∀ b ∈ fp, b < s3.heap.objs.size := fun b hb => by
    obtain ⟨ob, e, _⟩ := T.obj _ _ st2 b hb
    exact Heap.lt_size (k3 b ob e)
  refine wpAny_newFunctionEnv S.nocell (by intro y hy; simp at hy) (fun h1 hns hsb => ?_) S.kind
  have k4 : ∀ b u, s3.heap.get? b = some u → h1.get? b = some u := fun b u e => by
    exact hsb.extBut b u (Nat.ne_of_lt (Heap.lt_size e)) (Heap.get?_push_of_some _ e)
  have I4 : Inv (compCx X own cap scope cl s3 (upd H2 l o) fp) [] (compSt own cap σ) (upd H2 l o) { s3 with heap := h1, toks := s3.toks + ([] : List (Str × Value)).length } := comp_inv S I3 hcl hfr f3 lt3 hns k4
  have st4 : tn 0 h1 := T.keep _ _ _ st2 fun b hb ob e => k4 b ob (k3 b ob e)
  have f4 : ∀ b ∈ fp, FpOk (compCx X own cap scope cl s3 (upd H2 l o) fp) [] (upd H2 l o) b := fun b hb => by
    obtain ⟨a0, a1, a2, a3, a4, a5⟩ := f3 b hb
    refine ⟨a0, Nat.ne_of_lt (lt3 b hb), fun hm => ?_, .inl hb, fun x c ex => a4 x c (hcl x c ex), fun p hp => absurd (show p ∈ ([] : List (Addr × Obj)) from hp) (by simp)⟩
    rcases List.mem_cons.mp (I3.stkSub b hm) with z | z
    · exact a1 z
    · exact a2 z
  have fin : ∀ (r : Result) (s' : Shared), CompR (compCx X own cap scope cl s3 (upd H2 l o) fp) [] (fun _ H2 => Q l H2) r s' → R (.ref l) s3.heap.objs.size r s' := by
    intro r s' hr
    cases r with
    | error x => exact (show False from hr).elim
    | ok f =>
      obtain ⟨σ5, H5, I5, q5⟩ := (show ∃ σ' H', Inv (compCx X own cap scope cl s3 (upd H2 l o) fp) [] σ' H' s' ∧ Q l H' from hr)
      have I6 : Inv X pins σ H5 s' := I3.call' (ch := fp) I5.os I5.base I5.hok I5.bare fun b hb => (f3 b hb).2.2.2 |> fun ⟨z1, z2, z3⟩ => ⟨z1, (f3 b hb).2.1, z2, z3⟩
      refine hok _ _ _ _ (hR l _ s' H5 I6 (I3.fpOk (Nat.le_refl _) I5.free) ?_ q5)
      obtain ⟨m, hm, _⟩ := I5.loc
      exact ⟨m, hm⟩
  have loop : ∀ s4 : Shared, s4 = { s3 with heap := h1, toks := s3.toks + ([] : List (Str × Value)).length } →
      codeAny (model X.prog X.w) X.A (.compLoop e 0 (.ref it) (.ref l) (compCx X own cap scope cl s3 (upd H2 l o) fp).env) (R (.ref l) s3.heap.objs.size) s4 := by
    rintro s4 rfl
    exact codeAny_mono (comp_loop (X := compCx X own cap scope cl s3 (upd H2 l o) fp) rfl hc (hC _ _ _ _) T (hg _ _ _) (ht _ _ _) (hb _ _ _ l) I4 st4 f4 q') fin
  exact (hC s3 (upd H2 l o) fp l).start (.ref it) _ _ (loop _ rfl) (T.self _ 0 _ _ _ st4 (loop _ rfl))
section
variable {X : Cx} {e : Expr} {tg iter : Expr} {ifs : List Expr} {gs : List Comprehension} {scope : Scope} {own : List Str} {cap : List Nat} {newAcc : Sem Value} {o : HO} {behOf : Value → Env → Sem Unit} {wi : TI} {g : TG} {tts : List TT} {Bof : Addr → TB} {cpos : Pos}
def tComp (own : List Str) (cap : List Nat) (o : HO) (wi : TI) (g : TG) (tts : List TT) (Bof : Addr → TB) : TE := fun σ H Q => wi σ H fun J H1 => ∀ l, H1 l = none → LoopT J g (tAll tts) (Bof l) (compSt own cap σ) (upd H1 l o) fun _ H2 => Q (.ref l) H2
theorem comp_val (hc : X.calm = true) (S : CompScope X own cap scope) (hcl : clausesOf e = ⟨tg, iter, ifs, 0⟩ :: gs) (hi : PI X tg iter wi) (hacc : NewAcc X newAcc o)
    (hC : ∀ cl s H ex l, ClauseAt (compCx X own cap scope cl s H ex) e 0 (.ref l) tg iter ifs (behOf (.ref l) (compCx X own cap scope cl s H ex).env))
    (hg : ∀ cl s H ex, PG (compCx X own cap scope cl s H ex) tg g) (ht : ∀ cl s H ex, PTs (compCx X own cap scope cl s H ex) ifs tts)
    (hb : ∀ cl s H ex l, PB (compCx X own cap scope cl s H ex) (behOf (.ref l) (compCx X own cap scope cl s H ex).env) (Bof l)) (hs : ∀ x, foldedSetIterable iter X.env x = pure x) :
    ∀ (pins : List (Addr × Obj)) (s : Shared) (σ : St) (H : Hp) (Q : VK), Inv X pins σ H s → tComp own cap o wi g tts Bof σ H Q →
      wpAny (model X.prog X.w) X.A (comprehension e scope X.env cpos newAcc false (eval iter X.env)) (EP X pins σ Q) X.xe s := by
  intro pins s σ H Q I h
  obtain ⟨cl, hclos, h1, h2⟩ := closure_of (scope := scope) (env := X.env) fun x hx hf => I.ok.has x.1 (S.free x hx hf)
  refine wpAny_comprehension_free (use := none) hcl hs hclos S.kind S.names (thn (hi pins s σ H _ I h) fun v s1 q1 => thn q1 fun itv s2 q2 => ?_)
  refine comp_core (R := fun acc C => compPost (model X.prog X.w) X.A X.xe none (EP X pins σ Q) acc C) hc S h1 h2 hacc (hC cl) (hg cl) (ht cl) (hb cl) q2 (fun l C s' H' I' fC hm q => ?_) (fun acc C f s' z => z)
  obtain ⟨m, hm⟩ := hm
  refine ⟨m, hm, fun h' sb => ⟨.ref l, H', I'.turned (t' := s'.toks) (fun b o hb e => (sb.2 b hb).trans e) fC.1 fC.2.1 fC.2.2.2.1 fC.2.2.2.2.1 fC.2.2.2.2.2, rfl, q⟩⟩
theorem comp_use {i : Nat} {x : Str} {px : Pos} (hc : X.calm = true) (S : CompScope X own cap scope) (hcl : clausesOf e = ⟨tg, iter, ifs, 0⟩ :: gs) (hi : PI X tg iter wi) (hacc : NewAcc X newAcc o)
    (hC : ∀ cl s H ex l, ClauseAt (compCx X own cap scope cl s H ex) e 0 (.ref l) tg iter ifs (behOf (.ref l) (compCx X own cap scope cl s H ex).env))
    (hg : ∀ cl s H ex, PG (compCx X own cap scope cl s H ex) tg g) (ht : ∀ cl s H ex, PTs (compCx X own cap scope cl s H ex) ifs tts)
    (hb : ∀ cl s H ex l, PB (compCx X own cap scope cl s H ex) (behOf (.ref l) (compCx X own cap scope cl s H ex).env) (Bof l)) (hs : ∀ x, foldedSetIterable iter X.env x = pure x)
    (hN : X.N.Nodup) (hix : X.N[i]? = some x) (hx : Loc X.env.scope x) (hf : X.fn x = true ∨ X.env.scope.names.lookup x = some .local) :
    ∀ (pins : List (Addr × Obj)) (s : Shared) (σ : St) (H : Hp) (D : Ends), Inv X pins σ H s → tComp own cap o wi g tts Bof σ H (fun v H1 => D.nx (σ.set i (some v)) H1) →
      wpAny (model X.prog X.w) X.A (comprehension e scope X.env cpos newAcc false (eval iter X.env) (some (assign (.Name x px) X.env))) (fun _ s' => SP X pins D .next s') X.xe s := by
  intro pins s σ H D I h
  obtain ⟨cl, hclos, h1, h2⟩ := closure_of (scope := scope) (env := X.env) fun x hx hf => I.ok.has x.1 (S.free x hx hf)
  refine wpAny_comprehension_free (use := some (assign (.Name x px) X.env)) hcl hs hclos S.kind S.names (thn (hi pins s σ H _ I h) fun v s1 q1 => thn q1 fun itv s2 q2 => ?_)
  refine comp_core (R := fun acc C => compPost (model X.prog X.w) X.A X.xe (some (assign (.Name x px) X.env)) (fun _ s' => SP X pins D .next s') acc C) hc S h1 h2 hacc (hC cl) (hg cl) (ht cl) (hb cl) q2 (fun l C s' H' I' fC hm q => ?_) (fun acc C f s' z => z)
  obtain ⟨m, hm⟩ := hm
  show wpAny (model X.prog X.w) X.A (assign (.Name x px) X.env (.ref l)) _ X.xe s'
  refine wpAny_assign_Name (store_ok2 (v := .ref l) I' hN hix hx rfl (fun s'' I'' ⟨a, sa, ha⟩ => ?_) hf)
  have hCa : C ≠ a := by
    rcases ha with z | z
    · rw [z]; exact fC.2.1
    · exact Ne.symm (fC.2.2.2.2.1 x a z)
  refine ⟨m, hm.sameBut sa hCa, fun h' sb => ⟨_, H', I''.turned (t' := s''.toks) (fun b o hb e => (sb.2 b hb).trans e) fC.1 fC.2.1 fC.2.2.2.1 fC.2.2.2.2.1 fC.2.2.2.2.2, q⟩⟩
end
def eApp (te : TE) (l : Addr) : TB := fun σ H Q => te σ H fun v H1 => ∃ vs, H1 l = some (.lst vs) ∧ vs.length < sizeLine ∧ Q σ (upd H1 l (.lst (vs ++ [v])))
def behList (elt : Expr) (acc : Value) (env : Env) : Sem Unit := do let _ ← call (.builtin "list.append") [acc, ← eval elt env]
theorem pb_list {X : Cx} {elt : Expr} {te : TE} {l : Addr} (he : PE X elt te) : PB X (behList elt (.ref l) X.env) (eApp te l) := by
  intro pins s σ H Q I h
  refine wpAny_bind (thn (he pins s σ H _ I h) fun v s1 ⟨x, H1, I1, r1, vs, e, hz, q⟩ => ?_)
  refine wpAny_bind (thn (mt_append pins s1 σ H1 (.ref l) [x] (.ref l) [v] (fun _ H2 => Q σ H2) I1 rfl (.cons r1 .nil) ⟨l, vs, x, rfl, rfl, e, hz, q⟩) fun u s2 ⟨z, H2, I2, _, q2⟩ => ?_)
  exact wpAny_pure ⟨σ, H2, I2, q2⟩
theorem clause_list {X : Cx} {elt tg iter : Expr} {ifs : List Expr} {scope : Scope} {pos : Pos} {acc : Value} : ClauseAt X (.ListComp elt [⟨tg, iter, ifs, 0⟩] scope pos) 0 acc tg iter ifs (behList elt acc X.env) where
  quiet := fun _ => rfl
  under := fun _ => rfl
  den := fun _ => rfl
  turn := fun _ => rfl
  start := fun it R s h0 h => codeAny_compStart_list h0 (wpAny_mono h (fun _ _ z => z) fun _ _ z => z.elim)
end L2
set_option maxRecDepth 100000
set_option maxHeartbeats 4000000
namespace L2
open PySem PySem.Spec PyProof.Rows
theorem Inv.turnLaid {X : Cx} {pins : List (Addr × Obj)} {σ : St} {H : Hp} {s : Shared} {h' : Heap} {t' : Nat} {ch : List Addr} {p : Addr} {o : HO} (I : Inv X pins σ H s) (k : ∀ b u, b ∉ ch → s.heap.get? b = some u → h'.get? b = some u)
    (hth : ∀ b ∈ ch, ∃ u, h'.get? b = some u) (hf : ∀ b ∈ ch, FpOk X pins H b) (hp : s.heap.objs.size ≤ p) (new : ObjOk X.prog X.w (upd H p o) h' p o) : Inv X pins σ (upd H p o) { s with heap := h', toks := t' } := by
  have hn : H p = none := I.hok.fresh hp
  have nch : ∀ b u, H b = some u → b ∉ ch := fun b u e hb => by rw [(hf b hb).1] at e; cases e
  refine I.step (g' := s.gens) (d' := s.drawn) (ch := ch) (fun b hb => ?_) (fun b u _ _ hc e _ => k b u hc e) (fun b u _ _ hc e _ => ⟨u.slots, k b u hc e⟩) (fun b u _ e n => ?_)
    (fun b u hc e => ⟨u, k b u hc e⟩) (fun b xs e => ?_) (fun b ob xs e => ?_) (fun b ps e => ?_) (fun m hm => ?_) (fun b u e => ?_) I.bare
  · obtain ⟨_, a1, _, a3, a4, a5⟩ := hf b hb
    exact ⟨a3, a1, a4, a5⟩
  · rw [upd_ne (Nat.ne_of_lt (Nat.lt_of_lt_of_le (Heap.lt_size e) hp))]; exact n
  · rw [upd_ne (ne_of_none e hn)]; exact e
  · rw [upd_ne (ne_of_none e hn)]; exact e
  · exact ⟨#[], by rw [upd_ne (ne_of_none e hn), e]; simp⟩
  · obtain ⟨ob, es, ep, ho, r⟩ := hm
    exact ⟨ob, es, ep, k _ ob (fun hb => (hf _ hb).2.1 rfl) ho, r⟩
  · by_cases hb : b = p
    · subst hb; rw [upd_same] at e; cases e; exact new
    · rw [upd_ne hb] at e
      refine (I.hok b u e).stay (fun c v hc q => k c v ?_ q) (fun c q => by rw [upd_ne (ne_of_none q hn)]; exact q) fun c xs q => by rw [upd_ne (ne_of_none q hn)]; exact q
      rcases hc with z | z
      · rw [z]; exact nch b u e
      · exact nch c _ z
def Ite (K : PySem.W.Frag) (a : Addr) : It :=
  ⟨fun i H => ∃ xs x, SqL K H a xs ∧ xs[i]? = some x, fun i H x H' => ∃ p y, x = .ref p ∧ H p = none ∧ (∀ ys, SqL K H a ys → ys[i]? = some y) ∧ H' = upd H p (.tup [.int (i : Int), y]), fun i H => ∃ xs, SqL K H a xs ∧ xs.length ≤ i⟩
theorem turn_enum {P : Program} {w : World} {K : PySem.W.Frag} {elts : List Expr} {k : Nat} {pos : Pos} (a e it : Addr) (hne : e ≠ it) :
    Turn P w K (.Tuple elts k pos) (Ite K a) [e, it] e (fun i h => (∃ old, IsEnum h e it (i : Nat) old) ∧ h.IsListIter it a i) where
  mem := by simp
  obj := fun i h st b hb => by
    obtain ⟨⟨old, he⟩, ⟨o, h1, h2, h3⟩⟩ := st
    rcases List.mem_cons.mp hb with z | z
    · subst z
      exact ⟨_, he, fun v z => by
        have z' : Data.fields _ = Data.cell v := z
        cases z'⟩
    · have z : b = it := by simpa using z
      subst z
      exact ⟨o, h1, fun v z => by rw [h3] at z; cases z⟩
  keep := fun i h h' st kk => by
    obtain ⟨⟨old, he⟩, hi⟩ := st
    exact ⟨⟨old, kk e (by simp) _ he⟩, hi.at fun o q => kk it (by simp) o q⟩
  item := by
    intro X hP hw hK hc i pins s σ H E I hf st hg
    subst hP hw hK
    obtain ⟨xs, x, hq, hx⟩ := hg
    obtain ⟨⟨old, he⟩, hi⟩ := st
    obtain ⟨its, rv, p, hz⟩ := I.list hq
    obtain ⟨u, hu, ru⟩ := rv.get hx
    refine wpAny_pyNext_enum_item he hi p.isList (x := u) (by simpa using hu) hne fun h1 heo hi1 ht hsz hk => ?_
    refine ⟨_, rfl, wpAny_letOwnedTupleGo_enum heo fun h2 he2 hs2 => ?_⟩
    have helt : e < s.heap.objs.size := Heap.lt_size he
    have hs2' : Heap.SameBut e h1 h2 := hs2
    have I1 : Inv X pins σ (upd H s.heap.objs.size (.tup [.int (i : Int), x])) { s with heap := h2, toks := s.toks + 1 } := by
      refine I.turnLaid (ch := [e, it]) (fun b o hb q => ?_) (fun b hb => ?_) hf (Nat.le_refl _) ?_
      · have h1' : b ≠ e := fun z => hb (by simp [z])
        have h2' : b ≠ it := fun z => hb (by simp [z])
        exact (hs2'.2 b h1').trans (hk b o h1' h2' q)
      · rcases List.mem_cons.mp hb with z | z
        · subst z; exact ⟨_, he2⟩
        · have z : b = it := by simpa using z
          subst z
          obtain ⟨o, q, _⟩ := hi1
          exact ⟨o, (hs2'.2 _ (Ne.symm hne)).trans q⟩
      · refine ⟨by show 2 ≤ sizeLine; decide, [.int (i : Int) s.toks, u], .cons ⟨_, rfl⟩ (.cons ru .nil), ⟨_, (hs2'.2 _ (Nat.ne_of_gt helt)).trans ht, rfl, _, rfl⟩⟩
    refine ⟨.ref s.heap.objs.size, _, I1, rfl, ⟨s.heap.objs.size, x, rfl, I.fresh, fun ys hy => by rw [I.list_inj hy hq]; exact hx, rfl⟩, ⟨⟨_, by
      have : ((i + 1 : Nat) : Int) = (i : Int) + 1 := by omega
      rw [this]; exact he2⟩, hi1.extBut hs2'.extBut (Ne.symm hne)⟩, fun b hb => ?_⟩
    have hlt : b < s.heap.objs.size := by
      rcases List.mem_cons.mp hb with z | z
      · rw [z]; exact helt
      · have z : b = it := by simpa using z
        rw [z]; obtain ⟨o, q, _⟩ := hi; exact Heap.lt_size q
    rw [upd_ne (Nat.ne_of_lt hlt)]; exact (hf b hb).1
  done := by
    intro X hP hw hK hc i pins s σ H E I hf st hg
    subst hP hw hK
    obtain ⟨xs, hq, hx⟩ := hg
    obtain ⟨⟨old, he⟩, hi⟩ := st
    obtain ⟨its, rv, p, hz⟩ := I.list hq
    obtain ⟨f0, f1, f2, f3, f4, f5⟩ := hf it (by simp)
    have hl := rv.length
    exact wpAny_pyNext_enum_end (I.ok.hd hc) he hi p.isList (by simp; omega) fun h' eb => ⟨rfl, I.turned (t' := s.toks) (fun b o hb q => eb b o hb q) f0 f1 f3 f4 f5⟩
  self := fun _ _ _ _ _ st h => by
    obtain ⟨⟨old, he⟩, _⟩ := st
    exact wpAny_pyIter_enum he h
section
variable {X : Cx} {elts : List Expr} {k : Nat} {tpos : Pos}
def iEnum (K : PySem.W.Frag) (ta : TA) : TI := fun σ H R => ta σ H fun vs H1 => ∃ a, vs = [.ref a] ∧ (∃ xs, SqL K H1 a xs) ∧ R (Ite K a) H1
theorem pi_enum {a : Expr} {ta : TA} {p pos : Pos} (hg : Gl X "enumerate") (hm : X.mg "enumerate" = none) (ha : PA X [a] ta) (hs : starEach [a] X.env = [(false, eval a X.env)] := by rfl) : PI X (.Tuple elts k tpos) (.Call (.Name "enumerate" p) [a] [] pos) (iEnum X.K ta) := by
  intro pins s σ H R I h
  refine Call_ (ld_blt I hg hm boot_enumerate (PyProof.Rows.callWith_type1 (thn (ha pos pins s σ H _ I h) fun us s1 ⟨vs, H1, I1, r1, q1⟩ => ?_) hs rfl))
  obtain ⟨l, e, ⟨xs, hq⟩, q⟩ := q1
  subst e
  obtain ⟨u, rfl, ru⟩ := vals1 r1
  cases ru
  obtain ⟨its, rv, pl, hz⟩ := I1.list hq
  refine call_enumerate_list pl.isList fun h' he hi hsz hk => ?_
  refine wpAny_pyIter_enum he ?_
  have I2 : Inv X pins σ H1 { s1 with heap := h' } := I1.kept (t' := s1.toks) hk
  refine ⟨s1.heap.objs.size + 1, [s1.heap.objs.size + 1, s1.heap.objs.size], _, _, H1, rfl, I2, turn_enum l (s1.heap.objs.size + 1) s1.heap.objs.size (Nat.ne_of_gt (Nat.lt_succ_self _)), ⟨⟨_, he⟩, hi⟩, fun b hb => ?_, q⟩
  have hge : s1.heap.objs.size ≤ b := by
    rcases List.mem_cons.mp hb with z | z
    · rw [z]; exact Nat.le_succ _
    · have z : b = s1.heap.objs.size := by simpa using z
      rw [z]; exact Nat.le_refl _
  exact I1.fpOk hge (I1.hok.fresh hge)
end
section
variable {X : Cx} {elt tg iter tg2 iter2 : Expr} {ifs ifs2 : List Expr} {scope : Scope} {own : List Str} {cap : List Nat} {wi wi2 : TI} {g g2 : TG} {tts tts2 : List TT} {te : TE} {pos : Pos}
theorem pe_lc (own : List Str) (cap : List Nat) (hc : X.calm = true) (S : CompScope X own cap scope) (hi : PI X tg iter wi) (hg : ∀ cl s H ex, PG (compCx X own cap scope cl s H ex) tg g)
    (ht : ∀ cl s H ex, PTs (compCx X own cap scope cl s H ex) ifs tts) (he : ∀ cl s H ex, PE (compCx X own cap scope cl s H ex) elt te) (hs : ∀ x, foldedSetIterable iter X.env x = pure x := by intro _; rfl) :
    PE X (.ListComp elt [⟨tg, iter, ifs, 0⟩] scope pos) (tComp own cap (.lst []) wi g tts (eApp te)) := by
  intro pins s σ H Q I h
  exact comp_val (behOf := behList elt) hc S rfl hi acc_list (fun _ _ _ _ _ => clause_list) hg ht (fun cl s H ex l => pb_list (he cl s H ex)) hs pins s σ H Q I h
theorem ps_lc {i : Nat} {x : Str} {px spos : Pos} (own : List Str) (cap : List Nat) (hc : X.calm = true) (S : CompScope X own cap scope) (hN : X.N.Nodup) (hix : X.N[i]? = some x) (hx : Loc X.env.scope x)
    (hi : PI X tg iter wi) (hg : ∀ cl s H ex, PG (compCx X own cap scope cl s H ex) tg g)
    (ht : ∀ cl s H ex, PTs (compCx X own cap scope cl s H ex) ifs tts) (he : ∀ cl s H ex, PE (compCx X own cap scope cl s H ex) elt te)
    (hsw : swapsWith (.ListComp elt [⟨tg, iter, ifs, 0⟩] scope pos) (some (.Name x px)) spos.line X.env = pure true := by rfl) (hs : ∀ x, foldedSetIterable iter X.env x = pure x := by intro _; rfl)
    (hf : X.fn x = true ∨ X.env.scope.names.lookup x = some .local := by first | exact .inl rfl | exact .inr rfl | assumption) :
    PS X (.Assign [.Name x px] (.ListComp elt [⟨tg, iter, ifs, 0⟩] scope pos) spos) (tAsg (tComp own cap (.lst []) wi g tts (eApp te)) (gName i)) := by
  intro pins s σ H D I h
  rw [exec_Assign_Name_used _ _ _ _ hsw]
  refine wpAny_bind (wpAny_standAt (wpAny_bind ?_))
  show wpAny _ X.A (do let _ ← comprehension (.ListComp elt [⟨tg, iter, ifs, 0⟩] scope pos) scope X.env _ (newList []) false (eval iter X.env) (some (assign (.Name x px) X.env))) _ _ s
  refine wpAny_bind (thn (comp_use (behOf := behList elt) hc S rfl hi acc_list (fun _ _ _ _ _ => clause_list) hg ht (fun cl s H ex l => pb_list (he cl s H ex)) hs hN hix hx hf pins s σ H D I h) fun _ s' hq => ?_)
  exact wpAny_pure (wpAny_pure hq)
def behNext (e iter2 : Expr) (d : Nat) (acc : Value) (env : Env) : Sem Unit := do
  let x ← eval iter2 env
  standAt iter2.pos
  let x ← foldedSetIterable iter2 env x
  let _ ← runOwn (.compStart e d (← holding [x] (pyIter x)) acc env) env
def bNext (wi2 : TI) (g2 : TG) (tts2 : List TT) (B : TB) : TB := fun σ H Q => wi2 σ H fun J H1 => LoopT J g2 (tAll tts2) B σ H1 Q
theorem pb_next {e : Expr} {d : Nat} {acc : Value} {beh : Sem Unit} {B : TB} (hxe : X.xe = fun _ _ => False) (hc : X.calm = true) (C : ClauseAt X e d acc tg2 iter2 ifs2 beh) (hi : PI X tg2 iter2 wi2) (hg : PG X tg2 g2) (ht : PTs X ifs2 tts2) (hb : PB X beh B)
    (hs : ∀ x, foldedSetIterable iter2 X.env x = pure x) : PB X (behNext e iter2 d acc X.env) (bNext wi2 g2 tts2 B) := by
  intro pins s σ H Q I h
  refine wpAny_bind (thn (hi pins s σ H _ I h) fun v s1 q1 => wpAny_bind (wpAny_standAt (wpAny_bind (wpAny_of_eq (hs v) (wpAny_bind (wpAny_holding (thn q1 fun itv s2 q2 => ?_)))))))
  obtain ⟨it, fp, tn, J, H2, rfl, I2, T, st2, f2, q⟩ := q2
  have L := comp_loop hxe hc C T hg ht hb I2 st2 f2 q
  refine wpAny_bind (wpAny_runOwn ?_)
  refine codeAny_mono (C.start (.ref it) (CompR X pins Q) s2 L (T.self _ 0 _ _ _ st2 L)) fun r s' hr => ?_
  cases r with
  | error x => exact (show False from hr).elim
  | ok f => exact wpAny_pure hr
theorem start_list {elt : Expr} {gens : List Comprehension} {scope : Scope} {pos : Pos} {acc : Value} {d : Nat} {tg iter : Expr} {ifs : List Expr} (hd : gens[d]? = some ⟨tg, iter, ifs, 0⟩) (it : Value) (R : Result → Shared → Prop) (s : Shared)
    (h0 : codeAny (model X.prog X.w) X.A (.compLoop (.ListComp elt gens scope pos) d it acc X.env) R s)
    (h : wpAny (model X.prog X.w) X.A (pyIter it) (fun it' s' => codeAny (model X.prog X.w) X.A (.compLoop (.ListComp elt gens scope pos) d it' acc X.env) R s') (fun _ _ => False) s) :
    codeAny (model X.prog X.w) X.A (.compStart (.ListComp elt gens scope pos) d it acc X.env) R s := by
  refine codeAny_of_tree ?_
  show wpAny _ X.A ((compStart (.ListComp elt gens scope pos) d it acc X.env).onRaise (fun x => do noteFrame x X.env; standAt theWindowsPlace)) _ _ s
  refine wpAny_notedAt ?_
  unfold compStart
  have e1 : (clausesOf (.ListComp elt gens scope pos))[d]? = some ⟨tg, iter, ifs, 0⟩ := hd
  rw [e1]
  show wpAny _ _ (ask >>= _) _ _ s
  refine wpAny_bind (wpAny_askSetting (wpAny_ite ?_))
  have h' : wpAny (model X.prog X.w) X.A (pyIter it) (fun it' s' => codeAny (model X.prog X.w) X.A (.compLoop (.ListComp elt gens scope pos) d it' acc X.env) R s') (notedBy (model X.prog X.w) X.A X.env fun x s' => R (.error x) s') s := wpAny_mono h (fun _ _ z => z) fun _ _ z => z.elim
  split
  · first
      | exact wpAny_bind (wpAny_pure (wpAny_pure (And.intro rfl h0)))
      | exact wpAny_pure (And.intro rfl h0)
  · first
      | exact wpAny_bind (wpAny_rule (wpAny_bind (wpAny_standAt (wpAny_bind (wpAny_mono h' (fun it' s' h' => wpAny_pure (And.intro rfl h')) fun _ _ x => x)))))
      | (refine wpAny_bind (wpAny_rule ?_); show wpAny _ _ (standAt iter.pos >>= _) _ _ s; exact wpAny_bind (wpAny_standAt (wpAny_bind (wpAny_mono h' (fun it' s' h' => wpAny_pure (And.intro rfl h')) fun _ _ x => x))))
theorem clause_list20 {acc : Value} : ClauseAt X (.ListComp elt [⟨tg, iter, ifs, 0⟩, ⟨tg2, iter2, ifs2, 0⟩] scope pos) 0 acc tg iter ifs (behNext (.ListComp elt [⟨tg, iter, ifs, 0⟩, ⟨tg2, iter2, ifs2, 0⟩] scope pos) iter2 1 acc X.env) where
  quiet := fun _ => rfl
  under := fun _ => rfl
  den := fun _ => rfl
  turn := fun it => by
    have e : compTurn (.ListComp elt [⟨tg, iter, ifs, 0⟩, ⟨tg2, iter2, ifs2, 0⟩] scope pos) 0 it acc X.env = (do
      standAt iter.pos
      match ← pyNext it with
      | none => pure (.done .next)
      | some v =>
        letOwnedTupleGo tg it v
        assign tg X.env v
        let ok ← testsOf ifs X.env true
        if ok then
          let x ← eval iter2 X.env
          standAt iter2.pos
          let x ← foldedSetIterable iter2 X.env x
          let _ ← runOwn (.compStart (.ListComp elt [⟨tg, iter, ifs, 0⟩, ⟨tg2, iter2, ifs2, 0⟩] scope pos) 1 (← holding [x] (pyIter x)) acc X.env) X.env
        again (.compLoop (.ListComp elt [⟨tg, iter, ifs, 0⟩, ⟨tg2, iter2, ifs2, 0⟩] scope pos) 0 it acc X.env)) := rfl
    rw [e]
    unfold behNext
    simp only [bind_assoc, pure_bind]
    first
      | done
      | rfl
      | (congr 1; funext _; congr 1; funext r; cases r <;> rfl)
  start := fun it R s => start_list rfl it R s
theorem clause_list21 {acc : Value} : ClauseAt X (.ListComp elt [⟨tg, iter, ifs, 0⟩, ⟨tg2, iter2, ifs2, 0⟩] scope pos) 1 acc tg2 iter2 ifs2 (behList elt acc X.env) where
  quiet := fun _ => rfl
  under := fun _ => rfl
  den := fun _ => rfl
  turn := fun _ => rfl
  start := fun it R s => start_list rfl it R s
theorem pe_lc2 (own : List Str) (cap : List Nat) (hc : X.calm = true) (S : CompScope X own cap scope) (hi : PI X tg iter wi) (hg : ∀ cl s H ex, PG (compCx X own cap scope cl s H ex) tg g)
    (ht : ∀ cl s H ex, PTs (compCx X own cap scope cl s H ex) ifs tts) (hi2 : ∀ cl s H ex, PI (compCx X own cap scope cl s H ex) tg2 iter2 wi2) (hg2 : ∀ cl s H ex, PG (compCx X own cap scope cl s H ex) tg2 g2)
    (ht2 : ∀ cl s H ex, PTs (compCx X own cap scope cl s H ex) ifs2 tts2) (he : ∀ cl s H ex, PE (compCx X own cap scope cl s H ex) elt te) (hs : ∀ x, foldedSetIterable iter X.env x = pure x := by intro _; rfl)
    (hs2 : ∀ cl s H ex x, foldedSetIterable iter2 (compCx X own cap scope cl s H ex).env x = pure x := by intros; rfl) :
    PE X (.ListComp elt [⟨tg, iter, ifs, 0⟩, ⟨tg2, iter2, ifs2, 0⟩] scope pos) (tComp own cap (.lst []) wi g tts fun l => bNext wi2 g2 tts2 (eApp te l)) := by
  intro pins s σ H Q I h
  exact comp_val (behOf := behNext (.ListComp elt [⟨tg, iter, ifs, 0⟩, ⟨tg2, iter2, ifs2, 0⟩] scope pos) iter2 1) hc S rfl hi acc_list (fun _ _ _ _ _ => clause_list20) hg ht
    (fun cl s H ex l => pb_next rfl hc clause_list21 (hi2 cl s H ex) (hg2 cl s H ex) (ht2 cl s H ex) (pb_list (he cl s H ex)) (hs2 cl s H ex)) hs pins s σ H Q I h
end
end L2
set_option maxRecDepth 100000
set_option maxHeartbeats 4000000
namespace Srt
open PySem PySem.W PyProof.Rows
def run {α : Type} (lt : Nat → Nat → Bool) : KasT α → α
  | .ret a => a
  | .ask i j k => run lt (k (lt i j))
theorem run_bind {α β : Type} (lt : Nat → Nat → Bool) (f : α → KasT β) : ∀ t : KasT α, run lt (t.bind f) = run lt (f (run lt t))
  | .ret _ => rfl
  | .ask i j k => run_bind lt f (k (lt i j))
theorem wp_run {α : Type} {lt : Nat → Nat → Bool} {cmp : Nat → Nat → (Bool → Shared → Prop) → Shared → Prop} {s : Shared} {Q : α → Shared → Prop} (h : ∀ i j C, C (lt i j) s → cmp i j C s) : ∀ t : KasT α, Q (run lt t) s → t.kasWp cmp Q s
  | .ret _, q => q
  | .ask i j k, q => h i j _ (wp_run h (k (lt i j)) q)
section
variable (lt : Nat → Nat → Bool)
structure Ord : Prop where
  asym : ∀ a b, lt a b = true → lt b a = false
  trans : ∀ a b c, lt b a = false → lt c b = false → lt c a = false
abbrev at' (p : Array Nat) (i : Nat) : Nat := p.getD i 0
def Up (p : Array Nat) (k : Nat) : Prop := ∀ i j, i ≤ j → j < k → lt (at' p j) (at' p i) = false
def Dn (p : Array Nat) (k : Nat) : Prop := ∀ i j, i ≤ j → j < k → lt (at' p i) (at' p j) = false
def Eqs (p : Array Nat) (a b : Nat) : Prop := ∀ i j, a ≤ i → i < b → a ≤ j → j < b → lt (at' p i) (at' p j) = false
end
variable {lt : Nat → Nat → Bool}
theorem Ord.irr (O : Ord lt) (a : Nat) : lt a a = false := by
  cases h : lt a a with
  | false => rfl
  | true => rw [← h]; exact (O.asym a a h)
theorem at_eq {p q : Array Nat} {i j : Nat} (h : p[i]? = q[j]?) : at' p i = at' q j := by
  unfold at'
  rw [Array.getD_eq_getD_getElem?, Array.getD_eq_getD_getElem?, h]
theorem at_rev {p : Array Nat} {i j : Nat} (hj : j ≤ p.size) (k : Nat) : at' (kas_rev p i j) k = if i ≤ k ∧ k < j then at' p (i + j - 1 - k) else at' p k := by
  have h := getElem?_mirror_all (i := i) hj k
  by_cases c : i ≤ k ∧ k < j
  · rw [if_pos c] at h ⊢; exact at_eq h
  · rw [if_neg c] at h ⊢; exact at_eq h
theorem at_bub {p : Array Nat} {k l : Nat} (hk : k < p.size) (hl : l ≤ k) (i : Nat) : at' (bubble p k (k - l)) i = if i = l then at' p k else if l < i ∧ i ≤ k then at' p (i - 1) else at' p i := by
  have h := getElem?_bubble hk (k - l) (by omega) i
  have e : k - (k - l) = l := by omega
  rw [e] at h
  by_cases c : i = l
  · rw [if_pos c] at h ⊢; exact at_eq h
  · rw [if_neg c] at h ⊢
    by_cases d : l < i ∧ i ≤ k
    · rw [if_pos d] at h ⊢; exact at_eq h
    · rw [if_neg d] at h ⊢; exact at_eq h
theorem Up.snoc (O : Ord lt) {p : Array Nat} {n : Nat} (h1 : 1 ≤ n) (u : Up lt p n) (h : lt (at' p n) (at' p (n - 1)) = false) : Up lt p (n + 1) := by
  intro i j hij hj
  by_cases e : j = n
  · subst e
    by_cases e2 : i = j
    · subst e2; exact O.irr _
    · exact O.trans _ (at' p (j - 1)) _ (u i (j - 1) (by omega) (by omega)) h
  · exact u i j hij (by omega)
theorem Dn.snoc (O : Ord lt) {p : Array Nat} {n : Nat} (h1 : 1 ≤ n) (u : Dn lt p n) (h : lt (at' p (n - 1)) (at' p n) = false) : Dn lt p (n + 1) := by
  intro i j hij hj
  by_cases e : j = n
  · subst e
    by_cases e2 : i = j
    · subst e2; exact O.irr _
    · exact O.trans _ (at' p (j - 1)) _ h (u i (j - 1) (by omega) (by omega))
  · exact u i j hij (by omega)
theorem asc_ok (O : Ord lt) (p : Array Nat) : ∀ (f n : Nat), 1 ≤ n → Up lt p n → n ≤ run lt (kas_asc p f n) ∧ run lt (kas_asc p f n) ≤ n + f ∧ Up lt p (run lt (kas_asc p f n)) ∧
    (run lt (kas_asc p f n) < n + f → lt (at' p (run lt (kas_asc p f n))) (at' p (run lt (kas_asc p f n) - 1)) = true)
  | 0, n, h1, u => ⟨Nat.le_refl _, Nat.le_refl _, u, fun h => absurd h (Nat.lt_irrefl _)⟩
  | f + 1, n, h1, u => by
    have e0 : run lt (kas_asc p (f + 1) n) = if lt (at' p n) (at' p (n - 1)) = true then n else run lt (kas_asc p f (n + 1)) := by
      show run lt (if lt (at' p n) (at' p (n - 1)) = true then KasT.ret n else kas_asc p f (n + 1)) = _
      cases lt (at' p n) (at' p (n - 1)) <;> rfl
    rw [e0]
    cases c : lt (at' p n) (at' p (n - 1)) with
    | true =>
      simp only [if_true]
      exact ⟨Nat.le_refl _, by omega, u, fun _ => c⟩
    | false =>
      simp only [Bool.false_eq_true, if_false]
      obtain ⟨a, b, d, e⟩ := asc_ok O p f (n + 1) (by omega) (u.snoc O h1 c)
      exact ⟨by omega, by omega, d, fun h => e (by omega)⟩
theorem rev_perm (p : Array Nat) (i j : Nat) : (kas_rev p i j).Perm p := mirror_perm _ _ _ _
theorem rev_size (p : Array Nat) (i j : Nat) : (kas_rev p i j).size = p.size := mirror_size _ _ _ _
theorem Dn.revEq (O : Ord lt) {p : Array Nat} {a n : Nat} (hn : n ≤ p.size) (ha : a ≤ n) (u : Dn lt p n) (e : Eqs lt p a n) : Dn lt (kas_rev p a n) n := by
  intro i j hij hj
  rw [at_rev hn, at_rev hn]
  by_cases ci : a ≤ i ∧ i < n
  · by_cases cj : a ≤ j ∧ j < n
    · rw [if_pos ci, if_pos cj]; exact e _ _ (by omega) (by omega) (by omega) (by omega)
    · omega
  · by_cases cj : a ≤ j ∧ j < n
    · rw [if_neg ci, if_pos cj]; exact u _ _ (by omega) (by omega)
    · rw [if_neg ci, if_neg cj]; exact u _ _ hij hj
theorem desc_ok (O : Ord lt) : ∀ (f : Nat) (p : Array Nat) (n q : Nat), q + 1 ≤ n → n + f ≤ p.size → Dn lt p n → Eqs lt p (n - (q + 1)) n →
    ∃ p' n' q', run lt (kas_desc f p n q) = (p', n', q') ∧ p'.Perm p ∧ p'.size = p.size ∧ n ≤ n' ∧ n' ≤ n + f ∧ q' + 1 ≤ n' ∧ Dn lt p' n' ∧ Eqs lt p' (n' - (q' + 1)) n'
  | 0, p, n, q, h1, h2, u, e => ⟨p, n, q, rfl, Array.Perm.refl _, rfl, Nat.le_refl _, Nat.le_refl _, h1, u, e⟩
  | f + 1, p, n, q, h1, h2, u, e => by
    unfold kas_desc
    show ∃ p' n' q', run lt (if lt (at' p n) (at' p (n - 1)) = true then _ else _) = _ ∧ _
    cases c : lt (at' p n) (at' p (n - 1)) with
    | true =>
      simp only [if_true]
      by_cases hq : q > 0
      · rw [if_pos hq]
        have u1 : Dn lt (kas_rev p (n - (q + 1)) n) n := u.revEq O (by omega) (by omega) e
        have ez : at' (kas_rev p (n - (q + 1)) n) n = at' p n := by rw [at_rev (by omega), if_neg (by omega)]
        have ey : at' (kas_rev p (n - (q + 1)) n) (n - 1) = at' p (n - (q + 1)) := by
          rw [at_rev (by omega), if_pos (by omega)]; congr 1; omega
        have u2 : Dn lt (kas_rev p (n - (q + 1)) n) (n + 1) := u1.snoc O (by omega) (by
          rw [ez, ey]
          exact O.trans _ (at' p (n - 1)) _ (O.asym _ _ c) (e _ _ (by omega) (by omega) (by omega) (by omega)))
        obtain ⟨p', n', q', r, a1, a2, a3, a4, a5, a6, a7⟩ := desc_ok O f (kas_rev p (n - (q + 1)) n) (n + 1) 0 (by omega) (by rw [rev_size]; omega) u2 (fun i j _ _ _ _ => by
          have : i = j := by omega
          subst this; exact O.irr _)
        exact ⟨p', n', q', r, a1.trans (rev_perm _ _ _), a2.trans (rev_size _ _ _), by omega, by omega, a5, a6, a7⟩
      · rw [if_neg hq]
        obtain ⟨p', n', q', r, a1, a2, a3, a4, a5, a6, a7⟩ := desc_ok O f p (n + 1) 0 (by omega) (by omega) (u.snoc O (by omega) (O.asym _ _ c)) (fun i j _ _ _ _ => by
          have : i = j := by omega
          subst this; exact O.irr _)
        exact ⟨p', n', q', r, a1, a2, by omega, by omega, a5, a6, a7⟩
    | false =>
      simp only [Bool.false_eq_true, if_false]
      show ∃ p' n' q', run lt (if lt (at' p (n - 1)) (at' p n) = true then _ else _) = _ ∧ _
      cases d : lt (at' p (n - 1)) (at' p n) with
      | true =>
        simp only [if_true]
        exact ⟨p, n, q, rfl, Array.Perm.refl _, rfl, Nat.le_refl _, by omega, h1, u, e⟩
      | false =>
        simp only [Bool.false_eq_true, if_false]
        obtain ⟨p', n', q', r, a1, a2, a3, a4, a5, a6, a7⟩ := desc_ok O f p (n + 1) (q + 1) (by omega) (by omega) (u.snoc O (by omega) d) (fun i j hi hi2 hj hj2 => by
          have key : ∀ k, n + 1 - (q + 1 + 1) ≤ k → k < n + 1 → lt (at' p k) (at' p (n - 1)) = false ∧ lt (at' p (n - 1)) (at' p k) = false := by
            intro k k1 k2
            by_cases ek : k = n
            · subst ek; exact ⟨c, d⟩
            · exact ⟨e _ _ (by omega) (by omega) (by omega) (by omega), e _ _ (by omega) (by omega) (by omega) (by omega)⟩
          exact O.trans _ (at' p (n - 1)) _ (key j hj hj2).2 (key i hi hi2).1)
        exact ⟨p', n', q', r, a1, a2, by omega, by omega, a5, a6, a7⟩
theorem Dn.rev {p : Array Nat} {n : Nat} (hn : n ≤ p.size) (u : Dn lt p n) : Up lt (kas_rev p 0 n) n := by
  intro i j hij hj
  rw [at_rev hn, at_rev hn, if_pos (by omega), if_pos (by omega)]
  exact u _ _ (by omega) (by omega)
theorem tail3_ok (O : Ord lt) {p : Array Nat} {n nrem : Nat} (h1 : 1 ≤ n) (hn : n ≤ nrem) (hz : nrem ≤ p.size) (u : Dn lt p n) :
    ∃ m p', run lt (kas_tail3 n nrem p) = (m, p') ∧ p'.Perm p ∧ p'.size = p.size ∧ 1 ≤ m ∧ m ≤ nrem ∧ Up lt p' m := by
  obtain ⟨a, b, d, _⟩ := asc_ok O (kas_rev p 0 n) (nrem - n) n h1 (u.rev (by omega))
  refine ⟨_, _, run_bind lt _ _, rev_perm _ _ _, rev_size _ _ _, by omega, by omega, d⟩
theorem descPart_ok (O : Ord lt) {p : Array Nat} {n nrem : Nat} (h1 : 1 ≤ n) (hn : n + 1 ≤ nrem) (hz : nrem ≤ p.size) (u : Dn lt p (n + 1)) :
    ∃ m p', run lt (kas_descPart n nrem p) = (m, p') ∧ p'.Perm p ∧ p'.size = p.size ∧ 1 ≤ m ∧ m ≤ nrem ∧ Up lt p' m := by
  obtain ⟨p', n', q', r, a1, a2, a3, a4, a5, a6, a7⟩ := desc_ok O (nrem - (n + 1)) p (n + 1) 0 (by omega) (by omega) u (fun i j _ _ _ _ => by
    have : i = j := by omega
    subst this; exact O.irr _)
  unfold kas_descPart
  rw [run_bind, r]
  dsimp only
  by_cases hq : q' > 0
  · rw [if_pos hq]
    obtain ⟨m, p2, e, b1, b2, b3, b4, b5⟩ := tail3_ok O (p := kas_rev p' (n' - (q' + 1)) n') (n := n') (nrem := nrem) (by omega) (by omega) (by rw [rev_size]; omega) (a6.revEq O (by omega) (by omega) a7)
    exact ⟨m, p2, e, (b1.trans (rev_perm _ _ _)).trans a1, by rw [b2, rev_size]; omega, b3, b4, b5⟩
  · rw [if_neg hq]
    obtain ⟨m, p2, e, b1, b2, b3, b4, b5⟩ := tail3_ok O (p := p') (n := n') (nrem := nrem) (by omega) (by omega) (by omega) a6
    exact ⟨m, p2, e, b1.trans a1, by rw [b2]; omega, b3, b4, b5⟩
theorem count_ok (O : Ord lt) {p : Array Nat} {nrem : Nat} (h1 : 1 ≤ nrem) (hz : nrem ≤ p.size) :
    ∃ m p', run lt (kas_count nrem p) = (m, p') ∧ p'.Perm p ∧ p'.size = p.size ∧ 1 ≤ m ∧ m ≤ nrem ∧ Up lt p' m := by
  obtain ⟨a, b, d, e⟩ := asc_ok O p (nrem - 1) 1 (by omega) (fun i j hij hj => by
    have : i = j := by omega
    subst this; exact O.irr _)
  unfold kas_count
  rw [run_bind]
  generalize hn : run lt (kas_asc p (nrem - 1) 1) = n at a b d e
  by_cases c : n = nrem
  · rw [if_pos (by simp [c])]
    exact ⟨n, p, rfl, Array.Perm.refl _, rfl, a, by omega, d⟩
  · rw [if_neg (by simp [c])]
    have hlt := e (by omega)
    by_cases c2 : n > 1
    · rw [if_pos c2]
      show ∃ m p', run lt (if lt (at' p 0) (at' p (n - 1)) = true then _ else _) = _ ∧ _
      cases f : lt (at' p 0) (at' p (n - 1)) with
      | true =>
        simp only [if_true]
        exact ⟨n, p, rfl, Array.Perm.refl _, rfl, a, by omega, d⟩
      | false =>
        simp only [Bool.false_eq_true, if_false]
        have all : ∀ i j, i < n → j < n → lt (at' p i) (at' p j) = false := by
          intro i j hi hj
          have x1 : lt (at' p (n - 1)) (at' p j) = false := d j (n - 1) (by omega) (by omega)
          have x2 : lt (at' p i) (at' p 0) = false := d 0 i (by omega) hi
          exact O.trans _ (at' p 0) _ (O.trans _ (at' p (n - 1)) _ x1 f) x2
        have u : Dn lt (kas_rev p 0 n) (n + 1) := by
          intro i j hij hj
          rw [at_rev (by omega), at_rev (by omega)]
          by_cases ej : j = n
          · subst ej
            rw [if_neg (show ¬ (0 ≤ j ∧ j < j) by omega)]
            by_cases ei : i = j
            · subst ei; rw [if_neg (by omega)]; exact O.irr _
            · rw [if_pos (by omega)]
              exact O.trans _ (at' p (j - 1)) _ (O.asym _ _ hlt) (all _ _ (by omega) (by omega))
          · rw [if_pos (by omega), if_pos (by omega)]
            exact all _ _ (by omega) (by omega)
        obtain ⟨m, p2, e2, b1, b2, b3, b4, b5⟩ := descPart_ok O (p := kas_rev p 0 n) (n := n) (nrem := nrem) a (by omega) (by rw [rev_size]; omega) u
        exact ⟨m, p2, e2, b1.trans (rev_perm _ _ _), by rw [b2, rev_size], b3, b4, b5⟩
    · rw [if_neg c2]
      have en : n = 1 := by omega
      subst en
      have u : Dn lt p (1 + 1) := by
        intro i j hij hj
        by_cases ei : i = j
        · subst ei; exact O.irr _
        · have e1 : i = 0 := by omega
          have e2 : j = 1 := by omega
          subst e1; subst e2
          exact O.asym _ _ hlt
      exact descPart_ok O (by omega) (by omega) hz u
theorem place_ok (O : Ord lt) {p : Array Nat} {k : Nat} (u : Up lt p k) : ∀ (f l r : Nat), l ≤ r → r ≤ k → r - l ≤ f → (∀ i, i < l → lt (at' p k) (at' p i) = false) → (∀ i, r ≤ i → i < k → lt (at' p k) (at' p i) = true) →
    ∃ m, run lt (kas_place p k f l r) = m ∧ m ≤ k ∧ (∀ i, i < m → lt (at' p k) (at' p i) = false) ∧ ∀ i, m ≤ i → i < k → lt (at' p k) (at' p i) = true
  | 0, l, r, h1, h2, h3, a, b => ⟨l, rfl, by omega, a, fun i hi => b i (by omega)⟩
  | f + 1, l, r, h1, h2, h3, a, b => by
    unfold kas_place
    by_cases c : l ≥ r
    · rw [if_pos c]
      exact ⟨l, rfl, by omega, a, fun i hi => b i (by omega)⟩
    · rw [if_neg c]
      show ∃ m, run lt (if lt (at' p k) (at' p ((l + r) / 2)) = true then _ else _) = m ∧ _
      cases d : lt (at' p k) (at' p ((l + r) / 2)) with
      | true =>
        simp only [if_true]
        refine place_ok O u f l ((l + r) / 2) (by omega) (by omega) (by omega) a fun i hi hk => ?_
        by_cases hr : r ≤ i
        · exact b i hr hk
        · cases z : lt (at' p k) (at' p i) with
          | true => rfl
          | false =>
            have x := u ((l + r) / 2) i hi hk
            have := O.trans _ _ _ x z
            rw [d] at this; cases this
      | false =>
        simp only [Bool.false_eq_true, if_false]
        refine place_ok O u f ((l + r) / 2 + 1) r (by omega) (by omega) (by omega) (fun i hi => ?_) b
        by_cases hl : i < l
        · exact a i hl
        · exact O.trans _ _ _ (u i ((l + r) / 2) (by omega) (by omega)) d
theorem bub_up (O : Ord lt) {p : Array Nat} {k l : Nat} (hk : k < p.size) (hl : l ≤ k) (u : Up lt p k) (a : ∀ i, i < l → lt (at' p k) (at' p i) = false) (b : ∀ i, l ≤ i → i < k → lt (at' p k) (at' p i) = true) : Up lt (bubble p k (k - l)) (k + 1) := by
  intro i j hij hj
  rw [at_bub hk hl, at_bub hk hl]
  by_cases ei : i = l
  · rw [if_pos ei]
    by_cases ej : j = l
    · rw [if_pos ej]; exact O.irr _
    · rw [if_neg ej, if_pos (by omega)]
      exact O.asym _ _ (b _ (by omega) (by omega))
  · rw [if_neg ei]
    by_cases ej : j = l
    · rw [if_pos ej, if_neg (by omega)]; exact a i (by omega)
    · rw [if_neg ej]
      by_cases ci : l < i ∧ i ≤ k
      · rw [if_pos ci, if_pos (by omega)]; exact u _ _ (by omega) (by omega)
      · rw [if_neg ci]
        by_cases cj : l < j ∧ j ≤ k
        · rw [if_pos cj]; exact u _ _ (by omega) (by omega)
        · rw [if_neg cj]; exact u _ _ hij (by omega)
theorem bin_ok (O : Ord lt) : ∀ (f : Nat) (p : Array Nat) (k : Nat), k + f = p.size → Up lt p k → ∃ p', run lt (kas_bin f p k) = p' ∧ p'.Perm p ∧ p'.size = p.size ∧ Up lt p' p.size
  | 0, p, k, h, u => ⟨p, rfl, Array.Perm.refl _, rfl, by rw [← h]; exact u⟩
  | f + 1, p, k, h, u => by
    unfold kas_bin
    rw [run_bind]
    obtain ⟨m, e, h1, a, b⟩ := place_ok O u k 0 k (by omega) (by omega) (by omega) (fun i hi => absurd hi (by omega)) (fun i hi hk => absurd hk (by omega))
    rw [e]
    obtain ⟨p', e', b1, b2, b3⟩ := bin_ok O f (bubble p k (k - m)) (k + 1) (by rw [bubble_size]; omega) (bub_up O (by omega) h1 u a b)
    exact ⟨p', e', b1.trans (bubble_perm _ _ _), by rw [b2, bubble_size], by rw [bubble_size] at b3; exact b3⟩
theorem sort_ok (O : Ord lt) {n : Nat} (h1 : 1 ≤ n) : ∃ p, run lt (kas_sort n) = p ∧ p.Perm (List.toArray (List.range n)) ∧ p.size = n ∧ Up lt p n := by
  obtain ⟨m, p, e, a1, a2, a3, a4, a5⟩ := count_ok O (p := List.toArray (List.range n)) (nrem := n) h1 (by simp)
  have hz : p.size = n := by rw [a2]; simp
  unfold kas_sort
  rw [run_bind, e]
  dsimp only
  by_cases c : m < n
  · rw [if_pos c]
    have em : max m 1 = m := by omega
    rw [em]
    obtain ⟨p', e', b1, b2, b3⟩ := bin_ok O (n - m) p m (by omega) a5
    exact ⟨p', e', b1.trans a1, by omega, by rw [hz] at b3; exact b3⟩
  · rw [if_neg c]
    have : m = n := by omega
    subst this
    exact ⟨p, rfl, a1, hz, a5⟩
end Srt
set_option maxRecDepth 100000
set_option maxHeartbeats 4000000
namespace Srt
open PySem PySem.W PyProof.Rows
def Asks {α : Type} (n : Nat) : KasT α → Prop
  | .ret _ => True
  | .ask i j k => i < n ∧ j < n ∧ ∀ b, Asks n (k b)
def Ends' {α : Type} (n : Nat) (P : α → Prop) : KasT α → Prop
  | .ret a => P a
  | .ask i j k => i < n ∧ j < n ∧ ∀ b, Ends' n P (k b)
theorem ends_bind {α β : Type} {n : Nat} {P : α → Prop} {R : β → Prop} {f : α → KasT β} (hf : ∀ a, P a → Ends' n R (f a)) : ∀ {t : KasT α}, Ends' n P t → Ends' n R (t.bind f)
  | .ret a, h => hf a h
  | .ask _ _ k, ⟨h1, h2, h3⟩ => ⟨h1, h2, fun b => ends_bind hf (h3 b)⟩
theorem ends_mono {α : Type} {n : Nat} {P R : α → Prop} (hp : ∀ a, P a → R a) : ∀ {t : KasT α}, Ends' n P t → Ends' n R t
  | .ret a, h => hp a h
  | .ask _ _ k, ⟨h1, h2, h3⟩ => ⟨h1, h2, fun b => ends_mono hp (h3 b)⟩
def Bd (n : Nat) (p : Array Nat) : Prop := ∀ i, at' p i < n
theorem Bd.of {n : Nat} {p q : Array Nat} (h0 : 0 < n) (h : q.Perm p) (hb : ∀ x ∈ p, x < n) : Bd n q ∧ ∀ x ∈ q, x < n := by
  have hq : ∀ x ∈ q, x < n := fun x hx => hb x ((Array.Perm.mem_iff h).mp hx)
  refine ⟨fun i => ?_, hq⟩
  unfold at'
  rw [Array.getD_eq_getD_getElem?]
  cases e : q[i]? with
  | none => exact h0
  | some x => exact hq x (Array.mem_of_getElem? e)
section
variable {n : Nat} (h0 : 0 < n)
abbrev Ok (n : Nat) (p : Array Nat) : Prop := Bd n p ∧ ∀ x ∈ p, x < n
include h0
theorem Ok.perm {p q : Array Nat} (h : Ok n p) (hp : q.Perm p) : Ok n q := Bd.of h0 hp h.2
theorem asc_ends {p : Array Nat} (hp : Ok n p) : ∀ (f k : Nat), Ends' n (fun _ => True) (kas_asc p f k)
  | 0, _ => trivial
  | f + 1, k => ⟨hp.1 _, hp.1 _, fun b => by
    cases b with
    | true => exact trivial
    | false => exact asc_ends hp f (k + 1)⟩
theorem desc_ends : ∀ (f : Nat) (p : Array Nat) (k q : Nat), Ok n p → Ends' n (fun r => Ok n r.1) (kas_desc f p k q)
  | 0, p, _, _, hp => hp
  | f + 1, p, k, q, hp => ⟨hp.1 _, hp.1 _, fun b => by
    cases b with
    | true =>
      show Ends' n _ (if q > 0 then _ else _)
      by_cases c : q > 0
      · rw [if_pos c]; exact desc_ends f _ _ _ (hp.perm h0 (rev_perm _ _ _))
      · rw [if_neg c]; exact desc_ends f _ _ _ hp
    | false =>
      refine ⟨hp.1 _, hp.1 _, fun d => ?_⟩
      cases d with
      | true => exact hp
      | false => exact desc_ends f _ _ _ hp⟩
theorem tail3_ends {p : Array Nat} (hp : Ok n p) (k m : Nat) : Ends' n (fun r => Ok n r.2) (kas_tail3 k m p) := by
  unfold kas_tail3
  refine ends_bind (P := fun _ => True) (fun a _ => ?_) (asc_ends h0 (hp.perm h0 (rev_perm _ _ _)) _ _)
  exact hp.perm h0 (rev_perm _ _ _)
theorem descPart_ends {p : Array Nat} (hp : Ok n p) (k m : Nat) : Ends' n (fun r => Ok n r.2) (kas_descPart k m p) := by
  unfold kas_descPart
  exact ends_bind (P := fun r => Ok n r.1) (fun a ha => by
    by_cases c : a.2.2 > 0
    · rw [if_pos c]; exact tail3_ends h0 (ha.perm h0 (rev_perm _ _ _)) _ _
    · rw [if_neg c]; exact tail3_ends h0 ha _ _) (desc_ends h0 _ _ _ _ hp)
theorem count_ends {p : Array Nat} (hp : Ok n p) (m : Nat) : Ends' n (fun r => Ok n r.2) (kas_count m p) := by
  unfold kas_count
  exact ends_bind (P := fun _ => True) (fun a _ => by
    by_cases c : (a == m) = true
    · rw [if_pos c]; exact hp
    · rw [if_neg c]
      by_cases c2 : a > 1
      · rw [if_pos c2]
        refine ⟨hp.1 _, hp.1 _, fun b => ?_⟩
        cases b with
        | true => exact hp
        | false => exact descPart_ends h0 (hp.perm h0 (rev_perm _ _ _)) _ _
      · rw [if_neg c2]; exact descPart_ends h0 hp _ _) (asc_ends h0 hp _ _)
theorem place_ends {p : Array Nat} (hp : Ok n p) (k : Nat) : ∀ (f l r : Nat), Ends' n (fun _ => True) (kas_place p k f l r)
  | 0, _, _ => trivial
  | f + 1, l, r => by
    unfold kas_place
    by_cases c : l ≥ r
    · rw [if_pos c]; exact trivial
    · rw [if_neg c]
      refine ⟨hp.1 _, hp.1 _, fun b => ?_⟩
      cases b with
      | true => exact place_ends hp k f _ _
      | false => exact place_ends hp k f _ _
theorem bin_ends : ∀ (f : Nat) (p : Array Nat) (k : Nat), Ok n p → Ends' n (fun _ => True) (kas_bin f p k)
  | 0, _, _, _ => trivial
  | f + 1, p, k, hp => ends_bind (P := fun _ => True) (fun l _ => bin_ends f _ _ (hp.perm h0 (bubble_perm _ _ _))) (place_ends h0 hp k _ _ _)
theorem sort_ends : Ends' n (fun _ => True) (kas_sort n) := by
  have hp : Ok n (List.toArray (List.range n)) := Bd.of h0 (Array.Perm.refl _) (fun x hx => by simpa using hx)
  refine ends_bind (P := fun r => Ok n r.2) (fun a ha => ?_) (count_ends h0 hp n)
  by_cases c : a.1 < n
  · rw [if_pos c]; exact bin_ends h0 _ _ _ ha
  · rw [if_neg c]; exact trivial
end
theorem wp_run_in {α : Type} {n : Nat} {lt : Nat → Nat → Bool} {cmp : Nat → Nat → (Bool → Shared → Prop) → Shared → Prop} {s : Shared} {Q : α → Shared → Prop} {P : α → Prop} (h : ∀ i j C, i < n → j < n → C (lt i j) s → cmp i j C s) :
    ∀ t : KasT α, Ends' n P t → Q (run lt t) s → t.kasWp cmp Q s
  | .ret _, _, q => q
  | .ask i j k, e, q => h i j _ e.1 e.2.1 (wp_run_in h (k (lt i j)) (e.2.2 _) q)
end Srt
namespace L2
open PySem PySem.Spec PyProof.Rows
theorem HOk.gone {P : Program} {w : World} {H : Hp} {h : Heap} {D : Addr} (x : HOk P w H h) (hD : h.get? D = none) : H D = none := by
  cases q : H D with
  | none => rfl
  | some u =>
    have z : ∃ ob, h.get? D = some ob := by
      have := x D u q
      cases u with
      | lst xs => obtain ⟨_, _, _, _, e⟩ := this; exact ⟨_, e⟩
      | tup xs => obtain ⟨_, _, _, ob, e, _⟩ := this; exact ⟨_, e⟩
      | dK kvs => obtain ⟨_, _, _, _, o, _, _, e, _⟩ := this; exact ⟨_, e⟩
      | dT kvs => obtain ⟨_, _, _, _, o, _, _, e, _⟩ := this; exact ⟨_, e⟩
      | set S n => obtain ⟨o, _, _, _, e, _⟩ := this; exact ⟨_, e⟩
      | ins C dx fs => obtain ⟨_, _, _, e, _⟩ := this; exact ⟨_, e⟩
      | own y => obtain ⟨_, e⟩ := this; exact ⟨_, e⟩
      | xd fs => obtain ⟨_, ⟨_, _, _, e, _⟩, _⟩ := this; exact ⟨_, e⟩
      | rng lo hi => obtain ⟨_, _, _, e⟩ := this; exact ⟨_, e⟩
      | frz ob u => obtain ⟨e, _⟩ := this; exact ⟨_, e⟩
      | tbl ps => exact ⟨_, this⟩
      | met f y => exact ⟨_, this⟩
      | ext φ => obtain ⟨_, ⟨_, e⟩, _⟩ := this; exact ⟨_, e⟩
    obtain ⟨ob, z⟩ := z
    rw [hD] at z; cases z
theorem Inv.ledgerLaid {X : Cx} {pins : List (Addr × Obj)} {σ : St} {H : Hp} {s : Shared} {h' : Heap} {t' : Nat} {D : Addr} {o : HO} {m : Str → Option Value} (I : Inv X pins σ H s) (F : Fr X.base X.env.locals s.heap m) (F' : Fr X.base X.env.locals h' m)
    (N : News X.base X.env.locals h' (allNews X.base s.heap X.env.locals)) (hD : s.heap.get? D = none) (hDL : D ≠ X.env.locals) (new : ObjOk X.prog X.w (upd H D o) h' D o) : Inv X pins σ (upd H D o) { s with heap := h', toks := t' } := by
  have k : ∀ b u, b ≠ X.env.locals → s.heap.get? b = some u → h'.get? b = some u := fun b u hb e => by
    cases q : X.base.get? b with
    | some v =>
      have := I.bk b v q
      rw [e] at this; cases this
      exact F'.keep b _ q
    | none => exact (N (b, u) (mem_allNews hb q e)).1
  have hn : H D = none := I.hok.gone hD
  have neD : ∀ b u, s.heap.get? b = some u → b ≠ D := fun b u e z => by rw [z, hD] at e; cases e
  refine I.step (g' := s.gens) (d' := s.drawn) (ch := []) (fun _ z => nomatch z) (fun b u hb _ _ e _ => k b u hb e) (fun b u hb _ _ e _ => ⟨u.slots, k b u hb e⟩) (fun b u _ e n => by rw [upd_ne (neD b u e)]; exact n)
    (fun b u _ e => ?_) (fun b xs e => by rw [upd_ne (ne_of_none e hn)]; exact e) (fun b ob xs e => by rw [upd_ne (ne_of_none e hn)]; exact e) (fun b ps e => ⟨#[], by rw [upd_ne (ne_of_none e hn), e]; simp⟩) (fun m' hm => ?_) (fun b u e => ?_) I.bare
  · by_cases hb : b = X.env.locals
    · obtain ⟨oL, _, _, hL, _⟩ := F'.ns
      exact ⟨oL, by rw [hb]; exact hL⟩
    · exact ⟨u, k b u hb e⟩
  · have : m' = m := by
      obtain ⟨o1, es1, ep1, e1, d1, _, f1⟩ := hm
      obtain ⟨o2, es2, ep2, e2, d2, _, f2⟩ := F.ns
      rw [e1] at e2; cases e2
      rw [d1] at d2; cases d2
      funext x; rw [← f1, ← f2]
    rw [this]; exact F'.ns
  · by_cases hb : b = D
    · subst hb; rw [upd_same] at e; cases e; exact new
    · rw [upd_ne hb] at e
      refine (I.hok b u e).stay (fun c v hc q => k c v ?_ q) (fun c q => by rw [upd_ne (ne_of_none q hn)]; exact q) fun c xs q => by rw [upd_ne (ne_of_none q hn)]; exact q
      intro z
      rcases hc with y | y
      · rw [← y, z, I.free] at e; cases e
      · rw [z, I.free] at y; cases y
section
variable {X : Cx}
def rSortI (K : PySem.W.Frag) : List V → Hp → VK → Prop := fun xs H Q => ∃ (a : Addr) (ns : List Int), xs = [.ref a] ∧ SqL K H a (ns.map V.int) ∧ ns.length < 64 ∧ ∀ (l : Addr) (ns' : List Int), H l = none → ns'.Perm ns → ns'.Pairwise (· ≤ ·) → Q (.ref l) (upd H l (.lst (ns'.map V.int)))
theorem call_sortI : CallR X (.builtin "sorted") (rSortI X.K) := by
  intro pins s σ H xs us Q I r h
  obtain ⟨a, ns, rfl, hq, hz, q⟩ := h
  obtain ⟨u, rfl, ru⟩ := vals1 r
  cases ru
  obtain ⟨its, rv, pl, _⟩ := I.list hq
  have hl := rv.length
  rw [List.length_map] at hl
  refine sorted_ints pl.isList (intsAre_of rv) (by omega) fun out ns' a1 a2 a3 => ?_
  obtain ⟨e, he⟩ := sortedAll_at s.heap its out
  have hlen := a2.length_eq
  have hn : H (s.heap.objs.size + 1) = none := I.hok.fresh (Nat.le_succ _)
  have rv' : Vals (ns'.map V.int) out.toList := vals_ints a1
  refine ⟨.ref (s.heap.objs.size + 1), _, I.laid (t' := s.toks) (o := .lst (ns'.map V.int)) (fun b u e => sortedAll_old e) (Nat.le_succ _) ⟨?_, out.toList, e, rv', by simpa using he⟩, rfl, q _ ns' hn a2 a3⟩
  rw [List.length_map, sizeLine_eq]; omega
end
end L2
set_option maxRecDepth 100000
set_option maxHeartbeats 4000000
namespace Srt
open PySem PySem.W PyProof.Rows
theorem lex_asym : ∀ a b : List Int, HT.lexLt a b = true → HT.lexLt b a = false
  | [], [], h => by simp [HT.lexLt] at h
  | [], _ :: _, _ => rfl
  | _ :: _, [], h => by simp [HT.lexLt] at h
  | x :: xs, y :: ys, h => by
    rw [HT.lexLt_cons] at h ⊢
    by_cases e : x = y
    · subst e
      simp only [if_true] at h ⊢
      exact lex_asym xs ys h
    · rw [if_neg e] at h
      rw [if_neg (fun z => e z.symm)]
      have : x < y := of_decide_eq_true h
      exact decide_eq_false (by omega)
theorem lex_trans : ∀ a b c : List Int, HT.lexLt b a = false → HT.lexLt c b = false → HT.lexLt c a = false
  | a, [], [], h, _ => by cases a <;> first | rfl | exact h
  | [], _, _ :: _, _, _ => rfl
  | _, _ :: _, [], _, h => by simp [HT.lexLt] at h
  | _ :: _, [], _ :: _, h, _ => by simp [HT.lexLt] at h
  | x :: xs, y :: ys, z :: zs, h1, h2 => by
    rw [HT.lexLt_cons] at h1 h2 ⊢
    by_cases e1 : y = x
    · subst e1
      simp only [if_true] at h1
      by_cases e2 : z = y
      · subst e2
        simp only [if_true] at h2 ⊢
        exact lex_trans xs ys zs h1 h2
      · rw [if_neg e2] at h2 ⊢; exact h2
    · rw [if_neg e1] at h1
      have g1 : ¬ y < x := of_decide_eq_false h1
      by_cases e2 : z = y
      · subst e2
        rw [if_neg e1]; exact h1
      · rw [if_neg e2] at h2
        have g2 : ¬ z < y := of_decide_eq_false h2
        rw [if_neg (by omega)]
        exact decide_eq_false (by omega)
theorem lex_ord (ts : List (List Int)) : Ord (fun i j => HT.lexLt (ts.getD i []) (ts.getD j [])) := ⟨fun _ _ => lex_asym _ _, fun _ _ _ => lex_trans _ _ _⟩
theorem katlex {prog : Program} {w : World} {A : Around} {s : Shared} {Q : Bool → Shared → Prop} {fin : Bool} : ∀ {ns ms : List Int} {us ws : List Value} {i : Nat}, IntsAre us ns → IntsAre ws ms → fin = decide (ns.length < ms.length) → Q (HT.lexLt ns ms) s →
    KatLex prog w A true fin Q (us.zip ws) i s
  | [], [], _, _, _, .nil, .nil, hf, q => by subst hf; exact q
  | [], _ :: _, _, _, _, .nil, .cons _ _ _, hf, q => by subst hf; exact q
  | _ :: _, [], _, _, _, .cons _ _ _, .nil, hf, q => by
    subst hf
    exact q
  | n :: ns, m :: ms, _, _, i, .cons _ t h1, .cons _ t' h2, hf, q => by
    rw [HT.lexLt_cons] at q
    refine kat_cons (wpAny_eqBool_int ?_)
    by_cases e : n = m
    · subst e
      rw [beq_self_eq_true]
      rw [if_pos rfl] at q
      exact kat_yes (katlex h1 h2 (by subst hf; simp) q)
    · rw [if_neg e] at q
      have : (n == m) = false := beq_eq_false_iff_ne.mpr e
      rw [this]
      refine kat_no ?_
      cases b : (true && i == 0) with
      | true => exact oneLt_int q
      | false => exact kat_one _ _ (lt_int (show PySem.W.BoolBack Q (.bool (decide (n < m))) s from q))
def TupAt (h : Heap) : List Value → List (List Int) → Prop := Paired fun u t => ∃ a o xs k, u = Value.ref a ∧ h.get? a = some o ∧ o.cls = .type "tuple" ∧ o.data = .seq xs k ∧ IntsAre xs.toList t
theorem TupAt.get {h : Heap} : ∀ {us : List Value} {ts : List (List Int)} (i : Nat), TupAt h us ts → i < ts.length → ∃ a o xs k, us.getD i Value.none = Value.ref a ∧ h.get? a = some o ∧ o.data = .seq xs k ∧ IntsAre xs.toList (ts.getD i [])
  | _, _, _, .nil, hi => absurd hi (by simp)
  | _, _, 0, .cons ⟨a, o, xs, k, e, h1, h2, h3, h4⟩ _, _ => ⟨a, o, xs, k, e, h1, h3, h4⟩
  | _ :: us, _ :: ts, i + 1, .cons _ r, hi => TupAt.get i r (by simpa using hi)
theorem TupAt.firsts {h : Heap} : ∀ {us : List Value} {ts : List (List Int)}, TupAt h us ts → (∀ t ∈ ts, t ≠ []) → ∃ fs : List Value, KatTups h us fs ∧ fs.length = us.length ∧ ∀ v ∈ fs, ∃ i t, v = Value.int i t
  | _, _, .nil, _ => ⟨[], trivial, rfl, fun _ h => nomatch h⟩
  | _ :: us, t :: ts, .cons ⟨a, o, xs, k, e, h1, h2, h3, h4⟩ r, hn => by
    obtain ⟨fs, a1, a2, a3⟩ := TupAt.firsts r fun t ht => hn t (List.mem_cons_of_mem _ ht)
    have hne := hn t List.mem_cons_self
    obtain ⟨l⟩ := xs
    have h4 : IntsAre l t := h4
    cases h4 with
    | nil => exact absurd rfl hne
    | cons n tk hr =>
      subst e
      refine ⟨Value.int n tk :: fs, KatTups.cons h1 h2 h3 rfl a1, by simp [a2], fun v hv => ?_⟩
      rcases List.mem_cons.mp hv with z | z
      · exact ⟨n, tk, z⟩
      · exact a3 v z
end Srt
namespace L2
open PySem PySem.Spec PyProof.Rows
def TupI (K : PySem.W.Frag) (H : Hp) : List V → List (List Int) → Prop := Paired fun v t => ∃ a, v = .ref a ∧ SqT K H a (t.map V.int)
theorem TupI.len {K : PySem.W.Frag} {H : Hp} {vs : List V} {ts : List (List Int)} (h : TupI K H vs ts) : vs.length = ts.length := Paired.length h
section
variable {X : Cx} {pins : List (Addr × Obj)} {σ : St} {H : Hp} {s : Shared}
theorem TupI.at (I : Inv X pins σ H s) : ∀ {vs : List V} {us : List Value} {ts : List (List Int)}, TupI X.K H vs ts → Vals vs us → Srt.TupAt s.heap us ts
  | _, _, _, .nil, .nil => .nil
  | _, _, _, .cons ⟨a, e, hq⟩ r, .cons ru rr => by
    subst e
    cases ru
    obtain ⟨its, rv, ⟨o, h1, h2, n, h3⟩, _⟩ := I.tuple hq
    exact .cons ⟨a, o, its.toArray, n, rfl, h1, h2, h3, by simpa using intsAre_of rv⟩ (TupI.at I r rr)
theorem TupAt_keeps {h h' : Heap} {L : Addr} (hL : ∀ o, h.get? L = some o → ∃ es ep, o.data = .dict es ep) (k : ∀ b u, b ≠ L → h.get? b = some u → h'.get? b = some u) : ∀ {us : List Value} {ts : List (List Int)}, Srt.TupAt h us ts → Srt.TupAt h' us ts
  | _, _, .nil => .nil
  | _, _, .cons ⟨a, o, xs, n, e, h1, h2, h3, h4⟩ r => .cons ⟨a, o, xs, n, e, k a o (fun z => by
      rw [z] at h1
      obtain ⟨es, ep, d⟩ := hL o h1
      rw [h3] at d; cases d) h1, h2, h3, h4⟩ (TupAt_keeps hL k r)
end
theorem vals_getD {vs : List V} {us : List Value} (r : Vals vs us) (i : Nat) : RelV (vs.getD i .non) (us.getD i Value.none) := by
  cases e : vs[i]? with
  | none =>
    have e2 := r.none_of e
    rw [List.getD_eq_getElem?_getD, List.getD_eq_getElem?_getD, e, e2]; rfl
  | some x =>
    obtain ⟨u, hu, ru⟩ := r.get e
    rw [List.getD_eq_getElem?_getD, List.getD_eq_getElem?_getD, e, hu]; exact ru
theorem vals_map {vs : List V} {us : List Value} (r : Vals vs us) : ∀ l : List Nat, Vals (l.map fun i => vs.getD i .non) (l.map fun i => us.getD i Value.none)
  | [] => .nil
  | i :: l => .cons (vals_getD r i) (vals_map r l)
theorem map_range_zip {α β : Type} (da : α) (db : β) : ∀ (vs : List α) (ts : List β), vs.length = ts.length → (List.range vs.length).map (fun i => (vs.getD i da, ts.getD i db)) = vs.zip ts := by
  intro vs ts h
  refine List.ext_getElem? fun i => ?_
  rw [List.getElem?_map]
  by_cases hi : i < vs.length
  · have h2 : i < ts.length := by omega
    have hz : i < (vs.zip ts).length := by rw [List.length_zip]; omega
    rw [List.getElem?_range hi, List.getElem?_eq_getElem hz, List.getElem_zip]
    simp [List.getD_eq_getElem?_getD, hi, h2]
  · rw [List.getElem?_eq_none (by simpa using hi), List.getElem?_eq_none (by rw [List.length_zip]; omega)]; rfl
section
variable {X : Cx}
def rSortT (K : PySem.W.Frag) : List V → Hp → VK → Prop := fun xs H Q => ∃ (a : Addr) (vs : List V) (ts : List (List Int)), xs = [.ref a] ∧ SqL K H a vs ∧ TupI K H vs ts ∧ (∀ t ∈ ts, t ≠ []) ∧ ts.length < 64 ∧
  ∀ (l : Addr) (ps : List (V × List Int)), H l = none → ps.Perm (vs.zip ts) → (ps.map (·.2)).Pairwise (fun a b => HT.lexLt b a = false) → Q (.ref l) (upd H l (.lst (ps.map (·.1))))
theorem one_sorted {prog : Program} {w : World} {A : Around} {E : Value → Shared → Prop} {s : Shared} {l : Addr} {v : Value} {Q : Value → Shared → Prop} (hl : s.heap.IsList l [v].toArray)
    (h : ∀ h' c, (∀ b o, s.heap.get? b = some o → h'.get? b = some o) → h'.get? (s.heap.objs.size + 1) = some (seqObj "list" #[v] c) → Q (.ref (s.heap.objs.size + 1)) { s with heap := h' }) : wpAny (model prog w) A (call (.builtin "sorted") [.ref l]) Q E s := by
  refine Calls.call_function_entry kind_sorted plain_sorted entry_sorted (args_sorted1 _) ?_
  unfold Builtin.«sorted»
  refine wpAny_bind (m := checkCount "sorted" 1 1 _) (wpAny_pure (wpAny_bind (collect_list hl (wpAny_bind (wpAny_newList ?_)))))
  generalize hh : (s.heap.push (seqObj "list" #[] 0)).update s.heap.objs.size (Obj.mapSeq (· ++ [v].toArray)) = h1
  have z1 : h1.objs.size = s.heap.objs.size + 1 := by rw [← hh, Heap.size_update, size_push']
  have k1 : ∀ b o, s.heap.get? b = some o → h1.get? b = some o := fun b o e => by
    have hb : b < s.heap.objs.size := Heap.lt_size e
    rw [← hh, Heap.get?_update_ne _ _ _ _ (Nat.ne_of_lt hb), Heap.get?_push_ne _ _ _ (Nat.ne_of_lt hb)]; exact e
  have g2 : (h1.push (seqObj "list" [v].toArray 0)).get? h1.objs.size = some (seqObj "list" [v].toArray 0) := Heap.get?_push_size _ rfl
  show wpAny _ _ _ _ _ { s with heap := h1.push (seqObj "list" [v].toArray 0) }
  rw [z1] at g2 ⊢
  refine wpAny_bind (wpAny_holding (wpAny_call_entry slot_list_sort ⟨_, g2, rfl⟩ entry_list_sort ?_ (args_list_sort _)))
  rw [list_sort_plain]
  obtain ⟨e1, g3⟩ : ∃ e1, ((h1.push (seqObj "list" [v].toArray 0)).update (s.heap.objs.size + 1) (Obj.mapSeq fun _ => #[])).get? (s.heap.objs.size + 1) = some (seqObj "list" #[] e1) := ⟨_, get?_update_seq g2 fun _ => #[]⟩
  refine wpAny_bind (listItems_at g2 rfl (wpAny_bind (listUpdate_at g2 rfl (wpAny_bind (seqEpoch_at g3 rfl (wpAny_bind (wpAny_newTuple (wpAny_bind (wpAny_newList (wpAny_holding ?_)))))))))) 
  dsimp only
  rw [if_pos (by simp), if_pos (by simp)]
  refine wpAny_bind (wpAny_pure ?_)
  rw [StateT.run_pure]
  refine wpAny_bind (wpAny_pure ?_)
  dsimp only
  have z2 : ((h1.push (seqObj "list" [v].toArray 0)).update (s.heap.objs.size + 1) (Obj.mapSeq fun _ => (#[] : Array Value))).objs.size = s.heap.objs.size + 2 := by rw [Heap.size_update, size_push', z1]
  have g4 : ((((h1.push (seqObj "list" [v].toArray 0)).update (s.heap.objs.size + 1) (Obj.mapSeq fun _ => (#[] : Array Value))).push (seqObj "tuple" [v].toArray 0)).push (seqObj "list" #[] 0)).get? (s.heap.objs.size + 1) = some (seqObj "list" #[] e1) := by
    rw [Heap.get?_push_ne _ _ _ (Nat.ne_of_lt (by rw [size_push', z2]; exact Nat.lt_succ_of_lt (Nat.lt_succ_self _))), Heap.get?_push_ne _ _ _ (Nat.ne_of_lt (by rw [z2]; exact Nat.lt_succ_self _))]; exact g3
  have ha : Array.map (fun x : Keyed => x.snd) (arrOf (SortSt.mk' general' ([v].toArray.zip [v].toArray) #[] 7 none)) = #[v] := by
    show Array.map (fun x : Keyed => x.snd) ([v].toArray.zip [v].toArray) = #[v]
    simp
  rw [ha]
  refine wpAny_bind (seqEpoch_at g4 rfl (wpAny_bind (listUpdate_at g4 rfl ?_ (hsz2 := by show 1 ≤ _; decide))))
  simp only [bne_self_eq_false, Bool.false_eq_true, if_false]
  obtain ⟨c, g5⟩ : ∃ c, (((((h1.push (seqObj "list" [v].toArray 0)).update (s.heap.objs.size + 1) (Obj.mapSeq fun _ => (#[] : Array Value))).push (seqObj "tuple" [v].toArray 0)).push (seqObj "list" #[] 0)).update (s.heap.objs.size + 1) (Obj.mapSeq fun _ => #[v])).get? (s.heap.objs.size + 1) = some (seqObj "list" #[v] c) := ⟨_, get?_update_seq g4 fun _ => #[v]⟩
  refine wpAny_pure ⟨_, rfl, wpAny_pure ⟨_, rfl, h (((((h1.push (seqObj "list" [v].toArray 0)).update (s.heap.objs.size + 1) (Obj.mapSeq fun _ => (#[] : Array Value))).push (seqObj "tuple" [v].toArray 0)).push (seqObj "list" #[] 0)).update (s.heap.objs.size + 1) (Obj.mapSeq fun _ => #[v])) c (fun b o e => ?_) g5⟩⟩
  have hb : b < s.heap.objs.size := Heap.lt_size e
  have l1 : b < s.heap.objs.size + 1 := Nat.lt_succ_of_lt hb
  rw [Heap.get?_update_ne _ _ _ _ (Nat.ne_of_lt l1), Heap.get?_push_ne _ _ _ (Nat.ne_of_lt (by rw [size_push', z2]; exact Nat.lt_succ_of_lt (Nat.lt_succ_of_lt l1))), Heap.get?_push_ne _ _ _ (Nat.ne_of_lt (by rw [z2]; exact Nat.lt_succ_of_lt l1)), Heap.get?_update_ne _ _ _ _ (Nat.ne_of_lt l1), Heap.get?_push_ne _ _ _ (Nat.ne_of_lt (by rw [z1]; exact l1))]
  exact k1 b o e
theorem call_sortT : CallR X (.builtin "sorted") (rSortT X.K) := by
  intro pins s σ H xs us Q I r h
  obtain ⟨a, vs, ts, rfl, hq, hT, hne, hz, q⟩ := h
  obtain ⟨u, rfl, ru⟩ := vals1 r
  cases ru
  obtain ⟨its, rv, pl, _⟩ := I.list hq
  have hl := rv.length
  have hlT := hT.len
  have big : ts.length ≤ sizeLine := by rw [sizeLine_eq]; omega
  by_cases h0 : its.length = 0
  · have e0 : its = [] := List.eq_nil_of_length_eq_zero h0
    subst e0
    cases rv
    cases hT
    refine sorted_ints (ns := []) pl.isList .nil (by simp) fun out ns' a1 a2 a3 => ?_
    have : ns' = [] := a2.eq_nil
    subst this
    obtain ⟨e, he⟩ := sortedAll_at s.heap [] out
    have ho : out.toList = [] := by cases a1' : out.toList with
      | nil => rfl
      | cons x l => rw [a1'] at a1; cases a1
    have hout : out = #[] := by apply Array.toList_inj.mp; rw [ho]
    subst hout
    refine ⟨.ref (s.heap.objs.size + 1), _, I.laid (t' := s.toks) (o := .lst []) (fun b u e => sortedAll_old e) (Nat.le_succ _) ⟨Nat.zero_le _, [], e, .nil, he⟩, rfl, q _ [] (I.hok.fresh (Nat.le_succ _)) List.Perm.nil List.Pairwise.nil⟩
  · by_cases h1 : its.length = 1
    · obtain ⟨v1, rfl⟩ := List.length_eq_one_iff.mp h1
      obtain ⟨x1, rfl⟩ := List.length_eq_one_iff.mp (hl.trans h1)
      obtain ⟨t1, rfl⟩ := List.length_eq_one_iff.mp (hlT.symm.trans (hl.trans h1))
      refine one_sorted pl.isList fun h' c k g => ?_
      refine ⟨.ref (s.heap.objs.size + 1), _, I.laid (t' := s.toks) (o := .lst [x1]) k (Nat.le_succ _) ⟨by show 1 ≤ sizeLine; decide, [v1], c, rv, g⟩, rfl, q _ [(x1, t1)] (I.hok.fresh (Nat.le_succ _)) (List.Perm.refl _) (List.pairwise_singleton _ _)⟩
    · obtain ⟨m, F⟩ := I.fr
      have hLd : ∀ o, s.heap.get? X.env.locals = some o → ∃ es ep, o.data = .dict es ep := fun o e => by
        obtain ⟨o2, es, ep, e2, d, _⟩ := F.ns
        rw [e] at e2; cases e2
        exact ⟨es, ep, d⟩
      have TA := TupI.at I hT rv
      refine PySem.W.kat_sorted F news_all pl.isList (by omega) (by omega) fun D e1 h' F' N' hlt => ?_
      have Nn : News X.base X.env.locals h' (allNews X.base s.heap X.env.locals) := fun p hp => N' p (List.mem_cons_of_mem _ hp)
      have k : ∀ b u, b ≠ X.env.locals → s.heap.get? b = some u → h'.get? b = some u := fun b u hb e => by
        cases q : X.base.get? b with
        | some v =>
          have := I.bk b v q
          rw [e] at this; cases this
          exact F'.keep b _ q
        | none => exact (Nn (b, u) (mem_allNews hb q e)).1
      obtain ⟨dObj, hDL, hDb⟩ := N' (D, _) List.mem_cons_self
      have hD : s.heap.get? D = none := by
        cases e : s.heap.get? D with
        | none => rfl
        | some o => exact absurd (hlt (D, o) (mem_allNews hDL hDb e)) (Nat.lt_irrefl _)
      have TA' : Srt.TupAt h' its ts := TupAt_keeps hLd k TA
      obtain ⟨fs, kt, hfl, hfi⟩ := TA'.firsts hne
      refine PySem.W.kat_kind (T := .type "int") (fs := fs) kt (by omega) (fun v hv => ?_) rfl ?_
      · obtain ⟨i, t, rfl⟩ := hfi v hv
        exact PySem.W.Looks.of_pure rfl
      · obtain ⟨p, hp, perm, hsz, up⟩ := Srt.sort_ok (Srt.lex_ord ts) (n := its.length) (by omega)
        refine Srt.wp_run_in (n := its.length) (lt := fun i j => HT.lexLt (ts.getD i []) (ts.getD j [])) (fun i j C hi hj hC => ?_) _ (Srt.sort_ends (by omega)) ?_
        · obtain ⟨a1, o1, xs1, k1, b1, b2, b3, b4⟩ := TA'.get i (by omega)
          obtain ⟨a2, o2, xs2, k2, c1, c2, c3, c4⟩ := TA'.get j (by omega)
          unfold PySem.W.kas_ask
          rw [b1, c1]
          exact PySem.W.kat_lt b2 b3 c2 c3 (Srt.katlex b4 c4 (by
            have e1 := b4.length
            have e2 := c4.length
            simp only [Array.length_toList] at e1 e2
            rw [e1, e2]) hC)
        · rw [hp]
          refine PySem.W.KasFin.intro F' N' (.head fun p hp => Nat.ne_of_lt (hlt p hp)) fun h2 c F2 N2 => ?_
          have ob := (N2 (D, _) List.mem_cons_self).1
          have N2' : News X.base X.env.locals h2 (allNews X.base s.heap X.env.locals) := fun p hp => N2 p (List.mem_cons_of_mem _ hp)
          have perm' : p.toList.Perm (List.range its.length) := by
            have := Array.perm_iff_toList_perm.mp perm
            simpa using this
          have hps : (p.toList.map fun i => (vs.getD i .non, ts.getD i [])).Perm (vs.zip ts) := by
            rw [← map_range_zip V.non [] vs ts hlT, hl]
            exact perm'.map _
          have e1 : (p.toList.map fun i => (vs.getD i V.non, ts.getD i [])).map (·.1) = p.toList.map fun i => vs.getD i V.non := by rw [List.map_map]; rfl
          have hlen : (p.toList.map fun i => vs.getD i V.non).length ≤ sizeLine := by
            rw [List.length_map, perm'.length_eq, List.length_range]; omega
          refine ⟨.ref D, _, I.ledgerLaid (t' := s.toks) (o := .lst (p.toList.map fun i => vs.getD i V.non)) F F2 N2' hD hDL ⟨hlen, _, c, vals_map rv p.toList, ob⟩, rfl, ?_⟩
          have hn : H D = none := I.hok.gone hD
          have := q D _ hn hps ?_
          · rw [e1] at this; exact this
          · rw [List.map_map, List.pairwise_iff_getElem]
            intro i j hi hj hij
            have hj' : j < p.size := by simpa using hj
            have hi' : i < p.size := by simpa using hi
            have u := up i j (Nat.le_of_lt hij) (by omega)
            have g1 : Srt.at' p i = p[i] := by simp [Srt.at', Array.getD, hi']
            have g2 : Srt.at' p j = p[j] := by simp [Srt.at', Array.getD, hj']
            rw [g1, g2] at u
            simpa using u
end
end L2
set_option maxRecDepth 100000
set_option maxHeartbeats 4000000
namespace L2
open PySem PySem.Spec PyProof.Rows
theorem Same.seqT {K : PySem.W.Frag} {H H' : Hp} {a : Addr} {xs : List V} (e : Same H H') (h : SqT K H a xs) : SqT K H' a xs := by
  rcases h with (h | ⟨o, h⟩) | h
  · exact .inl (.inl (e _ _ h))
  · exact .inl (.inr ⟨o, e _ _ h⟩)
  · exact .inr h
mutual
def Den (K : PySem.W.Frag) (G : Hp) : PyData → V → Prop
  | .none, v => v = .non
  | .bool b, v => v = .bl b
  | .int i, v => v = .int i
  | .str x, v => v = .str x
  | .list ds, v => ∃ a vs, v = .ref a ∧ SqL K G a vs ∧ DenL K G ds vs
  | .tuple ds, v => ∃ a vs, v = .ref a ∧ SqT K G a vs ∧ DenL K G ds vs
  | .dict _, _ => False
def DenL (K : PySem.W.Frag) (G : Hp) : List PyData → List V → Prop
  | [], vs => vs = []
  | d :: ds, vs => ∃ v r, vs = v :: r ∧ Den K G d v ∧ DenL K G ds r
end
section
variable {K : PySem.W.Frag} {G G' : Hp}
mutual
theorem Den.mono (h : Same G G') : ∀ {d : PyData} {v : V}, Den K G d v → Den K G' d v
  | .none, _, e => by simp only [Den] at e ⊢; exact e
  | .bool _, _, e => by simp only [Den] at e ⊢; exact e
  | .int _, _, e => by simp only [Den] at e ⊢; exact e
  | .str _, _, e => by simp only [Den] at e ⊢; exact e
  | .list ds, _, e => by
    simp only [Den] at e ⊢
    obtain ⟨a, vs, e1, e2, e3⟩ := e
    exact ⟨a, vs, e1, h.seq e2, DenL.mono h e3⟩
  | .tuple ds, _, e => by
    simp only [Den] at e ⊢
    obtain ⟨a, vs, e1, e2, e3⟩ := e
    exact ⟨a, vs, e1, h.seqT e2, DenL.mono h e3⟩
  | .dict _, _, e => by simp only [Den] at e
theorem DenL.mono (h : Same G G') : ∀ {ds : List PyData} {vs : List V}, DenL K G ds vs → DenL K G' ds vs
  | [], _, e => by simp only [DenL] at e ⊢; exact e
  | d :: ds, _, e => by
    simp only [DenL] at e ⊢
    obtain ⟨v, r, e1, e2, e3⟩ := e
    exact ⟨v, r, e1, Den.mono h e2, DenL.mono h e3⟩
end
theorem DenL.len : ∀ {ds : List PyData} {vs : List V}, DenL K G ds vs → vs.length = ds.length
  | [], _, e => by simp only [DenL] at e; rw [e]; rfl
  | d :: ds, _, e => by
    simp only [DenL] at e
    obtain ⟨v, r, rfl, _, e3⟩ := e
    simp [DenL.len e3]
theorem DenL.nil : DenL K G [] [] := by simp only [DenL]
theorem DenL.cons {d : PyData} {ds : List PyData} {v : V} {vs : List V} (h1 : Den K G d v) (h2 : DenL K G ds vs) : DenL K G (d :: ds) (v :: vs) := by
  simp only [DenL]; exact ⟨v, vs, rfl, h1, h2⟩
theorem DenL.append : ∀ {ds es : List PyData} {vs ws : List V}, DenL K G ds vs → DenL K G es ws → DenL K G (ds ++ es) (vs ++ ws)
  | [], _, _, _, e, f => by simp only [DenL] at e; subst e; exact f
  | d :: ds, _, _, _, e, f => by
    simp only [DenL] at e
    obtain ⟨v, r, rfl, e2, e3⟩ := e
    exact .cons e2 (DenL.append e3 f)
theorem DenL.get : ∀ {ds : List PyData} {vs : List V} {i : Nat} {v : V}, DenL K G ds vs → vs[i]? = some v → ∃ d, ds[i]? = some d ∧ Den K G d v
  | [], _, _, _, e, h => by simp only [DenL] at e; subst e; simp at h
  | d :: ds, _, 0, _, e, h => by
    simp only [DenL] at e
    obtain ⟨v, r, rfl, e2, e3⟩ := e
    simp at h; subst h
    exact ⟨d, rfl, e2⟩
  | d :: ds, _, i + 1, _, e, h => by
    simp only [DenL] at e
    obtain ⟨v, r, rfl, e2, e3⟩ := e
    exact DenL.get (i := i) e3 (by simpa using h)
theorem DenL.get' : ∀ {ds : List PyData} {vs : List V} {i : Nat} {d : PyData}, DenL K G ds vs → ds[i]? = some d → ∃ v, vs[i]? = some v ∧ Den K G d v
  | [], _, _, _, e, h => by simp at h
  | d :: ds, _, 0, _, e, h => by
    simp only [DenL] at e
    obtain ⟨v, r, rfl, e2, e3⟩ := e
    simp at h; subst h
    exact ⟨v, rfl, e2⟩
  | d :: ds, _, i + 1, _, e, h => by
    simp only [DenL] at e
    obtain ⟨v, r, rfl, e2, e3⟩ := e
    exact DenL.get' (i := i) e3 (by simpa using h)
theorem Den.int {i : Int} : Den K G (.int i) (.int i) := by simp only [Den]
theorem Den.bool {i : Bool} : Den K G (.bool i) (.bl i) := by simp only [Den]
theorem Den.str {i : Str} : Den K G (.str i) (.str i) := by simp only [Den]
theorem Den.list {ds : List PyData} {a : Addr} {vs : List V} (h : SqL K G a vs) (e : DenL K G ds vs) : Den K G (.list ds) (.ref a) := by simp only [Den]; exact ⟨a, vs, rfl, h, e⟩
theorem Den.tuple {ds : List PyData} {a : Addr} {vs : List V} (h : SqT K G a vs) (e : DenL K G ds vs) : Den K G (.tuple ds) (.ref a) := by simp only [Den]; exact ⟨a, vs, rfl, h, e⟩
theorem Den.ofInt {i : Int} {v : V} (h : Den K G (.int i) v) : v = .int i := by simpa only [Den] using h
theorem Den.ofStr {i : Str} {v : V} (h : Den K G (.str i) v) : v = .str i := by simpa only [Den] using h
theorem Den.ofList {ds : List PyData} {v : V} (h : Den K G (.list ds) v) : ∃ a vs, v = .ref a ∧ SqL K G a vs ∧ DenL K G ds vs := by simpa only [Den] using h
theorem Den.ofTuple {ds : List PyData} {v : V} (h : Den K G (.tuple ds) v) : ∃ a vs, v = .ref a ∧ SqT K G a vs ∧ DenL K G ds vs := by simpa only [Den] using h
theorem DenL.ofCons {d : PyData} {ds : List PyData} {vs : List V} (h : DenL K G (d :: ds) vs) : ∃ v r, vs = v :: r ∧ Den K G d v ∧ DenL K G ds r := by simpa only [DenL] using h
theorem DenL.ofNil {vs : List V} (h : DenL K G [] vs) : vs = [] := by simpa only [DenL] using h
theorem DenL.ints : ∀ {ns : List Int} {vs : List V}, DenL K G (ns.map PyData.int) vs → vs = ns.map V.int
  | [], _, e => e.ofNil
  | n :: ns, _, e => by
    obtain ⟨v, r, rfl, e2, e3⟩ := DenL.ofCons e
    rw [e2.ofInt, DenL.ints e3]; rfl
theorem DenL.ofInts : ∀ ns : List Int, DenL K G (ns.map PyData.int) (ns.map V.int)
  | [] => .nil
  | n :: ns => .cons .int (DenL.ofInts ns)
end
section
variable {X : Cx} {pins : List (Addr × Obj)} {σ : St} {H : Hp} {s : Shared}
mutual
theorem Den.reads (I : Inv X pins σ H s) : ∀ {d : PyData} {v : V} {u : Value}, Den X.K H d v → RelV v u → ∃ as, Reads s.heap u d as
  | .none, _, _, e, r => by simp only [Den] at e; subst e; cases r; exact ⟨_, .none⟩
  | .bool b, _, _, e, r => by simp only [Den] at e; subst e; cases r; exact ⟨_, .bool b⟩
  | .int i, _, _, e, r => by simp only [Den] at e; subst e; obtain ⟨t, rfl⟩ := r; exact ⟨_, .int i t⟩
  | .str x, _, _, e, r => by simp only [Den] at e; subst e; obtain ⟨t, rfl⟩ := r; exact ⟨_, .str x t⟩
  | .list ds, _, _, e, r => by
    simp only [Den] at e
    obtain ⟨a, vs, rfl, e2, e3⟩ := e
    cases r
    obtain ⟨its, rv, ⟨o, n, h1, h2, h3, h4⟩, _⟩ := I.list e2
    obtain ⟨as, ra⟩ := DenL.reads I e3 rv
    exact ⟨_, .list h1 h2 h4 (by simpa using ra)⟩
  | .tuple ds, _, _, e, r => by
    simp only [Den] at e
    obtain ⟨a, vs, rfl, e2, e3⟩ := e
    cases r
    obtain ⟨its, rv, ⟨o, h1, h2, n, h4⟩, _⟩ := I.tuple e2
    obtain ⟨as, ra⟩ := DenL.reads I e3 rv
    exact ⟨_, .tuple h1 h2 h4 (by simpa using ra)⟩
  | .dict _, _, _, e, _ => by simp only [Den] at e
theorem DenL.reads (I : Inv X pins σ H s) : ∀ {ds : List PyData} {vs : List V} {us : List Value}, DenL X.K H ds vs → Vals vs us → ∃ as, ReadsAll s.heap us ds as
  | [], _, _, e, r => by simp only [DenL] at e; subst e; cases r; exact ⟨_, .nil⟩
  | d :: ds, _, _, e, r => by
    simp only [DenL] at e
    obtain ⟨v, vr, rfl, e2, e3⟩ := e
    cases r with
    | cons r1 r2 =>
      obtain ⟨as, ra⟩ := Den.reads I e2 r1
      obtain ⟨bs, rb⟩ := DenL.reads I e3 r2
      exact ⟨_, .cons ra rb⟩
end
end
mutual
theorem den_nodict {K : PySem.W.Frag} {G : Hp} : ∀ {d : PyData} {v : V}, Den K G d v → d.hasDict = false
  | .none, _, _ => by simp only [PyData.hasDict]
  | .bool _, _, _ => by simp only [PyData.hasDict]
  | .int _, _, _ => by simp only [PyData.hasDict]
  | .str _, _, _ => by simp only [PyData.hasDict]
  | .list ds, _, e => by
    simp only [Den] at e
    obtain ⟨a, vs, rfl, e2, e3⟩ := e
    simp only [PyData.hasDict]; exact denl_nodict e3
  | .tuple ds, _, e => by
    simp only [Den] at e
    obtain ⟨a, vs, rfl, e2, e3⟩ := e
    simp only [PyData.hasDict]; exact denl_nodict e3
  | .dict _, _, e => by simp only [Den] at e
theorem denl_nodict {K : PySem.W.Frag} {G : Hp} : ∀ {ds : List PyData} {vs : List V}, DenL K G ds vs → PyData.hasDictAll ds = false
  | [], _, _ => by simp only [PyData.hasDictAll]
  | d :: ds, _, e => by
    simp only [DenL] at e
    obtain ⟨v, vr, rfl, e2, e3⟩ := e
    simp only [PyData.hasDictAll, den_nodict e2, denl_nodict e3, Bool.or_false]
end
section
variable {X : Cx} {k : Nat}
def rRepr (K : PySem.W.Frag) : List V → Hp → VK → Prop := fun xs H Q => ∃ (a : Addr) (d : PyData), xs = [.ref a] ∧ Den K H d (.ref a) ∧ d.showable = true ∧ d.depth ≤ 100 ∧ d.shown.length ≤ sizeLine ∧ Q (.str d.shown) H
theorem call_repr (hr : Room k X.A) : CallR X (.builtin "repr") (rRepr X.K) := by
  intro pins s σ H xs us Q I r h
  obtain ⟨a, d, rfl, hd, h1, h2, h3, q⟩ := h
  obtain ⟨u, rfl, ru⟩ := vals1 r
  cases ru
  obtain ⟨as, ra⟩ := Den.reads I hd (show RelV (.ref a) (Value.ref a) from rfl)
  have hu := hr.un
  exact repr_of_reads' ra h1 (fun z => by rw [den_nodict hd] at z; cases z) hr.gd (by omega) (fun _ _ e => e) (fun h' u tk kk => ⟨.str d.shown, H, I.kept (t' := tk) kk, ⟨_, rfl⟩, q⟩) h3
def rEqD (K : PySem.W.Frag) (neg : Bool) : R2 := fun x y H Q => ∃ da db, Den K H da x ∧ Den K H db y ∧ SeqAt.shaped da = true ∧ SeqAt.shaped db = true ∧ Q (.bl (if neg then !PyData.eqv da db else PyData.eqv da db)) H
theorem op_eqD (hr : Room k X.A) : OpR X (compareOp .Eq) (rEqD X.K false) := by
  intro pins s σ H x y v u Q I rx ry h
  obtain ⟨da, db, ha, hb, h1, h2, q⟩ := h
  obtain ⟨as, ra⟩ := Den.reads I ha rx
  obtain ⟨bs, rb⟩ := Den.reads I hb ry
  exact SeqAt.compareEq_shaped ra rb h1 h2 hr.units ⟨.bl _, H, I, rfl, q⟩
theorem op_neD (hr : Room k X.A) : OpR X (compareOp .NotEq) (rEqD X.K true) := by
  intro pins s σ H x y v u Q I rx ry h
  obtain ⟨da, db, ha, hb, h1, h2, q⟩ := h
  obtain ⟨as, ra⟩ := Den.reads I ha rx
  obtain ⟨bs, rb⟩ := Den.reads I hb ry
  exact SeqAt.compareNe_shaped ra rb h1 h2 hr.units ⟨.bl _, H, I, rfl, q⟩
end
mutual
theorem eqv_refl : ∀ d : PyData, d.hasDict = false → PyData.eqv d d = true
  | .none, _ => by simp only [PyData.eqv]
  | .bool _, _ => by simp only [PyData.eqv, beq_self_eq_true]
  | .int _, _ => by simp only [PyData.eqv, beq_self_eq_true]
  | .str _, _ => by simp only [PyData.eqv, beq_self_eq_true]
  | .list ds, h => by simp only [PyData.eqv]; exact eqvAll_refl ds (by simpa only [PyData.hasDict] using h)
  | .tuple ds, h => by simp only [PyData.eqv]; exact eqvAll_refl ds (by simpa only [PyData.hasDict] using h)
  | .dict _, h => by simp [PyData.hasDict] at h
theorem eqvAll_refl : ∀ ds : List PyData, PyData.hasDictAll ds = false → PyData.eqvAll ds ds = true
  | [], _ => by simp only [PyData.eqvAll]
  | d :: ds, h => by
    simp only [PyData.hasDictAll, Bool.or_eq_false_iff] at h
    simp only [PyData.eqvAll, eqv_refl d h.1, eqvAll_refl ds h.2, Bool.and_self]
end
end L2
set_option maxRecDepth 100000
set_option maxHeartbeats 4000000
namespace Miss
open PySem PySem.Spec PyProof.Rows
theorem lk_keys : typeLookup (.type "list") "keys" = pure none := am_miss_of_fast (by decide +kernel)
theorem lk_ga : typeLookup (.type "list") "__getattr__" = pure none := am_miss_of_fast (by decide +kernel)
section
variable {prog : Program} {w : World} {A : Around} {E : Value → Shared → Prop} {a : Addr} {its : Array Value} {n : Nat}
theorem entry {u : Tok} : Meets (Builtin.«object.__getattribute__» ⟨[.ref a, .str "keys" u], []⟩) (fun A R s => s.heap.get? a = some { cls := .type "list", dict := none, data := .seq its n, slots := #[] } ∧ raisesAttr (.ref a) "keys" A R s) :=
  Meets.of_wp fun prog w A R s hs => by
    obtain ⟨hp, g, d, tk, os⟩ := s
    obtain ⟨hx, hs⟩ := hs
    have hT : (⟨hp, g, d, tk, os⟩ : Shared).TypeIs (.ref a) "list" := ⟨_, hx, rfl⟩
    have f4 := lk_keys
    unfold Builtin.«object.__getattribute__»
    repeat (any_goals (first | assumption | wp_step))
    exact wpAny_raiseAttrError hs.1 hs.2 (attrMsg_fits (by decide +kernel) (by rw [sizeLine_eq]; decide +kernel))
theorem no_keys {s : Shared} {Q : Option Value → Shared → Prop} (hA : A.handled = none) (hx : s.heap.get? a = some { cls := .type "list", dict := none, data := .seq its n, slots := #[] })
    (h : ∀ h' tk, (∀ b o, s.heap.get? b = some o → h'.get? b = some o) → Q none { s with heap := h', toks := tk }) : wpAny (model prog w) A (getAttr? (.ref a) "keys") Q E s := by
  obtain ⟨hp, g, d, tk, os⟩ := s
  have hT : ∀ tk, (⟨hp, g, d, tk, os⟩ : Shared).TypeIs (.ref a) "list" := fun _ => ⟨_, hx, rfl⟩
  have f1 := sub_AttributeError
  have f3 := F.slot_list_getattribute.lookup
  have f4 := F.slot_list_getattribute.bind (.ref a)
  have f5 := lk_ga
  unfold getAttr? getAttrBy? getAttrBy
  repeat (any_goals (first | assumption | ((with_reducible show wpAny _ _ (call (Value.builtin "list.__getattribute__") _ _) _ _ _); refine call_meets F.slot_list_getattribute (hT _) F.entry_list_ga (F.args_list_getattribute_2 _ _) (entry (its := its) (n := n)) ⟨hx, hA, fun h' tk' e x => ?_⟩) | wp_step))
  obtain ⟨t', u', he⟩ := x.there
  show wpAny _ _ (getattributeRaised _ _ (Value.type "list") _ _ _ _) _ _ _
  unfold getattributeRaised
  repeat (any_goals (first | assumption | wp_step))
  exact h _ _ x.keeps
theorem entry_loop : entryFor table "dict.update.loop" = some Builtin.«dict.update.loop» := entryFor_of_tree (by kernel_rfl)
theorem plain_loop : plainId "dict.update.loop" = true := by decide +kernel
end
end Miss
set_option maxRecDepth 100000
set_option maxHeartbeats 4000000
namespace L2
open PySem PySem.Spec PyProof.Rows
theorem acc_dict {X : Cx} : NewAcc X newDict (.dK []) := by
  intro pins s σ H E Q I h
  refine wpAny_newObj_type (h _ _ (Nat.le_refl _) I.fresh (I.laid (t' := s.toks) (fun _ _ q => Heap.get?_push_of_some _ q) (Nat.le_refl _) (dk_empty s.heap I.big)) fun b u e => Heap.get?_push_of_some _ e) ?_
  first | trivial | size_fits | decide
def ePut (tk tv : TE) (l : Addr) : TB := fun σ H Q => tk σ H fun x H1 => tv σ H1 fun y H2 => ∃ kvs k, x = kV k ∧ H2 l = some (.dK kvs) ∧ kvs.length < sizeLine ∧ Q σ (upd H2 l (.dK (putK kvs k y)))
def behDict (k v : Expr) (acc : Value) (env : Env) : Sem Unit := do
  let kv ← eval k env
  let vv ← holding [kv] (eval v env)
  match acc with
  | .ref d => do
    standAt { k.pos with endLine := v.pos.endLine, endCol := v.pos.endCol }
    holding [kv, vv] (dictSet d kv vv)
  | _ => unsupported "internal:dictcomp"
theorem pb_dict {X : Cx} {k v : Expr} {tk tv : TE} {l : Addr} (hk : PE X k tk) (hv : PE X v tv) : PB X (behDict k v (.ref l) X.env) (ePut tk tv l) := by
  intro pins s σ H Q I h
  refine wpAny_bind (thn (hk pins s σ H _ I h) fun u s1 ⟨x, H1, I1, r1, q1⟩ => wpAny_bind (wpAny_holding (thn (hv pins s1 σ H1 _ I1 q1) fun w2 s2 ⟨y, H2, I2, r2, kvs, kk, e, hd, hz, q⟩ => ?_)))
  subst e
  obtain ⟨z, hs, vs, rel, dd⟩ := dk_of I2.hok hd
  have hl : (putK kvs kk y).length ≤ sizeLine := by have := length_putK kvs kk y; omega
  refine wpAny_bind (wpAny_standAt (wpAny_holding (wpAny_dictSet_pairs (kV_is r1) dd (fun h' dd' sb => ?_) (by rw [← rel.length]; exact z))))
  have he : ∃ q, h'.get? l = some q := let ⟨q, _, _, hq, _⟩ := dd'; ⟨q, hq⟩
  exact ⟨σ, _, d_write I2 (by rw [hd]; exact True.intro) sb he (dk_new hl hs (rel.put kk r2) dd'), q⟩
theorem clause_dict {X : Cx} {k v tg iter : Expr} {ifs : List Expr} {scope : Scope} {pos : Pos} {acc : Value} : ClauseAt X (.DictComp k v [⟨tg, iter, ifs, 0⟩] scope pos) 0 acc tg iter ifs (behDict k v acc X.env) where
  quiet := fun _ => rfl
  under := fun _ => rfl
  den := fun _ => rfl
  turn := fun _ => rfl
  start := fun it R s h0 h => codeAny_compStart_dict h0 (wpAny_mono h (fun _ _ z => z) fun _ _ z => z.elim)
section
variable {X : Cx} {ke ve tg iter : Expr} {ifs : List Expr} {scope : Scope} {own : List Str} {cap : List Nat} {wi : TI} {g : TG} {tts : List TT} {tk tv : TE} {pos : Pos}
theorem pe_dc (own : List Str) (cap : List Nat) (hc : X.calm = true) (S : CompScope X own cap scope) (hi : PI X tg iter wi) (hg : ∀ cl s H ex, PG (compCx X own cap scope cl s H ex) tg g)
    (ht : ∀ cl s H ex, PTs (compCx X own cap scope cl s H ex) ifs tts) (hk : ∀ cl s H ex, PE (compCx X own cap scope cl s H ex) ke tk) (hv : ∀ cl s H ex, PE (compCx X own cap scope cl s H ex) ve tv) (hs : ∀ x, foldedSetIterable iter X.env x = pure x := by intro _; rfl) :
    PE X (.DictComp ke ve [⟨tg, iter, ifs, 0⟩] scope pos) (tComp own cap (.dK []) wi g tts (ePut tk tv)) := by
  intro pins s σ H Q I h
  exact comp_val (behOf := behDict ke ve) hc S rfl hi acc_dict (fun _ _ _ _ _ => clause_dict) hg ht (fun cl s H ex l => pb_dict (hk cl s H ex) (hv cl s H ex)) hs pins s σ H Q I h
end
def Itd (d : Addr) (o : Obj) (kvs : List (Key × V)) : It :=
  ⟨fun i H => H d = some (.frz o (.dK kvs)) ∧ i < kvs.length, fun i H x H' => H' = H ∧ ∃ k v, kvs[i]? = some (k, v) ∧ x = kV k, fun i H => H d = some (.frz o (.dK kvs)) ∧ kvs.length ≤ i⟩
theorem kV_rel {P : Program} {w : World} {k : Key} {u : Value} (h : (mixKind P w).is k u = true) : RelV (kV k) u := by
  rcases keyIs_shape h with ⟨i, t, rfl, rfl⟩ | ⟨x, t, rfl, rfl⟩
  · exact ⟨t, rfl⟩
  · exact ⟨t, rfl⟩
theorem KV.keyAt {κ : Type} : ∀ {kvs : List (κ × V)} {vs : List (κ × Value)} {i : Nat} {k : κ} {v : V}, KV kvs vs → kvs[i]? = some (k, v) → ∃ x, vs[i]? = some (k, x)
  | _, _, _, _, _, .nil, e => by simp at e
  | _, _, 0, _, _, .cons (b := b) r _, e => by
    simp at e; subst e
    obtain ⟨b1, b2⟩ := b
    have : _ = b1 := r.1
    exact ⟨b2, by simp [← this]⟩
  | _, _, i + 1, k, v, .cons _ t, e => KV.keyAt (i := i) (v := v) t (by simpa using e)
section
variable {P : Program} {w : World} {K : PySem.W.Frag} {tg : Expr}
theorem frz_at {H : Hp} {h : Heap} {d : Addr} {o : Obj} {kvs : List (Key × V)} {es : Array DictEntry} {ep : Nat} (ok : HOk P w H h) (e : H d = some (.frz o (.dK kvs))) (hd : o.data = .dict es ep) :
    kvs.length ≤ sizeLine ∧ (d == sysModules) = false ∧ ∃ vs, KV kvs vs ∧ h.DictAt (mixKind P w) d vs ep := by
  obtain ⟨ho, z, hs, vs, rel, o2, es2, ep2, h1, h2, h3, h4⟩ := ok d _ e
  rw [ho] at h1; cases h1
  rw [hd] at h3; cases h3
  exact ⟨z, hs, vs, rel, o, es, ho, h2, hd, h4⟩
theorem turn_dict (d it : Addr) (o : Obj) (kvs : List (Key × V)) {es : Array DictEntry} {ep : Nat} (hd : o.data = .dict es ep) : Turn P w K tg (Itd d o kvs) [it] it (fun i h => h.IsKeyIter it d i kvs.length ep) where
  mem := by simp
  obj := fun i h st b hb => by
    have e : b = it := by simpa using hb
    subst e
    obtain ⟨ob, e, c, dd⟩ := st
    exact ⟨ob, e, fun v z => by rw [dd] at z; cases z⟩
  keep := fun i h h' st k => st.at fun ob e => k it (by simp) ob e
  item := by
    intro X hP hw hK hc i pins s σ H E I hf st hg
    subst hP hw hK
    obtain ⟨hq, hi⟩ := hg
    obtain ⟨z, hs, vs, rel, dd⟩ := frz_at I.hok hq hd
    obtain ⟨⟨k, v⟩, hx⟩ : ∃ p, kvs[i]? = some p := ⟨kvs[i], by simp [hi]⟩
    obtain ⟨x, hxv⟩ := rel.keyAt hx
    obtain ⟨f0, f1, f2, f3, f4, f5⟩ := hf it (by simp)
    have hl := rel.length
    refine wpAny_pyNext_dict_item (by rw [← hl]; exact st) dd hxv fun key h' hkey st' sb => ?_
    have I1 : Inv X pins σ H { s with heap := h' } := I.turned (t' := s.toks) (fun b ob hb e => (sb.2 b hb).trans e) f0 f1 f3 f4 f5
    obtain ⟨ob, e, c, d2⟩ := id st'
    exact ⟨key, rfl, go_of (s := { s with heap := h' }) e c d2 (by decide) ⟨kV k, H, I1, kV_rel hkey, ⟨rfl, k, v, hx, rfl⟩, by rw [← hl] at st'; exact st', fun b hb => (hf b hb).1⟩⟩
  done := by
    intro X hP hw hK hc i pins s σ H E I hf st hg
    subst hP hw hK
    obtain ⟨hq, hi⟩ := hg
    obtain ⟨z, hs, vs, rel, dd⟩ := frz_at I.hok hq hd
    obtain ⟨f0, f1, f2, f3, f4, f5⟩ := hf it (by simp)
    have hl := rel.length
    exact wpAny_pyNext_dict_end (I.ok.hd hc) (by rw [← hl]; exact st) dd (by simp; omega) fun h' eb => ⟨rfl, I.turned (t' := s.toks) (fun b ob hb e => eb b ob hb e) f0 f1 f3 f4 f5⟩
  self := fun _ _ _ _ _ st h => wpAny_pyIter_keyiter st h
end
theorem Inv.freeze {X : Cx} {pins : List (Addr × Obj)} {σ : St} {H : Hp} {s : Shared} {d : Addr} {o : Obj} {u : HO} (I : Inv X pins σ H s) (e : H d = some u) (mu : Mut (some u)) (ho : s.heap.get? d = some o) (hu : ∀ H' : Hp, ObjOk X.prog X.w H' s.heap d u) : Inv X pins σ (upd H d (.frz o u)) s := by
  have := I.write (x := d) (e := d) (o := .frz o u) (h' := s.heap) (t' := s.toks) (by rw [e]; exact mu) (.inl rfl) (fun b v _ q => q) ⟨o, ho⟩ ⟨ho, hu _⟩
  exact this
section
variable {X : Cx} {tg : Expr}
def iDict (td : TE) : TI := fun σ H R => td σ H fun x H1 => ∃ d kvs, x = .ref d ∧ H1 d = some (.dK kvs) ∧ ∀ o, R (Itd d o kvs) (upd H1 d (.frz o (.dK kvs)))
theorem pi_dict {l : Expr} {tl : TE} (hl : PE X l tl) : PI X tg l (iDict tl) := by
  intro pins s σ H R I h
  refine thn (hl pins s σ H _ I h) fun v s1 ⟨x, H1, I1, r1, q1⟩ => ?_
  obtain ⟨d, kvs, e, hq, q⟩ := q1
  subst e
  cases r1
  obtain ⟨z, hs, vs, rel, o, es, ep, ho, h2, h3, h4⟩ := dk_of I1.hok hq
  have dd : s1.heap.DictAt (mixKind X.prog X.w) d vs ep := ⟨o, es, ho, h2, h3, h4⟩
  have I2 : Inv X pins σ (upd H1 d (.frz o (.dK kvs))) s1 := I1.freeze hq True.intro ho fun H' => ⟨z, hs, vs, rel, o, es, ep, ho, h2, h3, h4⟩
  refine wpAny_pyIter_dict hs dd ?_
  refine ⟨s1.heap.objs.size, [s1.heap.objs.size], _, _, _, rfl, I2.kept (t' := s1.toks) fun b ob e => Heap.get?_push_of_some _ e, turn_dict d _ o kvs h3, ⟨_, Heap.get?_push_size _ rfl, rfl, by rw [rel.length]; rfl⟩, fun b hb => ?_, q o⟩
  have e : b = s1.heap.objs.size := by simpa using hb
  subst e
  exact I2.fpOk (Nat.le_refl _) (I2.hok.fresh (Nat.le_refl _))
end
def PairsAt (H : Hp) : List V → List (Key × V) → Prop := Paired fun v kv => ∃ a, v = .ref a ∧ H a = some (.tup [kV kv.1, kv.2])
theorem PairsAt.mono {H H' : Hp} (h : ∀ b xs, H b = some (.tup xs) → H' b = some (.tup xs)) {vs : List V} {kvs : List (Key × V)} (p : PairsAt H vs kvs) : PairsAt H' vs kvs := Paired.mapP p fun _ _ ⟨a, e, q⟩ => ⟨a, e, h _ _ q⟩
theorem upd_go {X : Cx} {pins : List (Addr × Obj)} {σ : St} {l d it : Addr} (hh : X.A.handled = none) : ∀ {more : List (Key × V)} {items : List V} {i : Nat} {A : Around} {H : Hp} {s : Shared} {kvs : List (Key × V)} {R : Result → Shared → Prop}, A.handled = none → Inv X pins σ H s → s.heap.IsListIter it l i → FpOk X pins H it →
    H l = some (.lst items) → H d = some (.dK kvs) → l ≠ d → PairsAt H (items.drop i) more → kvs.length + more.length ≤ sizeLine → (∀ s', Inv X pins σ (upd H d (.dK (mergeK kvs more))) s' → R (.ok (.ret .none)) s') →
    codeAny (model X.prog X.w) A (.builtin "dict.update.loop" ⟨[.ref d, .ref it, rawInt i, .none], []⟩) R s
  | [], items, i, A, H, s, kvs, R, hA, I, st, hf, hl, hd, hne, hp, hz, h => by
    refine codeAny_builtin Miss.entry_loop ?_
    rw [Around.under_plainId Miss.plain_loop _]
    obtain ⟨its, n, r, ho, _⟩ := I.lst hl
    have hlen : items.length ≤ i := by
      have := Paired.length hp
      rw [List.length_drop] at this
      have e : ([] : List (Key × V)).length = 0 := rfl
      omega
    have hl2 := r.length
    show wpAny _ _ (pyNext (.ref it) >>= _) _ _ s
    obtain ⟨f0, f1, f2, f3, f4, f5⟩ := hf
    refine wpAny_bind (wpAny_pyNext_list_end (show A.in1.handled = none from hA) st (l := l) (items := its.toArray) ⟨_, ho, rfl, n, rfl⟩ (by simp; omega) fun h' eb => ?_)
    have I1 : Inv X pins σ H { s with heap := h' } := I.turned (t' := s.toks) (fun b ob hb e => eb b ob hb e) f0 f1 f3 f4 f5
    have e1 : upd H d (.dK (mergeK kvs [])) = H := by
      funext b
      by_cases hb : b = d
      · subst hb; rw [upd_same, hd]; rfl
      · rw [upd_ne hb]
    rw [e1] at h
    show wpAny _ _ (Builtin.Dict.addKeywords d [] >>= _) _ _ _
    exact wpAny_bind (wpAny_pure (wpAny_pure (h _ I1)))
  | (k, w) :: more, items, i, A, H, s, kvs, R, hA, I, st, hf, hl, hd, hne, hp, hz, h => by
    refine codeAny_builtin Miss.entry_loop ?_
    rw [Around.under_plainId Miss.plain_loop _]
    obtain ⟨its, n, r, ho, _⟩ := I.lst hl
    have hl2 := r.length
    cases e0 : items.drop i with
    | nil => rw [e0] at hp; cases hp
    | cons v rest =>
      rw [e0] at hp
      cases hp with
      | cons hv hr =>
        obtain ⟨a, rfl, ha⟩ := hv
        have hi : items[i]? = some (.ref a) := by rw [← List.head?_drop, e0]; rfl
        obtain ⟨u, hu, ru⟩ := r.get hi
        cases ru
        obtain ⟨f0, f1, f2, f3, f4, f5⟩ := id hf
        show wpAny _ _ (pyNext (.ref it) >>= _) _ _ s
        refine wpAny_bind (wpAny_pyNext_list_item st (l := l) (items := its.toArray) ⟨_, ho, rfl, n, rfl⟩ (x := .ref a) (by simpa using hu) fun h' st' sb => ?_)
        have I1 : Inv X pins σ H { s with heap := h' } := I.turned (t' := s.toks) (fun b ob hb e => (sb.2 b hb).trans e) f0 f1 f3 f4 f5
        obtain ⟨_, its2, rt, ob, ho2, hc2, n2, hd2⟩ := (show ObjOk X.prog X.w H h' a (.tup [kV k, w]) from I1.hok a _ ha)
        obtain ⟨uk, uw, rfl, rk, rw'⟩ := vals2 rt
        refine wpAny_bind (wpAny_holding (wpAny_bind (wpAny_tryCatch ?_)))
        unfold Builtin.Dict.pairItems
        refine wpAny_bind (wpAny_typeOf (T := "tuple") ⟨ob, ho2, hc2⟩ ?_)
        rw [if_pos (by decide)]
        refine wpAny_bind (wpAny_seqItems ho2 hd2 (wpAny_pure ?_))
        show wpAny _ _ (holding [uk, uw] (dictSet d uk uw)) _ _ _
        obtain ⟨z, hs, vs, rel, dd⟩ := dk_of I1.hok hd
        have hz2 : kvs.length + (more.length + 1) ≤ sizeLine := hz
        have hl3 : (putK kvs k w).length ≤ kvs.length + 1 := length_putK kvs k w
        refine wpAny_holding (wpAny_dictSet_pairs (kV_is rk) dd (fun h2 dd' sb2 => wpAny_pure ?_) (by rw [← rel.length]; exact z))
        have he : ∃ q, h2.get? d = some q := let ⟨q, _, _, hq, _⟩ := dd'; ⟨q, hq⟩
        have I2 : Inv X pins σ (upd H d (.dK (putK kvs k w))) { s with heap := h2, toks := s.toks + 1 } := d_write (s := { s with heap := h' }) (t' := s.toks + 1) I1 (by rw [hd]; exact True.intro) sb2 he (dk_new (by omega) hs (rel.put k rw') dd')
        have hitd : it ≠ d := fun z => by rw [z, hd] at f0; cases f0
        have tk : ∀ b xs, H b = some (.tup xs) → upd H d (.dK (putK kvs k w)) b = some (.tup xs) := fun b xs q => by
          rw [upd_ne (ne_of q hd (by intro z; cases z))]; exact q
        refine ⟨plainId_quiet Miss.plain_loop _, ?_⟩
        have e3 : (i : Int) + 1 = ((i + 1 : Nat) : Int) := by omega
        rw [e3]
        refine upd_go hh (more := more) (items := items) (i := i + 1) (kvs := putK kvs k w) hA I2 (st'.extBut sb2.extBut hitd) ⟨by rw [upd_ne hitd]; exact f0, f1, f2, f3, f4, f5⟩ (by rw [upd_ne hne]; exact hl) upd_same hne ?_ (by omega) fun s' I' => h s' ?_
        · have e4 : items.drop (i + 1) = rest := by rw [← List.tail_drop, e0]; rfl
          rw [e4]
          exact PairsAt.mono tk hr
        · rw [upd_upd] at I'
          exact I'
def rUpdate : V → List V → Hp → VK → Prop := fun x vs H Q => ∃ d l kvs items more, x = .ref d ∧ vs = [.ref l] ∧ H d = some (.dK kvs) ∧ H l = some (.lst items) ∧ PairsAt H items more ∧ kvs.length + more.length ≤ sizeLine ∧ Q .non (upd H d (.dK (mergeK kvs more)))
theorem mt_update {X : Cx} (hc : X.calm = true) : MtM X "dict.update" rUpdate := by
  intro pins s σ H x vs v us Q I rx rv h
  obtain ⟨d, l, kvs, items, more, rfl, rfl, hd, hl, hp, hz, q⟩ := h
  cases rx
  obtain ⟨u, rfl, ru⟩ := rv.one
  cases ru
  have hne : l ≠ d := ne_of hl hd (by intro z; cases z)
  obtain ⟨z, hs, ws, rel, dd⟩ := dk_of I.hok hd
  obtain ⟨its, n, r, ho, _⟩ := I.lst hl
  have hA := I.ok.hd hc
  refine wpAny_call (codeAny_call_builtin PySem.F.slot_dict_update.plain PySem.F.entry_dict_update (PySem.F.slot_dict_update.check _ _ _ _ _ _ _ _ dd.typeIs (PySem.F.args_dict_update_2 _ _) ?_))
  unfold Builtin.«dict.update»
  refine wpAny_bind ?_
  unfold Builtin.Dict.selfAndRest
  refine wpAny_bind (wpAny_notOrdered_dict dd.typeIs ?_)
  show wpAny _ _ (pure (d, [Value.ref l])) _ _ s
  refine wpAny_pure ?_
  show wpAny _ _ (Builtin.Dict.updateFrom "dict.update" d (.ref l) [] .none) _ _ s
  unfold Builtin.Dict.updateFrom
  refine wpAny_bind (wpAny_typeOf (T := "list") ⟨_, ho, rfl⟩ ?_)
  rw [if_pos (by decide)]
  refine wpAny_bind (Miss.no_keys hA ho fun h' tk kp => ?_)
  have I1 : Inv X pins σ H { s with heap := h', toks := tk } := I.kept kp
  show wpAny _ _ (if true = true then _ else _) _ _ _
  rw [if_pos rfl]
  refine wpAny_bind (wpAny_rule ?_)
  refine wpAny_bind (wpAny_pyIter_list (l := l) (items := its.toArray) ⟨_, kp _ _ ho, rfl, n, rfl⟩ ?_)
  have I2 : Inv X pins σ H { s with heap := h'.push { cls := .type "list_iterator", data := .fields #[.ref l, .int 0 0] }, toks := tk } := I1.kept (t' := tk) fun b ob e => Heap.get?_push_of_some _ e
  refine wpAny_pure ⟨plainId_quiet Miss.plain_loop _, ?_⟩
  exact upd_go (i := 0) hA hA I2 ⟨_, Heap.get?_push_size _ rfl, rfl, rfl⟩ (I1.fpOk (Nat.le_refl _) (I1.hok.fresh (Nat.le_refl _))) hl hd hne hp hz fun s' I' => ⟨.non, _, I', rfl, q⟩
end L2
set_option maxRecDepth 100000
set_option maxHeartbeats 4000000
namespace L2
open PySem PySem.Spec PyProof.Rows
section
variable {K : PySem.W.Frag} {H : Hp} {Q : VK} {p : Addr} {xs : List V} {i : Int} {v : V}
theorem ixL (h : SqL K H p xs) (e : atI xs i = some v) (q : Q v H) : rIxL K (.ref p) (.int i) H Q := ⟨p, xs, i, v, rfl, rfl, h, e, q⟩
theorem ixT (h : SqT K H p xs) (e : atI xs i = some v) (q : Q v H) : rIxT K (.ref p) (.int i) H Q := ⟨p, xs, i, v, rfl, rfl, h, e, q⟩
end
def wo (ts : List Addr) (H : Hp) : Hp := fun b => if b ∈ ts then none else H b
theorem wo_in {ts : List Addr} {H : Hp} {b : Addr} (h : b ∈ ts) : wo ts H b = none := if_pos h
theorem wo_out {ts : List Addr} {H : Hp} {b : Addr} (h : b ∉ ts) : wo ts H b = H b := if_neg h
theorem wo_same (ts : List Addr) (H : Hp) : Same (wo ts H) H := fun b o e => by
  by_cases h : b ∈ ts
  · rw [wo_in h] at e; cases e
  · rw [wo_out h] at e; exact e
def Ext (ts : List Addr) (H H' : Hp) : Prop := ∀ b o, b ∉ ts → H b = some o → H' b = some o
theorem Ext.refl (ts : List Addr) (H : Hp) : Ext ts H H := fun _ _ _ h => h
theorem Ext.trans {ts : List Addr} {H H1 H2 : Hp} (a : Ext ts H H1) (b : Ext ts H1 H2) : Ext ts H H2 := fun c o h e => b c o h (a c o h e)
theorem Ext.same {ts : List Addr} {H H' : Hp} (a : Ext ts H H') : Same (wo ts H) (wo ts H') := fun b o e => by
  by_cases h : b ∈ ts
  · rw [wo_in h] at e; cases e
  · rw [wo_out h] at e ⊢; exact a b o h e
theorem Ext.put {ts : List Addr} {H : Hp} {t : Addr} {o : HO} (h : t ∈ ts) : Ext ts H (upd H t o) := fun b u hb e => by
  have ne : b ≠ t := fun z => hb (by rw [z]; exact h)
  rw [upd_ne ne]; exact e
theorem Ext.laid {ts : List Addr} {H : Hp} {l : Addr} {o : HO} (h : H l = none) : Ext ts H (upd H l o) := fun b u _ e => by
  rw [upd_ne (ne_of_none e h)]; exact e
theorem Ext.mono {ts us : List Addr} {H H' : Hp} (a : Ext ts H H') (h : ∀ b ∈ ts, b ∈ us) : Ext us H H' := fun b o hb e => a b o (fun z => hb (h b z)) e
theorem Ext.drop {ts : List Addr} {l : Addr} {H H' : Hp} (a : Ext (l :: ts) H H') (h : H l = none) : Ext ts H H' := fun b o hb e => a b o (fun z => by
  rcases List.mem_cons.mp z with y | y
  · rw [y, h] at e; cases e
  · exact hb y) e
theorem same_wo {ts us : List Addr} {H : Hp} (h : ∀ b ∈ ts, b ∈ us) : Same (wo us H) (wo ts H) := fun b o e => by
  by_cases hb : b ∈ us
  · rw [wo_in hb] at e; cases e
  · rw [wo_out hb] at e
    rw [wo_out (fun z => hb (h b z))]; exact e
def yo (H0 : Hp) (ts : List Addr) (H : Hp) : Hp := fun b => match H0 b with
  | some _ => none
  | none => wo ts H b
theorem yo_out {H0 : Hp} {ts : List Addr} {H : Hp} {b : Addr} (h0 : H0 b = none) (h : b ∉ ts) : yo H0 ts H b = H b := by
  unfold yo; rw [h0]; exact wo_out h
theorem yo_some {H0 : Hp} {ts : List Addr} {H : Hp} {b : Addr} {o : HO} (h : yo H0 ts H b = some o) : H0 b = none ∧ b ∉ ts ∧ H b = some o := by
  unfold yo at h
  cases z : H0 b with
  | some _ => rw [z] at h; cases h
  | none =>
    rw [z] at h
    have h : wo ts H b = some o := h
    by_cases hb : b ∈ ts
    · rw [wo_in hb] at h; cases h
    · rw [wo_out hb] at h; exact ⟨rfl, hb, h⟩
theorem Ext.none {ts : List Addr} {H H' : Hp} {b : Addr} (a : Ext ts H H') (h : b ∉ ts) (e : H' b = none) : H b = none := by
  cases z : H b with
  | none => rfl
  | some o => rw [a _ _ h z] at e; cases e
theorem Ext.young {H0 : Hp} {ts : List Addr} {H H' : Hp} (a : Ext ts H H') : Same (yo H0 ts H) (yo H0 ts H') := fun b o e => by
  obtain ⟨h0, h1, h2⟩ := yo_some e
  rw [yo_out h0 h1]; exact a b o h1 h2
theorem yo_less {H0 : Hp} {ts us : List Addr} {H : Hp} (h : ∀ b ∈ ts, b ∈ us) : Same (yo H0 us H) (yo H0 ts H) := fun b o e => by
  obtain ⟨h0, h1, h2⟩ := yo_some e
  rw [yo_out h0 (fun z => h1 (h b z))]; exact h2
theorem yo_wo {H0 : Hp} {ts : List Addr} {H : Hp} : Same (yo H0 ts H) (wo ts H) := fun b o e => by
  obtain ⟨h0, h1, h2⟩ := yo_some e
  rw [wo_out h1]; exact h2
theorem yo_same {H0 : Hp} {ts : List Addr} {H : Hp} : Same (yo H0 ts H) H := fun b o e => (yo_some e).2.2
theorem yo_older {H0 H1 : Hp} {ts us : List Addr} {H : Hp} (a : Ext ts H0 H1) (h : ∀ b ∈ ts, b ∈ us) : Same (yo H1 us H) (yo H0 us H) := fun b o e => by
  obtain ⟨h0, h1, h2⟩ := yo_some e
  rw [yo_out (a.none (fun z => h1 (h b z)) h0) h1]; exact h2
theorem yo_apart {H0 H1 : Hp} {ts us : List Addr} {H : Hp} (h : ∀ b ∈ us, b ∈ ts ∨ H1 b ≠ none) : Same (yo H1 ts H) (yo H1 us H) := fun b o e => by
  obtain ⟨h0, h1, h2⟩ := yo_some e
  rw [yo_out h0 (fun z => (h b z).elim h1 (fun y => y h0))]; exact h2
def Tape (H : Hp) (t : Addr) (k : Nat) : Prop := ∃ (a b c : Int), H t = some (.lst [.int a, .int b, .int c]) ∧ 0 ≤ a ∧ 0 ≤ b ∧ b < 2 ^ 62 ∧ 0 ≤ c ∧ c ≤ k
theorem Tape.mono {H : Hp} {t : Addr} {k j : Nat} (h : Tape H t k) (hk : k ≤ j) : Tape H t j := by
  obtain ⟨a, b, c, h1, h2, h3, h4, h5, h6⟩ := h
  exact ⟨a, b, c, h1, h2, h3, h4, h5, by omega⟩
theorem Tape.ext {H H' : Hp} {t : Addr} {k : Nat} {ts : List Addr} (h : Tape H t k) (e : Ext ts H H') (ht : t ∉ ts) : Tape H' t k := by
  obtain ⟨a, b, c, h1, r⟩ := h
  exact ⟨a, b, c, e _ _ ht h1, r⟩
theorem Tape.ne {H : Hp} {t l : Addr} {k : Nat} (h : Tape H t k) (hl : H l = none) : l ≠ t := by
  obtain ⟨a, b, c, h1, _⟩ := h
  exact (ne_of_none h1 hl).symm
def spDraw : Sp := fun vs H Q _ => ∃ (t : Addr) (k : Nat) (n : Int), vs = [.ref t, .int n] ∧ Tape H t k ∧ k ≤ 2 ^ 40 ∧ 0 < n ∧ n < 2 ^ 24 ∧ ∀ (r : Int) (H' : Hp), 0 ≤ r → r < n → Tape H' t (k + 1) → Ext [t] H H' → (∀ b, b ≠ t → H' b = H b) → Q (.int r) H'
section
variable {K : PySem.W.Frag} {σ : St} {H : Hp} {Q : VK} {p : Addr} {xs : List V} {i j : Int} {v : V} {ta tb te to ti : TE} {r : R2} {t u : TS} {D : Ends} {n m : Nat} {tt t2 : TT} {tl tr : TA}
theorem r_op (h : ta σ H fun x H1 => tb σ H1 fun y H2 => r x y H2 Q) : tOp r ta tb σ H Q := h
theorem r_var (h : σ[n]? = some (some v)) (q : Q v H) : tVar n σ H Q := ⟨v, h, q⟩
theorem r_c (q : Q v H) : tC v σ H Q := q
theorem r_i0 {g : Int → Int → V} (q : Q (g i j) H) : rI0 g (.int i) (.int j) H Q := ⟨i, j, rfl, rfl, q⟩
theorem r_i {C : Int → Int → Prop} {g : Int → Int → V} (c : C i j) (q : Q (g i j) H) : rI C g (.int i) (.int j) H Q := ⟨i, j, rfl, rfl, c, q⟩
theorem r_mul (c : (-(2 ^ 64) < i ∧ i < 2 ^ 64) ∨ (-(2 ^ 64) < j ∧ j < 2 ^ 64)) (q : Q (.int (i * j)) H) : rI CMul (fun i j => .int (i * j)) (.int i) (.int j) H Q := ⟨i, j, rfl, rfl, c, q⟩
theorem r_pow (c1 : 0 ≤ j) (c2 : j ≤ 1000000) (c3 : i.natAbs < 2 ^ 64) (q : Q (.int (i ^ j.toNat)) H) : rI CPow (fun i j => .int (i ^ j.toNat)) (.int i) (.int j) H Q := ⟨i, j, rfl, rfl, ⟨c1, c2, c3⟩, q⟩
theorem r_div (c1 : 0 < j) (c2 : j < 1073741824) (q : Q (.int (i / j)) H) : rI CDiv (fun i j => .int (i / j)) (.int i) (.int j) H Q := ⟨i, j, rfl, rfl, ⟨c1, c2⟩, q⟩
theorem r_mod (c : 0 < j) (q : Q (.int (i % j)) H) : rI (fun _ j => 0 < j) (fun i j => .int (i % j)) (.int i) (.int j) H Q := ⟨i, j, rfl, rfl, c, q⟩
theorem r_un {g : Int → V} (h : ta σ H fun x H1 => rU g x H1 Q) : tUn (rU g) ta σ H Q := h
theorem r_u {g : Int → V} (q : Q (g i) H) : rU g (.int i) H Q := ⟨i, rfl, q⟩
theorem r_ixL (h : SqL K H p xs) (e : atI xs i = some v) (q : Q v H) : rIxL K (.ref p) (.int i) H Q := ⟨p, xs, i, v, rfl, rfl, h, e, q⟩
theorem r_ixT (h : SqT K H p xs) (e : atI xs i = some v) (q : Q v H) : rIxT K (.ref p) (.int i) H Q := ⟨p, xs, i, v, rfl, rfl, h, e, q⟩
theorem r_seq (h : t { D with nx := u D } σ H) : tSeq t u D σ H := h
theorem r_asg {g : TG} (h : te σ H fun x H1 => g x σ H1 D.nx) : tAsg te g D σ H := h
theorem r_gn {R : St → Hp → Prop} (q : R (σ.set n (some v)) H) : gName n v σ H R := q
theorem r_ret (h : te σ H D.rt) : tRet te D σ H := h
theorem r_drop (h : te σ H fun _ H1 => D.nx σ H1) : tDrop te D σ H := h
theorem r_next (h : D.nx σ H) : tNext D σ H := h
theorem r_if (h : tt σ H fun b H1 => if b = true then t D σ H1 else u D σ H1) : tIfS tt t u D σ H := h
theorem r_test {R : Bool → Hp → Prop} (h : te σ H fun x H' => ∃ k, x = .bl k ∧ R k H') : tTest te σ H R := h
theorem r_tB {R : Bool → Hp → Prop} (h : te σ H fun x H' => ∃ k, x = .bl k ∧ R k H') : tB te σ H R := h
theorem r_bl {b : Bool} {R : Bool → Prop} (q : R b) : ∃ k, V.bl b = .bl k ∧ R k := ⟨b, rfl, q⟩
theorem r_gsub {ts : TSet} {R : St → Hp → Prop} (h : to σ H fun o H1 => ti σ H1 fun i H2 => ts o i v H2 fun H3 => R σ H3) : gSub to ti ts v σ H R := h
theorem r_setL {R : Hp → Prop} (h : H p = some (.lst xs)) (e : ixN xs.length i = some n) (q : R (upd H p (.lst (xs.set n v)))) : rSetL (.ref p) (.int i) v H R := ⟨p, xs, i, n, rfl, rfl, h, e, q⟩
theorem r_nil {R : List V → Hp → Prop} (q : R [] H) : tNil σ H R := q
theorem r_cons {R : List V → Hp → Prop} (h : ta σ H fun x H1 => tr σ H1 fun xs H2 => R (x :: xs) H2) : tCons ta tr σ H R := h
theorem r_tup (h : tl σ H fun xs H1 => xs.length ≤ sizeLine ∧ ∀ p, H1 p = none → Q (.ref p) (upd H1 p (.tup xs))) : tTup tl σ H Q := h
theorem r_lst (h : tl σ H fun xs H1 => xs.length ≤ sizeLine ∧ ∀ p, H1 p = none → Q (.ref p) (upd H1 p (.lst xs))) : tLst tl σ H Q := h
theorem r_call {sp : Sp} {dvs : List V} {E : XK} (h : tl σ H fun vs H1 => sp (vs ++ dvs) H1 Q E) : tCall sp dvs E tl σ H Q := h
theorem r_cb {rr : List V → Hp → VK → Prop} (h : tl σ H fun vs H1 => rr vs H1 Q) : tCB rr tl σ H Q := h
theorem r_ife (h : tt σ H fun b H1 => if b = true then ta σ H1 Q else tb σ H1 Q) : tIf tt ta tb σ H Q := h
theorem r_and {R : Bool → Hp → Prop} (h : tt σ H fun c H1 => if c = true then t2 σ H1 R else R false H1) : tAnd tt t2 σ H R := h
theorem r_or {R : Bool → Hp → Prop} (h : tt σ H fun c H1 => if c = true then R true H1 else t2 σ H1 R) : tOr tt t2 σ H R := h
theorem r_not {R : Bool → Hp → Prop} (h : tt σ H fun c H1 => R (!c) H1) : tNot tt σ H R := h
theorem r_par (h : tl σ H fun vs H1 => ∃ v w, vs = [v, w] ∧ D.nx ((σ.set n (some v)).set m (some w)) H1) : tPar n m tl D σ H := h
end
section
variable {K : PySem.W.Frag} {σ : St} {H : Hp} {Q : VK} {l t : Addr} {xs : List V} {i j n : Int} {v y : V} {k : Nat} {E : XK}
theorem r_draw (hT : Tape H t k) (hk : k ≤ 2 ^ 40) (h0 : 0 < n) (h1 : n < 2 ^ 24) (q : ∀ r H', 0 ≤ r → r < n → Tape H' t (k + 1) → Ext [t] H H' → (∀ b, b ≠ t → H' b = H b) → Q (.int r) H') : spDraw ([.ref t, .int n] ++ []) H Q E := ⟨t, k, n, rfl, hT, hk, h0, h1, q⟩
theorem r_eqI (q : Q (.bl (decide (i = j))) H) : rEq (.int i) (.int j) H Q := ⟨rfl, by
  have e : decide (V.int i = V.int j) = decide (i = j) := by rw [Bool.eq_iff_iff]; simp
  rw [e]; exact q⟩
theorem r_neI (q : Q (.bl (!decide (i = j))) H) : rNe (.int i) (.int j) H Q := ⟨rfl, by
  have e : decide (V.int i = V.int j) = decide (i = j) := by rw [Bool.eq_iff_iff]; simp
  rw [e]; exact q⟩
theorem r_eqS {a b : Str} (q : Q (.bl (decide (a = b))) H) : rEq (.str a) (.str b) H Q := ⟨rfl, by
  have e : decide (V.str a = V.str b) = decide (a = b) := by rw [Bool.eq_iff_iff]; simp
  rw [e]; exact q⟩
theorem r_neS {a b : Str} (q : Q (.bl (!decide (a = b))) H) : rNe (.str a) (.str b) H Q := ⟨rfl, by
  have e : decide (V.str a = V.str b) = decide (a = b) := by rw [Bool.eq_iff_iff]; simp
  rw [e]; exact q⟩
theorem r_tyL {R : Prop} (h : H l = some (.lst xs)) (q : R) : tyV K "list" (.ref l) H ∧ R := ⟨.inl ⟨rfl, _, SqL.of h⟩, q⟩
theorem r_app (h : H l = some (.lst xs)) (hz : xs.length < sizeLine) (q : Q .non (upd H l (.lst (xs ++ [y])))) : rAppend (.ref l) [y] H Q := ⟨l, xs, y, rfl, rfl, h, hz, q⟩
theorem bit01 (b : Bool) : 0 ≤ (if b = true then (1 : Int) else 0) ∧ (if b = true then (1 : Int) else 0) ≤ 1 := by cases b <;> decide
end
theorem len2 {n : Nat} (h : n ≤ 1000) : n ≤ sizeLine := Nat.le_trans h (by decide)
theorem nox_K {CX : CXT} {P : Program} {w : World} {K : PySem.W.Frag} {mg : Str → Option Value} {base : Heap} {N : List Str} {qual : Str} {scope : Scope} {f : Addr} {cd : Value} {A : Around} {outer : List Env} {s : Shared} {H : Hp} {E : XK} : (cxOf CX P w K mg base N qual scope f cd A outer s H E).nox.K = K := rfl
theorem comp_K {X : Cx} {own : List Str} {cap : List Nat} {scope : Scope} {cl : List (Str × Addr)} {s : Shared} {H : Hp} {ex : List Addr} : (compCx X own cap scope cl s H ex).K = X.K := rfl
def Has (P : Program) (w : World) (K : PySem.W.Frag) (mg : Str → Option Value) (base : Heap) (x : Str) (k : Nat) (ps : List Str) (sp : Sp) : Prop :=
  ∃ f fd, FnOk P w K mg base CX0 k f fd ps sp ∧ mg x = some (.ref f) ∧ PySem.W.keepIn K (.ref f) = true ∧ Binds K fd ps []
theorem pe_fn {X : Cx} {x : Str} {k j : Nat} {ps : List Str} {sp : Sp} {e : Expr} {es : List Expr} {t : TA} {p pos : Pos} (h : Has X.prog X.w X.K X.mg X.base x k ps sp) (hr : Room j X.A) (hj : k ≤ j) (ha : PA X (e :: es) t) (hg : Gl X x := by rfl)
    (hdb : (x == ("__debug__" : Str)) = false := by decide) (he : starEach (e :: es) X.env = (false, eval e X.env) :: starEach es X.env := by rfl) (hpl : (backTo pos (starEach es X.env)).any (·.1) = false := by rfl) :
    PE X (.Call (.Name x p) (e :: es) [] pos) (tCall sp [] E0 t) := by
  obtain ⟨f, fd, G, hm, hk, hb⟩ := h
  exact pe_call G (hr.mono hj) hg hm hk hb .nil pass0 ha hdb he hpl
def spTape (K : PySem.W.Frag) : Sp := fun vs H Q _ => ∃ (a : Addr) (ns : List Int) (k : Nat), vs = [.ref a, .int k] ∧ SqL K H a (ns.map V.int) ∧ k ≤ 100 ∧ ∀ (t : Addr) (H' : Hp), H t = none → Tape H' t 0 → Same H H' → Q (.ref t) H'
def spInt (c : Nat) (lo hi : Int) : Sp := fun vs H Q _ => ∃ (t : Addr) (k : Nat), vs = [.ref t] ∧ Tape H t k ∧ k + c ≤ 2 ^ 40 ∧ ∀ (r : Int) (H' : Hp), lo ≤ r → r ≤ hi → Tape H' t (k + c) → Ext [t] H H' → Q (.int r) H'
abbrev spMany : Sp := spInt 3 1 12
abbrev spNumber : Sp := spInt 3 (-(10 ^ 12)) (10 ^ 12)
end L2
set_option maxRecDepth 100000
set_option maxHeartbeats 1000000
namespace L2
open PySem PySem.Spec PyProof.Rows
def chk (X : Cx) (own : List Str) (cap : List Nat) (scope : Scope) : Bool :=
  decide (scope.kind = .function) && (scope.names.all fun x => decide (x.2 ≠ .cell)) && (scope.names.all fun x => !decide (x.2 = .local) || decide (scope.names.lookup x.1 = some .local)) &&
  (scope.names.all fun x => !decide (x.2 = .free) || (decide (X.env.scope.names.lookup x.1 = some .cell) || decide (X.env.scope.names.lookup x.1 = some .free))) && (own.all fun x => decide (scope.names.lookup x = some .local)) &&
  (cap.all fun j => decide (scope.names.lookup (X.N.getD j "") = some .free) && decide (j < X.N.length))
theorem CompScope.of {X : Cx} {own : List Str} {cap : List Nat} {scope : Scope} (h : chk X own cap scope = true) : CompScope X own cap scope := by
  unfold chk at h
  simp only [Bool.and_eq_true, List.all_eq_true, decide_eq_true_eq, Bool.or_eq_true, Bool.not_eq_true', decide_eq_false_iff_not] at h
  obtain ⟨⟨⟨⟨⟨h1, h2⟩, h3⟩, h4⟩, h5⟩, h6⟩ := h
  exact ⟨h1, fun x hx => h2 x hx, fun x hx e => (h3 x hx).resolve_left (fun z => z e), fun x hx e => (h4 x hx).resolve_left (fun z => z e), h5, fun j hj => h6 j hj⟩
section
variable {K : PySem.W.Frag} {a : Addr} {xs : List V} {g : TG} {tt : TT} {B : TB} {σ : St} {H : Hp} {Q : St → Hp → Prop}
theorem loop_by {J : It} {n : Nat} (Pv : Nat → St → Hp → Prop) (h0 : Pv 0 σ H) (hgo : ∀ i σ H, i < n → Pv i σ H → J.go i H) (hst : ∀ σ H, Pv n σ H → J.stop n H)
    (hs : ∀ i σ H (R : St → Hp → Prop), i < n → Pv i σ H → (∀ σ' H', Pv (i + 1) σ' H' → R σ' H') → ∀ x H', J.yld i H x H' → g x σ H' fun σ2 H2 => tt σ2 H2 fun b H3 => if b = true then B σ2 H3 R else R σ2 H3)
    (hd : ∀ σ H, Pv n σ H → Q σ H) : LoopT J g tt B σ H Q := by
  refine ⟨fun i m σ H => m = n - i ∧ i ≤ n ∧ Pv i σ H, ⟨n, by simp, Nat.zero_le _, h0⟩, ?_⟩
  rintro i m σ H ⟨rfl, hi, p⟩
  by_cases hlt : i < n
  · refine .inr ⟨hgo i σ H hlt p, fun x H' y => ?_⟩
    exact hs i σ H _ hlt p (fun σ' H' p' => ⟨n - (i + 1), by omega, rfl, hlt, p'⟩) x H' y
  · have e : i = n := by omega
    subst e
    exact .inl ⟨hst σ H p, hd σ H p⟩
theorem loop_list (Pv : Nat → St → Hp → Prop) (h0 : Pv 0 σ H) (hl : ∀ i σ H, i ≤ xs.length → Pv i σ H → SqL K H a xs)
    (hs : ∀ i x σ H (R : St → Hp → Prop), xs[i]? = some x → Pv i σ H → (∀ σ' H', Pv (i + 1) σ' H' → R σ' H') → g x σ H fun σ2 H2 => tt σ2 H2 fun b H3 => if b = true then B σ2 H3 R else R σ2 H3)
    (hd : ∀ σ H, Pv xs.length σ H → Q σ H) : LoopT (Itl K a) g tt B σ H Q := by
  refine loop_by (n := xs.length) Pv h0 (fun i σ H hi p => ⟨xs, xs[i], hl i σ H (Nat.le_of_lt hi) p, by simp [hi]⟩) (fun σ H p => ⟨xs, hl _ σ H (Nat.le_refl _) p, Nat.le_refl _⟩) (fun i σ H R hi p hR x H' y => ?_) hd
  obtain ⟨e, y⟩ := y
  subst e
  exact hs i x σ _ R (y xs (hl i σ _ (Nat.le_of_lt hi) p)) p hR
theorem loop_range {lo : Int} {n : Nat} (Pv : Nat → St → Hp → Prop) (h0 : Pv 0 σ H)
    (hs : ∀ i σ H (R : St → Hp → Prop), i < n → Pv i σ H → (∀ σ' H', Pv (i + 1) σ' H' → R σ' H') → g (.int (lo + i)) σ H fun σ2 H2 => tt σ2 H2 fun b H3 => if b = true then B σ2 H3 R else R σ2 H3)
    (hd : ∀ σ H, Pv n σ H → Q σ H) : LoopT (Itr lo n) g tt B σ H Q := by
  refine loop_by (n := n) Pv h0 (fun i σ H hi p => hi) (fun σ H p => Nat.le_refl _) (fun i σ H R hi p hR x H' y => ?_) hd
  obtain ⟨e, y⟩ := y
  subst e y
  exact hs i σ _ R hi p hR
theorem loop_enum (Pv : Nat → St → Hp → Prop) (h0 : Pv 0 σ H) (hl : ∀ i σ H, i ≤ xs.length → Pv i σ H → SqL K H a xs)
    (hs : ∀ i x σ H p (R : St → Hp → Prop), xs[i]? = some x → Pv i σ H → H p = none → (∀ σ' H', Pv (i + 1) σ' H' → R σ' H') → g (.ref p) σ (upd H p (.tup [.int i, x])) fun σ2 H2 => tt σ2 H2 fun b H3 => if b = true then B σ2 H3 R else R σ2 H3)
    (hd : ∀ σ H, Pv xs.length σ H → Q σ H) : LoopT (Ite K a) g tt B σ H Q := by
  refine loop_by (n := xs.length) Pv h0 (fun i σ H hi p => ⟨xs, xs[i], hl i σ H (Nat.le_of_lt hi) p, by simp [hi]⟩) (fun σ H p => ⟨xs, hl _ σ H (Nat.le_refl _) p, Nat.le_refl _⟩) (fun i σ H R hi p hR x H' y => ?_) hd
  obtain ⟨q, y, e, hq, hy, e2⟩ := y
  subst e e2
  exact hs i y σ H q R (hy xs (hl i σ H (Nat.le_of_lt hi) p)) p hq hR
theorem loop_dict {o : Obj} {kvs : List (Key × V)} (Pv : Nat → St → Hp → Prop) (h0 : Pv 0 σ H) (hl : ∀ i σ H, i ≤ kvs.length → Pv i σ H → H a = some (.frz o (.dK kvs)))
    (hs : ∀ i k v σ H (R : St → Hp → Prop), kvs[i]? = some (k, v) → Pv i σ H → (∀ σ' H', Pv (i + 1) σ' H' → R σ' H') → g (kV k) σ H fun σ2 H2 => tt σ2 H2 fun b H3 => if b = true then B σ2 H3 R else R σ2 H3)
    (hd : ∀ σ H, Pv kvs.length σ H → Q σ H) : LoopT (Itd a o kvs) g tt B σ H Q := by
  refine loop_by (n := kvs.length) Pv h0 (fun i σ H hi p => ⟨hl i σ H (Nat.le_of_lt hi) p, hi⟩) (fun σ H p => ⟨hl _ σ H (Nat.le_refl _) p, Nat.le_refl _⟩) (fun i σ H R hi p hR x H' y => ?_) hd
  obtain ⟨e, k, v, hk, e2⟩ := y
  subst e e2
  exact hs i k v σ _ R hk p hR
theorem lst_inj {ys : List V} {H : Hp} (h : H a = some (.lst xs)) (hK : K.lookup a = none) (h' : SqL K H a ys) : ys = xs := by
  rcases h' with (h' | ⟨o, h'⟩) | ⟨o, _, _, h', _⟩
  · rw [h] at h'; cases h'; rfl
  · rw [h] at h'; cases h'
  · rw [hK] at h'; cases h'
end
theorem for_enum {K : PySem.W.Frag} {a : Addr} {xs : List V} {g : TG} {tb : TS} {D : Ends} {σ : St} {H : Hp} (Pv : Nat → St → Hp → Prop) (h0 : Pv 0 σ H) (hl : ∀ i σ H, i ≤ xs.length → Pv i σ H → SqL K H a xs)
    (hs : ∀ i x σ H p, xs[i]? = some x → Pv i σ H → H p = none → g (.ref p) σ (upd H p (.tup [.int i, x])) fun σ2 H2 => tb { D with nx := Pv (i + 1), ct := Pv (i + 1), bk := D.nx } σ2 H2) (hd : ∀ σ H, Pv xs.length σ H → D.nx σ H) :
    ∃ W : Nat → Nat → St → Hp → Prop, (∃ m, W 0 m σ H) ∧ ∀ i m σ H, W i m σ H →
      ((Ite K a).stop i H ∧ D.nx σ H) ∨ ((Ite K a).go i H ∧ ∃ N : St → Hp → Prop, (∀ σ' H', N σ' H' → ∃ m', m' < m ∧ W (i + 1) m' σ' H') ∧ ∀ x H', (Ite K a).yld i H x H' → g x σ H' fun σ2 H2 => tb { D with nx := N, ct := N, bk := D.nx } σ2 H2) := by
  refine ⟨fun i m σ H => m = xs.length - i ∧ i ≤ xs.length ∧ Pv i σ H, ⟨xs.length, by simp, Nat.zero_le _, h0⟩, ?_⟩
  rintro i m σ H ⟨rfl, hi, p⟩
  have q := hl i σ H hi p
  by_cases hlt : i < xs.length
  · refine .inr ⟨⟨xs, xs[i], q, by simp [hlt]⟩, Pv (i + 1), fun σ' H' p' => ⟨xs.length - (i + 1), by omega, rfl, hlt, p'⟩, fun x H' y => ?_⟩
    obtain ⟨r, y, e, hr, hy, e2⟩ := y
    subst e e2
    exact hs i y σ H r (hy xs q) p hr
  · have e : i = xs.length := by omega
    subst e
    exact .inl ⟨⟨xs, q, Nat.le_refl _⟩, hd σ H p⟩
abbrev intsD (ns : List Int) : PyData := .list (ns.map .int)
def NxOk (m : Int) (nx : List (List Int)) : Prop := (nx.length : Int) = m ∧ ∀ ns ∈ nx, ns = [] ∨ (∃ x, ns = [x] ∧ 1 ≤ x ∧ x < m) ∨ ∃ x y, ns = [x, y] ∧ x ≠ y ∧ 1 ≤ x ∧ x < m ∧ 1 ≤ y ∧ y < m
def spNexts (K : PySem.W.Frag) : Sp := fun vs H Q _ => ∃ (t : Addr) (k : Nat) (m : Int), vs = [.ref t, .int m] ∧ Tape H t k ∧ k + 30 ≤ 2 ^ 40 ∧ 1 ≤ m ∧ m ≤ 12 ∧
  ∀ (l : Addr) (nx : List (List Int)) (H' : Hp), H l = none → Tape H' t (k + 30) → Ext [t] H H' → NxOk m nx → Den K (yo H [t] H') (.list (nx.map intsD)) (.ref l) → Q (.ref l) H'
section
variable {K : PySem.W.Frag} {σ : St} {H : Hp} {Q : VK} {l d : Addr} {xs : List V} {i j : Int} {v y : V} {to ta tb te td ty tk tv tx : TE} {tl : TA} {wi : TI} {g : TG} {tts : List TT} {D : Ends} {tb2 : TS}
theorem r_bm {T : String} {r : V → List V → Hp → VK → Prop} (h : to σ H fun x H1 => tyV K T x H1 ∧ tl σ H1 fun xs H2 => r x xs H2 Q) : tBM K T r to tl σ H Q := h
theorem r_bm0 {T : String} {r : V → List V → Hp → VK → Prop} (h : to σ H fun x H1 => tyV K T x H1 ∧ r x [] H1 Q) : tBM0 K T r to σ H Q := h
theorem r_tyD {R : Prop} {kvs : List (Key × V)} (h : H d = some (.dK kvs)) (q : R) : tyV K "dict" (.ref d) H ∧ R := ⟨.inr (.inr (.inl ⟨rfl, .inl ⟨_, h⟩⟩)), q⟩
theorem r_comp {own : List Str} {cap : List Nat} {o : HO} {Bof : Addr → TB} (h : wi σ H fun J H1 => ∀ l, H1 l = none → LoopT J g (tAll tts) (Bof l) (compSt own cap σ) (upd H1 l o) fun _ H2 => Q (.ref l) H2) : tComp own cap o wi g tts Bof σ H Q := h
theorem r_ilist {R : It → Hp → Prop} (h : te σ H fun x H1 => ∃ a, x = .ref a ∧ (∃ xs, SqL K H1 a xs) ∧ R (Itl K a) H1) : iList K te σ H R := h
theorem r_ienum {R : It → Hp → Prop} (h : tl σ H fun vs H1 => ∃ a, vs = [.ref a] ∧ (∃ xs, SqL K H1 a xs) ∧ R (Ite K a) H1) : iEnum K tl σ H R := h
theorem r_idict {R : It → Hp → Prop} (h : te σ H fun x H1 => ∃ d kvs, x = .ref d ∧ H1 d = some (.dK kvs) ∧ ∀ o, R (Itd d o kvs) (upd H1 d (.frz o (.dK kvs)))) : iDict te σ H R := h
theorem r_itup {R : It → Hp → Prop} (h : te σ H fun x H1 => ∃ a, x = .ref a ∧ (∃ xs, SqT K H1 a xs) ∧ R (Itt K a) H1) : iTup K te σ H R := h
theorem r_rng1 {R : It → Hp → Prop} (h : tl σ H fun vs H1 => ∃ j : Int, vs = [.int j] ∧ -(2 ^ 62) ≤ j ∧ j < 2 ^ 62 ∧ R (Itr 0 j.toNat) H1) : iRng1 tl σ H R := h
theorem r_for (h : wi σ H fun J H1 => ∃ W : Nat → Nat → St → Hp → Prop, (∃ m, W 0 m σ H1) ∧ ∀ i m σ H, W i m σ H →
  (J.stop i H ∧ D.nx σ H) ∨ (J.go i H ∧ ∃ N : St → Hp → Prop, (∀ σ' H', N σ' H' → ∃ m', m' < m ∧ W (i + 1) m' σ' H') ∧ ∀ x H', J.yld i H x H' → g x σ H' fun σ2 H2 => tb2 { D with nx := N, ct := N, bk := D.nx } σ2 H2)) : tFor wi g tb2 D σ H := h
theorem r_dnewK (h : ∀ p, H p = none → Q (.ref p) (upd H p (.dK []))) : tDNewK σ H Q := h
theorem r_din (h : ty σ H fun y H1 => td σ H1 fun x H2 => ∃ a o, x = .ref a ∧ DGet H2 a y o ∧ Q (.bl o.isSome) H2) : tDIn ty td σ H Q := h
theorem r_dnotin (h : ty σ H fun y H1 => td σ H1 fun x H2 => ∃ a o, x = .ref a ∧ DGet H2 a y o ∧ Q (.bl (!o.isSome)) H2) : tDNotIn ty td σ H Q := h
theorem r_dget (h : td σ H fun x H1 => ty σ H1 fun y H2 => ∃ a v, x = .ref a ∧ DGet H2 a y (some v) ∧ Q v H2) : tDGet td ty σ H Q := h
theorem r_dget2 (h : td σ H fun x H1 => ∃ a, x = .ref a ∧ IsD H1 a ∧ ty σ H1 fun y H2 => tx σ H2 fun z H3 => ∃ o, DGet H3 a y o ∧ Q (o.getD z) H3) : tDGet2 td ty tx σ H Q := h
theorem r_dput (h : tv σ H fun v H1 => td σ H1 fun x H2 => ty σ H2 fun y H3 => ∃ a H4, x = .ref a ∧ DPut H3 a y v H4 ∧ D.nx σ H4) : sDPut td ty tv D σ H := h
theorem r_app' {R : St → Hp → Prop} (h : te σ H fun v H1 => ∃ vs, H1 l = some (.lst vs) ∧ vs.length < sizeLine ∧ R σ (upd H1 l (.lst (vs ++ [v])))) : eApp te l σ H R := h
theorem r_put' {R : St → Hp → Prop} (h : tk σ H fun x H1 => tv σ H1 fun y H2 => ∃ kvs k, x = kV k ∧ H2 l = some (.dK kvs) ∧ kvs.length < sizeLine ∧ R σ (upd H2 l (.dK (putK kvs k y)))) : ePut tk tv l σ H R := h
theorem r_all0 {R : Bool → Hp → Prop} (h : R true H) : tAll [] σ H R := h
theorem r_all1 {tt : TT} {R : Bool → Hp → Prop} (h : tt σ H fun b H1 => if b = true then R true H1 else R false H1) : tAll [tt] σ H R := h
theorem r_gtup {n : Nat} {t : TGs} {R : St → Hp → Prop} (h : SqT K H l xs) (hn : xs.length = n) (q : t xs σ H R) : gTup K n t (.ref l) σ H R := ⟨l, xs, rfl, h, hn, q⟩
theorem r_gcons {t : TG} {u : TGs} {R : St → Hp → Prop} (h : t v σ H fun σ' H' => u xs σ' H' R) : gCons t u (v :: xs) σ H R := ⟨v, xs, rfl, h⟩
theorem r_gnil {R : St → Hp → Prop} (h : R σ H) : gNil [] σ H R := ⟨rfl, h⟩
theorem r_sl {r : V → Option Int → Option Int → Hp → VK → Prop} {t1 t2 : TO} (h : te σ H fun x H1 => t1 σ H1 fun l H2 => t2 σ H2 fun u H3 => r x l u H3 Q) : tSl r te t1 t2 σ H Q := h
theorem r_nop {R : Option Int → Hp → Prop} (h : R none H) : tNoPart σ H R := h
theorem r_part {R : Option Int → Hp → Prop} (h : te σ H fun x H1 => ∃ i, x = .int i ∧ R (some i) H1) : tPart te σ H R := h
end
theorem Ext.one {ts : List Addr} {H H' : Hp} {b : Addr} {o : HO} (e : Ext ts H H') (h : H b = some o) (hb : b ∉ ts) : H' b = some o := e b o hb h
end L2
set_option maxRecDepth 100000
set_option maxHeartbeats 1000000
namespace L2
open PySem PySem.Spec PyProof.Rows
inductive Deed where
  | set (b n : Int)
  | add (b o : Int)
  | tell (b : Int)
  | call (c : Int)
  | save (b : Int)
  | back (b : Int)
def deedD : Deed → PyData
  | .set b n => .tuple [.str "set", .int b, .int n]
  | .add b o => .tuple [.str "add", .int b, .int o]
  | .tell b => .tuple [.str "tell", .int b]
  | .call c => .tuple [.str "call", .int c]
  | .save b => .tuple [.str "save", .int b]
  | .back b => .tuple [.str "back", .int b]
def DeedOk (works : Int) : Deed → Prop
  | .set b n => 0 ≤ b ∧ b < 8 ∧ -(10 ^ 12) ≤ n ∧ n ≤ 10 ^ 12
  | .add b o => 0 ≤ b ∧ b < 8 ∧ 0 ≤ o ∧ o < 8
  | .tell b => 0 ≤ b ∧ b < 8
  | .call c => 0 ≤ c ∧ c < works
  | .save b => 0 ≤ b ∧ b < 8
  | .back b => 0 ≤ b ∧ b < 8
def endD : List Int → PyData
  | [] => .tuple [.str "out"]
  | [x] => .tuple [.str "go", .int x]
  | x :: y :: _ => .tuple [.str "fork", .int x, .int y]
structure Blk where
  ds : List Deed
  ns : List Int
def blkD (b : Blk) : PyData := .tuple [.list (b.ds.map deedD), endD b.ns]
def workD (w : List Blk) : PyData := .list (w.map blkD)
def NsOk (m : Int) (ns : List Int) : Prop := ns = [] ∨ (∃ x, ns = [x] ∧ 1 ≤ x ∧ x < m) ∨ ∃ x y, ns = [x, y] ∧ x ≠ y ∧ 1 ≤ x ∧ x < m ∧ 1 ≤ y ∧ y < m
structure BlkOk (m works : Int) (b : Blk) : Prop where
  ns : NsOk m b.ns
  ds : ∀ d ∈ b.ds, DeedOk works d
  few : b.ds.length ≤ 14
structure WorkOk (m works : Int) (w : List Blk) : Prop where
  len : (w.length : Int) = m
  blk : ∀ b ∈ w, BlkOk m works b
structure BsOk (bs : List Int) : Prop where
  one : 1 ≤ bs.length
  few : bs.length ≤ 8
  all : ∀ b ∈ bs, 0 ≤ b ∧ b < 8
def spDeeds (K : PySem.W.Frag) : Sp := fun vs H Q _ => ∃ (t b : Addr) (k : Nat) (most first works : Int) (bs : List Int), vs = [.ref t, .int most, .ref b, .int first, .int works] ∧ Tape H t k ∧ k + 130 ≤ 2 ^ 40 ∧ 0 ≤ most ∧ most ≤ 12 ∧ 0 ≤ first ∧ first ≤ 100 ∧ 1 ≤ works ∧ works ≤ 100 ∧
  H b = some (.lst (bs.map V.int)) ∧ b ≠ t ∧ BsOk bs ∧ ∀ (l : Addr) (ds : List Deed) (H' : Hp), H l = none → Tape H' t (k + 130) → Ext [t] H H' → (∀ d ∈ ds, DeedOk works d) → ds.length ≤ 12 → Den K (yo H [t] H') (.list (ds.map deedD)) (.ref l) → Q (.ref l) H'
def spWork (K : PySem.W.Frag) : Sp := fun vs H Q _ => ∃ (t : Addr) (k : Nat) (m most first works : Int), vs = [.ref t, .int m, .int most, .int first, .int works] ∧ Tape H t k ∧ k + 2000 ≤ 2 ^ 40 ∧ 1 ≤ m ∧ m ≤ 12 ∧ 0 ≤ most ∧ most ≤ 12 ∧ 0 ≤ first ∧ first ≤ 100 ∧ 1 ≤ works ∧ works ≤ 100 ∧
  ∀ (l : Addr) (w : List Blk) (bs : List V) (H' : Hp), H l = none → l ≠ t → Tape H' t (k + 2000) → Ext [t] H H' → WorkOk m works w → (∀ b ∈ w, b.ds.length ≤ 12) → H' l = some (.lst bs) → DenL K (yo H [l, t] H') (w.map blkD) bs → Q (.ref l) H'
theorem r_int {k c : Nat} {lo hi : Int} {t : Addr} {H : Hp} {Q : VK} {E : XK} (hT : Tape H t k) (hk : k + c ≤ 2 ^ 40) (q : ∀ r H', lo ≤ r → r ≤ hi → Tape H' t (k + c) → Ext [t] H H' → Q (.int r) H') : spInt c lo hi ([.ref t] ++ []) H Q E := ⟨t, k, rfl, hT, hk, q⟩
theorem atI_ints {ns : List Int} {r : Int} (h0 : 0 ≤ r) (h1 : r < ns.length) : ∃ n, n ∈ ns ∧ atI (ns.map V.int) r = some (.int n) := by
  obtain ⟨j, rfl⟩ := Int.eq_ofNat_of_zero_le h0
  have hj : j < ns.length := by exact_mod_cast h1
  refine ⟨ns[j], List.getElem_mem hj, ?_⟩
  have := atI_nat (xs := ns.map V.int) (j := j) (by rw [List.getElem?_map, List.getElem?_eq_getElem hj]; rfl)
  exact this
theorem Tape.nel {H : Hp} {t l : Addr} {k : Nat} {xs : List V} (h : Tape H t k) (hl : H l = some (.lst xs)) (hx : xs.length ≠ 3) : l ≠ t := by
  obtain ⟨a, b, c, h1, _⟩ := h
  rintro rfl
  rw [h1] at hl
  cases hl
  exact hx rfl
end L2
set_option maxRecDepth 100000
set_option maxHeartbeats 1000000
namespace L2
open PySem PySem.Spec PyProof.Rows
section
variable {X : Cx}
def rRange : List V → Hp → VK → Prop := fun xs H Q => ∃ j : Int, xs = [.int j] ∧ ∀ l, H l = none → Q (.ref l) (upd H l (.rng 0 j))
theorem call_range1 : CallR X (.type "range") rRange := by
  intro pins s σ H xs us Q I r h
  obtain ⟨j, rfl, q⟩ := h
  obtain ⟨u, rfl, t, rfl⟩ := vals1 r
  refine call_range_1 ⟨.ref s.heap.objs.size, _, ?_, rfl, q _ (I.hok.fresh (Nat.le_refl _))⟩
  exact I.laid (fun b o e => Heap.get?_push_of_some _ e) (Nat.le_refl _) ⟨_, _, _, Heap.get?_push_size _ rfl⟩
def rListRng : List V → Hp → VK → Prop := fun xs H Q => ∃ (p : Addr) (j : Nat), xs = [.ref p] ∧ H p = some (.rng 0 j) ∧ j ≤ 1000 ∧ ∀ l, H l = none → Q (.ref l) (upd H l (.lst ((List.range j).map fun (i : Nat) => V.int (i : Int))))
theorem call_list_rng (hh : X.A.handled = none) : CallR X (.type "list") rListRng := by
  intro pins s σ H xs us Q I r h
  obtain ⟨p, j, rfl, hp, hj, q⟩ := h
  obtain ⟨u, rfl, rx⟩ := vals1 r
  cases rx
  obtain ⟨t, u, v, e⟩ : ∃ t u v, s.heap.get? p = some { cls := .type "range", data := .fields #[.int 0 t, .int (j : Int) u, .int 1 v] } := I.hok p _ hp
  refine call_list_range hh e (small_one (by decide) (by decide) (by omega) (by omega)) (n := j) (by rw [rangeSize_one]; split <;> omega) (by omega) fun h' tk acc c kp hS hI => ?_
  refine ⟨.ref s.heap.objs.size, _, I.laid (o := .lst ((List.range j).map fun (i : Nat) => V.int (i : Int))) kp (Nat.le_refl _) (show _ ∧ _ from ⟨?_, acc.toList, c, ?_, ?_⟩), rfl, q _ (I.hok.fresh (Nat.le_refl _))⟩
  · rw [List.length_map, List.length_range]; exact len2 hj
  · have hl : acc.toList.length = j := by rw [Array.length_toList]; exact hI.1
    have hv : ∀ (i : Nat) v, acc.toList[i]? = some v → ∃ t, v = Value.int (i : Int) t := fun i v hv => by
      obtain ⟨t, h⟩ := hI.2 i v (by rw [← hv, Array.getElem?_toList])
      exact ⟨t, by rw [h]; congr 1; omega⟩
    generalize acc.toList = us at hl hv
    subst hl
    have key : ∀ (us : List Value) (k : Nat), (∀ (i : Nat) v, us[i]? = some v → ∃ t, v = Value.int ((k + i : Nat) : Int) t) → Vals ((List.range' k us.length).map fun (i : Nat) => V.int (i : Int)) us := by
      intro us
      induction us with
      | nil => intro k _; exact .nil
      | cons u us ih =>
        intro k h
        obtain ⟨t, rfl⟩ := h 0 u rfl
        refine .cons ⟨t, rfl⟩ (ih (k + 1) fun i v e => ?_)
        obtain ⟨t, e⟩ := h (i + 1) v e
        exact ⟨t, by rw [e]; congr 1; omega⟩
    have := key us 0 (fun i v e => by obtain ⟨t, h⟩ := hv i v e; exact ⟨t, by rw [h]; congr 1; omega⟩)
    rwa [← List.range_eq_range'] at this
  · rw [Array.toArray_toList]; exact hS
variable {K : PySem.W.Frag}
theorem ix_listK (K : PySem.W.Frag) (hK : X.K = K) : IxR X (rIxL K) := hK ▸ ix_list
theorem ix_tupK (K : PySem.W.Frag) (hK : X.K = K) : IxR X (rIxT K) := hK ▸ ix_tup
theorem sl_listK (K : PySem.W.Frag) (hK : X.K = K) : SlR X (rSlL K) := hK ▸ sl_list
theorem sl_tupK (K : PySem.W.Frag) (hK : X.K = K) : SlR X (rSlT K) := hK ▸ sl_tup
theorem len_seqK (K : PySem.W.Frag) (hK : X.K = K) : CallR X (.builtin "len") (fun xs H Q => ∃ p ys, xs = [.ref p] ∧ (SqL K H p ys ∨ SqT K H p ys) ∧ Q (.int ys.length) H) := hK ▸ call_len_seq
theorem list_ofK (K : PySem.W.Frag) (hK : X.K = K) : CallR X (.type "list") (fun xs H Q => ∃ p ys, xs = [.ref p] ∧ (SqL K H p ys ∨ SqT K H p ys) ∧ ∀ l, H l = none → Q (.ref l) (upd H l (.lst ys))) := hK ▸ call_list_of
theorem pi_listK (K : PySem.W.Frag) (hK : X.K = K) {tg l : Expr} {tl : TE} (hl : PE X l tl) : PI X tg l (iList K tl) := hK ▸ pi_list hl
theorem pg_tupK (K : PySem.W.Frag) (hK : X.K = K) {es : List Expr} {pos : Pos} {k : Nat} {t : TGs} {n : Nat} (hc : X.calm = true) (h : PGs X es t)
    (hn : (assignEach es X.env).length = n := by rfl) (hst : (assignEach es X.env).findIdx? (·.1) = none := by rfl) : PG X (.Tuple es k pos) (gTup K n t) := hK ▸ pg_tup hc h hn hst
theorem pe_bmK (K : PySem.W.Frag) (hK : X.K = K) {T : String} {name : Str} {id : String} {r : V → List V → Hp → VK → Prop} {o e : Expr} {es : List Expr} {to : TE} {t : TA} {apos cpos : Pos} (pa : PlainAttrs T) (slot : Slot T name id) (hty : typeOf (.builtin id) = pure (.type "method_descriptor")) (hm : MtR X id r) (ho : PE X o to) (ha : PA X (e :: es) t)
    (hbase : attributeBase o name X.env (eval o X.env) = eval o X.env := by rfl)
    (hfew : ((backTo cpos (starEach (e :: es) X.env)).all (fun x => !x.1) && (backToKw cpos (keywordEach [] X.env)).all (fun x => x.1.isSome)
      && decide ((e :: es).length + ([] : List Keyword).length + (if ([] : List Keyword).isEmpty then 0 else 1) < 30)) = true := by rfl)
    (hline : (apos.endLine == cpos.line) = true := by rfl) (hs : starEach (e :: es) X.env = (false, eval e X.env) :: starEach es X.env := by rfl) (hplain : (backTo cpos (starEach es X.env)).any (·.1) = false := by rfl) :
    PE X (.Call (.Attribute o name apos) (e :: es) [] cpos) (tBM K T r to t) := hK ▸ pe_bm pa slot hty hm ho ha hbase hfew hline hs hplain
theorem seq_ix {j n : Nat} (h : j < n) : seqIndex? (j : Int) n = some j := by
  show (if (decide (0 ≤ if (j : Int) < 0 then (j : Int) + n else j) && decide ((if (j : Int) < 0 then (j : Int) + n else j) < n)) = true then some (if (j : Int) < 0 then (j : Int) + n else (j : Int)).toNat else none) = some j
  have e : (if (j : Int) < 0 then (j : Int) + n else (j : Int)) = j := if_neg (by omega)
  rw [e, decide_eq_true (show (0 : Int) ≤ j by omega), decide_eq_true (show (j : Int) < n by omega)]
  rfl
theorem map_erase {α β : Type} {f : α → β} : ∀ (l : List α) (n : Nat), (l.eraseIdx n).map f = (l.map f).eraseIdx n
  | [], _ => rfl
  | _ :: _, 0 => rfl
  | a :: l, n + 1 => congrArg (f a :: ·) (map_erase l n)
end
end L2
namespace L2
open PySem PySem.Spec PyProof.Rows
abbrev nexD (w : List Blk) : PyData := .list (w.map fun b => intsD b.ns)
def spEnds (K : PySem.W.Frag) : Sp := fun vs H Q _ => ∃ (a : Addr) (w : List Blk), vs = [.ref a] ∧ Den K H (workD w) (.ref a) ∧ (∀ b ∈ w, b.ns.length ≤ 2) ∧ w.length ≤ 12 ∧
  ∀ (l : Addr) (H' : Hp), H l = none → Ext [] H H' → Den K (yo H [] H') (nexD w) (.ref l) → Q (.ref l) H'
theorem endD_is {ns : List Int} (h : ns.length ≤ 2) : ∃ w : Str, endD ns = .tuple (.str w :: ns.map .int) := by
  match ns, h with
  | [], _ => exact ⟨_, rfl⟩
  | [x], _ => exact ⟨_, rfl⟩
  | [x, y], _ => exact ⟨_, rfl⟩
theorem Ext.toSame {H H' : Hp} (e : Ext [] H H') : Same H H' := fun b o h => e b o (by simp) h
end L2
set_option maxRecDepth 100000
set_option maxHeartbeats 1000000
namespace L2
open PySem PySem.Spec PyProof.Rows
abbrev pairD (p : Int × Int) : PyData := .tuple [.int p.1, .int p.2]
abbrev pairsD (ps : List (Int × Int)) : PyData := .list (ps.map pairD)
def srt : List Int → List Int
  | [x, y] => if x ≤ y then [x, y] else [y, x]
  | l => l
def outs (m i : Int) (ns : List Int) : List (Int × Int) := (srt ns).map (fun x => (i, x)) ++ (if ns = [] then [(i, m)] else [])
def waysTo (w : List Blk) : Nat → List (Int × Int)
  | 0 => [(-1, 0)]
  | i + 1 => waysTo w i ++ outs w.length i ((w[i]?.map Blk.ns).getD [])
def spWays (K : PySem.W.Frag) : Sp := fun vs H Q _ => ∃ (a : Addr) (w : List Blk) (m works : Int), vs = [.ref a] ∧ Den K H (workD w) (.ref a) ∧ WorkOk m works w ∧ m ≤ 12 ∧
  ∀ (l : Addr) (H' : Hp), H l = none → Ext [] H H' → Den K (yo H [] H') (pairsD (waysTo w w.length)) (.ref l) → Q (.ref l) H'
theorem NsOk.few {m : Int} {ns : List Int} (h : NsOk m ns) : ns.length ≤ 2 := by
  rcases h with h | ⟨x, h, _⟩ | ⟨x, y, h, _⟩ <;> subst h <;> simp
theorem NsOk.range {m : Int} {ns : List Int} (h : NsOk m ns) : ∀ x ∈ ns, 1 ≤ x ∧ x < m := by
  rcases h with h | ⟨x, h, h1, h2⟩ | ⟨x, y, h, _, h1, h2, h3, h4⟩ <;> subst h <;> intro z hz
  · cases hz
  · rw [List.mem_singleton.mp hz]; exact ⟨h1, h2⟩
  · rcases List.mem_cons.mp hz with e | e
    · rw [e]; exact ⟨h1, h2⟩
    · rw [List.mem_singleton.mp e]; exact ⟨h3, h4⟩
theorem srt_of {m : Int} {ns ns' : List Int} (h : NsOk m ns) (hp : ns'.Perm ns) (hs : ns'.Pairwise (· ≤ ·)) : ns' = srt ns := by
  rcases h with h | ⟨x, h, _⟩ | ⟨x, y, h, hne, _⟩ <;> subst h
  · exact List.perm_nil.mp hp
  · exact List.perm_singleton.mp hp
  · match ns', hp.length_eq with
    | [a, b], _ =>
      have ha : a = x ∨ a = y := by simpa using hp.subset (List.mem_cons_self ..)
      have hb : b = x ∨ b = y := by simpa using hp.subset (List.mem_cons_of_mem _ (List.mem_singleton.mpr rfl))
      have hx : x = a ∨ x = b := by simpa using hp.symm.subset (List.mem_cons_self ..)
      have hy : y = a ∨ y = b := by simpa using hp.symm.subset (List.mem_cons_of_mem _ (List.mem_singleton.mpr rfl))
      have hab : a ≤ b := by simpa using hs
      show [a, b] = if x ≤ y then [x, y] else [y, x]
      split
      · have : a = x ∧ b = y := by omega
        rw [this.1, this.2]
      · have : a = y ∧ b = x := by omega
        rw [this.1, this.2]
theorem srt_len {ns : List Int} : (srt ns).length = ns.length := by
  unfold srt
  split
  · split <;> rfl
  · rfl
theorem outs_len {m i : Int} {ns : List Int} (h : ns.length ≤ 2) : (outs m i ns).length ≤ 2 := by
  unfold outs
  rw [List.length_append, List.length_map, srt_len]
  split
  · next h => subst h; exact Nat.le_succ 1
  · simp; omega
theorem waysTo_len {w : List Blk} (h : ∀ b ∈ w, b.ns.length ≤ 2) : ∀ i, (waysTo w i).length ≤ 1 + 2 * i
  | 0 => Nat.le_refl _
  | i + 1 => by
    have := waysTo_len h i
    have h2 : ((w[i]?.map Blk.ns).getD []).length ≤ 2 := by
      cases z : w[i]? with
      | none => decide
      | some b => exact h b (List.mem_of_getElem? z)
    have := outs_len (m := w.length) (i := i) h2
    show (waysTo w i ++ outs _ _ _).length ≤ _
    rw [List.length_append]; omega
theorem eqv_ints_nil (ns : List Int) : PyData.eqv (intsD ns) (.list []) = decide (ns = []) := by
  cases ns with
  | nil => rfl
  | cons x r => rfl
theorem shaped_ns {m : Int} {ns : List Int} (h : NsOk m ns) : SeqAt.shaped (intsD ns) = true := by
  rcases h with h | ⟨x, h, _⟩ | ⟨x, y, h, _⟩ <;> subst h <;> rfl
theorem notInK {X : Cx} (K : PySem.W.Frag) (hK : X.K = K) : OpR X (compareOp .NotIn) (rIn K true) := hK ▸ op_notIn_seq
theorem inK {X : Cx} (K : PySem.W.Frag) (hK : X.K = K) : OpR X (compareOp .In) (rIn K false) := hK ▸ op_in_seq
theorem eqV_int {a b : Int} : eqV (.int a) (.int b) = decide (a = b) := by
  first | rfl | (unfold eqV; simp)
theorem inV_ints (x : Int) : ∀ ns : List Int, inV (.int x) (ns.map V.int) = decide (x ∈ ns)
  | [] => rfl
  | n :: r => by
    have ih := inV_ints x r
    show (eqV (.int n) (.int x) || inV (.int x) (r.map V.int)) = _
    rw [ih, eqV_int]
    by_cases h1 : n = x
    · subst h1; simp
    · by_cases h2 : x ∈ r
      · simp [h2]
      · simp [h1, h2, Ne.symm h1]
theorem flat_ints : ∀ ns : List Int, (ns.map V.int).all flatV = true
  | [] => rfl
  | _ :: r => flat_ints r
theorem r_inI {K : PySem.W.Frag} {x : Int} {ns : List Int} {p : Addr} {H : Hp} {Q : VK} (h : SqL K H p (ns.map V.int)) (q : Q (.bl (decide (x ∈ ns))) H) : rIn K false (.int x) (.ref p) H Q :=
  ⟨p, _, rfl, .inl h, rfl, flat_ints ns, by rw [if_neg (by decide), inV_ints]; exact q⟩
theorem r_ninI {K : PySem.W.Frag} {x : Int} {ns : List Int} {p : Addr} {H : Hp} {Q : VK} (h : SqL K H p (ns.map V.int)) (q : Q (.bl (!decide (x ∈ ns))) H) : rIn K true (.int x) (.ref p) H Q :=
  ⟨p, _, rfl, .inl h, rfl, flat_ints ns, by rw [if_pos rfl, inV_ints]; exact q⟩
theorem len3 {n : Nat} (h : n ≤ 100000) : n ≤ sizeLine := Nat.le_trans h (by decide)
theorem small3 {n : Nat} (h : n ≤ 100000) : n < sizeLine := Nat.lt_of_le_of_lt h (by decide)
theorem map_get {α β : Type} {f : α → β} {l : List α} {i : Nat} {y : β} (h : (l.map f)[i]? = some y) : ∃ x, l[i]? = some x ∧ y = f x := by
  rw [List.getElem?_map] at h
  cases z : l[i]? with
  | none => rw [z] at h; cases h
  | some x => rw [z] at h; exact ⟨x, rfl, (Option.some.inj h).symm⟩
theorem take_get {α : Type} {l : List α} {i : Nat} {x : α} (h : l[i]? = some x) : l.take (i + 1) = l.take i ++ [x] := by rw [List.take_add_one, h]; rfl
end L2
set_option maxRecDepth 100000
set_option maxHeartbeats 1000000
namespace L2
open PySem PySem.Spec PyProof.Rows
def nxt (w : List Blk) (i : Int) : List Int := if 0 ≤ i then ((w[i.toNat]?).map Blk.ns).getD [] else []
inductive Reach (nx : Int → List Int) (a : Int) : Int → Prop
  | refl : Reach nx a a
  | step {b c : Int} : Reach nx a b → c ∈ nx b → Reach nx a c
theorem nxt_nat {w : List Blk} {i : Nat} {b : Blk} (h : w[i]? = some b) : nxt w (i : Int) = b.ns := by
  unfold nxt
  rw [if_pos (by omega), Int.toNat_natCast, h]; rfl
theorem nxt_ok {m works : Int} {w : List Blk} (h : WorkOk m works w) (i : Int) : NsOk m (nxt w i) := by
  unfold nxt
  split
  · cases z : w[i.toNat]? with
    | none => exact .inl rfl
    | some b => exact (h.blk b (List.mem_of_getElem? z)).ns
  · exact .inl rfl
theorem Reach.range {m works a x : Int} {w : List Blk} (h : WorkOk m works w) (ha : 0 ≤ a ∧ a < m) (r : Reach (nxt w) a x) : 0 ≤ x ∧ x < m := by
  induction r with
  | refl => exact ha
  | step _ hc _ => have := (nxt_ok h _).range _ hc; omega
def cnt (p : Int → Bool) : Nat → Nat
  | 0 => 0
  | m + 1 => cnt p m + (if p (m : Int) = true then 1 else 0)
theorem cnt_le (p : Int → Bool) : ∀ m, cnt p m ≤ m
  | 0 => Nat.le_refl _
  | m + 1 => by
    have := cnt_le p m
    show cnt p m + _ ≤ _
    split <;> omega
theorem cnt_mono {p q : Int → Bool} (h : ∀ i, p i = true → q i = true) : ∀ m, cnt p m ≤ cnt q m
  | 0 => Nat.le_refl _
  | m + 1 => by
    have := cnt_mono h m
    show cnt p m + _ ≤ cnt q m + _
    by_cases hp : p (m : Int) = true
    · rw [if_pos hp, if_pos (h _ hp)]; omega
    · rw [if_neg hp]; omega
theorem cnt_lt {p q : Int → Bool} {x : Int} (h : ∀ i, p i = true → q i = true) (hq : q x = true) (hp : p x = false) : ∀ m : Nat, 0 ≤ x → x < m → cnt p m < cnt q m
  | 0, h0, h1 => by omega
  | m + 1, h0, h1 => by
    show cnt p m + _ < cnt q m + _
    by_cases e : x = (m : Int)
    · subst e
      have := cnt_mono h m
      rw [if_neg (by rw [hp]; decide), if_pos hq]; omega
    · have := cnt_lt h hq hp m h0 (by omega)
      by_cases hp : p (m : Int) = true
      · rw [if_pos hp, if_pos (h _ hp)]; omega
      · rw [if_neg hp]; omega
theorem cnt_all {p : Int → Bool} : ∀ m : Nat, cnt p m = m → ∀ x : Int, 0 ≤ x → x < m → p x = true
  | 0, _, x, h0, h1 => by omega
  | m + 1, h, x, h0, h1 => by
    have hle := cnt_le p m
    have h : cnt p m + (if p (m : Int) = true then 1 else 0) = m + 1 := h
    by_cases hp : p (m : Int) = true
    · rw [if_pos hp] at h
      by_cases e : x = (m : Int)
      · rw [e]; exact hp
      · exact cnt_all m (by omega) x h0 (by omega)
    · rw [if_neg hp] at h; omega
section
variable (nx : Int → List Int) (a : Int)
def lay : Nat → List Int × List Int
  | 0 => ([], [a])
  | j + 1 => let f := (lay j).2.flatMap fun b => (nx b).filter fun x => !decide (x ∈ (lay j).1); ((lay j).1 ++ f, f)
variable {nx a}
theorem lay_further {j : Nat} {x : Int} : x ∈ (lay nx a (j + 1)).2 ↔ (∃ b ∈ (lay nx a j).2, x ∈ nx b) ∧ x ∉ (lay nx a j).1 := by
  show x ∈ (lay nx a j).2.flatMap _ ↔ _
  simp only [List.mem_flatMap, List.mem_filter, Bool.not_eq_true', decide_eq_false_iff_not]
  constructor
  · rintro ⟨b, hb, h1, h2⟩; exact ⟨⟨b, hb, h1⟩, h2⟩
  · rintro ⟨⟨b, hb, h1⟩, h2⟩; exact ⟨b, hb, h1, h2⟩
theorem lay_met {j : Nat} : (lay nx a (j + 1)).1 = (lay nx a j).1 ++ (lay nx a (j + 1)).2 := rfl
theorem met_in {x : Int} : ∀ {j : Nat}, x ∈ (lay nx a j).1 → ∃ i, i ≤ j ∧ x ∈ (lay nx a i).2
  | 0, h => absurd h (by simp [lay])
  | j + 1, h => by
    rw [lay_met] at h
    rcases List.mem_append.mp h with h | h
    · obtain ⟨i, hi, e⟩ := met_in h; exact ⟨i, by omega, e⟩
    · exact ⟨j + 1, Nat.le_refl _, h⟩
theorem lay_reach {x : Int} : ∀ {j : Nat}, x ∈ (lay nx a j).2 → Reach nx a x
  | 0, h => by
    have : x = a := by simpa [lay] using h
    rw [this]; exact .refl
  | j + 1, h => by
    obtain ⟨⟨b, hb, h1⟩, _⟩ := lay_further.mp h
    exact .step (lay_reach hb) h1
theorem reach_lay {x : Int} (r : Reach nx a x) : ∃ j, x ∈ (lay nx a j).2 := by
  induction r with
  | refl => exact ⟨0, by simp [lay]⟩
  | @step b c _ hc ih =>
    obtain ⟨j, hj⟩ := ih
    by_cases hm : c ∈ (lay nx a j).1
    · obtain ⟨i, _, e⟩ := met_in hm; exact ⟨i, e⟩
    · exact ⟨j + 1, lay_further.mpr ⟨⟨b, hj, hc⟩, hm⟩⟩
theorem lay_some {j : Nat} (h : (lay nx a (j + 1)).2 ≠ []) : (lay nx a j).2 ≠ [] := by
  intro e
  apply h
  show (lay nx a j).2.flatMap _ = []
  rw [e]; rfl
theorem lay_some' {j : Nat} : ∀ {i : Nat}, (lay nx a (j + i)).2 ≠ [] → (lay nx a j).2 ≠ []
  | 0, h => h
  | i + 1, h => lay_some' (i := i) (lay_some h)
theorem lay_cnt {m : Nat} (hr : ∀ x j, x ∈ (lay nx a j).2 → 0 ≤ x ∧ x < (m : Int)) : ∀ j, (lay nx a j).2 ≠ [] → j ≤ cnt (fun x => decide (x ∈ (lay nx a j).1)) m
  | 0, _ => Nat.zero_le _
  | j + 1, h => by
    have ih := lay_cnt hr j (lay_some h)
    obtain ⟨x, hx⟩ := List.exists_mem_of_ne_nil _ h
    have h1 := hr x (j + 1) hx
    have h2 := (lay_further.mp hx).2
    have := cnt_lt (p := fun x => decide (x ∈ (lay nx a j).1)) (q := fun x => decide (x ∈ (lay nx a (j + 1)).1)) (x := x) (fun i hi => by
      rw [lay_met]
      exact decide_eq_true (List.mem_append_left _ (of_decide_eq_true hi))) (decide_eq_true (by rw [lay_met]; exact List.mem_append_right _ hx)) (decide_eq_false h2) m h1.1 h1.2
    omega
theorem lay_all {m : Nat} (hr : ∀ x j, x ∈ (lay nx a j).2 → 0 ≤ x ∧ x < (m : Int)) {x : Int} (r : Reach nx a x) : ∃ j, j ≤ m ∧ x ∈ (lay nx a j).2 := by
  obtain ⟨j, hj⟩ := reach_lay r
  by_cases h : j ≤ m
  · exact ⟨j, h, hj⟩
  · have hm : (lay nx a m).2 ≠ [] := lay_some' (i := j - m) (by rw [show m + (j - m) = j by omega]; exact List.ne_nil_of_mem hj)
    have h1 := lay_cnt hr m hm
    have h2 := cnt_le (fun x => decide (x ∈ (lay nx a m).1)) m
    have h3 := hr x j hj
    have := cnt_all (p := fun x => decide (x ∈ (lay nx a m).1)) m (by omega) x h3.1 h3.2
    exact met_in (of_decide_eq_true this)
theorem lay_len (h : ∀ b, (nx b).length ≤ 2) : ∀ j, (lay nx a j).2.length ≤ 2 ^ j ∧ (lay nx a j).1.length ≤ 2 ^ (j + 1)
  | 0 => ⟨Nat.le_refl _, Nat.zero_le _⟩
  | j + 1 => by
    have ih := lay_len h j
    have key : ∀ (l : List Int) (f : Int → List Int), (∀ b, (f b).length ≤ 2) → (l.flatMap f).length ≤ 2 * l.length := by
      intro l f hf
      induction l with
      | nil => exact Nat.le_refl _
      | cons x r ih =>
        rw [List.flatMap_cons, List.length_append, List.length_cons]
        have := hf x
        omega
    have h1 : (lay nx a (j + 1)).2.length ≤ 2 * (lay nx a j).2.length := key _ _ fun b => Nat.le_trans (List.length_filter_le _ _) (h b)
    have h2 : 2 ^ (j + 1) = 2 * 2 ^ j := by rw [Nat.pow_succ]; omega
    have h3 : 2 ^ (j + 1 + 1) = 2 * 2 ^ (j + 1) := by rw [Nat.pow_succ]; omega
    refine ⟨by omega, ?_⟩
    rw [lay_met, List.length_append]
    omega
end
theorem nex_at {K : PySem.W.Frag} {G : Hp} {w : List Blk} {vs : List V} (h : DenL K G (w.map fun b => intsD b.ns) vs) {x : Int} (h0 : 0 ≤ x) (h1 : x < w.length) : ∃ c, atI vs x = some (.ref c) ∧ SqL K G c ((nxt w x).map V.int) := by
  obtain ⟨j, rfl⟩ := Int.eq_ofNat_of_zero_le h0
  have hj : j < w.length := by omega
  have hw : w[j]? = some w[j] := List.getElem?_eq_getElem hj
  obtain ⟨v, hv, hd⟩ := h.get' (i := j) (d := intsD w[j].ns) (by rw [List.getElem?_map, hw]; rfl)
  obtain ⟨c, zs, rfl, hc, hz⟩ := hd.ofList
  have := hz.ints
  subst this
  exact ⟨c, atI_nat hv, by rw [nxt_nat hw]; exact hc⟩
end L2
set_option maxRecDepth 100000
set_option maxHeartbeats 1000000
namespace L2
open PySem PySem.Spec PyProof.Rows
def ltP (p q : Int × Int) : Prop := p.1 < q.1 ∨ (p.1 = q.1 ∧ p.2 < q.2)
theorem ltP.irr {p : Int × Int} : ¬ ltP p p := by rintro (h | ⟨_, h⟩) <;> omega
theorem ltP.trans {p q r : Int × Int} (h1 : ltP p q) (h2 : ltP q r) : ltP p r := by
  rcases h1 with h1 | ⟨h1, h1'⟩ <;> rcases h2 with h2 | ⟨h2, h2'⟩ <;> first | (left; omega) | (right; omega)
theorem rising_eq : ∀ {l1 l2 : List (Int × Int)}, l1.Pairwise ltP → l2.Pairwise ltP → (∀ p, p ∈ l1 ↔ p ∈ l2) → l1 = l2
  | [], [], _, _, _ => rfl
  | [], q :: l2, _, _, h => absurd ((h q).mpr (List.mem_cons_self ..)) (by simp)
  | p :: l1, [], _, _, h => absurd ((h p).mp (List.mem_cons_self ..)) (by simp)
  | p :: l1, q :: l2, h1, h2, h => by
    rw [List.pairwise_cons] at h1 h2
    have e : p = q := by
      rcases List.mem_cons.mp ((h p).mp (List.mem_cons_self ..)) with z | z
      · exact z
      · rcases List.mem_cons.mp ((h q).mpr (List.mem_cons_self ..)) with y | y
        · exact y.symm
        · exact absurd ((h2.1 p z).trans (h1.1 q y)) ltP.irr
    subst e
    refine congrArg (p :: ·) (rising_eq h1.2 h2.2 fun x => ⟨fun hx => ?_, fun hx => ?_⟩)
    · rcases List.mem_cons.mp ((h x).mp (List.mem_cons_of_mem _ hx)) with z | z
      · rw [z] at hx; exact absurd (h1.1 p hx) ltP.irr
      · exact z
    · rcases List.mem_cons.mp ((h x).mpr (List.mem_cons_of_mem _ hx)) with z | z
      · rw [z] at hx; exact absurd (h2.1 p hx) ltP.irr
      · exact z
theorem nodup_le {α : Type} [DecidableEq α] : ∀ {l1 l2 : List α}, l1.Nodup → (∀ x ∈ l1, x ∈ l2) → l1.length ≤ l2.length
  | [], _, _, _ => Nat.zero_le _
  | x :: r, l2, h, hs => by
    rw [List.nodup_cons] at h
    have hx := hs x (List.mem_cons_self ..)
    have ih := nodup_le (l2 := l2.erase x) h.2 fun y hy => by
      have hne : y ≠ x := fun z => h.1 (z ▸ hy)
      exact (List.mem_erase_of_ne hne).mpr (hs y (List.mem_cons_of_mem _ hy))
    have hl := List.length_erase_of_mem hx
    have hp := List.length_pos_of_mem hx
    rw [List.length_cons]
    omega
def betw (w : List Blk) : List (Int × Int) := (List.range w.length).flatMap fun (i : Nat) => (nxt w (i : Int)).map fun x => ((i : Int), x)
theorem mem_betw {w : List Blk} {p : Int × Int} (h : p.2 ∈ nxt w p.1) : p ∈ betw w := by
  have h0 : 0 ≤ p.1 := by
    by_cases z : 0 ≤ p.1
    · exact z
    · unfold nxt at h; rw [if_neg z] at h; cases h
  have h1 : p.1.toNat < w.length := by
    by_cases z : p.1.toNat < w.length
    · exact z
    · unfold nxt at h; rw [if_pos h0, List.getElem?_eq_none (by omega)] at h; cases h
  unfold betw
  rw [List.mem_flatMap]
  refine ⟨p.1.toNat, List.mem_range.mpr h1, ?_⟩
  rw [Int.toNat_of_nonneg h0]
  exact List.mem_map.mpr ⟨p.2, h, rfl⟩
theorem betw_len {m works : Int} {w : List Blk} (h : WorkOk m works w) : (betw w).length ≤ 2 * w.length := by
  have key : ∀ (l : List Nat) (f : Nat → List (Int × Int)), (∀ b, (f b).length ≤ 2) → (l.flatMap f).length ≤ 2 * l.length := by
    intro l f hf
    induction l with
    | nil => exact Nat.le_refl _
    | cons x r ih =>
      rw [List.flatMap_cons, List.length_append, List.length_cons]
      have := hf x
      omega
  have := key (List.range w.length) (fun (i : Nat) => (nxt w (i : Int)).map fun x => ((i : Int), x)) fun b => by
    rw [List.length_map]; exact (nxt_ok h b).few
  rw [List.length_range] at this
  exact this
def tOf (p : Int × Int) : List Int := [p.1, p.2]
def pOf (t : List Int) : Int × Int := (t.getD 0 0, t.getD 1 0)
theorem pOf_tOf (p : Int × Int) : pOf (tOf p) = p := rfl
theorem lex_pair {p q : Int × Int} (h : HT.lexLt (tOf q) (tOf p) = false) (hne : p ≠ q) : ltP p q := by
  obtain ⟨a, b⟩ := p
  obtain ⟨c, d⟩ := q
  have h : HT.lexLt [c, d] [a, b] = false := h
  rw [HT.lexLt_cons, HT.lexLt_cons] at h
  have hne : ¬ (a = c ∧ b = d) := fun z => hne (by rw [z.1, z.2])
  show a < c ∨ (a = c ∧ b < d)
  by_cases h1 : c = a
  · rw [if_pos h1] at h
    by_cases h2 : d = b
    · exact absurd ⟨h1.symm, h2.symm⟩ hne
    · rw [if_neg h2] at h
      have := of_decide_eq_false h
      omega
  · rw [if_neg h1] at h
    have := of_decide_eq_false h
    omega
theorem DenL.ofAll {K : PySem.W.Frag} {G : Hp} {α : Type} {f : α → PyData} {g : α → V} : ∀ {l : List α}, (∀ x ∈ l, Den K G (f x) (g x)) → DenL K G (l.map f) (l.map g)
  | [], _ => .nil
  | _ :: _, h => .cons (h _ (List.mem_cons_self ..)) (DenL.ofAll fun x hx => h x (List.mem_cons_of_mem _ hx))
theorem tups_of {K : PySem.W.Frag} {G H : Hp} (e : Same G H) : ∀ {ps : List (Int × Int)} {vs : List V}, DenL K G (ps.map pairD) vs → TupI K H vs (ps.map tOf)
  | [], vs, h => by have := h.ofNil; subst this; exact .nil
  | p :: ps, vs, h => by
    obtain ⟨v, r, rfl, h1, h2⟩ := h.ofCons
    obtain ⟨a, us, rfl, hs, hd⟩ := h1.ofTuple
    have hd : DenL K G ([p.1, p.2].map PyData.int) us := hd
    have := hd.ints
    subst this
    exact .cons ⟨a, rfl, e.seqT hs⟩ (tups_of e h2)
theorem den_zip {K : PySem.W.Frag} {G : Hp} : ∀ {ps : List (Int × Int)} {vs : List V}, DenL K G (ps.map pairD) vs → ∀ x ∈ vs.zip (ps.map tOf), ∃ p, p ∈ ps ∧ x.2 = tOf p ∧ Den K G (pairD p) x.1
  | [], vs, h => by have := h.ofNil; subst this; intro x hx; cases hx
  | p :: ps, vs, h => by
    obtain ⟨v, r, rfl, h1, h2⟩ := h.ofCons
    intro x hx
    rcases List.mem_cons.mp (show x ∈ (v, tOf p) :: r.zip (ps.map tOf) from hx) with z | z
    · rw [z]; exact ⟨p, List.mem_cons_self .., rfl, h1⟩
    · obtain ⟨p', hp, h3, h4⟩ := den_zip h2 x z
      exact ⟨p', List.mem_cons_of_mem _ hp, h3, h4⟩
theorem sorted_pairs {K : PySem.W.Frag} {G : Hp} {ps : List (Int × Int)} {vs : List V} {res : List (V × List Int)} (hd : DenL K G (ps.map pairD) vs) (hn : ps.Nodup) (hp : res.Perm (vs.zip (ps.map tOf))) (hs : (res.map (·.2)).Pairwise (fun a b => HT.lexLt b a = false)) :
    ∃ ps' : List (Int × Int), DenL K G (ps'.map pairD) (res.map (·.1)) ∧ ps'.Pairwise ltP ∧ ∀ p, p ∈ ps' ↔ p ∈ ps := by
  have hall : ∀ x ∈ res, ∃ p, p ∈ ps ∧ x.2 = tOf p ∧ Den K G (pairD p) x.1 := fun x hx => den_zip hd x (hp.mem_iff.mp hx)
  have hlen : vs.length = (ps.map tOf).length := by rw [hd.len, List.length_map, List.length_map]
  have hperm : (res.map fun x => pOf x.2).Perm ps := by
    have h1 := hp.map fun x => pOf x.2
    have h2 : (vs.zip (ps.map tOf)).map (fun x => pOf x.2) = ps := by
      rw [show (vs.zip (ps.map tOf)).map (fun x => pOf x.2) = ((vs.zip (ps.map tOf)).map (fun x => x.2)).map pOf by rw [List.map_map]; rfl]
      rw [show (vs.zip (ps.map tOf)).map (fun x => x.2) = ps.map tOf from List.map_snd_zip (by omega)]
      rw [List.map_map]
      exact List.map_id' ps
    rw [h2] at h1
    exact h1
  refine ⟨res.map fun x => pOf x.2, ?_, ?_, fun p => hperm.mem_iff⟩
  · rw [List.map_map]
    refine DenL.ofAll fun x hx => ?_
    obtain ⟨p, _, h2, h3⟩ := hall x hx
    show Den K G (pairD (pOf x.2)) x.1
    rw [h2, pOf_tOf]; exact h3
  · have hnd : (res.map fun x => pOf x.2).Nodup := hperm.nodup_iff.mpr hn
    have hs' : (res.map fun x => pOf x.2).Pairwise (fun p q => HT.lexLt (tOf q) (tOf p) = false) := by
      rw [List.pairwise_map] at hs ⊢
      refine hs.imp_of_mem fun {x y} hx hy h => ?_
      obtain ⟨p, _, h2, _⟩ := hall x hx
      obtain ⟨q, _, h3, _⟩ := hall y hy
      rw [h2, h3, pOf_tOf, pOf_tOf]
      rw [h2, h3] at h
      exact h
    exact (hs'.and hnd).imp fun {p q} h => lex_pair h.1 h.2
end L2
set_option maxRecDepth 100000
set_option maxHeartbeats 1000000
namespace L2
open PySem PySem.Spec PyProof.Rows
def smallP (p : Int × Int) : Prop := 0 ≤ p.1 ∧ p.1 < 16 ∧ 0 ≤ p.2 ∧ p.2 < 16
theorem short16 {i : Int} (h0 : 0 ≤ i) (h1 : i < 16) : PyData.intsShort 13 (.int i) = true := by
  obtain ⟨n, rfl⟩ := Int.eq_ofNat_of_zero_le h0
  have hn : n < 16 := by omega
  have key : ∀ n, n < 16 → PyData.intsShort 13 (.int (Int.ofNat n)) = true := by decide +kernel
  exact key n hn
theorem show16 {i : Int} (h0 : 0 ≤ i) (h1 : i < 16) : PyData.showable (.int i) = true := by
  obtain ⟨n, rfl⟩ := Int.eq_ofNat_of_zero_le h0
  have hn : n < 16 := by omega
  have key : ∀ n, n < 16 → PyData.showable (.int (Int.ofNat n)) = true := by decide +kernel
  exact key n hn
theorem weight16 {i : Int} (h0 : 0 ≤ i) (h1 : i < 16) : PyData.weight (.int i) ≤ 5 := by
  obtain ⟨n, rfl⟩ := Int.eq_ofNat_of_zero_le h0
  have hn : n < 16 := by omega
  have key : ∀ n, n < 16 → PyData.weight (.int (Int.ofNat n)) ≤ 5 := by decide +kernel
  exact key n hn
theorem pairs_lay : ∀ ps : List (Int × Int), PyData.canLayAll0 (ps.map pairD) = true
  | [] => rfl
  | p :: r => by
    show (PyData.canLay0 (pairD p) && PyData.canLayAll0 (r.map pairD)) = true
    rw [pairs_lay r]; rfl
theorem pairs_deep : ∀ ps : List (Int × Int), PyData.depthAll (ps.map pairD) ≤ 1
  | [] => Nat.zero_le _
  | p :: r => by
    show max (PyData.depth (pairD p)) (PyData.depthAll (r.map pairD)) ≤ 1
    have h1 : PyData.depth (pairD p) = 1 := rfl
    have := pairs_deep r
    omega
theorem pairs_weight : ∀ ps : List (Int × Int), (∀ p ∈ ps, smallP p) → PyData.weightAll (ps.map pairD) ≤ 13 * ps.length
  | [], _ => Nat.le_refl _
  | p :: r, h => by
    obtain ⟨h1, h2, h3, h4⟩ := h p (List.mem_cons_self ..)
    have ih := pairs_weight r fun q hq => h q (List.mem_cons_of_mem _ hq)
    have w1 := weight16 h1 h2
    have w2 := weight16 h3 h4
    have e : PyData.weight (pairD p) = PyData.weight (.int p.1) + 1 + (PyData.weight (.int p.2) + 1 + 0) := rfl
    show PyData.weight (pairD p) + 1 + PyData.weightAll (r.map pairD) ≤ 13 * (r.length + 1)
    omega
theorem pairs_short : ∀ ps : List (Int × Int), (∀ p ∈ ps, smallP p) → PyData.intsShortAll 13 (ps.map pairD) = true
  | [], _ => rfl
  | p :: r, h => by
    obtain ⟨h1, h2, h3, h4⟩ := h p (List.mem_cons_self ..)
    have ih := pairs_short r fun q hq => h q (List.mem_cons_of_mem _ hq)
    show (PyData.intsShort 13 (pairD p) && PyData.intsShortAll 13 (r.map pairD)) = true
    have e : PyData.intsShort 13 (pairD p) = (PyData.intsShort 13 (.int p.1) && (PyData.intsShort 13 (.int p.2) && true)) := rfl
    rw [e, short16 h1 h2, short16 h3 h4, ih]; rfl
theorem pairs_show : ∀ ps : List (Int × Int), (∀ p ∈ ps, smallP p) → PyData.showableAll (ps.map pairD) = true
  | [], _ => rfl
  | p :: r, h => by
    obtain ⟨h1, h2, h3, h4⟩ := h p (List.mem_cons_self ..)
    have ih := pairs_show r fun q hq => h q (List.mem_cons_of_mem _ hq)
    show (PyData.showable (pairD p) && PyData.showableAll (r.map pairD)) = true
    have e : PyData.showable (pairD p) = (PyData.showable (.int p.1) && (PyData.showable (.int p.2) && true)) := rfl
    rw [e, show16 h1 h2, show16 h3 h4, ih]; rfl
theorem pairs_depth (ps : List (Int × Int)) : PyData.depth (pairsD ps) ≤ 2 := by
  have := pairs_deep ps
  show PyData.depthAll (ps.map pairD) + 1 ≤ 2
  omega
theorem pairs_shaped (ps : List (Int × Int)) : SeqAt.shaped (pairsD ps) = true := by
  have := pairs_depth ps
  show (PyData.canLayAll0 (ps.map pairD) && decide (PyData.depth (pairsD ps) ≤ 64)) = true
  rw [pairs_lay, decide_eq_true (show PyData.depth (pairsD ps) ≤ 64 by omega)]; rfl
theorem pairs_shown {ps : List (Int × Int)} (h : ∀ p ∈ ps, smallP p) (hl : ps.length ≤ 1000) : (pairsD ps).showable = true ∧ (pairsD ps).depth ≤ 100 ∧ (pairsD ps).shown.length ≤ sizeLine := by
  have hd := pairs_depth ps
  refine ⟨pairs_show ps h, by omega, ?_⟩
  have hw : PyData.weight (pairsD ps) ≤ 2 ^ 20 := by
    have := pairs_weight ps h
    show PyData.weightAll (ps.map pairD) ≤ 2 ^ 20
    have e : (2 : Nat) ^ 20 = 1048576 := by decide
    omega
  have hL : PyData.layable0 (pairsD ps) = true := by
    show (PyData.canLayAll0 (ps.map pairD) && decide (PyData.depth (pairsD ps) ≤ 64) && decide (PyData.weight (pairsD ps) ≤ 2 ^ 20)) = true
    rw [pairs_lay, decide_eq_true (show PyData.depth (pairsD ps) ≤ 64 by omega), decide_eq_true hw]; rfl
  have := shown_le13 hL (pairs_short ps h)
  have e : sizeLine = 16777216 := by decide
  omega
theorem pairs_nodict (ps : List (Int × Int)) : (pairsD ps).hasDict = false := PyData.hasDict_of_canLay _ (pairs_lay ps)
def restTo (w : List Blk) : Nat → List (Int × Int)
  | 0 => []
  | i + 1 => restTo w i ++ outs w.length i ((w[i]?.map Blk.ns).getD [])
theorem ways_rest (w : List Blk) : ∀ i, waysTo w i = (-1, 0) :: restTo w i
  | 0 => rfl
  | i + 1 => by
    show waysTo w i ++ _ = _
    rw [ways_rest w i]; rfl
theorem nxt_is (w : List Blk) (i : Nat) : (w[i]?.map Blk.ns).getD [] = nxt w (i : Int) := by
  unfold nxt
  rw [if_pos (by omega), Int.toNat_natCast]
theorem srt_mem {ns : List Int} {x : Int} : x ∈ srt ns ↔ x ∈ ns := by
  unfold srt
  split
  · split
    · rfl
    · simp only [List.mem_cons, List.not_mem_nil, or_false]; constructor <;> (intro h; rcases h with h | h <;> simp [h])
  · rfl
theorem mem_outs {m i : Int} {ns : List Int} {p : Int × Int} : p ∈ outs m i ns ↔ p.1 = i ∧ (p.2 ∈ ns ∨ (ns = [] ∧ p.2 = m)) := by
  unfold outs
  rw [List.mem_append, List.mem_map]
  constructor
  · rintro (⟨x, hx, rfl⟩ | h)
    · exact ⟨rfl, .inl (srt_mem.mp hx)⟩
    · split at h
      · next e => rw [List.mem_singleton.mp h]; exact ⟨rfl, .inr ⟨e, rfl⟩⟩
      · cases h
  · rintro ⟨h1, h2 | ⟨h2, h3⟩⟩
    · exact .inl ⟨p.2, srt_mem.mpr h2, by rw [← h1]⟩
    · refine .inr ?_
      rw [if_pos h2, List.mem_singleton, ← h1, ← h3]
theorem in_rest {w : List Blk} {p : Int × Int} : ∀ {n : Nat}, p ∈ restTo w n ↔ ∃ i : Nat, i < n ∧ p ∈ outs w.length i (nxt w i)
  | 0 => by
    constructor
    · intro h; cases h
    · rintro ⟨i, h, _⟩; omega
  | n + 1 => by
    show p ∈ restTo w n ++ outs _ _ _ ↔ _
    rw [List.mem_append, in_rest, nxt_is]
    constructor
    · rintro (⟨i, h1, h2⟩ | h)
      · exact ⟨i, by omega, h2⟩
      · exact ⟨n, by omega, h⟩
    · rintro ⟨i, h1, h2⟩
      by_cases e : i = n
      · subst e; exact .inr h2
      · exact .inl ⟨i, by omega, h2⟩
theorem outs_rising {m M i : Int} {ns : List Int} (h : NsOk M ns) : (outs m i ns).Pairwise ltP := by
  rcases h with h | ⟨x, h, _⟩ | ⟨x, y, h, hne, _⟩ <;> subst h
  · show List.Pairwise ltP [(i, m)]; simp
  · show List.Pairwise ltP [(i, x)]; simp
  · show List.Pairwise ltP ((srt [x, y]).map (fun x => (i, x)) ++ [])
    rw [List.append_nil]
    show List.Pairwise ltP ((if x ≤ y then [x, y] else [y, x]).map (fun x => (i, x)))
    split
    · simp only [List.map_cons, List.map_nil, List.pairwise_cons, List.mem_singleton, List.not_mem_nil, false_implies, implies_true, List.Pairwise.nil, and_true]
      rintro q rfl; exact .inr ⟨rfl, by show x < y; omega⟩
    · simp only [List.map_cons, List.map_nil, List.pairwise_cons, List.mem_singleton, List.not_mem_nil, false_implies, implies_true, List.Pairwise.nil, and_true]
      rintro q rfl; exact .inr ⟨rfl, by show y < x; omega⟩
theorem rest_rising {m works : Int} {w : List Blk} (h : WorkOk m works w) : ∀ n, (restTo w n).Pairwise ltP
  | 0 => .nil
  | n + 1 => by
    show (restTo w n ++ outs _ _ _).Pairwise ltP
    rw [nxt_is, List.pairwise_append]
    refine ⟨rest_rising h n, outs_rising (nxt_ok h n), fun p hp q hq => .inl ?_⟩
    obtain ⟨i, hi, h2⟩ := in_rest.mp hp
    have := (mem_outs.mp h2).1
    have := (mem_outs.mp hq).1
    omega
theorem rest_between {m works : Int} {w : List Blk} (h : WorkOk m works w) {p : Int × Int} (hp : p ∈ restTo w w.length) : 0 ≤ p.1 ∧ p.1 < m ∧ 1 ≤ p.2 ∧ p.2 ≤ m ∧ (p.2 < m → p.2 ∈ nxt w p.1) := by
  have hl := h.len
  obtain ⟨i, hi, h2⟩ := in_rest.mp hp
  obtain ⟨h3, h4⟩ := mem_outs.mp h2
  rcases h4 with h4 | ⟨h4, h5⟩
  · have := (nxt_ok h i).range _ h4
    exact ⟨by omega, by omega, by omega, by omega, fun _ => by rw [h3]; exact h4⟩
  · exact ⟨by omega, by omega, by omega, by omega, fun _ => by omega⟩
theorem rest_has {m works : Int} {w : List Blk} (h : WorkOk m works w) {p : Int × Int} (hp : p.2 ∈ nxt w p.1) : p ∈ restTo w w.length ∧ p.2 < m := by
  have hb := mem_betw hp
  unfold betw at hb
  obtain ⟨i, hi, hx⟩ := List.mem_flatMap.mp hb
  obtain ⟨x, _, rfl⟩ := List.mem_map.mp hx
  exact ⟨in_rest.mpr ⟨i, List.mem_range.mp hi, mem_outs.mpr ⟨rfl, .inl hp⟩⟩, ((nxt_ok h _).range _ hp).2⟩
theorem cut1 (x : V) (xs : List V) : cutV (x :: xs) (some 1) none = xs := by
  unfold cutV HT.sIx
  simp
theorem pt_truthK {X : Cx} {a : Expr} {ta : TE} (K : PySem.W.Frag) (hK : X.K = K) (ha : PE X a ta) (he : ∀ whole, isTrue a X.env whole = (do let v ← whole; standAt a.pos; holding [v] (truthy v))) :
    PT X a (fun σ H Q => ta σ H fun x H' => ∃ k, TruV K x H' k ∧ Q k H') := hK ▸ pt_truth ha he
end L2
set_option maxRecDepth 100000
set_option maxHeartbeats 1000000
namespace L2
open PySem PySem.Spec PyProof.Rows
section
variable {X : Cx}
def rInsert : V → List V → Hp → VK → Prop := fun x vs H Q => ∃ l xs i y, x = .ref l ∧ vs = [.int i, y] ∧ H l = some (.lst xs) ∧ 0 ≤ i ∧ i ≤ xs.length ∧ xs.length < 1000 ∧ Q .non (upd H l (.lst (xs.take i.toNat ++ y :: xs.drop i.toNat)))
theorem mt_insert : MtM X "list.insert" rInsert := by
  intro pins s σ H x vs v us Q I rx rv h
  obtain ⟨l, xs, i, y, rfl, rfl, hH, h0, h1, hz, q⟩ := h
  cases rx
  obtain ⟨u1, u2, rfl, r1, r2⟩ := rv.two
  obtain ⟨tk, rfl⟩ := r1
  obtain ⟨z, its, n, r, hl, e⟩ := I.lstM hH
  have hfit : ¬(!Builtin.List.listFitsIndex i) = true := by
    have := fitsIndex_both (k := i) (by omega) (by omega)
    simpa using this
  refine call_meets F.slot_list_insert ⟨_, e, rfl⟩ F.entry_list_insert (F.args_list_insert_3 _ _ _) (AutoSeq1.list_insert_list_int_val_1 l its.toArray n i tk u2 hfit (by rw [List.size_toArray, sizeLine_eq]; omega)) ⟨e, ?_⟩
  refine ⟨.non, _, I.lset (its' := its.take i.toNat ++ u2 :: its.drop i.toNat) hH e ?_ (Vals.append (r.take _) (.cons r2 (r.drop _))) ?_, rfl, q⟩
  · dsimp only
    rw [if_neg (by omega), List.size_toArray, Nat.min_eq_left (by omega)]
    apply Array.ext'
    simp [List.extract_eq_take_drop]
    exact List.take_of_length_le (by simp)
  · rw [sizeLine_eq]; simp; omega
end
def WorksAt (K : PySem.W.Frag) (G H : Hp) (as : List Addr) (ws : List (List Blk)) : Prop := Paired (fun a w => ∃ bs, H a = some (.lst bs) ∧ DenL K G (w.map blkD) bs) as ws
theorem WorksAt.len {K : PySem.W.Frag} {G H : Hp} {as : List Addr} {ws : List (List Blk)} (h : WorksAt K G H as ws) : as.length = ws.length := Paired.length h
theorem WorksAt.mono {K : PySem.W.Frag} {G G' H H' : Hp} (g : Same G G') : ∀ {as : List Addr} {ws : List (List Blk)}, WorksAt K G H as ws → (∀ a ∈ as, ∀ o, H a = some o → H' a = some o) → WorksAt K G' H' as ws
  | _, _, .nil, _ => .nil
  | _, _, .cons ⟨bs, e, d⟩ r, k => .cons ⟨bs, k _ (by simp) _ e, d.mono g⟩ (WorksAt.mono g r fun a ha o e => k a (by simp [ha]) o e)
theorem WorksAt.get {K : PySem.W.Frag} {G H : Hp} : ∀ {as : List Addr} {ws : List (List Blk)} {i : Nat} {a : Addr}, WorksAt K G H as ws → as[i]? = some a → ∃ w bs, ws[i]? = some w ∧ H a = some (.lst bs) ∧ DenL K G (w.map blkD) bs
  | _, _, _, _, .nil, e => by simp at e
  | _, _, 0, _, .cons ⟨bs, e, d⟩ _, h => by simp at h; subst h; exact ⟨_, bs, rfl, e, d⟩
  | _, _, i + 1, a, .cons _ r, h => by
    obtain ⟨w, bs, h1, h2⟩ := WorksAt.get (i := i) (a := a) r (by simpa using h)
    exact ⟨w, bs, by simpa using h1, h2⟩
theorem WorksAt.snoc {K : PySem.W.Frag} {G H : Hp} {a : Addr} {w : List Blk} {bs : List V} : ∀ {as : List Addr} {ws : List (List Blk)}, WorksAt K G H as ws → H a = some (.lst bs) → DenL K G (w.map blkD) bs → WorksAt K G H (as ++ [a]) (ws ++ [w])
  | _, _, .nil, e, d => .cons ⟨bs, e, d⟩ .nil
  | _, _, .cons h r, e, d => .cons h (WorksAt.snoc r e d)
structure AllOk (works : Int) (ws : List (List Blk)) : Prop where
  all : ∀ w ∈ ws, ∃ m : Int, 1 ≤ m ∧ m ≤ 12 ∧ WorkOk m works w
  one : 1 ≤ ws.length
  few : ws.length ≤ 10
def spWorks (K : PySem.W.Frag) : Sp := fun vs H Q _ => ∃ (t : Addr) (k : Nat) (most : Int), vs = [.ref t, .int most] ∧ Tape H t k ∧ k + 21000 ≤ 2 ^ 40 ∧ 0 ≤ most ∧ most ≤ 12 ∧
  ∀ (l : Addr) (as : List Addr) (ws : List (List Blk)) (H' : Hp), H l = none → l ≠ t → l ∉ as → (∀ a ∈ as, H a = none ∧ a ≠ t) → as.Nodup → Tape H' t (k + 21000) → Ext [t] H H' → H' l = some (.lst (as.map V.ref)) → WorksAt K (yo H (l :: t :: as) H') H' as ws → AllOk (ws.length : Int) ws → (∀ w ∈ ws, ∀ b ∈ w, b.ds.length ≤ 12) → Q (.ref l) H'
def spMoves (K : PySem.W.Frag) : Sp := fun vs H Q _ => ∃ (t l0 : Addr) (k : Nat) (as0 : List Addr) (ws0 : List (List Blk)) (works : Int), vs = [.ref t, .ref l0] ∧ Tape H t k ∧ k + 5000 ≤ 2 ^ 40 ∧ H l0 = some (.lst (as0.map V.ref)) ∧ l0 ≠ t ∧ t ∉ as0 ∧ WorksAt K (wo [t] H) H as0 ws0 ∧ AllOk works ws0 ∧ (∀ w ∈ ws0, ∀ b ∈ w, b.ds.length ≤ 12) ∧
  ∀ (l : Addr) (as : List Addr) (ws : List (List Blk)) (H' : Hp), H l = none → l ≠ t → l ∉ as → (∀ a ∈ as, H a = none ∧ a ≠ t) → as.Nodup → Tape H' t (k + 5000) → Ext [t] H H' → H' l = some (.lst (as.map V.ref)) → WorksAt K (wo (l :: t :: as) H') H' as ws → AllOk works ws → Q (.ref l) H'
end L2
set_option maxRecDepth 100000
set_option maxHeartbeats 1000000
namespace L2
open PySem PySem.Spec PyProof.Rows
section
variable {K : PySem.W.Frag} {a : Addr} {xs : List V} {g : TG} {tt : TT} {B : TB} {σ : St} {H : Hp} {Q : St → Hp → Prop}
theorem loop_tup (Pv : Nat → St → Hp → Prop) (h0 : Pv 0 σ H) (hl : ∀ i σ H, i ≤ xs.length → Pv i σ H → SqT K H a xs)
    (hs : ∀ i x σ H (R : St → Hp → Prop), xs[i]? = some x → Pv i σ H → (∀ σ' H', Pv (i + 1) σ' H' → R σ' H') → g x σ H fun σ2 H2 => tt σ2 H2 fun b H3 => if b = true then B σ2 H3 R else R σ2 H3)
    (hd : ∀ σ H, Pv xs.length σ H → Q σ H) : LoopT (Itt K a) g tt B σ H Q := by
  refine loop_by (n := xs.length) Pv h0 (fun i σ H hi p => ⟨xs, xs[i], hl i σ H (Nat.le_of_lt hi) p, by simp [hi]⟩) (fun σ H p => ⟨xs, hl _ σ H (Nat.le_refl _) p, Nat.le_refl _⟩) (fun i σ H R hi p hR x H' y => ?_) hd
  obtain ⟨e, y⟩ := y
  subst e
  exact hs i x σ _ R (y xs (hl i σ _ (Nat.le_of_lt hi) p)) p hR
end
def rawOut (m i : Int) (ns : List Int) : List (Int × Int) := if ns = [] then [(i, m)] else ns.map fun x => (i, x)
def rawTo (w : List Blk) : Nat → List (Int × Int)
  | 0 => [(-1, 0)]
  | i + 1 => rawTo w i ++ rawOut w.length i ((w[i]?.map Blk.ns).getD [])
theorem rawOut_perm {M m i : Int} {ns : List Int} (h : NsOk M ns) : (rawOut m i ns).Perm (outs m i ns) := by
  unfold rawOut outs
  rcases h with z | ⟨x, z, _⟩ | ⟨x, y, z, _⟩ <;> subst z
  · exact .refl _
  · exact .refl _
  · rw [if_neg (by simp), if_neg (by simp), List.append_nil]
    refine List.Perm.map _ ?_
    unfold srt
    dsimp only
    split
    · exact .refl _
    · exact List.Perm.swap _ _ _
theorem rawTo_perm {m works : Int} {w : List Blk} (h : WorkOk m works w) : ∀ n, (rawTo w n).Perm (waysTo w n)
  | 0 => .refl _
  | i + 1 => by
    show (rawTo w i ++ rawOut _ _ _).Perm (waysTo w i ++ outs w.length i ((w[i]?.map Blk.ns).getD []))
    refine (rawTo_perm h i).append ?_
    cases e : w[i]? with
    | none => exact rawOut_perm (M := m) (.inl rfl)
    | some b => exact rawOut_perm (h.blk b (List.mem_of_getElem? e)).ns
theorem ways_rising {m works : Int} {w : List Blk} (h : WorkOk m works w) : (waysTo w w.length).Pairwise ltP := by
  rw [ways_rest]
  refine List.pairwise_cons.mpr ⟨fun p hp => ?_, rest_rising h _⟩
  have := (rest_between h hp).1
  exact .inl (by show (-1 : Int) < p.1; omega)
theorem rising_nodup {l : List (Int × Int)} (h : l.Pairwise ltP) : l.Nodup := h.imp fun {a b} hl e => by subst e; exact ltP.irr hl
theorem rawTo_nodup {m works : Int} {w : List Blk} (h : WorkOk m works w) : (rawTo w w.length).Nodup := (rawTo_perm h _).nodup_iff.mpr (rising_nodup (ways_rising h))
theorem rawTo_len {m works : Int} {w : List Blk} (h : WorkOk m works w) (i : Nat) : (rawTo w i).length ≤ 1 + 2 * i := by
  rw [(rawTo_perm h i).length_eq]; exact waysTo_len (fun b hb => (h.blk b hb).ns.few) i
theorem rawOut_len {M m i : Int} {ns : List Int} (h : NsOk M ns) : (rawOut m i ns).length ≤ 2 := by
  rw [(rawOut_perm h).length_eq]; exact outs_len h.few
def spWaysOf (K : PySem.W.Frag) : Sp := fun vs H Q _ => ∃ (a : Addr) (w : List Blk) (m works : Int), vs = [.ref a] ∧ Den K H (workD w) (.ref a) ∧ WorkOk m works w ∧ m ≤ 12 ∧
  ∀ (l : Addr) (us : List V) (H' : Hp), H l = none → Ext [] H H' → H' l = some (.lst us) → DenL K (yo H [l] H') ((waysTo w w.length).map pairD) us → Q (.ref l) H'
def wr : Deed → Option Int
  | .set b _ => some b
  | .add b _ => some b
  | _ => none
def written (w : List Blk) : List Int := w.flatMap fun b => b.ds.filterMap wr
def boxes (w : List Blk) : List Int := ((List.range 8).map fun (n : Nat) => (n : Int)).filter fun b => decide (b ∈ written w)
theorem rise_eq : ∀ {l1 l2 : List Int}, l1.Pairwise (· < ·) → l2.Pairwise (· < ·) → (∀ p, p ∈ l1 ↔ p ∈ l2) → l1 = l2
  | [], [], _, _, _ => rfl
  | [], q :: l2, _, _, h => absurd ((h q).mpr (List.mem_cons_self ..)) (by simp)
  | p :: l1, [], _, _, h => absurd ((h p).mp (List.mem_cons_self ..)) (by simp)
  | p :: l1, q :: l2, h1, h2, h => by
    rw [List.pairwise_cons] at h1 h2
    have e : p = q := by
      rcases List.mem_cons.mp ((h p).mp (List.mem_cons_self ..)) with z | z
      · exact z
      · rcases List.mem_cons.mp ((h q).mpr (List.mem_cons_self ..)) with y | y
        · exact y.symm
        · have := h2.1 p z; have := h1.1 q y; omega
    subst e
    refine congrArg (p :: ·) (rise_eq h1.2 h2.2 fun x => ⟨fun hx => ?_, fun hx => ?_⟩)
    · rcases List.mem_cons.mp ((h x).mp (List.mem_cons_of_mem _ hx)) with z | z
      · rw [z] at hx; have := h1.1 p hx; omega
      · exact z
    · rcases List.mem_cons.mp ((h x).mpr (List.mem_cons_of_mem _ hx)) with z | z
      · rw [z] at hx; have := h2.1 p hx; omega
      · exact z
theorem wr_range {works : Int} {d : Deed} {b : Int} (h : DeedOk works d) (e : wr d = some b) : 0 ≤ b ∧ b < 8 := by
  cases d with
  | set x n => cases e; exact ⟨h.1, h.2.1⟩
  | add x o => cases e; exact ⟨h.1, h.2.1⟩
  | tell x => cases e
  | call x => cases e
  | save x => cases e
  | back x => cases e
theorem written_range {m works : Int} {w : List Blk} (h : WorkOk m works w) {b : Int} (hb : b ∈ written w) : 0 ≤ b ∧ b < 8 := by
  obtain ⟨k, hk, hb⟩ := List.mem_flatMap.mp hb
  obtain ⟨d, hd, e⟩ := List.mem_filterMap.mp hb
  exact wr_range ((h.blk k hk).ds d hd) e
theorem boxes_rise (w : List Blk) : (boxes w).Pairwise (· < ·) := by
  unfold boxes
  refine List.Pairwise.filter _ ?_
  rw [List.pairwise_map]
  exact List.pairwise_lt_range.imp fun {a b} h => by omega
theorem mem_boxes {m works : Int} {w : List Blk} (h : WorkOk m works w) {b : Int} : b ∈ boxes w ↔ b ∈ written w := by
  unfold boxes
  rw [List.mem_filter, decide_eq_true_eq]
  refine ⟨fun z => z.2, fun z => ⟨?_, z⟩⟩
  have := written_range h z
  exact List.mem_map.mpr ⟨b.toNat, List.mem_range.mpr (by omega), by omega⟩
theorem sorted_boxes {m works : Int} {w : List Blk} {ns ns' : List Int} (h : WorkOk m works w) (hm : ∀ b, b ∈ ns ↔ b ∈ written w) (hn : ns.Nodup) (hp : ns'.Perm ns) (hs : ns'.Pairwise (· ≤ ·)) : ns' = boxes w := by
  refine rise_eq ?_ (boxes_rise w) fun b => by rw [hp.mem_iff, hm, mem_boxes h]
  have hn' : ns'.Pairwise (· ≠ ·) := hp.nodup_iff.mpr hn
  exact (hs.and hn').imp fun {a b} z => by obtain ⟨z1, z2⟩ := z; omega
theorem boxes_len (w : List Blk) : (boxes w).length ≤ 8 := by
  unfold boxes
  refine Nat.le_trans (List.length_filter_le _ _) (by simp)
def spBoxesIn (K : PySem.W.Frag) : Sp := fun vs H Q _ => ∃ (a : Addr) (w : List Blk) (m works : Int), vs = [.ref a] ∧ Den K H (workD w) (.ref a) ∧ WorkOk m works w ∧ m ≤ 12 ∧
  ∀ (l : Addr) (H' : Hp), H l = none → Ext [] H H' → H' l = some (.lst ((boxes w).map V.int)) → Q (.ref l) H'
end L2
set_option maxRecDepth 100000
set_option maxHeartbeats 1000000
namespace L2
open PySem PySem.Spec PyProof.Rows
mutual
def tame : PyData → Bool
  | .int i => decide (i.natAbs < 10 ^ 13)
  | .str x => x.cps.all (· < 0x110000) && decide (x.cps.size ≤ 10)
  | .list xs => tameAll xs
  | .tuple xs => tameAll xs
  | .none => false
  | .bool _ => false
  | .dict _ => false
def tameAll : List PyData → Bool
  | [] => true
  | x :: xs => tame x && tameAll xs
end
mutual
def cells : PyData → Nat
  | .list xs => cellsAll xs
  | .tuple xs => cellsAll xs
  | .int _ => 0
  | .str _ => 0
  | .none => 0
  | .bool _ => 0
  | .dict _ => 0
def cellsAll : List PyData → Nat
  | [] => 0
  | x :: xs => cells x + 1 + cellsAll xs
end
theorem log_lt {n : Nat} (h : n < 10 ^ 13) : n.log2 < 44 := by
  by_cases hn : n = 0
  · subst hn; decide
  · exact (Nat.log2_lt hn).mpr (Nat.lt_of_lt_of_le h (by decide))
mutual
theorem tame_show : ∀ d : PyData, tame d = true → PyData.showable d = true
  | .int i, h => by
    have h1 : i.natAbs < 10 ^ 13 := by simpa only [tame, decide_eq_true_eq] using h
    have := log_lt h1
    simp only [PyData.showable, decide_eq_true_eq]; omega
  | .str x, _ => rfl
  | .list xs, h => tameAll_show xs (by simpa only [tame] using h)
  | .tuple xs, h => tameAll_show xs (by simpa only [tame] using h)
theorem tameAll_show : ∀ ds : List PyData, tameAll ds = true → PyData.showableAll ds = true
  | [], _ => rfl
  | x :: xs, h => by
    have h1 : (tame x && tameAll xs) = true := by simpa only [tameAll] using h
    rw [Bool.and_eq_true] at h1
    simp only [PyData.showableAll, tame_show x h1.1, tameAll_show xs h1.2, Bool.and_self]
end
mutual
theorem tame_lay : ∀ d : PyData, tame d = true → PyData.canLay0 d = true
  | .int i, h => rfl
  | .str x, h => by
    have h1 : (x.cps.all (· < 0x110000) && decide (x.cps.size ≤ 10)) = true := by simpa only [tame] using h
    rw [Bool.and_eq_true] at h1
    simpa only [PyData.canLay0, PyData.strOk] using h1.1
  | .list xs, h => tameAll_lay xs (by simpa only [tame] using h)
  | .tuple xs, h => tameAll_lay xs (by simpa only [tame] using h)
theorem tameAll_lay : ∀ ds : List PyData, tameAll ds = true → PyData.canLayAll0 ds = true
  | [], _ => rfl
  | x :: xs, h => by
    have h1 : (tame x && tameAll xs) = true := by simpa only [tameAll] using h
    rw [Bool.and_eq_true] at h1
    simp only [PyData.canLayAll0, tame_lay x h1.1, tameAll_lay xs h1.2, Bool.and_self]
end
mutual
theorem tame_short : ∀ d : PyData, tame d = true → PyData.intsShort 14 d = true
  | .int i, h => by
    have h1 : i.natAbs < 10 ^ 13 := by simpa only [tame, decide_eq_true_eq] using h
    have e := int_text_length_le10 (k := 13) (by decide) h1
    simp only [PyData.intsShort, decide_eq_true_eq]
    show (Str.ofString (toString i)).length ≤ 14
    rw [PySem.ofString_length]; exact e
  | .str x, h => rfl
  | .list xs, h => tameAll_short xs (by simpa only [tame] using h)
  | .tuple xs, h => tameAll_short xs (by simpa only [tame] using h)
theorem tameAll_short : ∀ ds : List PyData, tameAll ds = true → PyData.intsShortAll 14 ds = true
  | [], _ => rfl
  | x :: xs, h => by
    have h1 : (tame x && tameAll xs) = true := by simpa only [tameAll] using h
    rw [Bool.and_eq_true] at h1
    simp only [PyData.intsShortAll, tame_short x h1.1, tameAll_short xs h1.2, Bool.and_self]
end
mutual
theorem tame_weight : ∀ d : PyData, tame d = true → PyData.weight d ≤ 46 * cells d + 45
  | .int i, h => by
    have h1 : i.natAbs < 10 ^ 13 := by simpa only [tame, decide_eq_true_eq] using h
    have := log_lt h1
    simp only [PyData.weight, cells]
    split <;> omega
  | .str x, h => by
    have h1 : (x.cps.all (· < 0x110000) && decide (x.cps.size ≤ 10)) = true := by simpa only [tame] using h
    rw [Bool.and_eq_true, decide_eq_true_eq] at h1
    simp only [PyData.weight, cells]; omega
  | .list xs, h => by
    have := tameAll_weight xs (by simpa only [tame] using h)
    simp only [PyData.weight, cells]; omega
  | .tuple xs, h => by
    have := tameAll_weight xs (by simpa only [tame] using h)
    simp only [PyData.weight, cells]; omega
theorem tameAll_weight : ∀ ds : List PyData, tameAll ds = true → PyData.weightAll ds ≤ 46 * cellsAll ds
  | [], _ => Nat.le_refl _
  | x :: xs, h => by
    have h1 : (tame x && tameAll xs) = true := by simpa only [tameAll] using h
    rw [Bool.and_eq_true] at h1
    have h2 := tame_weight x h1.1
    have h3 := tameAll_weight xs h1.2
    simp only [PyData.weightAll, cellsAll]; omega
end
theorem tame_shown {d : PyData} (h : tame d = true) (hc : cells d ≤ 5000) (hd : d.depth ≤ 64) : d.showable = true ∧ d.depth ≤ 100 ∧ d.shown.length ≤ sizeLine := by
  refine ⟨tame_show d h, by omega, ?_⟩
  have h1 := PyData.shown_le 14 (by decide) d (PyData.leavesShort_of_canLay0 14 d (tame_lay d h) (tame_short d h))
  have h2 := tame_weight d h
  have e : sizeLine = 16777216 := by decide
  have h3 : (14 + 2) * d.weight ≤ 16 * (46 * 5000 + 45) := Nat.mul_le_mul (by decide) (by omega)
  omega
theorem tame_shaped {d : PyData} (h : tame d = true) (hd : d.depth ≤ 64) (hs : ∃ xs, d = .list xs) : SeqAt.shaped d = true := by
  obtain ⟨xs, rfl⟩ := hs
  have h1 := tame_lay _ h
  have h1 : PyData.canLayAll0 xs = true := by simpa only [PyData.canLay0] using h1
  show (PyData.canLayAll0 xs && decide (PyData.depth (.list xs) ≤ 64)) = true
  rw [h1, decide_eq_true hd]; rfl
theorem tame_nodict {d : PyData} (h : tame d = true) : d.hasDict = false := PyData.hasDict_of_canLay _ (tame_lay d h)
theorem tameAll_map {α : Type} {f : α → PyData} : ∀ {l : List α}, (∀ x ∈ l, tame (f x) = true) → tameAll (l.map f) = true
  | [], _ => rfl
  | x :: r, h => by
    simp only [List.map_cons, tameAll, h x (List.mem_cons_self ..), tameAll_map fun y hy => h y (List.mem_cons_of_mem _ hy), Bool.and_self]
theorem cellsAll_map {α : Type} {f : α → PyData} {n : Nat} : ∀ {l : List α}, (∀ x ∈ l, cells (f x) ≤ n) → cellsAll (l.map f) ≤ (n + 1) * l.length
  | [], _ => Nat.zero_le _
  | x :: r, h => by
    have h1 := h x (List.mem_cons_self ..)
    have h2 := cellsAll_map (l := r) fun y hy => h y (List.mem_cons_of_mem _ hy)
    simp only [List.map_cons, cellsAll, List.length_cons, Nat.mul_add]; omega
theorem depthAll_map {α : Type} {f : α → PyData} {n : Nat} : ∀ {l : List α}, (∀ x ∈ l, (f x).depth ≤ n) → PyData.depthAll (l.map f) ≤ n
  | [], _ => Nat.zero_le _
  | x :: r, h => by
    have h1 := h x (List.mem_cons_self ..)
    have h2 := depthAll_map (l := r) fun y hy => h y (List.mem_cons_of_mem _ hy)
    simp only [List.map_cons, PyData.depthAll]; omega
theorem tame_int {i : Int} (h1 : -(10 ^ 12) ≤ i) (h2 : i ≤ 10 ^ 12) : tame (.int i) = true := by
  simp only [tame, decide_eq_true_eq]; omega
theorem tame_word {s : Str} (h : (s.cps.all (fun x => decide (x < 0x110000)) && decide (s.cps.size ≤ 10)) = true) : tame (.str s) = true := by simpa only [tame] using h
theorem deed_tame {works : Int} {d : Deed} (hw : works ≤ 100) (h : DeedOk works d) : tame (deedD d) = true ∧ cells (deedD d) ≤ 3 ∧ (deedD d).depth ≤ 1 := by
  have key : ∀ (s : Str) (b : Int), tame (.str s) = true → -(10 ^ 12) ≤ b → b ≤ 10 ^ 12 → tame (.tuple [.str s, .int b]) = true := fun s b hs h1 h2 => by
    simp only [tame, tameAll, Bool.and_true] at hs ⊢
    rw [hs]; simp only [Bool.true_and, decide_eq_true_eq]; omega
  have key3 : ∀ (s : Str) (b c : Int), tame (.str s) = true → -(10 ^ 12) ≤ b → b ≤ 10 ^ 12 → -(10 ^ 12) ≤ c → c ≤ 10 ^ 12 → tame (.tuple [.str s, .int b, .int c]) = true := fun s b c hs h1 h2 h3 h4 => by
    simp only [tame, tameAll, Bool.and_true] at hs ⊢
    rw [hs]; simp only [Bool.true_and, Bool.and_eq_true, decide_eq_true_eq]; omega
  cases d with
  | set b n => obtain ⟨h1, h2, h3, h4⟩ := h; exact ⟨key3 _ _ _ (tame_word (by decide +kernel)) (by omega) (by omega) h3 h4, by simp [deedD, cells, cellsAll], Nat.le_refl _⟩
  | add b n => obtain ⟨h1, h2, h3, h4⟩ := h; exact ⟨key3 _ _ _ (tame_word (by decide +kernel)) (by omega) (by omega) (by omega) (by omega), by simp [deedD, cells, cellsAll], Nat.le_refl _⟩
  | tell b => obtain ⟨h1, h2⟩ := h; exact ⟨key _ _ (tame_word (by decide +kernel)) (by omega) (by omega), by simp [deedD, cells, cellsAll], Nat.le_refl _⟩
  | call b => obtain ⟨h1, h2⟩ := h; exact ⟨key _ _ (tame_word (by decide +kernel)) (by omega) (by omega), by simp [deedD, cells, cellsAll], Nat.le_refl _⟩
  | save b => obtain ⟨h1, h2⟩ := h; exact ⟨key _ _ (tame_word (by decide +kernel)) (by omega) (by omega), by simp [deedD, cells, cellsAll], Nat.le_refl _⟩
  | back b => obtain ⟨h1, h2⟩ := h; exact ⟨key _ _ (tame_word (by decide +kernel)) (by omega) (by omega), by simp [deedD, cells, cellsAll], Nat.le_refl _⟩
theorem end_tame {m : Int} {ns : List Int} (hm : m ≤ 12) (h : NsOk m ns) : tame (endD ns) = true ∧ cells (endD ns) ≤ 3 ∧ (endD ns).depth ≤ 1 := by
  have hs : ∀ s : Str, tame (.str s) = true → (s.cps.all (fun x => decide (x < 0x110000)) && decide (s.cps.size ≤ 10)) = true := fun s h => by simpa only [tame] using h
  rcases h with z | ⟨x, z, h1, h2⟩ | ⟨x, y, z, _, h1, h2, h3, h4⟩ <;> subst z
  · refine ⟨?_, by simp [endD, cells, cellsAll], Nat.le_refl _⟩
    simp only [endD, tame, tameAll, Bool.and_true]
    exact hs "out" (tame_word (by decide +kernel))
  · refine ⟨?_, by simp [endD, cells, cellsAll], Nat.le_refl _⟩
    simp only [endD, tame, tameAll, Bool.and_true]
    rw [hs "go" (tame_word (by decide +kernel))]; simp only [Bool.true_and, decide_eq_true_eq]; omega
  · refine ⟨?_, by simp [endD, cells, cellsAll], Nat.le_refl _⟩
    simp only [endD, tame, tameAll, Bool.and_true]
    rw [hs "fork" (tame_word (by decide +kernel))]; simp only [Bool.true_and, Bool.and_eq_true, decide_eq_true_eq]; omega
theorem blk_tame {m works : Int} {b : Blk} (hm : m ≤ 12) (hw : works ≤ 100) (h : BlkOk m works b) : tame (blkD b) = true ∧ cells (blkD b) ≤ 70 ∧ (blkD b).depth ≤ 3 := by
  obtain ⟨e1, e2, e3⟩ := end_tame hm h.ns
  have d1 := tameAll_map (l := b.ds) (f := deedD) fun d hd => (deed_tame hw (h.ds d hd)).1
  have d2 := cellsAll_map (l := b.ds) (f := deedD) (n := 3) fun d hd => (deed_tame hw (h.ds d hd)).2.1
  have d3 := depthAll_map (l := b.ds) (f := deedD) (n := 1) fun d hd => (deed_tame hw (h.ds d hd)).2.2
  have hf := h.few
  refine ⟨?_, ?_, ?_⟩
  · simp only [blkD, tame, tameAll, d1, e1, Bool.and_self]
  · simp only [blkD, cells, cellsAll]; omega
  · show max (PyData.depthAll (b.ds.map deedD) + 1) (max (endD b.ns).depth 0) + 1 ≤ 3
    omega
theorem work_tame {m works : Int} {w : List Blk} (hm : m ≤ 12) (hw : works ≤ 100) (h : WorkOk m works w) : tame (workD w) = true ∧ cells (workD w) ≤ 5000 ∧ (workD w).depth ≤ 64 := by
  have d1 := tameAll_map (l := w) (f := blkD) fun b hb => (blk_tame hm hw (h.blk b hb)).1
  have d2 := cellsAll_map (l := w) (f := blkD) (n := 70) fun b hb => (blk_tame hm hw (h.blk b hb)).2.1
  have d3 := depthAll_map (l := w) (f := blkD) (n := 3) fun b hb => (blk_tame hm hw (h.blk b hb)).2.2
  have hl := h.len
  refine ⟨?_, ?_, ?_⟩
  · simp only [workD, tame, d1]
  · simp only [workD, cells]; omega
  · show PyData.depthAll (w.map blkD) + 1 ≤ 64
    omega
theorem pairs_tame {ps : List (Int × Int)} (h : ∀ p ∈ ps, -1 ≤ p.1 ∧ p.1 ≤ 100 ∧ -1 ≤ p.2 ∧ p.2 ≤ 100) (hl : ps.length ≤ 1000) : tame (pairsD ps) = true ∧ cells (pairsD ps) ≤ 5000 ∧ (pairsD ps).depth ≤ 64 := by
  have d1 := tameAll_map (l := ps) (f := pairD) fun p hp => by
    obtain ⟨h1, h2, h3, h4⟩ := h p hp
    simp only [pairD, tame, tameAll, Bool.and_true, Bool.and_eq_true, decide_eq_true_eq]; omega
  have d2 := cellsAll_map (l := ps) (f := pairD) (n := 2) fun p hp => by simp [pairD, cells, cellsAll]
  have := pairs_depth ps
  refine ⟨?_, ?_, by omega⟩
  · simp only [pairsD, tame, d1]
  · simp only [pairsD, cells]; omega
theorem ints_tame {ns : List Int} (h : ∀ n ∈ ns, -1 ≤ n ∧ n ≤ 100) (hl : ns.length ≤ 1000) : tame (intsD ns) = true ∧ cells (intsD ns) ≤ 5000 ∧ (intsD ns).depth ≤ 64 := by
  have d1 := tameAll_map (l := ns) (f := PyData.int) fun n hn => by
    have := h n hn
    simp only [tame, decide_eq_true_eq]; omega
  have d2 := cellsAll_map (l := ns) (f := PyData.int) (n := 0) fun n hn => Nat.le_refl _
  have d3 := depthAll_map (l := ns) (f := PyData.int) (n := 0) fun n hn => Nat.le_refl _
  refine ⟨?_, ?_, ?_⟩
  · simp only [intsD, tame, d1]
  · simp only [intsD, cells]; omega
  · show PyData.depthAll (ns.map .int) + 1 ≤ 64
    omega
theorem ways_small {m works : Int} {w : List Blk} (hm : m ≤ 12) (h : WorkOk m works w) : (∀ p ∈ waysTo w w.length, -1 ≤ p.1 ∧ p.1 ≤ 100 ∧ -1 ≤ p.2 ∧ p.2 ≤ 100) ∧ (waysTo w w.length).length ≤ 1000 := by
  have hl := h.len
  constructor
  · intro p hp
    rw [ways_rest] at hp
    rcases List.mem_cons.mp hp with z | z
    · subst z; exact ⟨by decide, by decide, by decide, by decide⟩
    · obtain ⟨h1, h2, h3, h4, _⟩ := rest_between h z
      omega
  · have := waysTo_len (fun b hb => (h.blk b hb).ns.few) w.length
    omega
end L2
set_option maxRecDepth 100000
set_option maxHeartbeats 1000000
namespace L2
open PySem PySem.Spec PyProof.Rows
section
variable {prog : Program} {w : World} {K : Type} [DecidableEq K] {knd : HeapKind prog w K} {A : Around} {E : Value → Shared → Prop} {s : Shared} {d a : Addr} {k : K} {xs : List (K × Addr × Value)}
theorem setdef_heap {v : Value} {Q : Value → Shared → Prop} (hu : knd.room A) (hkey : knd.is s.heap k a) (hm : s.heap.DictOfH knd d xs) (hsz : xs.length ≤ sizeLine)
    (h1 : ∀ p, atKey xs k = some p → Q p.2 { s with toks := s.toks + knd.draws k })
    (h2 : atKey xs k = none → ∀ h', h'.DictOfH knd d (storedH xs k a v) → Heap.SameBut d s.heap h' → Q v { s with heap := h', toks := s.toks + knd.draws k }) :
    wpAny (model prog w) A (dictSetDefault d (.ref a) v) Q E s := by
  obtain ⟨o, es, ep, ho, hc, hd, he, his, hn⟩ := hm
  unfold dictSetDefault
  try with_reducible refine wpAny_holding ?_
  refine wpAny_bind (knd.pyHash hu hkey (wpAny_bind (wpAny_dictFind_heap (s := { s with toks := s.toks + knd.draws k }) hu hkey ho hd he his hn ?_ ?_)))
  · intro hno
    have hnot : k ∉ xs.map (·.1) := not_mem_keys_of_get hno
    refine wpAny_bind (wpAny_rule (wpAny_bind (wpAny_updateDictKeys (hz := by have e := size_of_entries he; omega) (s := { s with toks := s.toks + knd.draws k }) ho hd (wpAny_pure (h2 (atKey_none_of_get hno) _ ⟨_, _, ep + 1, Heap.get?_update_self _ ho (Obj.isFreed_of_dict (Obj.data_mapDictKeys hd _)), hc.mapDictKeys _, Obj.data_mapDictKeys hd _, ?_, ?_, ?_⟩ (Heap.SameBut.update ..))))))
    · rw [storedH_new (atKey_none_of_get hno)]; simp [he, entryOfKey]
    · rw [storedH_new (atKey_none_of_get hno)]; intro x hx
      rcases List.mem_append.mp hx with hx | hx
      · exact knd.keeps (his x hx) ho hd (Heap.SameBut.update ..)
      · simp only [List.mem_singleton] at hx; subst hx; exact knd.keeps hkey ho hd (Heap.SameBut.update ..)
    · rw [storedH_new (atKey_none_of_get hno), List.map_append, List.nodup_append]
      refine ⟨hn, by simp, fun x hx y hy => ?_⟩
      simp only [List.map_cons, List.map_nil, List.mem_singleton] at hy
      subst hy
      exact fun e => hnot (e ▸ hx)
  · intro j p hj
    refine wpAny_bind (wpAny_dictEntries (s := { s with toks := s.toks + knd.draws k }) ho hd ?_)
    rw [entry_at he j, hj]
    exact wpAny_bind (wpAny_rule (wpAny_pure (h1 p (atKey_of_get hn hj))))
end
section
variable {X : Cx} {o e f : Expr} {td ty tx : TE} {apos cpos : Pos}
def tDSet2 (td ty tx : TE) : TE := fun σ H Q => td σ H fun x H1 => ∃ a, x = .ref a ∧ IsD H1 a ∧ ty σ H1 fun y H2 => tx σ H2 fun z H3 => ∃ kvs k b, y = .ref b ∧ H3 a = some (.dT kvs) ∧ H3 b = some (.tup (k.map kV)) ∧ kvs.length < sizeLine ∧
  (∀ v, valV kvs k = some v → Q v H3) ∧ (valV kvs k = none → Q z (upd H3 a (.dT (putK kvs k z))))
theorem pe_dset2 (hu : X.A.units + 1 < cLine) (ho : PE X o td) (he : PE X e ty) (hf : PE X f tx) (m : M2 X o "setdefault" apos e f cpos) : PE X (.Call (.Attribute o "setdefault" apos) [e, f] [] cpos) (tDSet2 td ty tx) := by
  intro pins s σ H Q I h
  refine wpAny_Call_method m.base m.few m.line PySem.F.plainAttrs_dict PySem.F.slot_dict_setdefault PySem.F.type_dict_setdefault (thn (ho pins s σ H _ I h) fun u s1 ⟨x, H1, I1, rx, a, ex, d, q1⟩ => ?_)
  subst ex
  obtain rfl : u = Value.ref a := rx
  obtain ⟨t1, t2, _⟩ := isD_at I1 d
  refine ⟨t1, t2, ?_⟩
  rw [m.trees]
  refine Calls.callWith_builtin rfl (Calls.evalArgs_plain (Calls.spliced_cons (thn (he pins s1 σ H1 _ I1 q1) fun iv s2 ⟨y, H2, I2, ry, q2⟩ => Calls.spliced_cons (thn (hf pins s2 σ H2 _ I2 q2) fun fv s3 ⟨z, H3, I3, rz, kvs, k, b, ey, ea, eb, hl, g1, g2⟩ => Calls.spliced_nil ?_))))
  subst ey
  cases (show iv = Value.ref b from ry)
  obtain ⟨zz, hd, xs, rel, dd⟩ := dt_of I3.hok ea
  have hz : xs.length ≤ sizeLine := by rw [← Paired.length rel]; exact zz
  obtain ⟨q0, _, _, hq0, hc0, hdd0, _⟩ := id dd
  have hty : s3.TypeIs (.ref a) "dict" := ⟨q0, hq0, hc0.1⟩
  refine wpAny_call_entry PySem.F.slot_dict_setdefault hty PySem.F.entry_dict_setdefault ?_ (PySem.F.args_dict_setdefault_3 _ _ _)
  unfold Builtin.«dict.setdefault»
  refine wpAny_bind ?_
  unfold Builtin.Dict.keyAndDefault
  refine wpAny_bind (wpAny_notOrdered_dict hty ?_)
  show wpAny _ _ (pure (a, Value.ref b, some fv)) _ _ s3
  refine wpAny_pure ?_
  show wpAny _ _ (if (a == sysModules) = true then _ else (dictSetDefault a (.ref b) fv >>= _)) _ _ s3
  rw [if_neg (by rw [hd]; exact Bool.false_ne_true)]
  refine wpAny_bind (setdef_heap (knd := tupleKind (mixKind X.prog X.w)) (tupleKind_room_in1 hu) (key_of I3.hok eb) dd hz (fun p hp => wpAny_pure ⟨_, rfl, ?_⟩) (fun hn h' dd' hs => wpAny_pure ⟨_, rfl, ?_⟩))
  · have r := rel.val k
    rw [hp] at r
    cases ev : valV kvs k with
    | none => rw [ev] at r; exact r.elim
    | some v => rw [ev] at r; exact ⟨v, H3, I3.tok _, r, g1 v ev⟩
  · have r := rel.val k
    rw [hn] at r
    have ev : valV kvs k = none := by
      cases ev : valV kvs k with
      | none => rfl
      | some v => rw [ev] at r; exact r.elim
    have hl' : (putK kvs k z).length ≤ sizeLine := by have := length_putK kvs k z; omega
    obtain ⟨q, es, ep, hq, h2, h3, h4, _, h5⟩ := dd'
    refine ⟨z, _, d_write (ob := .dT (putK kvs k z)) I3 (by rw [ea]; exact True.intro) hs ⟨q, hq⟩ ⟨hl', hd, _, (rel.put k eb rz).keeps fun c ys ec => ?_, q, es, ep, hq, h2, h3, h4, h5⟩, rz, g2 ev⟩
    rw [upd_ne (ne_of ec ea (fun z => nomatch z))]
    exact ec
end
section
variable {X : Cx}
theorem range_any {bs : List Bool} {f : Nat → Bool} (hf : ∀ i b, bs[i]? = some b → f i = b) : (List.range bs.length).any f = bs.any id := by
  rw [Bool.eq_iff_iff, List.any_eq_true, List.any_eq_true]
  constructor
  · rintro ⟨i, hi, h⟩
    have hi := List.mem_range.mp hi
    have := hf i bs[i] (List.getElem?_eq_getElem hi)
    exact ⟨bs[i], List.getElem_mem hi, by rw [← this]; exact h⟩
  · rintro ⟨b, hb, h⟩
    obtain ⟨i, hi, e⟩ := List.getElem_of_mem hb
    exact ⟨i, List.mem_range.mpr hi, by rw [hf i b (by rw [List.getElem?_eq_getElem hi, e])]; exact h⟩
def rAnyB (K : PySem.W.Frag) : List V → Hp → VK → Prop := fun xs H Q => ∃ (a : Addr) (bs : List Bool), xs = [.ref a] ∧ SqL K H a (bs.map V.bl) ∧ Q (.bl (bs.any id)) H
theorem call_anyB (hh : X.A.handled = none) : CallR X (.builtin "any") (rAnyB X.K) := by
  intro pins s σ H xs us Q I r h
  obtain ⟨a, bs, rfl, hq, q⟩ := h
  obtain ⟨u, rfl, ru⟩ := vals1 r
  cases ru
  obtain ⟨its, rv, pl, _⟩ := I.list hq
  have hlen := rv.length
  rw [List.length_map] at hlen
  have hl := pl.isList
  have hne : a ≠ s.heap.objs.size := by obtain ⟨o, e, _⟩ := hl; exact Nat.ne_of_lt (Heap.lt_size e)
  have hval : ∀ (i : Nat) (v : Value), its.toArray[i]? = some v → v = .bool (bs.getD i false) := fun i v e => by
    rw [List.getElem?_toArray] at e
    have hi : i < bs.length := by rw [hlen]; exact (List.getElem?_eq_some_iff.mp e).1
    obtain ⟨u, e2, r2⟩ := rv.get (i := i) (x := V.bl bs[i]) (by rw [List.getElem?_map, List.getElem?_eq_getElem hi]; rfl)
    rw [e] at e2; cases e2
    have r2 : v = Value.bool bs[i] := r2
    rw [r2, List.getD_eq_getElem?_getD, List.getElem?_eq_getElem hi]; rfl
  refine call_any_walk (wpAny_pyIter_list hl ⟨_, _, _, _, _, _, fun i => bs.getD i false, rfl, Walks.list (by exact hh) _ a hne its.toArray, ⟨⟨_, Heap.get?_push_size _ rfl, rfl, rfl⟩, hl.push _⟩, fun i v s Q E hP hQ => ?_, fun h' tk k => ?_⟩)
  · rw [hval i v hP]; exact wpAny_truthy_bool hQ
  · have e : (List.range its.toArray.size).any (fun i => bs.getD i false) = bs.any id := by
      rw [List.size_toArray, ← hlen]
      exact range_any fun i b hb => by rw [List.getD_eq_getElem?_getD, hb]; rfl
    rw [e]
    exact ⟨.bl (bs.any id), H, I.kept (t' := tk) (fun b o e => k b o (by simpa using Nat.ne_of_lt (Heap.lt_size e)) (Heap.get?_push_of_some _ e)), rfl, q⟩
end
end L2
set_option maxRecDepth 100000
set_option maxHeartbeats 4000000
namespace L2
open PySem PySem.Spec PyProof.Rows
def compCxC (X : Cx) (own : List Str) (cap : List Nat) (scope : Scope) (y : Str) (cl : List (Str × Addr)) (s : Shared) (H : Hp) (ex : List Addr) : Cx :=
  { compCx X own cap scope ((y, s.heap.objs.size + 1) :: cl) s H ex with fn := fun x => x == y }
theorem compC_K {X : Cx} {own : List Str} {cap : List Nat} {scope : Scope} {y : Str} {cl : List (Str × Addr)} {s : Shared} {H : Hp} {ex : List Addr} : (compCxC X own cap scope y cl s H ex).K = X.K := rfl
structure CompScopeC (X : Cx) (own : List Str) (cap : List Nat) (scope : Scope) (y : Str) : Prop where
  kind : scope.kind = .function
  one : scope.names.filter (fun x => x.2 == .cell) = [(y, .cell)]
  look : scope.names.lookup y = some .cell
  names : ∀ x ∈ scope.names, x.2 = .local → scope.names.lookup x.1 = some .local
  free : ∀ x ∈ scope.names, x.2 = .free → X.env.kindOf x.1 = some .cell ∨ X.env.kindOf x.1 = some .free
  caps : ∀ j ∈ cap, scope.names.lookup (X.N.getD j "") = some .free ∧ j < X.N.length
theorem CompScopeC.only {X : Cx} {own : List Str} {cap : List Nat} {scope : Scope} {y : Str} (S : CompScopeC X own cap scope y) (x : Str) (h : (x, NameKind.cell) ∈ scope.names) : x = y := by
  have hm : (x, NameKind.cell) ∈ scope.names.filter (fun x => x.2 == .cell) := List.mem_filter.mpr ⟨h, rfl⟩
  rw [S.one] at hm
  exact (Prod.mk.inj (List.mem_singleton.mp hm)).1
theorem no_cells : ∀ (names : List (Str × NameKind)) (n : Nat) (acc : List (Str × Addr)) (h : Heap), names.filter (fun x => x.2 == .cell) = [] → cellsFrom n names acc = acc ∧ pushCells h names = h
  | [], _, _, _, _ => ⟨rfl, rfl⟩
  | (x, k) :: r, n, acc, h, e => by
    rw [List.filter_cons] at e
    by_cases hk : (k == NameKind.cell) = true
    · rw [if_pos hk] at e; cases e
    · rw [if_neg hk] at e
      unfold cellsFrom pushCells
      rw [if_neg hk, if_neg hk]
      exact no_cells r n acc h e
theorem one_cell {y : Str} : ∀ (names : List (Str × NameKind)) (n : Nat) (acc : List (Str × Addr)) (h : Heap), names.filter (fun x => x.2 == .cell) = [(y, .cell)] → cellsFrom n names acc = (y, n) :: acc ∧ pushCells h names = h.push { cls := .type "cell", data := .cell none }
  | [], _, _, _, e => by cases e
  | (x, k) :: r, n, acc, h, e => by
    rw [List.filter_cons] at e
    by_cases hk : (k == NameKind.cell) = true
    · rw [if_pos hk] at e
      obtain ⟨e1, e2⟩ := List.cons.inj e
      have ex : x = y := (Prod.mk.inj e1).1
      subst ex
      unfold cellsFrom pushCells
      rw [if_pos hk, if_pos hk]
      exact no_cells r _ _ _ e2
    · rw [if_neg hk] at e
      unfold cellsFrom pushCells
      rw [if_neg hk, if_neg hk]
      exact one_cell r n acc h e
theorem newEnv_cell {M : Model} {A : Around} {E : Value → Shared → Prop} {s : Shared} {scope : Scope} {globals : Addr} {closure : List (Str × Addr)} {qual : Str} {outer : Env} {y : Str} {Q : Env → Shared → Prop} (hc : scope.names.filter (fun x => x.2 == .cell) = [(y, .cell)])
    (hQ : ∀ h', h'.Ns s.heap.objs.size (fun x => ([] : List (Str × Value)).reverse.lookup x) → (∀ b u, s.heap.get? b = some u → h'.get? b = some u) → h'.IsCell (s.heap.objs.size + 1) none →
      Q (newEnv scope s.heap.objs.size globals ((y, s.heap.objs.size + 1) :: closure) qual none .none (some outer) builtinsNs) { s with heap := h', toks := s.toks + ([] : List (Str × Value)).length }) :
    wpAny M A (newFunctionEnv scope globals closure [] qual none .none (some outer)) Q E s := by
  simp only [newFunctionEnv, Option.isSome_some, if_true]
  refine wpAny_bind (wpAny_alloc ?_)
  refine wpAny_bind (wpAny_layCells _ (fun name kind cells => by cases hkc : kind == NameKind.cell <;> simp [hkc]) _ _ _ _ ?_)
  rw [show ({ s with heap := s.heap.push { cls := .type "dict", data := .dict #[] } } : Shared).heap.objs.size = s.heap.objs.size + 1 from Heap.size_push ..]
  obtain ⟨e1, e2⟩ := one_cell scope.names (s.heap.objs.size + 1) closure (s.heap.push { cls := .type "dict", data := .dict #[] }) hc
  rw [e1, e2]
  refine wpAny_bind (wpAny_pure (wpAny_pure ?_))
  refine hQ _ ((Heap.Ns.new s.heap (.type "dict")).keeps fun b o e => Heap.get?_push_of_some _ e) (fun b u e => Heap.get?_push_of_some _ (Heap.get?_push_of_some _ e)) ⟨{ cls := .type "cell", data := .cell none }, ?_, rfl⟩
  have := Heap.get?_push_size (h := s.heap.push { cls := .type "dict", data := .dict #[] }) (o := { cls := .type "cell", data := .cell none }) rfl
  rw [Heap.size_push] at this
  exact this
theorem comp_invC {X : Cx} {own : List Str} {cap : List Nat} {scope : Scope} {cl : List (Str × Addr)} {pins : List (Addr × Obj)} {σ : St} {H : Hp} {s : Shared} {fp : List Addr} {h' : Heap} {tk : Nat} {y : Str} (S : CompScopeC X own cap scope y)
    (I : Inv X pins σ H s) (hcl : ∀ x c, cl.lookup x = some c → X.env.cells.lookup x = some c) (hfr : ∀ x, (x, NameKind.free) ∈ scope.names → ∃ c, cl.lookup x = some c)
    (hf : ∀ b ∈ fp, FpOk X pins H b) (hlt : ∀ b ∈ fp, b < s.heap.objs.size) (hns : h'.Ns s.heap.objs.size (fun x => ([] : List (Str × Value)).reverse.lookup x)) (hk : ∀ b u, s.heap.get? b = some u → h'.get? b = some u) (hy : h'.IsCell (s.heap.objs.size + 1) none) :
    Inv (compCxC X own cap scope y cl s H fp) [] (compSt own cap σ) H { s with heap := h', toks := tk } := by
  have lt : ∀ x c, cl.lookup x = some c → c < s.heap.objs.size := fun x c e => by
    obtain ⟨v, o, ho, _⟩ := I.cell x c (hcl x c e)
    exact Heap.lt_size ho
  have lk : ∀ x c, ((y, s.heap.objs.size + 1) :: cl).lookup x = some c → (x = y ∧ c = s.heap.objs.size + 1) ∨ (x ≠ y ∧ cl.lookup x = some c) := fun x c e => by
    rw [List.lookup_cons] at e
    by_cases hx : x = y
    · subst hx
      rw [beq_self_eq_true] at e
      exact .inl ⟨rfl, (Option.some.inj e).symm⟩
    · rw [beq_eq_false_iff_ne.mpr hx] at e
      exact .inr ⟨hx, e⟩
  have lo : ∀ x c, x ≠ y → cl.lookup x = some c → ((y, s.heap.objs.size + 1) :: cl).lookup x = some c := fun x c hx e => by
    rw [List.lookup_cons, beq_eq_false_iff_ne.mpr hx]; exact e
  have kc : ∀ x k, (relabel scope X.env).names.lookup x = some k → (k = .cell ∨ k = .free) → x = y ∨ (x, NameKind.free) ∈ scope.names := by
    intro x k e hk
    rw [kind_relabel] at e
    cases q : scope.names.lookup x with
    | none => rw [q] at e; cases e
    | some k0 =>
      rw [q] at e
      have e' : relK X.env x k0 = k := Option.some.inj e
      have hm := PySem.mem_of_lookup q
      by_cases hc0 : k0 = .cell
      · subst hc0; exact .inl (S.only x hm)
      have h0 : k0 ≠ .cell := hc0
      right
      have : k0 = .free := by
        unfold relK at e'
        by_cases hb : (k0 == NameKind.free && X.env.scope.kind == .function && X.env.kindOf x == some .cell) = true
        · simp only [Bool.and_eq_true, beq_iff_eq] at hb
          exact hb.1.1
        · rw [if_neg hb] at e'
          rcases hk with z | z
          · exact absurd (e'.trans z) h0
          · exact e'.trans z
      rw [this] at hm
      exact hm
  have ok : (compCxC X own cap scope y cl s H fp).Ok := {
    mod := I.ok.mod
    kind := S.kind
    glob := I.ok.glob
    blt := I.ok.blt
    above := Nat.le_refl _
    inj := fun x z c e1 e2 => by
      rcases lk x c e1 with ⟨h1, h2⟩ | ⟨h1, h2⟩ <;> rcases lk z c e2 with ⟨h3, h4⟩ | ⟨h3, h4⟩
      · rw [h1, h3]
      · exact absurd (lt z c h4) (by rw [h2]; exact Nat.not_lt.mpr (Nat.le_succ _))
      · exact absurd (lt x c h2) (by rw [h4]; exact Nat.not_lt.mpr (Nat.le_succ _))
      · exact I.ok.inj x z c (hcl x c h2) (hcl z c h4)
    has := fun x hx => by
      have key : x = y ∨ (x, NameKind.free) ∈ scope.names := by
        rcases hx with hx | hx
        · exact kc x _ hx (.inl rfl)
        · exact kc x _ hx (.inr rfl)
      by_cases hxy : x = y
      · subst hxy
        exact ⟨_, by show ((x, s.heap.objs.size + 1) :: cl).lookup x = some (s.heap.objs.size + 1); rw [List.lookup_cons, beq_self_eq_true]⟩
      · obtain ⟨c, hc⟩ := hfr x (key.resolve_left hxy)
        exact ⟨c, lo x c hxy hc⟩
    cab := fun x c h e => by
      have hx : x = y := beq_iff_eq.mp h
      rcases lk x c e with ⟨h1, h2⟩ | ⟨h1, h2⟩
      · rw [h2]; exact Nat.le_succ _
      · exact absurd hx h1
    hd := I.ok.hd
    frames := I.ok.frames
    stk := .inl rfl
    exf := fun b hb => ⟨Nat.ne_of_lt (hlt b hb), fun x c e => by
      rcases lk x c e with ⟨h1, h2⟩ | ⟨h1, h2⟩
      · rw [h2]; exact Nat.ne_of_gt (Nat.lt_succ_of_lt (hlt b hb))
      · exact (hf b hb).2.2.2.2.1 x c (hcl x c h2)⟩
    bs := I.bs
    bsz := Nat.le_trans I.ok.bsz I.sz
    noex := fun b o e hb => by
      rcases (hf b hb).2.2.2.1 with z | z
      · exact I.ok.noex b o e z
      · exact absurd (Nat.lt_of_lt_of_le (Heap.lt_size e) (Nat.le_trans I.ok.bsz z)) (Nat.lt_irrefl _)
    exfs := fun b hb hm => by
      rcases List.mem_cons.mp (I.stkSub b hm) with z | z
      · exact (hf b hb).2.1 z
      · exact (hf b hb).2.2.1 z
    funs := I.stack
    frf := I.stkFree }
  refine ⟨ok, rfl, I.bare, Un.kept hk, ⟨_, hns, fun i x v e1 e2 e3 => ?_⟩, fun x c e => ?_, I.hok.fresh (Nat.le_refl _), fun x c e => (by rcases lk x c e with ⟨h1, h2⟩ | ⟨h1, h2⟩; (rw [h2]; exact I.hok.fresh (Nat.le_succ _)); exact I.freeC x c (hcl x c h2)), fun p hp => absurd (show p ∈ ([] : List (Addr × Obj)) from hp) (by simp), I.hok.kept hk, ?_⟩
  · have e1 : (own ++ cap.map (fun j => X.N.getD j ""))[i]? = some x := e1
    have e2 : (own.map (fun _ => (none : Option V)) ++ cap.map (fun j => (σ[j]?).join))[i]? = some (some v) := e2
    by_cases hi : i < own.length
    · rw [List.getElem?_append_left (by simpa using hi), List.getElem?_map] at e2
      cases q : own[i]? with
      | none => rw [q] at e2; cases e2
      | some y => rw [q] at e2; cases e2
    · rw [List.getElem?_append_right (by simpa using hi), List.getElem?_map] at e1
      rw [List.getElem?_append_right (by simpa using hi), List.getElem?_map, List.length_map] at e2
      cases q : cap[i - own.length]? with
      | none => rw [q] at e2; cases e2
      | some j =>
        rw [q] at e1 e2
        have e1' : X.N.getD j "" = x := Option.some.inj e1
        have e2' : (σ[j]?).join = some v := Option.some.inj e2
        obtain ⟨hj, hlj⟩ := S.caps j (List.mem_of_getElem? q)
        rw [e1'] at hj
        have hNj : X.N[j]? = some x := by
          rw [List.getElem?_eq_getElem hlj, ← e1', List.getD_eq_getElem?_getD, List.getElem?_eq_getElem hlj]; rfl
        have hσ : σ[j]? = some (some v) := by
          cases z : σ[j]? with
          | none => rw [z] at e2'; cases e2'
          | some o => rw [z] at e2'; rw [show o = some v from e2']
        obtain ⟨m, hn, hl⟩ := I.loc
        have hm := PySem.mem_of_lookup hj
        have hkx := S.free _ hm rfl
        have vis : Vis X.env.scope x := by
          rcases hkx with z | z
          · exact .inr (.inl z)
          · exact .inr (.inr z)
        obtain ⟨u, r, l⟩ := hl j x v hNj hσ vis
        refine ⟨u, r, .inr ?_⟩
        rcases l with ⟨kl, _⟩ | ⟨_, c, hc, z⟩
        · rcases hkx with z | z
          · rw [kl] at z; cases z
          · rw [kl] at z; cases z
        · obtain ⟨c', hc'⟩ := hfr x hm
          have := hcl x c' hc'
          rw [hc] at this; cases this
          have hxy : x ≠ y := fun z => by rw [z, S.look] at hj; cases hj
          refine ⟨?_, c, lo x c hxy hc', ?_⟩
          · have q : (relabel scope X.env).names.lookup x = some (relK X.env x .free) := by rw [kind_relabel, hj]; rfl
            show (relabel scope X.env).names.lookup x = some .cell ∨ (relabel scope X.env).names.lookup x = some .free
            rw [q]
            unfold relK
            split
            · exact .inl rfl
            · exact .inr rfl
          · obtain ⟨o, ho, hd⟩ := z
            exact ⟨o, hk c o ho, hd⟩
  · rcases lk x c e with ⟨h1, h2⟩ | ⟨h1, h2⟩
    · rw [h2]; exact ⟨none, hy⟩
    · obtain ⟨v, o, ho, hd⟩ := I.cell x c (hcl x c h2)
      exact ⟨v, o, hk c o ho, hd⟩
  · show (own.map (fun _ => (none : Option V)) ++ cap.map (fun j => (σ[j]?).join)).length = (own ++ cap.map (fun j => X.N.getD j "")).length
    simp only [List.length_append, List.length_map]
theorem cellne {X : Cx} {own : List Str} {cap : List Nat} {scope : Scope} {cl : List (Str × Addr)} {pins : List (Addr × Obj)} {σ : St} {H : Hp} {s : Shared} {y : Str} {fp : List Addr} {b : Addr} (S : CompScopeC X own cap scope y) (I : Inv X pins σ H s) (hcl : ∀ x c, cl.lookup x = some c → X.env.cells.lookup x = some c)
    (lt : ∀ b ∈ fp, b < s.heap.objs.size) (hb : b ∈ fp) (a4 : ∀ x c, X.env.cells.lookup x = some c → c ≠ b) (x : Str) (c : Addr) (e : ((y, s.heap.objs.size + 1) :: cl).lookup x = some c) : c ≠ b := by
  rw [List.lookup_cons] at e
  by_cases hx : x = y
  · subst hx
    rw [beq_self_eq_true] at e
    rw [← Option.some.inj e]
    exact Nat.ne_of_gt (Nat.lt_succ_of_lt (lt b hb))
  · rw [beq_eq_false_iff_ne.mpr hx] at e
    exact a4 x c (hcl x c e)
theorem comp_coreC {X : Cx} {e : Expr} {tg iter : Expr} {ifs : List Expr} {scope : Scope} {own : List Str} {cap : List Nat} {newAcc : Sem Value} {o : HO} {cl : List (Str × Addr)} {behOf : Value → Env → Sem Unit} {g : TG} {tts : List TT} {Bof : Addr → TB}
    (hc : X.calm = true) {y : Str} (S : CompScopeC X own cap scope y) (hcl : ∀ x c, cl.lookup x = some c → X.env.cells.lookup x = some c) (hfr : ∀ x, (x, NameKind.free) ∈ scope.names → ∃ c, cl.lookup x = some c)
    (hacc : NewAcc X newAcc o)
    (hC : ∀ s H ex l, ClauseAt (compCxC X own cap scope y cl s H ex) e 0 (.ref l) tg iter ifs (behOf (.ref l) (compCxC X own cap scope y cl s H ex).env))
    (hg : ∀ s H ex, PG (compCxC X own cap scope y cl s H ex) tg g) (ht : ∀ s H ex, PTs (compCxC X own cap scope y cl s H ex) ifs tts)
    (hb : ∀ s H ex l, PB (compCxC X own cap scope y cl s H ex) (behOf (.ref l) (compCxC X own cap scope y cl s H ex).env) (Bof l))
    {pins : List (Addr × Obj)} {σ : St} {s2 : Shared} {itv : Value} {Q : Addr → Hp → Prop} {E : Value → Shared → Prop} {R : Value → Addr → Result → Shared → Prop}
    (h : PIE X pins σ tg (fun J H1 => ∀ l, H1 l = none → LoopT J g (tAll tts) (Bof l) (compSt own cap σ) (upd H1 l o) fun _ H2 => Q l H2) itv s2)
    (hR : ∀ l C s' H', Inv X pins σ H' s' → FpOk X pins H' C → (∃ m, s'.heap.Ns C m) → Q l H' → R (.ref l) C (.ok .next) s')
    (hok : ∀ acc C f s', R acc C (.ok .next) s' → R acc C (.ok f) s') :
    wpAny (model X.prog X.w) X.A newAcc (fun acc s₃ => wpAny (model X.prog X.w) X.A (newFunctionEnv scope X.env.globals cl [] X.env.qual none .none (some X.env)) (fun cenv s₄ =>
      codeAny (model X.prog X.w) X.A (.compStart e 0 itv acc { cenv with scope := relabel scope X.env }) (R acc cenv.locals) s₄) E s₃) E s2 := by
  obtain ⟨it, fp, tn, J, H2, rfl, I2, T, st2, f2, q⟩ := h
  have lt2 : ∀ b ∈ fp, b < s2.heap.objs.size := fun b hb => by
    obtain ⟨ob, e, _⟩ := T.obj _ _ st2 b hb
    exact Heap.lt_size e
  refine hacc pins s2 σ H2 E _ I2 fun l s3 hl hn I3 k3 => ?_
  have q' := q l hn
  have f3 : ∀ b ∈ fp, FpOk X pins (upd H2 l o) b := fun b hb => by
    obtain ⟨a1, a2⟩ := f2 b hb
    refine ⟨?_, a2⟩
    rw [upd_ne (Nat.ne_of_lt (Nat.lt_of_lt_of_le (lt2 b hb) hl))]; exact a1
  have lt3 : ∀ b ∈ fp, b < s3.heap.objs.size := fun b hb => by
    obtain ⟨ob, e, _⟩ := T.obj _ _ st2 b hb
    exact Heap.lt_size (k3 b ob e)
  refine newEnv_cell S.one (fun h1 hns k4 hy => ?_)
  have I4 : Inv (compCxC X own cap scope y cl s3 (upd H2 l o) fp) [] (compSt own cap σ) (upd H2 l o) { s3 with heap := h1, toks := s3.toks + ([] : List (Str × Value)).length } := comp_invC S I3 hcl hfr f3 lt3 hns k4 hy
  have st4 : tn 0 h1 := T.keep _ _ _ st2 fun b hb ob e => k4 b ob (k3 b ob e)
  have f4 : ∀ b ∈ fp, FpOk (compCxC X own cap scope y cl s3 (upd H2 l o) fp) [] (upd H2 l o) b := fun b hb => by
    obtain ⟨a0, a1, a2, a3, a4, a5⟩ := f3 b hb
    refine ⟨a0, Nat.ne_of_lt (lt3 b hb), fun hm => ?_, .inl hb, fun x c ex => cellne S I3 hcl lt3 hb a4 x c ex, fun p hp => absurd (show p ∈ ([] : List (Addr × Obj)) from hp) (by simp)⟩
    rcases List.mem_cons.mp (I3.stkSub b hm) with z | z
    · exact a1 z
    · exact a2 z
  have fin : ∀ (r : Result) (s' : Shared), CompR (compCxC X own cap scope y cl s3 (upd H2 l o) fp) [] (fun _ H2 => Q l H2) r s' → R (.ref l) s3.heap.objs.size r s' := by
    intro r s' hr
    cases r with
    | error x => exact (show False from hr).elim
    | ok f =>
      obtain ⟨σ5, H5, I5, q5⟩ := (show ∃ σ' H', Inv (compCxC X own cap scope y cl s3 (upd H2 l o) fp) [] σ' H' s' ∧ Q l H' from hr)
      have I6 : Inv X pins σ H5 s' := I3.call' (ch := fp) I5.os I5.base I5.hok I5.bare fun b hb => (f3 b hb).2.2.2 |> fun ⟨z1, z2, z3⟩ => ⟨z1, (f3 b hb).2.1, z2, z3⟩
      refine hok _ _ _ _ (hR l _ s' H5 I6 (I3.fpOk (Nat.le_refl _) I5.free) ?_ q5)
      obtain ⟨m, hm, _⟩ := I5.loc
      exact ⟨m, hm⟩
  have loop : ∀ s4 : Shared, s4 = { s3 with heap := h1, toks := s3.toks + ([] : List (Str × Value)).length } →
      codeAny (model X.prog X.w) X.A (.compLoop e 0 (.ref it) (.ref l) (compCxC X own cap scope y cl s3 (upd H2 l o) fp).env) (R (.ref l) s3.heap.objs.size) s4 := by
    rintro s4 rfl
    exact codeAny_mono (comp_loop (X := compCxC X own cap scope y cl s3 (upd H2 l o) fp) rfl hc (hC _ _ _ _) T (hg _ _ _) (ht _ _ _) (hb _ _ _ l) I4 st4 f4 q') fin
  exact (hC s3 (upd H2 l o) fp l).start (.ref it) _ _ (loop _ rfl) (T.self _ 0 _ _ _ st4 (loop _ rfl))
section
variable {X : Cx} {e : Expr} {tg iter : Expr} {ifs : List Expr} {gs : List Comprehension} {scope : Scope} {own : List Str} {cap : List Nat} {newAcc : Sem Value} {o : HO} {behOf : Value → Env → Sem Unit} {wi : TI} {g : TG} {tts : List TT} {Bof : Addr → TB} {cpos : Pos}
theorem comp_valC (hc : X.calm = true) {y : Str} (S : CompScopeC X own cap scope y) (hcl : clausesOf e = ⟨tg, iter, ifs, 0⟩ :: gs) (hi : PI X tg iter wi) (hacc : NewAcc X newAcc o)
    (hC : ∀ cl s H ex l, ClauseAt (compCxC X own cap scope y cl s H ex) e 0 (.ref l) tg iter ifs (behOf (.ref l) (compCxC X own cap scope y cl s H ex).env))
    (hg : ∀ cl s H ex, PG (compCxC X own cap scope y cl s H ex) tg g) (ht : ∀ cl s H ex, PTs (compCxC X own cap scope y cl s H ex) ifs tts)
    (hb : ∀ cl s H ex l, PB (compCxC X own cap scope y cl s H ex) (behOf (.ref l) (compCxC X own cap scope y cl s H ex).env) (Bof l)) (hs : ∀ x, foldedSetIterable iter X.env x = pure x) :
    ∀ (pins : List (Addr × Obj)) (s : Shared) (σ : St) (H : Hp) (Q : VK), Inv X pins σ H s → tComp own cap o wi g tts Bof σ H Q →
      wpAny (model X.prog X.w) X.A (comprehension e scope X.env cpos newAcc false (eval iter X.env)) (EP X pins σ Q) X.xe s := by
  intro pins s σ H Q I h
  obtain ⟨cl, hclos, h1, h2⟩ := closure_of (scope := scope) (env := X.env) fun x hx hf => I.ok.has x.1 (S.free x hx hf)
  refine wpAny_comprehension_free (use := none) hcl hs hclos S.kind S.names (thn (hi pins s σ H _ I h) fun v s1 q1 => thn q1 fun itv s2 q2 => ?_)
  refine comp_coreC (R := fun acc C => compPost (model X.prog X.w) X.A X.xe none (EP X pins σ Q) acc C) hc S h1 h2 hacc (hC cl) (hg cl) (ht cl) (hb cl) q2 (fun l C s' H' I' fC hm q => ?_) (fun acc C f s' z => z)
  obtain ⟨m, hm⟩ := hm
  refine ⟨m, hm, fun h' sb => ⟨.ref l, H', I'.turned (t' := s'.toks) (fun b o hb e => (sb.2 b hb).trans e) fC.1 fC.2.1 fC.2.2.2.1 fC.2.2.2.2.1 fC.2.2.2.2.2, rfl, q⟩⟩
theorem comp_useC {i : Nat} {x : Str} {px : Pos} (hc : X.calm = true) {y : Str} (S : CompScopeC X own cap scope y) (hcl : clausesOf e = ⟨tg, iter, ifs, 0⟩ :: gs) (hi : PI X tg iter wi) (hacc : NewAcc X newAcc o)
    (hC : ∀ cl s H ex l, ClauseAt (compCxC X own cap scope y cl s H ex) e 0 (.ref l) tg iter ifs (behOf (.ref l) (compCxC X own cap scope y cl s H ex).env))
    (hg : ∀ cl s H ex, PG (compCxC X own cap scope y cl s H ex) tg g) (ht : ∀ cl s H ex, PTs (compCxC X own cap scope y cl s H ex) ifs tts)
    (hb : ∀ cl s H ex l, PB (compCxC X own cap scope y cl s H ex) (behOf (.ref l) (compCxC X own cap scope y cl s H ex).env) (Bof l)) (hs : ∀ x, foldedSetIterable iter X.env x = pure x)
    (hN : X.N.Nodup) (hix : X.N[i]? = some x) (hx : Loc X.env.scope x) (hf : X.fn x = true ∨ X.env.scope.names.lookup x = some .local) :
    ∀ (pins : List (Addr × Obj)) (s : Shared) (σ : St) (H : Hp) (D : Ends), Inv X pins σ H s → tComp own cap o wi g tts Bof σ H (fun v H1 => D.nx (σ.set i (some v)) H1) →
      wpAny (model X.prog X.w) X.A (comprehension e scope X.env cpos newAcc false (eval iter X.env) (some (assign (.Name x px) X.env))) (fun _ s' => SP X pins D .next s') X.xe s := by
  intro pins s σ H D I h
  obtain ⟨cl, hclos, h1, h2⟩ := closure_of (scope := scope) (env := X.env) fun x hx hf => I.ok.has x.1 (S.free x hx hf)
  refine wpAny_comprehension_free (use := some (assign (.Name x px) X.env)) hcl hs hclos S.kind S.names (thn (hi pins s σ H _ I h) fun v s1 q1 => thn q1 fun itv s2 q2 => ?_)
  refine comp_coreC (R := fun acc C => compPost (model X.prog X.w) X.A X.xe (some (assign (.Name x px) X.env)) (fun _ s' => SP X pins D .next s') acc C) hc S h1 h2 hacc (hC cl) (hg cl) (ht cl) (hb cl) q2 (fun l C s' H' I' fC hm q => ?_) (fun acc C f s' z => z)
  obtain ⟨m, hm⟩ := hm
  show wpAny (model X.prog X.w) X.A (assign (.Name x px) X.env (.ref l)) _ X.xe s'
  refine wpAny_assign_Name (store_ok2 (v := .ref l) I' hN hix hx rfl (fun s'' I'' ⟨a, sa, ha⟩ => ?_) hf)
  have hCa : C ≠ a := by
    rcases ha with z | z
    · rw [z]; exact fC.2.1
    · exact Ne.symm (fC.2.2.2.2.1 x a z)
  refine ⟨m, hm.sameBut sa hCa, fun h' sb => ⟨_, H', I''.turned (t' := s''.toks) (fun b o hb e => (sb.2 b hb).trans e) fC.1 fC.2.1 fC.2.2.2.1 fC.2.2.2.2.1 fC.2.2.2.2.2, q⟩⟩
end
section
variable {X : Cx} {elt tg iter tg2 iter2 : Expr} {ifs ifs2 : List Expr} {scope : Scope} {own : List Str} {cap : List Nat} {wi wi2 : TI} {g g2 : TG} {tts tts2 : List TT} {te : TE} {pos : Pos}
theorem pe_lcC (own : List Str) (cap : List Nat) (y : Str) (hc : X.calm = true) (S : CompScopeC X own cap scope y) (hi : PI X tg iter wi) (hg : ∀ cl s H ex, PG (compCxC X own cap scope y cl s H ex) tg g)
    (ht : ∀ cl s H ex, PTs (compCxC X own cap scope y cl s H ex) ifs tts) (he : ∀ cl s H ex, PE (compCxC X own cap scope y cl s H ex) elt te) (hs : ∀ x, foldedSetIterable iter X.env x = pure x := by intro _; rfl) :
    PE X (.ListComp elt [⟨tg, iter, ifs, 0⟩] scope pos) (tComp own cap (.lst []) wi g tts (eApp te)) := by
  intro pins s σ H Q I h
  exact comp_valC (behOf := behList elt) hc S rfl hi acc_list (fun _ _ _ _ _ => clause_list) hg ht (fun cl s H ex l => pb_list (he cl s H ex)) hs pins s σ H Q I h
theorem ps_lcC {i : Nat} {x : Str} {px spos : Pos} (own : List Str) (cap : List Nat) (y : Str) (hc : X.calm = true) (S : CompScopeC X own cap scope y) (hN : X.N.Nodup) (hix : X.N[i]? = some x) (hx : Loc X.env.scope x)
    (hi : PI X tg iter wi) (hg : ∀ cl s H ex, PG (compCxC X own cap scope y cl s H ex) tg g)
    (ht : ∀ cl s H ex, PTs (compCxC X own cap scope y cl s H ex) ifs tts) (he : ∀ cl s H ex, PE (compCxC X own cap scope y cl s H ex) elt te)
    (hsw : swapsWith (.ListComp elt [⟨tg, iter, ifs, 0⟩] scope pos) (some (.Name x px)) spos.line X.env = pure true := by rfl) (hs : ∀ x, foldedSetIterable iter X.env x = pure x := by intro _; rfl)
    (hf : X.fn x = true ∨ X.env.scope.names.lookup x = some .local := by first | exact .inl rfl | exact .inr rfl | assumption) :
    PS X (.Assign [.Name x px] (.ListComp elt [⟨tg, iter, ifs, 0⟩] scope pos) spos) (tAsg (tComp own cap (.lst []) wi g tts (eApp te)) (gName i)) := by
  intro pins s σ H D I h
  rw [exec_Assign_Name_used _ _ _ _ hsw]
  refine wpAny_bind (wpAny_standAt (wpAny_bind ?_))
  show wpAny _ X.A (do let _ ← comprehension (.ListComp elt [⟨tg, iter, ifs, 0⟩] scope pos) scope X.env _ (newList []) false (eval iter X.env) (some (assign (.Name x px) X.env))) _ _ s
  refine wpAny_bind (thn (comp_useC (behOf := behList elt) hc S rfl hi acc_list (fun _ _ _ _ _ => clause_list) hg ht (fun cl s H ex l => pb_list (he cl s H ex)) hs hN hix hx hf pins s σ H D I h) fun _ s' hq => ?_)
  exact wpAny_pure (wpAny_pure hq)
end
def chkC (X : Cx) (own : List Str) (cap : List Nat) (scope : Scope) (y : Str) : Bool :=
  decide (scope.kind = .function) && decide (scope.names.filter (fun x => x.2 == .cell) = [(y, .cell)]) && decide (scope.names.lookup y = some .cell) && (scope.names.all fun x => !decide (x.2 = .local) || decide (scope.names.lookup x.1 = some .local)) &&
  (scope.names.all fun x => !decide (x.2 = .free) || (decide (X.env.scope.names.lookup x.1 = some .cell) || decide (X.env.scope.names.lookup x.1 = some .free))) && (cap.all fun j => decide (scope.names.lookup (X.N.getD j "") = some .free) && decide (j < X.N.length))
theorem CompScopeC.of {X : Cx} {own : List Str} {cap : List Nat} {scope : Scope} {y : Str} (h : chkC X own cap scope y = true) : CompScopeC X own cap scope y := by
  unfold chkC at h
  simp only [Bool.and_eq_true, List.all_eq_true, decide_eq_true_eq, Bool.or_eq_true, Bool.not_eq_true', decide_eq_false_iff_not] at h
  obtain ⟨⟨⟨⟨⟨h1, h2⟩, h3⟩, h4⟩, h5⟩, h6⟩ := h
  exact ⟨h1, h2, h3, fun x hx e => (h4 x hx).resolve_left (fun z => z e), fun x hx e => (h5 x hx).resolve_left (fun z => z e), fun j hj => h6 j hj⟩
end L2
set_option maxRecDepth 100000
set_option maxHeartbeats 1000000
namespace L2
open PySem PySem.Spec PyProof.Rows
abbrev Pl := Int × Int
def plK (p : Pl) : List Key := [.inl p.1, .inl p.2]
theorem plK_inj {p q : Pl} (h : plK p = plK q) : p = q := by
  obtain ⟨a, b⟩ := p
  obtain ⟨c, d⟩ := q
  simp only [plK, List.cons.injEq, Sum.inl.injEq, and_true] at h
  rw [h.1, h.2]
def TK (H H' : Hp) : Prop := ∀ b xs, H b = some (.tup xs) → H' b = some (.tup xs)
theorem TK.refl (H : Hp) : TK H H := fun _ _ h => h
theorem TK.trans {H H1 H2 : Hp} (a : TK H H1) (b : TK H1 H2) : TK H H2 := fun c xs h => b c xs (a c xs h)
theorem Ext.tk {H H' : Hp} (e : Ext [] H H') : TK H H' := fun b xs h => e b _ (by simp) h
theorem TK.put {H : Hp} {t : Addr} {o : HO} (h : ∀ ys, H t ≠ some (.tup ys)) : TK H (upd H t o) := fun b xs e => by
  have n : b ≠ t := fun z => by rw [z] at e; exact h xs e
  rw [upd_ne n]; exact e
def PlAt (H : Hp) (v : V) (p : Pl) : Prop := ∃ b, v = .ref b ∧ H b = some (.tup [.int p.1, .int p.2])
def PlsAt (H : Hp) : List V → List Pl → Prop := Paired (PlAt H)
theorem PlsAt.mono {H H' : Hp} (k : TK H H') {vs : List V} {ps : List Pl} (h : PlsAt H vs ps) : PlsAt H' vs ps := Paired.mapP h fun _ _ ⟨b, e, q⟩ => ⟨b, e, k _ _ q⟩
theorem PlsAt.len {H : Hp} {vs : List V} {ps : List Pl} (h : PlsAt H vs ps) : vs.length = ps.length := Paired.length h
theorem PlsAt.append {H : Hp} : ∀ {vs ws : List V} {ps qs : List Pl}, PlsAt H vs ps → PlsAt H ws qs → PlsAt H (vs ++ ws) (ps ++ qs)
  | _, _, _, _, .nil, h => h
  | _, _, _, _, .cons a r, h => .cons a (PlsAt.append r h)
theorem PlsAt.one {H : Hp} {b : Addr} {p : Pl} (h : H b = some (.tup [.int p.1, .int p.2])) : PlsAt H [.ref b] [p] := .cons ⟨b, rfl, h⟩ .nil
theorem PlsAt.get {H : Hp} : ∀ {vs : List V} {ps : List Pl} {i : Nat} {v : V}, PlsAt H vs ps → vs[i]? = some v → ∃ p, ps[i]? = some p ∧ PlAt H v p
  | _, _, _, _, .nil, e => by simp at e
  | _, _, 0, _, .cons a _, e => by simp at e; subst e; exact ⟨_, rfl, a⟩
  | _, _, i + 1, v, .cons _ r, e => by
    obtain ⟨p, h1, h2⟩ := PlsAt.get (i := i) (v := v) r (by simpa using e)
    exact ⟨p, by simpa using h1, h2⟩
theorem PlsAt.last {H : Hp} : ∀ {vs : List V} {ps : List Pl} {y : Pl}, PlsAt H vs (ps ++ [y]) → ∃ ws v, vs = ws ++ [v] ∧ PlsAt H ws ps ∧ PlAt H v y := by
  intro vs ps
  induction ps generalizing vs with
  | nil =>
    intro y h
    cases h with
    | cons a r => cases r; exact ⟨[], _, rfl, .nil, a⟩
  | cons p r ih =>
    intro y h
    cases h with
    | cons a t =>
      obtain ⟨ws, v, rfl, h1, h2⟩ := ih t
      exact ⟨_ :: ws, v, rfl, .cons a h1, h2⟩
theorem PlsAt.den {K : PySem.W.Frag} {H : Hp} : ∀ {vs : List V} {ps : List Pl}, PlsAt H vs ps → DenL K H (ps.map pairD) vs
  | _, _, .nil => .nil
  | _, _, .cons ⟨b, e, q⟩ r => by subst e; exact .cons (.tuple (SqT.of q) (.cons .int (.cons .int .nil))) (PlsAt.den r)
inductive RT (N : Pl → List Pl) (a : Pl) : Pl → Prop
  | refl : RT N a a
  | step {b c : Pl} : RT N a b → c ∈ N b → RT N a c
theorem RT.trans {N : Pl → List Pl} {a b c : Pl} (h1 : RT N a b) (h2 : RT N b c) : RT N a c := by
  induction h2 with
  | refl => exact h1
  | step _ hc ih => exact .step ih hc
theorem RT.back {N M : Pl → List Pl} (h : ∀ p q, q ∈ N p ↔ p ∈ M q) {a b : Pl} (r : RT N a b) : RT M b a := by
  induction r with
  | refl => exact .refl
  | step _ hc ih => exact (RT.step .refl ((h _ _).mp hc)).trans ih
theorem RT.within {N : Pl → List Pl} {U : List Pl} {a b : Pl} (hc : ∀ p ∈ U, ∀ q ∈ N p, q ∈ U) (ha : a ∈ U) (r : RT N a b) : b ∈ U := by
  induction r with
  | refl => exact ha
  | step _ h ih => exact hc _ ih _ h
def NexT (H : Hp) (nd : Addr) (N : Pl → List Pl) : Prop := ∃ kvs : List (List Key × V), H nd = some (.dT kvs) ∧ ∀ p : Pl, (valV kvs (plK p) = none ∧ N p = []) ∨ ∃ c vs, valV kvs (plK p) = some (.ref c) ∧ H c = some (.lst vs) ∧ PlsAt H vs (N p)
theorem NexT.mono {H H' : Hp} {nd : Addr} {N : Pl → List Pl} (h : NexT H nd N) (e : Ext [] H H') : NexT H' nd N := by
  obtain ⟨kvs, h1, h2⟩ := h
  refine ⟨kvs, e _ _ (by simp) h1, fun p => ?_⟩
  rcases h2 p with z | ⟨c, vs, c1, c2, c3⟩
  · exact .inl z
  · exact .inr ⟨c, vs, c1, e _ _ (by simp) c2, c3.mono e.tk⟩
def trueD (ks : List Pl) : List (List Key × V) := ks.map fun p => (plK p, V.bl true)
theorem valV_pl (y : Pl) : ∀ ks : List Pl, valV (trueD ks) (plK y) = if y ∈ ks then some (V.bl true) else none
  | [] => rfl
  | k :: r => by
    have ih := valV_pl y r
    unfold trueD at ih ⊢
    by_cases e : k = y
    · subst e
      rw [List.map_cons, valV_pos rfl, if_pos (List.mem_cons_self ..)]
    · rw [List.map_cons, valV_neg (fun z => e (plK_inj z)), ih]
      have : (y ∈ k :: r) ↔ y ∈ r := by simp [Ne.symm e]
      simp only [this]
def spLedT (K : PySem.W.Frag) : Sp := fun vs H Q _ => ∃ (st nd : Addr) (svs : List V) (starts U : List Pl) (N : Pl → List Pl), vs = [.ref st, .ref nd] ∧ SqL K H st svs ∧ PlsAt H svs starts ∧ NexT H nd N ∧ (∀ s ∈ starts, s ∈ U) ∧ (∀ p ∈ U, ∀ q ∈ N p, q ∈ U) ∧ (∀ p, (N p).length ≤ 5000) ∧ U.length ≤ 500 ∧ starts.length ≤ 5000 ∧
  ∀ (d : Addr) (ks : List Pl) (H' : Hp), H d = none → Ext [] H H' → H' d = some (.dT (trueD ks)) → ks.Nodup → (∀ x, x ∈ ks ↔ ∃ s ∈ starts, RT N s x) → Q (.ref d) H'
end L2
set_option maxRecDepth 100000
set_option maxHeartbeats 1000000
namespace L2
open PySem PySem.Spec PyProof.Rows
def dword : Deed → Str
  | .set _ _ => "set"
  | .add _ _ => "add"
  | .tell _ => "tell"
  | .call _ => "call"
  | .save _ => "save"
  | .back _ => "back"
def dargs : Deed → List Int
  | .set b n => [b, n]
  | .add b o => [b, o]
  | .tell b => [b]
  | .call b => [b]
  | .save b => [b]
  | .back b => [b]
def darg : Deed → Int
  | .set b _ => b
  | .add b _ => b
  | .tell b => b
  | .call b => b
  | .save b => b
  | .back b => b
theorem deed_is (d : Deed) : deedD d = .tuple (.str (dword d) :: (dargs d).map .int) := by cases d <;> rfl
theorem dargs_head (d : Deed) : ∃ r, dargs d = darg d :: r := by cases d <;> exact ⟨_, rfl⟩
theorem dargs_len (d : Deed) : 1 ≤ (dargs d).length ∧ (dargs d).length ≤ 2 := by cases d <;> simp [dargs]
theorem deed_in (d : Deed) : inV (V.str (dword d)) [V.str "set", .str "add"] = (wr d).isSome := by cases d <;> first | rfl | (show inV (V.str _) _ = _; simp only [dword, wr]; decide)
theorem deed_wr (d : Deed) (h : (wr d).isSome = true) : wr d = some (darg d) := by cases d <;> first | rfl | cases h
def wrB (x : Int) (d : Deed) : Bool := (wr d).isSome && decide (darg d = x)
def isRead : Deed → Bool
  | .add _ _ => true
  | .tell _ => true
  | _ => false
theorem deed_read (d : Deed) : inV (V.str (dword d)) [V.str "add", .str "tell"] = isRead d := by cases d <;> first | rfl | (show inV (V.str _) _ = _; simp only [dword, isRead]; decide)
def rdB (x : Int) (d : Deed) : Bool := isRead d && decide (x ∈ dargs d)
def KTup (K : PySem.W.Frag) (wa : Addr) (xs : List V) : Prop := ∃ (o : Obj) (its : Array Value) (n : Nat), K.lookup wa = some o ∧ o.cls = .type "tuple" ∧ o.data = .seq its n ∧ its.size ≤ sizeLine ∧ Vals xs its.toList
abbrev Writing (K : PySem.W.Frag) (wa : Addr) : Prop := KTup K wa [V.str "set", .str "add"]
abbrev Reading (K : PySem.W.Frag) (wa : Addr) : Prop := KTup K wa [V.str "add", .str "tell"]
def spDeedB (φ : Int → Deed → Bool) (K : PySem.W.Frag) : Sp := fun vs H Q _ => ∃ (v : V) (d : Deed) (x : Int), vs = [v, .int x] ∧ Den K H (deedD d) v ∧ ∀ H', Ext [] H H' → Q (.bl (φ x d)) H'
def till (x : Int) : List Deed → List Deed
  | [] => []
  | d :: r => if wrB x d = true then [d] else d :: till x r
def wrote (x : Int) (ds : List Deed) : Bool := ds.any (wrB x)
def callOf : Deed → Option Int
  | .call c => some c
  | _ => none
def isCall (d : Deed) : Bool := (callOf d).isSome
theorem deed_call (d : Deed) : decide (dword d = "call") = isCall d := by
  cases d with
  | call c => exact decide_eq_true rfl
  | set _ _ => exact decide_eq_false (show ¬ ("set" : Str) = "call" by decide)
  | add _ _ => exact decide_eq_false (show ¬ ("add" : Str) = "call" by decide)
  | tell _ => exact decide_eq_false (show ¬ ("tell" : Str) = "call" by decide)
  | save _ => exact decide_eq_false (show ¬ ("save" : Str) = "call" by decide)
  | back _ => exact decide_eq_false (show ¬ ("back" : Str) = "call" by decide)
theorem call_of (d : Deed) (h : isCall d = true) : callOf d = some (darg d) := by cases d <;> first | rfl | cases h
theorem till_len (x : Int) : ∀ ds : List Deed, (till x ds).length ≤ ds.length
  | [] => Nat.le_refl _
  | d :: r => by
    unfold till
    split
    · simp
    · have := till_len x r; simp; omega
theorem till_mem {x : Int} {d : Deed} : ∀ {ds : List Deed}, d ∈ till x ds → d ∈ ds
  | [], h => h
  | e :: r, h => by
    unfold till at h
    split at h
    · rw [List.mem_singleton.mp h]; exact List.mem_cons_self ..
    · rcases List.mem_cons.mp h with z | z
      · rw [z]; exact List.mem_cons_self ..
      · exact List.mem_cons_of_mem _ (till_mem z)
theorem till_first {x : Int} : ∀ {ds : List Deed} {i : Nat} {d : Deed}, (∀ e ∈ ds.take i, wrB x e = false) → ds[i]? = some d → wrB x d = true → till x ds = ds.take (i + 1)
  | [], i, d, _, h, _ => by simp at h
  | e :: r, 0, d, _, h, hw => by
    simp at h; subst h
    unfold till; rw [if_pos hw]; rfl
  | e :: r, i + 1, d, ha, h, hw => by
    unfold till
    rw [if_neg (by rw [ha e (by simp)]; exact Bool.false_ne_true), List.take_succ_cons]
    rw [till_first (i := i) (d := d) (fun f hf => ha f (by simp [hf])) (by simpa using h) hw]
theorem till_none {x : Int} : ∀ {ds : List Deed}, (∀ e ∈ ds, wrB x e = false) → till x ds = ds
  | [], _ => rfl
  | e :: r, h => by
    unfold till
    rw [if_neg (by rw [h e (by simp)]; exact Bool.false_ne_true), till_none fun f hf => h f (by simp [hf])]
end L2
set_option maxRecDepth 100000
set_option maxHeartbeats 1000000
namespace L2
open PySem PySem.Spec PyProof.Rows
abbrev worksD (ws : List (List Blk)) : PyData := .list (ws.map workD)
def blkAt (ws : List (List Blk)) (p : Pl) : Option Blk := if 0 ≤ p.1 ∧ 0 ≤ p.2 then (ws[p.1.toNat]?).bind fun w => w[p.2.toNat]? else none
def callsOf (x : Int) (b : Blk) : List Pl := ((till x b.ds).filterMap callOf).map fun c => (c, 0)
def metB (x n : Int) (b : Blk) : List Pl := callsOf x b ++ (if wrote x b.ds = true then [] else b.ns.map fun t => (n, t))
def metOf (ws : List (List Blk)) (x : Int) (p : Pl) : List Pl := match blkAt ws p with
  | none => []
  | some b => metB x p.1 b
def readB (x : Int) (b : Blk) : Bool := (till x b.ds).any (rdB x)
def readAt (ws : List (List Blk)) (x : Int) (p : Pl) : Bool := match blkAt ws p with
  | none => false
  | some b => readB x b
def Asks (ws : List (List Blk)) (x : Int) (p : Pl) : Prop := ∃ q, RT (metOf ws x) p q ∧ readAt ws x q = true
structure WsOk (ws : List (List Blk)) : Prop where
  all : ∀ w ∈ ws, ∃ m : Int, 1 ≤ m ∧ m ≤ 12 ∧ WorkOk m (ws.length : Int) w
  one : 1 ≤ ws.length
  few : ws.length ≤ 25
theorem blkAt_nat (ws : List (List Blk)) (n a : Nat) : blkAt ws ((n : Int), (a : Int)) = (ws[n]?).bind fun w => w[a]? := by
  unfold blkAt
  rw [if_pos ⟨by omega, by omega⟩]; rfl
theorem blkAt_some {ws : List (List Blk)} {p : Pl} {b : Blk} (h : blkAt ws p = some b) : ∃ (n a : Nat) (w : List Blk), p = ((n : Int), (a : Int)) ∧ ws[n]? = some w ∧ w[a]? = some b := by
  unfold blkAt at h
  split at h
  · rename_i hp
    cases e : ws[p.1.toNat]? with
    | none => rw [e] at h; cases h
    | some w =>
      rw [e] at h
      refine ⟨p.1.toNat, p.2.toNat, w, ?_, e, h⟩
      rw [Int.toNat_of_nonneg hp.1, Int.toNat_of_nonneg hp.2]
  · cases h
def places (ws : List (List Blk)) : List Pl := (List.range ws.length).flatMap fun (n : Nat) => (List.range ((ws[n]?).getD []).length).map fun (a : Nat) => ((n : Int), (a : Int))
theorem mem_places {ws : List (List Blk)} {p : Pl} : p ∈ places ws ↔ ∃ b, blkAt ws p = some b := by
  unfold places
  rw [List.mem_flatMap]
  constructor
  · rintro ⟨n, hn, hp⟩
    obtain ⟨a, ha, rfl⟩ := List.mem_map.mp hp
    rw [blkAt_nat]
    have hn := List.mem_range.mp hn
    have ha := List.mem_range.mp ha
    rw [List.getElem?_eq_getElem hn] at ha ⊢
    exact ⟨_, List.getElem?_eq_getElem ha⟩
  · rintro ⟨b, hb⟩
    obtain ⟨n, a, w, rfl, hw, ha⟩ := blkAt_some hb
    refine ⟨n, List.mem_range.mpr (List.getElem?_eq_some_iff.mp hw).1, List.mem_map.mpr ⟨a, List.mem_range.mpr ?_, rfl⟩⟩
    rw [hw]
    exact (List.getElem?_eq_some_iff.mp ha).1
theorem WsOk.blk {ws : List (List Blk)} (h : WsOk ws) {p : Pl} {b : Blk} (hb : blkAt ws p = some b) : ∃ (m : Int) (n : Nat) (w : List Blk), p.1 = (n : Int) ∧ ws[n]? = some w ∧ (w.length : Int) = m ∧ 1 ≤ m ∧ m ≤ 12 ∧ BlkOk m (ws.length : Int) b := by
  obtain ⟨n, a, w, rfl, hw, ha⟩ := blkAt_some hb
  obtain ⟨m, h1, h2, h3⟩ := h.all w (List.mem_of_getElem? hw)
  exact ⟨m, n, w, rfl, hw, h3.len, h1, h2, h3.blk b (List.mem_of_getElem? ha)⟩
theorem met_there {ws : List (List Blk)} (h : WsOk ws) {x : Int} {p q : Pl} (hq : q ∈ metOf ws x p) : q ∈ places ws := by
  unfold metOf at hq
  split at hq
  · cases hq
  · rename_i b hb
    obtain ⟨m, n, w, hp, hw, hm, hm1, hm2, hbok⟩ := h.blk hb
    unfold metB at hq
    rcases List.mem_append.mp hq with z | z
    · unfold callsOf at z
      obtain ⟨c, hc, rfl⟩ := List.mem_map.mp z
      obtain ⟨d, hd, e⟩ := List.mem_filterMap.mp hc
      have hdok := hbok.ds d (till_mem hd)
      have hcc : 0 ≤ c ∧ c < (ws.length : Int) := by
        cases d with
        | call c' => cases e; exact hdok
        | set _ _ => cases e
        | add _ _ => cases e
        | tell _ => cases e
        | save _ => cases e
        | back _ => cases e
      obtain ⟨k, rfl⟩ := Int.eq_ofNat_of_zero_le hcc.1
      have hk : k < ws.length := by omega
      refine mem_places.mpr ?_
      have := blkAt_nat ws k 0
      show ∃ b, blkAt ws ((k : Int), ((0 : Nat) : Int)) = some b
      rw [this, List.getElem?_eq_getElem hk]
      obtain ⟨m', g1, g2, g3⟩ := h.all ws[k] (List.getElem_mem hk)
      have g4 := g3.len
      exact ⟨_, List.getElem?_eq_getElem (by omega)⟩
    · split at z
      · cases z
      · obtain ⟨t, ht, rfl⟩ := List.mem_map.mp z
        have hr := hbok.ns.range t ht
        obtain ⟨k, rfl⟩ := Int.eq_ofNat_of_zero_le (show 0 ≤ t by omega)
        refine mem_places.mpr ?_
        rw [hp, blkAt_nat, hw]
        exact ⟨_, List.getElem?_eq_getElem (by omega)⟩
theorem met_len {ws : List (List Blk)} (h : WsOk ws) (x : Int) (p : Pl) : (metOf ws x p).length ≤ 16 := by
  unfold metOf
  split
  · exact Nat.zero_le _
  · rename_i b hb
    obtain ⟨m, n, w, hp, hw, hm, hm1, hm2, hbok⟩ := h.blk hb
    unfold metB callsOf
    have h1 := List.length_filterMap_le callOf (till x b.ds)
    have h2 := till_len x b.ds
    have h3 := hbok.few
    have h4 := hbok.ns.few
    rw [List.length_append, List.length_map]
    split
    · simp; omega
    · rw [List.length_map]; omega
theorem places_len {ws : List (List Blk)} (h : WsOk ws) : (places ws).length ≤ 300 := by
  unfold places
  have key : ∀ l : List Nat, (∀ n ∈ l, n < ws.length) → (l.flatMap fun (n : Nat) => (List.range ((ws[n]?).getD []).length).map fun (a : Nat) => ((n : Int), (a : Int))).length ≤ 12 * l.length := by
    intro l
    induction l with
    | nil => intro _; exact Nat.le_refl _
    | cons n r ih =>
      intro hl
      rw [List.flatMap_cons, List.length_append, List.length_map, List.length_range, List.length_cons]
      have h1 := ih fun m hm => hl m (List.mem_cons_of_mem _ hm)
      have hn := hl n (List.mem_cons_self ..)
      rw [List.getElem?_eq_getElem hn]
      obtain ⟨m', g1, g2, g3⟩ := h.all ws[n] (List.getElem_mem hn)
      have g4 := g3.len
      show ws[n].length + _ ≤ _
      omega
  have h1 := key (List.range ws.length) fun n hn => List.mem_range.mp hn
  rw [List.length_range] at h1
  have := h.few
  omega
def spBegins (K : PySem.W.Frag) : Sp := fun vs H Q _ => ∃ (wa : Addr) (ws : List (List Blk)) (n b : Nat) (x : Int), vs = [.ref wa, .int n, .int b, .int x] ∧ Den K H (worksD ws) (.ref wa) ∧ WsOk ws ∧ ((n : Int), (b : Int)) ∈ places ws ∧
  ∀ (l : Addr) (us : List V) (H' : Hp), H l = none → Ext [] H H' → H' l = some (.lst us) → PlsAt H' us (metOf ws x ((n : Int), (b : Int))) → Q (.ref l) H'
end L2
set_option maxRecDepth 100000
set_option maxHeartbeats 1000000
namespace L2
open PySem PySem.Spec PyProof.Rows
structure NexK (H : Hp) (nd : Addr) (N : Pl → List Pl) (ok : Addr → Prop) (k : Nat) (kvs : List (List Key × V)) : Prop where
  at_ : H nd = some (.dT kvs)
  few : kvs.length ≤ k
  all : ∀ p : Pl, (valV kvs (plK p) = none ∧ N p = []) ∨ ∃ c vs, valV kvs (plK p) = some (.ref c) ∧ ok c ∧ H c = some (.lst vs) ∧ PlsAt H vs (N p)
  one : ∀ (p q : Pl) (c : Addr), valV kvs (plK p) = some (.ref c) → valV kvs (plK q) = some (.ref c) → p = q
def NexB (H : Hp) (nd : Addr) (N : Pl → List Pl) (ok : Addr → Prop) (k : Nat) : Prop := ∃ kvs, NexK H nd N ok k kvs
theorem NexK.mono {H H' : Hp} {nd : Addr} {N : Pl → List Pl} {ok : Addr → Prop} {ts : List Addr} {k : Nat} {kvs : List (List Key × V)} (h : NexK H nd N ok k kvs) (e : Ext ts H H') (hn : nd ∉ ts) (ht : ∀ t ∈ ts, ¬ ok t) (tk : TK H H') : NexK H' nd N ok k kvs := by
  refine ⟨e _ _ hn h.at_, h.few, fun p => ?_, h.one⟩
  rcases h.all p with z | ⟨c, vs, h1, h2, h3, h4⟩
  · exact .inl z
  · exact .inr ⟨c, vs, h1, h2, e _ _ (fun z => ht c z h2) h3, h4.mono tk⟩
theorem NexB.mono {H H' : Hp} {nd : Addr} {N : Pl → List Pl} {ok : Addr → Prop} {ts : List Addr} {k : Nat} (h : NexB H nd N ok k) (e : Ext ts H H') (hn : nd ∉ ts) (ht : ∀ t ∈ ts, ¬ ok t) (tk : TK H H') : NexB H' nd N ok k := let ⟨kvs, z⟩ := h; ⟨kvs, z.mono e hn ht tk⟩
theorem NexB.toT {H : Hp} {nd : Addr} {N : Pl → List Pl} {ok : Addr → Prop} {k : Nat} (h : NexB H nd N ok k) : NexT H nd N := by
  obtain ⟨kvs, z⟩ := h
  refine ⟨kvs, z.at_, fun p => ?_⟩
  rcases z.all p with y | ⟨c, vs, h1, _, h3, h4⟩
  · exact .inl y
  · exact .inr ⟨c, vs, h1, h3, h4⟩
def snocN (N : Pl → List Pl) (q p : Pl) : Pl → List Pl := fun r => if r = q then N r ++ [p] else N r
theorem NexK.app {H : Hp} {nd c pt : Addr} {N : Pl → List Pl} {ok : Addr → Prop} {k : Nat} {kvs : List (List Key × V)} {q p : Pl} {vs : List V} (h : NexK H nd N ok k kvs) (hc : valV kvs (plK q) = some (.ref c)) (hv : H c = some (.lst vs)) (hp : PlsAt H vs (N q)) (ht : H pt = some (.tup [.int p.1, .int p.2])) :
    NexK (upd H c (.lst (vs ++ [.ref pt]))) nd (snocN N q p) ok k kvs := by
  have tk : TK H (upd H c (.lst (vs ++ [.ref pt]))) := .put (by intro ys z; rw [hv] at z; cases z)
  have nc : nd ≠ c := ne_of h.at_ hv (by intro z; cases z)
  refine ⟨by rw [upd_ne nc]; exact h.at_, h.few, fun r => ?_, h.one⟩
  unfold snocN
  by_cases hr : r = q
  · subst hr
    rw [if_pos rfl]
    have hcx : ok c := by
      rcases h.all r with z | ⟨c', _, h1, h2, _⟩
      · rw [z.1] at hc; cases hc
      · rw [h1] at hc; cases hc; exact h2
    exact .inr ⟨c, vs ++ [.ref pt], hc, hcx, upd_same, (hp.mono tk).append (.one (tk _ _ ht))⟩
  · rw [if_neg hr]
    rcases h.all r with z | ⟨c', vs', h1, h2, h3, h4⟩
    · exact .inl z
    · have n : c' ≠ c := fun z => hr (h.one r q c (z ▸ h1) hc)
      exact .inr ⟨c', vs', h1, h2, by rw [upd_ne n]; exact h3, h4.mono tk⟩
theorem NexK.new {H : Hp} {nd e0 : Addr} {N : Pl → List Pl} {ok : Addr → Prop} {k : Nat} {kvs : List (List Key × V)} {q : Pl} (h : NexK H nd N ok k kvs) (hn : valV kvs (plK q) = none) (he : H e0 = some (.lst [])) (hx : ok e0) (hf : ∀ (p : Pl) (c : Addr), valV kvs (plK p) = some (.ref c) → c ≠ e0) :
    NexK (upd H nd (.dT (putK kvs (plK q) (.ref e0)))) nd N ok (k + 1) (putK kvs (plK q) (.ref e0)) := by
  have tk : TK H (upd H nd (.dT (putK kvs (plK q) (.ref e0)))) := .put (by intro ys z; rw [h.at_] at z; cases z)
  have hN : N q = [] := by
    rcases h.all q with z | ⟨c, vs, h1, _⟩
    · exact z.2
    · rw [h1] at hn; cases hn
  have ne0 : e0 ≠ nd := ne_of he h.at_ (by intro z; cases z)
  refine ⟨upd_same, by have := length_putK kvs (plK q) (V.ref e0); have := h.few; omega, fun r => ?_, fun r s c hr hs => ?_⟩
  · by_cases hr : r = q
    · subst hr
      exact .inr ⟨e0, [], by rw [valV_put, if_pos rfl], hx, by rw [upd_ne ne0]; exact he, by rw [hN]; exact .nil⟩
    · rw [valV_put, if_neg (fun z => hr (plK_inj z))]
      rcases h.all r with z | ⟨c, vs, h1, h2, h3, h4⟩
      · exact .inl z
      · exact .inr ⟨c, vs, h1, h2, by rw [upd_ne (ne_of h3 h.at_ (by intro z; cases z))]; exact h3, h4.mono tk⟩
  · rw [valV_put] at hr hs
    by_cases h1 : plK r = plK q
    · by_cases h2 : plK s = plK q
      · exact plK_inj (h1.trans h2.symm)
      · rw [if_pos h1] at hr; rw [if_neg h2] at hs
        cases hr
        exact absurd rfl (hf s e0 hs)
    · rw [if_neg h1] at hr
      by_cases h2 : plK s = plK q
      · rw [if_pos h2] at hs
        cases hs
        exact absurd rfl (hf r e0 hr)
      · rw [if_neg h2] at hs
        exact h.one r s c hr hs
def behindOf (ws : List (List Blk)) (x : Int) (ps : List Pl) (q : Pl) : List Pl := ps.flatMap fun p => ((metOf ws x p).filter fun r => decide (r = q)).map fun _ => p
def behindUp (ws : List (List Blk)) (x : Int) (ps : List Pl) (p : Pl) (ms : List Pl) (q : Pl) : List Pl := behindOf ws x ps q ++ (ms.filter fun r => decide (r = q)).map fun _ => p
theorem behindUp_snoc (ws : List (List Blk)) (x : Int) (ps : List Pl) (p : Pl) (ms : List Pl) (r : Pl) : behindUp ws x ps p (ms ++ [r]) = snocN (behindUp ws x ps p ms) r p := by
  funext q
  unfold behindUp snocN
  rw [List.filter_append, List.map_append, ← List.append_assoc]
  by_cases h : q = r
  · subst h; simp
  · simp [h, Ne.symm h]
theorem behindUp_nil (ws : List (List Blk)) (x : Int) (ps : List Pl) (p : Pl) : behindUp ws x ps p [] = behindOf ws x ps := by
  funext q; unfold behindUp; simp
theorem behindOf_snoc (ws : List (List Blk)) (x : Int) (ps : List Pl) (p : Pl) : behindUp ws x ps p (metOf ws x p) = behindOf ws x (ps ++ [p]) := by
  funext q; unfold behindUp behindOf; rw [List.flatMap_append]; simp
theorem mem_behind {ws : List (List Blk)} {x : Int} {ps : List Pl} {p q : Pl} : p ∈ behindOf ws x ps q ↔ p ∈ ps ∧ q ∈ metOf ws x p := by
  unfold behindOf
  rw [List.mem_flatMap]
  constructor
  · rintro ⟨p', hp', h⟩
    obtain ⟨r, hr, rfl⟩ := List.mem_map.mp h
    obtain ⟨h1, h2⟩ := List.mem_filter.mp hr
    have := of_decide_eq_true h2
    subst this
    exact ⟨hp', h1⟩
  · rintro ⟨h1, h2⟩
    exact ⟨p, h1, List.mem_map.mpr ⟨q, List.mem_filter.mpr ⟨h2, decide_eq_true rfl⟩, rfl⟩⟩
theorem met_from {ws : List (List Blk)} {x : Int} {p q : Pl} (h : q ∈ metOf ws x p) : p ∈ places ws := by
  refine mem_places.mpr ?_
  unfold metOf at h
  split at h
  · cases h
  · rename_i b hb; exact ⟨b, hb⟩
theorem behind_len {ws : List (List Blk)} (h : WsOk ws) (x : Int) (q : Pl) : ∀ ps : List Pl, (behindOf ws x ps q).length ≤ 16 * ps.length
  | [] => Nat.le_refl _
  | p :: r => by
    have ih := behind_len h x q r
    unfold behindOf at ih ⊢
    rw [List.flatMap_cons, List.length_append, List.length_map, List.length_cons]
    have h1 := List.length_filter_le (fun r => decide (r = q)) (metOf ws x p)
    have h2 := met_len h x p
    omega
theorem asks_back {ws : List (List Blk)} {x : Int} {p : Pl} : (∃ s ∈ (places ws).filter (readAt ws x), RT (behindOf ws x (places ws)) s p) ↔ Asks ws x p := by
  have h1 : ∀ p q, q ∈ metOf ws x p ↔ p ∈ behindOf ws x (places ws) q := fun p q => by
    rw [mem_behind]
    exact ⟨fun h => ⟨met_from h, h⟩, fun h => h.2⟩
  have h2 : ∀ p q, q ∈ behindOf ws x (places ws) p ↔ p ∈ metOf ws x q := fun p q => (h1 q p).symm
  constructor
  · rintro ⟨s, hs, r⟩
    exact ⟨s, r.back h2, (List.mem_filter.mp hs).2⟩
  · rintro ⟨q, r, hq⟩
    refine ⟨q, List.mem_filter.mpr ⟨mem_places.mpr ?_, hq⟩, r.back h1⟩
    unfold readAt at hq
    split at hq
    · cases hq
    · rename_i b hb; exact ⟨b, hb⟩
def spAwait (K : PySem.W.Frag) : Sp := fun vs H Q _ => ∃ (wa : Addr) (ws : List (List Blk)) (x : Int), vs = [.ref wa, .int x] ∧ Den K H (worksD ws) (.ref wa) ∧ WsOk ws ∧
  ∀ (d : Addr) (ks : List Pl) (H' : Hp), H d = none → Ext [] H H' → H' d = some (.dT (trueD ks)) → ks.Nodup → (∀ p, p ∈ ks ↔ Asks ws x p) → Q (.ref d) H'
end L2
set_option maxRecDepth 100000
set_option maxHeartbeats 1000000
namespace L2
open PySem PySem.Spec PyProof.Rows
noncomputable def askB (ws : List (List Blk)) (x : Int) (p : Pl) : Bool := @decide (Asks ws x p) (Classical.propDecidable _)
theorem askB_iff {ws : List (List Blk)} {x : Int} {p : Pl} : askB ws x p = true ↔ Asks ws x p := by unfold askB; exact @decide_eq_true_iff _ (Classical.propDecidable _)
noncomputable def askTo (ws : List (List Blk)) (n : Int) (k : Nat) : List Int := ((List.range k).map fun (j : Nat) => (j : Int)).filter fun x => askB ws x (n, 0)
theorem askTo_succ (ws : List (List Blk)) (n : Int) (k : Nat) : askTo ws n (k + 1) = askTo ws n k ++ (if askB ws (k : Int) (n, 0) = true then [(k : Int)] else []) := by
  unfold askTo
  rw [List.range_succ, List.map_append, List.filter_append]
  congr 1
  show List.filter _ [(k : Int)] = _
  rw [List.filter_cons, List.filter_nil]
theorem askTo_len (ws : List (List Blk)) (n : Int) (k : Nat) : (askTo ws n k).length ≤ k := by
  unfold askTo
  refine Nat.le_trans (List.length_filter_le _ _) (by simp)
noncomputable def askAll (ws : List (List Blk)) (k : Nat) : List (List Int) := (List.range k).map fun (n : Nat) => askTo ws (n : Int) 8
theorem askAll_succ (ws : List (List Blk)) (k : Nat) : askAll ws (k + 1) = askAll ws k ++ [askTo ws (k : Int) 8] := by
  unfold askAll; rw [List.range_succ, List.map_append]; rfl
theorem askAll_len (ws : List (List Blk)) (k : Nat) : (askAll ws k).length = k := by unfold askAll; simp
def IntsAt (H : Hp) : List V → List (List Int) → Prop := Paired fun v ns => ∃ a, v = .ref a ∧ H a = some (.lst (ns.map V.int))
theorem IntsAt.mono {H H' : Hp} (e : Ext [] H H') {vs : List V} {ns : List (List Int)} (h : IntsAt H vs ns) : IntsAt H' vs ns := Paired.mapP h fun _ _ ⟨a, x, y⟩ => ⟨a, x, e _ _ (by simp) y⟩
theorem IntsAt.len {H : Hp} {vs : List V} {ns : List (List Int)} (h : IntsAt H vs ns) : vs.length = ns.length := Paired.length h
theorem IntsAt.den {K : PySem.W.Frag} {H : Hp} : ∀ {vs : List V} {ns : List (List Int)}, IntsAt H vs ns → DenL K H (ns.map intsD) vs
  | _, _, .nil => .nil
  | _, _, .cons ⟨a, e, q⟩ r => by subst e; exact .cons (.list (SqL.of q) (DenL.ofInts _)) (IntsAt.den r)
def Young (H : Hp) (vs : List V) : Prop := ∀ v ∈ vs, ∃ a, v = .ref a ∧ H a = none
def spAsks (K : PySem.W.Frag) : Sp := fun vs H Q _ => ∃ (wa : Addr) (ws : List (List Blk)), vs = [.ref wa] ∧ Den K H (worksD ws) (.ref wa) ∧ WsOk ws ∧
  ∀ (l : Addr) (us : List V) (H' : Hp), H l = none → Ext [] H H' → H' l = some (.lst us) → IntsAt H' us (askAll ws ws.length) → Young H us → Q (.ref l) H'
end L2
set_option maxRecDepth 100000
set_option maxHeartbeats 1000000
namespace L2
open PySem PySem.Spec PyProof.Rows
theorem wrote_snoc (x : Int) (ds : List Deed) (d : Deed) : wrote x (ds ++ [d]) = (wrote x ds || wrB x d) := by unfold wrote; simp
theorem wrote_false {x : Int} {ds : List Deed} (h : wrote x ds = false) : ∀ e ∈ ds, wrB x e = false := by
  unfold wrote at h
  intro e he
  have := List.any_eq_false.mp h e he
  simpa using this
theorem till_app_open {x : Int} {d : Deed} : ∀ {ds : List Deed}, wrote x ds = false → till x (ds ++ [d]) = till x ds ++ [d]
  | [], _ => by
    show (if wrB x d = true then [d] else d :: till x []) = [d]
    split <;> rfl
  | e :: r, h => by
    have h1 := wrote_false h e (by simp)
    have h2 : wrote x r = false := by unfold wrote at h ⊢; simp at h ⊢; exact h.2
    simp only [List.cons_append, till]
    rw [if_neg (by rw [h1]; exact Bool.false_ne_true), if_neg (by rw [h1]; exact Bool.false_ne_true), till_app_open h2]; rfl
theorem till_app_shut {x : Int} : ∀ {ds es : List Deed}, wrote x ds = true → till x (ds ++ es) = till x ds
  | [], es, h => by cases h
  | e :: r, es, h => by
    simp only [List.cons_append, till]
    by_cases hw : wrB x e = true
    · rw [if_pos hw, if_pos hw]
    · have h2 : wrote x r = true := by
        unfold wrote at h ⊢
        rw [List.any_cons] at h
        rw [Bool.eq_false_iff.mpr hw, Bool.false_or] at h
        exact h
      rw [if_neg hw, if_neg hw, till_app_shut h2]
theorem till_has {x : Int} {ds : List Deed} {j : Nat} {d : Deed} (h : wrote x (ds.take j) = false) (hd : ds[j]? = some d) : d ∈ till x ds := by
  have e : ds = (ds.take j ++ [d]) ++ ds.drop (j + 1) := by
    rw [← take_get hd, List.take_append_drop]
  have h1 := till_app_open (d := d) h
  by_cases hw : wrB x d = true
  · have h2 : wrote x (ds.take j ++ [d]) = true := by rw [wrote_snoc, h, hw]; rfl
    rw [e, till_app_shut h2, h1]
    simp
  · have all : ∀ (as bs : List Deed), wrote x as = false → ∀ f ∈ as, f ∈ till x (as ++ bs) := by
      intro as bs
      induction as with
      | nil => intro _ f hf; cases hf
      | cons a r ih =>
        intro ha f hf
        have h3 := wrote_false ha a (by simp)
        have h4 : wrote x r = false := by unfold wrote at ha ⊢; simp at ha ⊢; exact ha.2
        simp only [List.cons_append, till]
        rw [if_neg (by rw [h3]; exact Bool.false_ne_true)]
        rcases List.mem_cons.mp hf with z | z
        · rw [z]; exact List.mem_cons_self ..
        · exact List.mem_cons_of_mem _ (ih h4 f z)
    have h2 : wrote x (ds.take j ++ [d]) = false := by rw [wrote_snoc, h, Bool.eq_false_iff.mpr hw]; rfl
    rw [e]
    exact all _ _ h2 d (by simp)
theorem eqv_pairs_nil (ps : List (Int × Int)) : PyData.eqv (pairsD ps) (.list []) = decide (ps = []) := by
  cases ps with
  | nil => rfl
  | cons p r => rfl
def spIsAsked (K : PySem.W.Frag) : Sp := fun vs H Q _ => ∃ (wa : Addr) (ws : List (List Blk)) (n b : Nat) (x : Int), vs = [.ref wa, .int n, .int b, .int x] ∧ Den K H (worksD ws) (.ref wa) ∧ WsOk ws ∧ ((n : Int), (b : Int)) ∈ places ws ∧ ∀ H', Ext [] H H' → Q (.bl (askB ws x ((n : Int), (b : Int)))) H'
end L2
set_option maxRecDepth 100000
set_option maxHeartbeats 1000000
namespace L2
open PySem PySem.Spec PyProof.Rows
theorem tame_shown2 {d : PyData} (h : tame d = true) (hc : cells d ≤ 20000) (hd : d.depth ≤ 64) : d.showable = true ∧ d.depth ≤ 100 ∧ d.shown.length ≤ sizeLine := by
  refine ⟨tame_show d h, by omega, ?_⟩
  have h1 := PyData.shown_le 14 (by decide) d (PyData.leavesShort_of_canLay0 14 d (tame_lay d h) (tame_short d h))
  have h2 := tame_weight d h
  have e : sizeLine = 16777216 := by decide
  have h3 : (14 + 2) * d.weight ≤ 16 * (46 * 20000 + 45) := Nat.mul_le_mul (by decide) (by omega)
  omega
theorem works_tame {ws : List (List Blk)} (h : WsOk ws) : tame (worksD ws) = true ∧ cells (worksD ws) ≤ 853 * ws.length ∧ (worksD ws).depth ≤ 64 := by
  have hw : (ws.length : Int) ≤ 100 := by have := h.few; omega
  have one : ∀ w ∈ ws, tame (workD w) = true ∧ cells (workD w) ≤ 852 ∧ (workD w).depth ≤ 4 := fun w hm => by
    obtain ⟨m, h1, h2, h3⟩ := h.all w hm
    have d1 := tameAll_map (l := w) (f := blkD) fun b hb => (blk_tame h2 hw (h3.blk b hb)).1
    have d2 := cellsAll_map (l := w) (f := blkD) (n := 70) fun b hb => (blk_tame h2 hw (h3.blk b hb)).2.1
    have d3 := depthAll_map (l := w) (f := blkD) (n := 3) fun b hb => (blk_tame h2 hw (h3.blk b hb)).2.2
    have hl := h3.len
    refine ⟨?_, ?_, ?_⟩
    · simp only [workD, tame, d1]
    · simp only [workD, cells]; omega
    · show PyData.depthAll (w.map blkD) + 1 ≤ 4
      omega
  have d1 := tameAll_map (l := ws) (f := workD) fun b hb => (one b hb).1
  have d2 := cellsAll_map (l := ws) (f := workD) (n := 852) fun b hb => (one b hb).2.1
  have d3 := depthAll_map (l := ws) (f := workD) (n := 4) fun b hb => (one b hb).2.2
  have := h.few
  refine ⟨?_, ?_, ?_⟩
  · simp only [worksD, tame, d1]
  · simp only [worksD, cells]; omega
  · show PyData.depthAll (ws.map workD) + 1 ≤ 64
    omega
theorem lists_tame {ls : List (List Int)} (h : ∀ ns ∈ ls, (∀ n ∈ ns, -1 ≤ n ∧ n ≤ 100) ∧ ns.length ≤ 8) (hl : ls.length ≤ 30) : tame (.list (ls.map intsD)) = true ∧ cells (.list (ls.map intsD)) ≤ 5000 ∧ (PyData.list (ls.map intsD)).depth ≤ 64 := by
  have one : ∀ ns ∈ ls, tame (intsD ns) = true ∧ cells (intsD ns) ≤ 8 ∧ (intsD ns).depth ≤ 1 := fun ns hm => by
    obtain ⟨h1, h2⟩ := h ns hm
    have d1 := tameAll_map (l := ns) (f := PyData.int) fun n hn => by
      have := h1 n hn
      simp only [tame, decide_eq_true_eq]; omega
    have d2 := cellsAll_map (l := ns) (f := PyData.int) (n := 0) fun n hn => Nat.le_refl _
    have d3 := depthAll_map (l := ns) (f := PyData.int) (n := 0) fun n hn => Nat.le_refl _
    refine ⟨?_, ?_, ?_⟩
    · simp only [intsD, tame, d1]
    · simp only [intsD, cells]; omega
    · show PyData.depthAll (ns.map .int) + 1 ≤ 1
      omega
  have d1 := tameAll_map (l := ls) (f := intsD) fun b hb => (one b hb).1
  have d2 := cellsAll_map (l := ls) (f := intsD) (n := 8) fun b hb => (one b hb).2.1
  have d3 := depthAll_map (l := ls) (f := intsD) (n := 1) fun b hb => (one b hb).2.2
  refine ⟨?_, ?_, ?_⟩
  · simp only [tame, d1]
  · simp only [cells]; omega
  · show PyData.depthAll (ls.map intsD) + 1 ≤ 64
    omega
theorem askTo_mem {ws : List (List Blk)} {n : Int} {k : Nat} {x : Int} : x ∈ askTo ws n k ↔ (0 ≤ x ∧ x < k) ∧ askB ws x (n, 0) = true := by
  unfold askTo
  rw [List.mem_filter]
  refine and_congr_left fun _ => ?_
  rw [List.mem_map]
  constructor
  · rintro ⟨j, hj, rfl⟩
    have := List.mem_range.mp hj
    omega
  · rintro ⟨h1, h2⟩
    exact ⟨x.toNat, List.mem_range.mpr (by omega), by omega⟩
theorem askAll_small (ws : List (List Blk)) (k : Nat) : ∀ ns ∈ askAll ws k, (∀ n ∈ ns, -1 ≤ n ∧ n ≤ 100) ∧ ns.length ≤ 8 := by
  intro ns hns
  unfold askAll at hns
  obtain ⟨j, _, rfl⟩ := List.mem_map.mp hns
  refine ⟨fun n hn => ?_, askTo_len ws j 8⟩
  have := (askTo_mem.mp hn).1
  omega
def chainTo (k : Nat) : List (List Blk) := (List.range k).map fun (j : Nat) => [⟨[Deed.call ((j : Int) + 1)], []⟩]
def chainWs (k : Nat) (box : Int) : List (List Blk) := chainTo k ++ [[⟨[.tell box], []⟩]]
theorem chain_len (k : Nat) (box : Int) : (chainWs k box).length = k + 1 := by unfold chainWs chainTo; simp
theorem chain_ok {k : Nat} {box : Int} (hk : k ≤ 23) (h0 : 0 ≤ box) (h1 : box < 8) : WsOk (chainWs k box) := by
  refine ⟨fun w hw => ⟨1, by decide, by decide, ?_⟩, by rw [chain_len]; omega, by rw [chain_len]; omega⟩
  rw [chain_len]
  unfold chainWs chainTo at hw
  rcases List.mem_append.mp hw with z | z
  · obtain ⟨j, hj, rfl⟩ := List.mem_map.mp z
    have := List.mem_range.mp hj
    refine ⟨rfl, fun b hb => ?_⟩
    rw [List.mem_singleton.mp hb]
    exact ⟨.inl rfl, fun d hd => by rw [List.mem_singleton.mp hd]; exact ⟨by omega, by omega⟩, by show 1 ≤ 14; decide⟩
  · rw [List.mem_singleton.mp z]
    refine ⟨rfl, fun b hb => ?_⟩
    rw [List.mem_singleton.mp hb]
    exact ⟨.inl rfl, fun d hd => by rw [List.mem_singleton.mp hd]; exact ⟨h0, h1⟩, by show 1 ≤ 14; decide⟩
theorem chain_at {k : Nat} {box : Int} {n : Nat} (hn : n < k) : blkAt (chainWs k box) ((n : Int), ((0 : Nat) : Int)) = some ⟨[.call ((n : Int) + 1)], []⟩ := by
  rw [blkAt_nat]
  unfold chainWs chainTo
  rw [List.getElem?_append_left (by simpa using hn), List.getElem?_map, List.getElem?_range hn]; rfl
theorem chain_end {k : Nat} {box : Int} : blkAt (chainWs k box) ((k : Int), ((0 : Nat) : Int)) = some ⟨[.tell box], []⟩ := by
  rw [blkAt_nat]
  unfold chainWs
  rw [List.getElem?_append_right (by unfold chainTo; simp), show k - (chainTo k).length = 0 by unfold chainTo; simp]; rfl
theorem RT.stuck {N : Pl → List Pl} {a b : Pl} (h : N a = []) (r : RT N a b) : b = a := by
  induction r with
  | refl => rfl
  | step _ hc ih => rw [ih, h] at hc; cases hc
theorem RT.first {N : Pl → List Pl} {a c : Pl} (r : RT N a c) : c = a ∨ ∃ b, b ∈ N a ∧ RT N b c := by
  induction r with
  | refl => exact .inl rfl
  | step _ hc ih =>
    rcases ih with z | ⟨b, hb, rb⟩
    · rw [z] at hc; exact .inr ⟨_, hc, .refl⟩
    · exact .inr ⟨b, hb, .step rb hc⟩
theorem chain_asks {k : Nat} {box x : Int} : ∀ (j n : Nat), n + j = k → (Asks (chainWs k box) x ((n : Int), ((0 : Nat) : Int)) ↔ x = box) := by
  intro j
  induction j with
  | zero =>
    intro n hn
    have hn : n = k := by omega
    subst hn
    have hb := chain_end (k := n) (box := box)
    have hm : metOf (chainWs n box) x ((n : Int), ((0 : Nat) : Int)) = [] := by unfold metOf; rw [hb]; rfl
    have hr : readAt (chainWs n box) x ((n : Int), ((0 : Nat) : Int)) = decide (x = box) := by
      unfold readAt
      rw [hb]
      show (([Deed.tell box] : List Deed).any (rdB x)) = _
      simp [rdB, isRead, dargs]
    constructor
    · rintro ⟨q, r, hq⟩
      rw [r.stuck hm, hr] at hq
      exact of_decide_eq_true hq
    · intro hx
      exact ⟨_, .refl, by rw [hr]; exact decide_eq_true hx⟩
  | succ j ih =>
    intro n hn
    have ih := ih (n + 1) (by omega)
    have hb := chain_at (k := k) (box := box) (n := n) (by omega)
    have hm : metOf (chainWs k box) x ((n : Int), ((0 : Nat) : Int)) = [(((n + 1 : Nat) : Int), ((0 : Nat) : Int))] := by unfold metOf; rw [hb]; rfl
    have hr : readAt (chainWs k box) x ((n : Int), ((0 : Nat) : Int)) = false := by unfold readAt; rw [hb]; rfl
    rw [← ih]
    constructor
    · rintro ⟨q, r, hq⟩
      rcases r.first with z | ⟨b, hb', rb⟩
      · rw [z, hr] at hq; cases hq
      · rw [hm] at hb'
        rw [List.mem_singleton.mp hb'] at rb
        exact ⟨q, rb, hq⟩
    · rintro ⟨q, r, hq⟩
      exact ⟨q, (RT.step .refl (by rw [hm]; exact List.mem_singleton.mpr rfl)).trans r, hq⟩
theorem chain_askTo {k : Nat} {box : Int} (h0 : 0 ≤ box) (h1 : box < 8) {n : Nat} (hn : n ≤ k) : askTo (chainWs k box) (n : Int) 8 = [box] := by
  refine rise_eq ?_ (by simp) fun x => ?_
  · unfold askTo
    refine List.Pairwise.filter _ ?_
    rw [List.pairwise_map]
    exact List.pairwise_lt_range.imp fun {a b} h => by omega
  · rw [askTo_mem, askB_iff, List.mem_singleton]
    have := chain_asks (k := k) (box := box) (x := x) (k - n) n (by omega)
    rw [show ((n : Int), (0 : Int)) = ((n : Int), ((0 : Nat) : Int)) from rfl, this]
    constructor
    · exact fun h => h.2
    · rintro rfl
      exact ⟨⟨h0, by omega⟩, rfl⟩
theorem chain_askAll {k : Nat} {box : Int} (h0 : 0 ≤ box) (h1 : box < 8) : askAll (chainWs k box) (chainWs k box).length = List.replicate (k + 1) [box] := by
  rw [chain_len]
  unfold askAll
  refine List.eq_replicate_iff.mpr ⟨by simp, fun b hb => ?_⟩
  obtain ⟨n, hn, rfl⟩ := List.mem_map.mp hb
  exact chain_askTo h0 h1 (by have := List.mem_range.mp hn; omega)
def spChain (K : PySem.W.Frag) : Sp := fun vs H Q _ => ∃ (k : Nat) (box : Int), vs = [.int k, .int box] ∧ k ≤ 23 ∧ 0 ≤ box ∧ box < 8 ∧ ∀ H', Ext [] H H' → Q (.bl true) H'
end L2
set_option maxRecDepth 100000
set_option maxHeartbeats 400000
local macro_rules | `(tactic| walk_at "rd") => `(tactic| repeat (first | with_reducible refine L2.r_op ?_ | with_reducible refine L2.r_seq ?_ | with_reducible refine L2.r_asg ?_ | with_reducible refine L2.r_gn ?_ | with_reducible refine L2.r_ret ?_ | with_reducible refine L2.r_drop ?_ | with_reducible refine L2.r_next ?_ | with_reducible refine L2.r_if ?_ | with_reducible refine L2.r_test ?_ | with_reducible refine L2.r_tB ?_ | with_reducible refine L2.r_bl ?_ | with_reducible refine L2.r_gsub ?_ | with_reducible refine L2.r_nil ?_ | with_reducible refine L2.r_cons ?_ | with_reducible refine L2.r_tup ?_ | with_reducible refine L2.r_lst ?_ | with_reducible refine L2.r_call ?_ | with_reducible refine L2.r_cb ?_ | with_reducible refine L2.r_ife ?_ | with_reducible refine L2.r_un ?_ | with_reducible refine L2.r_u ?_ | with_reducible refine L2.r_and ?_ | with_reducible refine L2.r_or ?_ | with_reducible refine L2.r_not ?_ | with_reducible refine L2.r_par ?_ | with_reducible refine L2.r_c ?_ | with_reducible refine L2.r_i0 ?_ | with_reducible refine L2.r_var (by with_unfolding_all rfl) ?_ | with_reducible refine L2.r_ixL (by assumption) (by with_unfolding_all rfl) ?_ | with_reducible refine L2.r_ixT (by assumption) (by with_unfolding_all rfl) ?_))
namespace Fs
open PySem L2
def top (i : Nat) : Stmt := PySem.Challenge.pw_fewsaves_k04_what_works_ask.main.body.getD i (.Pass ⟨0, 0, 0, 0⟩)
abbrev sDraw : Stmt := top 14
section
variable {P : Program} {w : World} {K : PySem.W.Frag} {mg : Str → Option Value} {base : Heap}
theorem scDraw : FnScope ["_law_tape_here", "_law_many_here", "_law_found", "_law_once", "_law_twice"] ["_law_tape_here", "_law_many_here"] (defScope sDraw) := ⟨rfl, rfl, rfl, by decide +kernel, rfl, by decide +kernel, by decide +kernel⟩
theorem ok_draw {f : Addr} {fd : FuncData} (F : Fun K "_law_draw" "_law_draw" sDraw f fd) : FnOk P w K mg base CX0 1 f fd ["_law_tape_here", "_law_many_here"] spDraw := by
  refine F.ok scDraw (fun vs H Q E h => ?_) (fun cdv A outer s H vs Q E hr h => ?_)
  · obtain ⟨t, k, n, rfl, _⟩ := h
    rfl
  · obtain ⟨t, k, n, rfl, ⟨a, b, c, ht, ha, hb, hb2, hc, hc2⟩, hk, hn, hn2, q⟩ := h
    refine ⟨_, pss_cons (ps_if (pt_cmpR op_gt (pe_ix ix_list (pv 0) pe_int (fun _ _ => rfl)) pe_int (nomark _))
        (pss_cons (ps_set (i := 2) scDraw.nd rfl (Or.inl rfl) (pe_op op_mod (pe_ix ix_list (pv 0) pe_int (fun _ _ => rfl)) (pv 1)))
        (pss_cons (ps_asg (pe_op op_fdiv (pe_ix ix_list (pv 0) pe_int (fun _ _ => rfl)) (pv 1)) (pg_sub (pv 0) pe_int set_list))
        (pss_one (ps_ret (pv 2))))) pss_nil)
      (pss_cons (ps_asg (pe_op op_add (pe_ix ix_list (pv 0) pe_int (fun _ _ => rfl)) pe_int) (pg_sub (pv 0) pe_int set_list))
      (pss_cons (ps_set (i := 3) scDraw.nd rfl (Or.inl rfl) (pe_op op_mod (pe_op op_pow (pe_op op_add (pe_ix ix_list (pv 0) pe_int (fun _ _ => rfl)) (pe_op op_mul pe_int (pe_ix ix_list (pv 0) pe_int (fun _ _ => rfl)))) pe_int) pe_int))
      (pss_cons (ps_set (i := 4) scDraw.nd rfl (Or.inl rfl) (pe_op op_mod (pe_op op_mul (pe_op op_add (pv 3) (pe_ix ix_list (pv 0) pe_int (fun _ _ => rfl))) (pe_op op_add (pe_op op_add (pe_op op_mod (pv 3) pe_int) pe_int) (pe_ix ix_list (pv 0) pe_int (fun _ _ => rfl)))) pe_int))
      (pss_one (ps_ret (pe_op op_mod (pe_op op_fdiv (pe_op op_mod (pe_op op_add (pe_op op_mul (pv 4) pe_int) (pv 3)) pe_int) pe_int) (pv 1))))))), ?_⟩
    dsimp only [nox_K]
    have hS : SqL K H t [.int a, .int b, .int c] := SqL.of ht
    walk_at "rd"
    refine ite2 (fun g => ?_) (fun g => ?_)
    · walk_at "rd"
      refine r_mod hn ?_
      walk_at "rd"
      refine r_div hn (by omega) ?_
      walk_at "rd"
      refine r_setL (n := 0) ht rfl ?_
      walk_at "rd"
      exact q _ _ (Int.emod_nonneg _ (by omega)) (Int.emod_lt_of_pos _ hn) ⟨a / n, b, c, upd_same, Int.ediv_nonneg ha (by omega), hb, hb2, hc, by omega⟩ (.put (by simp)) (fun b hb => upd_ne hb)
    · walk_at "rd"
      refine r_setL (n := 2) ht rfl ?_
      have hS' : SqL K (upd H t (.lst ([V.int a, V.int b, V.int c].set 2 (.int (c + 1))))) t [.int a, .int b, .int (c + 1)] := SqL.of upd_same
      walk_at "rd"
      refine r_mul (.inl ⟨by decide, by decide⟩) ?_
      walk_at "rd"
      refine r_pow (by decide) (by decide) (by omega) ?_
      walk_at "rd"
      refine r_mod (by decide) ?_
      generalize ho : (b + 39373 * (c + 1)) ^ (5 : Int).toNat % 2147483647 = o
      have ho1 : 0 ≤ o := by rw [← ho]; exact Int.emod_nonneg _ (by decide)
      have ho2 : o < 2147483647 := by rw [← ho]; exact Int.emod_lt_of_pos _ (by decide)
      walk_at "rd"
      refine r_mod (by decide) ?_
      have hm1 : 0 ≤ o % 40009 := Int.emod_nonneg _ (by decide)
      have hm2 : o % 40009 < 40009 := Int.emod_lt_of_pos _ (by decide)
      walk_at "rd"
      refine r_mul (.inl ⟨by omega, by omega⟩) ?_
      walk_at "rd"
      refine r_mod (by decide) ?_
      generalize hp : (o + (c + 1)) * (o % 40009 + 7 + (c + 1)) % 2147483629 = p2
      have hp1 : 0 ≤ p2 := by rw [← hp]; exact Int.emod_nonneg _ (by decide)
      have hp2 : p2 < 2147483629 := by rw [← hp]; exact Int.emod_lt_of_pos _ (by decide)
      walk_at "rd"
      refine r_mul (.inl ⟨by omega, by omega⟩) ?_
      walk_at "rd"
      refine r_mod (by decide) ?_
      walk_at "rd"
      refine r_div (by decide) (by decide) ?_
      walk_at "rd"
      refine r_mod hn ?_
      exact q _ _ (Int.emod_nonneg _ (by omega)) (Int.emod_lt_of_pos _ hn) ⟨a, b, c + 1, upd_same, ha, hb, hb2, by omega, by omega⟩ (.put (by simp)) (fun b hb => upd_ne hb)
end
end Fs
set_option maxRecDepth 100000
set_option maxHeartbeats 400000
namespace Fs
open PySem L2
section
variable {P : Program} {w : World} {K : PySem.W.Frag} {mg : Str → Option Value} {base : Heap}
abbrev sTape : Stmt := top 13
abbrev sNumber : Stmt := top 16
abbrev sMany : Stmt := top 19
theorem scTape : FnScope ["_law_script", "_law_k", "_law_cell"] ["_law_script", "_law_k"] (defScope sTape) := ⟨rfl, rfl, rfl, by decide +kernel, rfl, by decide +kernel, by decide +kernel⟩
theorem ok_tape {f : Addr} {fd : FuncData} (F : Fun K "_law_tape" "_law_tape" sTape f fd) (nlen : mg "len" = none) (nabs : mg "abs" = none) (nint : mg "int" = none) : FnOk P w K mg base CX0 1 f fd ["_law_script", "_law_k"] (spTape K) := by
  refine F.ok scTape (fun vs H Q E h => ?_) (fun cdv A outer s H vs Q E hr h => ?_)
  · obtain ⟨a, ns, k, rfl, _⟩ := h
    rfl
  · obtain ⟨a, ns, k, rfl, hS, hk, q⟩ := h
    refine ⟨_, pss_cons (ps_set (i := 2) scTape.nd rfl (Or.inl rfl) (pe_ifExp (pt_cmpR op_lt (pv 1) (pe_callB call_len_seq (by rfl) nlen PySem.boot_len (pa_cons (pv 0) pa_nil)) (nomark _)) (pe_ix ix_list (pv 0) (pv 1) (fun _ _ => rfl)) pe_int))
      (pss_one (ps_ret (pe_lst (pa_cons (pe_op op_mul (pe_callB call_abs (by rfl) nabs PyProof.Rows.boot_abs (pa_cons (pv 2) pa_nil)) (pe_callTy call_int1 (by rfl) nint PyProof.Rows.boot_int (pa_cons (pe_cmpR op_ge (pe_callB call_abs (by rfl) nabs PyProof.Rows.boot_abs (pa_cons (pv 2) pa_nil)) (pe_op op_pow pe_int pe_int) (nomark _)) pa_nil)))
        (pa_cons (pe_op op_add (pe_op op_add (pe_op op_mod (pv 2) pe_int) (pe_op op_mul pe_int (pv 1))) pe_int) (pa_cons pe_int pa_nil)))))), ?_⟩
    dsimp only [nox_K]
    have key : ∀ c : Int, 0 ≤ (if c < 0 then -c else c) := fun c => by split <;> omega
    walk_at "rd"
    refine ⟨a, _, rfl, .inl hS, ?_⟩
    walk_at "rd"
    by_cases g : (k : Int) < ((ns.map V.int).length : Int)
    · rw [decide_eq_true g]
      refine iteT ?_
      rw [List.length_map] at g
      have hg : k < ns.length := by omega
      have hat : atI (ns.map V.int) (k : Int) = some (.int ns[k]) := by
        have := atI_nat (xs := ns.map V.int) (j := k) (by rw [List.getElem?_map, List.getElem?_eq_getElem hg]; rfl)
        exact this
      walk_at "rd"
      refine r_ixL hS hat ?_
      generalize ns[k] = c
      walk_at "rd"
      refine ⟨_, rfl, ?_⟩
      walk_at "rd"
      refine ⟨_, rfl, ?_⟩
      walk_at "rd"
      refine r_pow (by decide) (by decide) (by decide) ?_
      walk_at "rd"
      refine .inr ⟨_, rfl, ?_⟩
      refine r_mul (.inr ⟨by have := bit01 (decide (10 ^ Int.toNat 18 ≤ if c < 0 then -c else c)); omega, by have := bit01 (decide (10 ^ Int.toNat 18 ≤ if c < 0 then -c else c)); omega⟩) ?_
      walk_at "rd"
      refine r_mod (by decide) ?_
      walk_at "rd"
      refine r_mul (.inl ⟨by decide, by decide⟩) ?_
      walk_at "rd"
      refine ⟨len2 (by show 3 ≤ 1000; decide), fun t ht => q t _ ht ⟨_, _, _, upd_same, ?_, ?_, ?_, by decide, by decide⟩ fun b o e => ?_⟩
      · exact Int.mul_nonneg (key c) (bit01 _).1
      · have := Int.emod_nonneg c (show (2305843009213693951 : Int) ≠ 0 by decide)
        omega
      · have := Int.emod_lt_of_pos c (show (0 : Int) < 2305843009213693951 by decide)
        omega
      · rw [upd_ne (ne_of_none e ht)]; exact e
    · rw [decide_eq_false g]
      refine iteF ?_
      walk_at "rd"
      refine ⟨_, rfl, ?_⟩
      walk_at "rd"
      refine ⟨_, rfl, ?_⟩
      walk_at "rd"
      refine r_pow (by decide) (by decide) (by decide) ?_
      walk_at "rd"
      refine .inr ⟨_, rfl, ?_⟩
      refine r_mul (.inr ⟨by have := bit01 (decide (10 ^ Int.toNat 18 ≤ if 0 < 0 then -0 else 0)); omega, by have := bit01 (decide (10 ^ Int.toNat 18 ≤ if 0 < 0 then -0 else 0)); omega⟩) ?_
      walk_at "rd"
      refine r_mod (by decide) ?_
      walk_at "rd"
      refine r_mul (.inl ⟨by decide, by decide⟩) ?_
      walk_at "rd"
      refine ⟨len2 (by show 3 ≤ 1000; decide), fun t ht => q t _ ht ⟨_, _, _, upd_same, ?_, ?_, ?_, by decide, by decide⟩ fun b o e => ?_⟩
      · exact Int.mul_nonneg (key 0) (bit01 _).1
      · have : (0 : Int) % 2305843009213693951 = 0 := rfl
        omega
      · have : (0 : Int) % 2305843009213693951 = 0 := rfl
        omega
      · rw [upd_ne (ne_of_none e ht)]; exact e
theorem scMany : FnScope ["_law_tape_here"] ["_law_tape_here"] (defScope sMany) := ⟨rfl, rfl, rfl, by decide +kernel, rfl, by decide +kernel, by decide +kernel⟩
theorem ok_many {f : Addr} {fd : FuncData} (F : Fun K "_law_many" "_law_many" sMany f fd) (nint : mg "int" = none) (hD : Has P w K mg base "_law_draw" 1 ["_law_tape_here", "_law_many_here"] spDraw) : FnOk P w K mg base CX0 2 f fd ["_law_tape_here"] spMany := by
  refine F.ok scMany (fun vs H Q E h => ?_) (fun cdv A outer s H vs Q E hr h => ?_)
  · obtain ⟨t, k, rfl, _⟩ := h
    rfl
  · obtain ⟨t, k, rfl, hT, hk, q⟩ := h
    refine ⟨_, pss_one (ps_ret (pe_ix ix_list (pe_lst (pa_cons (pe_op op_add pe_int (pe_fn hD hr (Nat.le_refl _) (pa_cons (pv 0) (pa_cons pe_int pa_nil)))) (pa_cons (pe_op op_add pe_int (pe_fn hD hr (Nat.le_refl _) (pa_cons (pv 0) (pa_cons pe_int pa_nil)))) pa_nil)))
      (pe_callTy call_int1 (by rfl) nint PyProof.Rows.boot_int (pa_cons (pe_cmpR op_eq (pe_fn hD hr (Nat.le_refl _) (pa_cons (pv 0) (pa_cons pe_int pa_nil))) pe_int (nomark _)) pa_nil)) (fun _ _ => rfl))), ?_⟩
    dsimp only [nox_K]
    walk_at "rd"
    refine r_draw hT (by omega) (by decide) (by decide) fun r1 H1 a1 b1 T1 e1 _ => ?_
    walk_at "rd"
    refine r_draw T1 (by omega) (by decide) (by decide) fun r2 H2 a2 b2 T2 e2 _ => ?_
    walk_at "rd"
    refine ⟨len2 (by show 2 ≤ 1000; decide), fun p hp => ?_⟩
    have np : p ≠ t := T2.ne hp
    walk_at "rd"
    refine r_draw (T2.ext (.laid (ts := []) hp) (by simp)) (by omega) (by decide) (by decide) fun r3 H3 a3 b3 T3 e3 k3 => ?_
    walk_at "rd"
    refine r_eqI ?_
    walk_at "rd"
    refine .inr ⟨_, rfl, ?_⟩
    have e4 : Ext [t] H H3 := (e1.trans e2).trans ((Ext.laid hp).trans e3)
    have hL : SqL K H3 p [V.int (1 + r1), V.int (7 + r2)] := SqL.of (by rw [k3 p np, upd_same])
    cases c : decide (r3 = 0) with
    | true => exact r_ixL hL rfl (q _ _ (by omega) (by omega) T3 e4)
    | false => exact r_ixL hL rfl (q _ _ (by omega) (by omega) T3 e4)
theorem scNumber : FnScope ["_law_tape_here"] ["_law_tape_here"] (defScope sNumber) := ⟨rfl, rfl, rfl, by decide +kernel, rfl, by decide +kernel, by decide +kernel⟩
theorem ok_number {f : Addr} {fd : FuncData} (F : Fun K "_law_number" "_law_number" sNumber f fd) (hD : Has P w K mg base "_law_draw" 1 ["_law_tape_here", "_law_many_here"] spDraw) : FnOk P w K mg base CX0 2 f fd ["_law_tape_here"] spNumber := by
  refine F.ok scNumber (fun vs H Q E h => ?_) (fun cdv A outer s H vs Q E hr h => ?_)
  · obtain ⟨t, k, rfl, _⟩ := h
    rfl
  · obtain ⟨t, k, rfl, hT, hk, q⟩ := h
    refine ⟨_, pss_one (ps_ret (pe_ix ix_list (pe_lst (pa_cons pe_int (pa_cons pe_int (pa_cons (pe_un un_neg pe_int) (pa_cons pe_int (pa_cons (pe_op op_pow pe_int pe_int) (pa_cons (pe_op op_sub pe_int (pe_op op_pow pe_int pe_int))
      (pa_cons (pe_op op_sub (pe_fn hD hr (Nat.le_refl _) (pa_cons (pv 0) (pa_cons pe_int pa_nil))) pe_int) (pa_cons (pe_fn hD hr (Nat.le_refl _) (pa_cons (pv 0) (pa_cons (pe_op op_pow pe_int pe_int) pa_nil))) pa_nil)))))))))
      (pe_fn hD hr (Nat.le_refl _) (pa_cons (pv 0) (pa_cons pe_int pa_nil))) (fun _ _ => rfl))), ?_⟩
    dsimp only [nox_K]
    walk_at "rd"
    refine r_pow (by decide) (by decide) (by decide) ?_
    walk_at "rd"
    refine r_pow (by decide) (by decide) (by decide) ?_
    walk_at "rd"
    refine r_draw hT (by omega) (by decide) (by decide) fun r1 H1 a1 b1 T1 e1 _ => ?_
    walk_at "rd"
    refine r_pow (by decide) (by decide) (by decide) ?_
    walk_at "rd"
    refine r_draw T1 (by omega) (by decide) (by decide) fun r2 H2 a2 b2 T2 e2 _ => ?_
    have b2' : r2 < 1000000 := b2
    walk_at "rd"
    refine ⟨len2 (by show 8 ≤ 1000; decide), fun p hp => ?_⟩
    have np : p ≠ t := T2.ne hp
    walk_at "rd"
    refine r_draw (T2.ext (.laid (ts := []) hp) (by simp)) (by omega) (by decide) (by decide) fun r3 H3 a3 b3 T3 e3 k3 => ?_
    have e4 : Ext [t] H H3 := (e1.trans e2).trans ((Ext.laid hp).trans e3)
    have hL := SqL.of (K := K) ((k3 p np).trans upd_same)
    have e5 : (10 : Int) ^ (12 : Int).toNat = 1000000000000 := by decide
    have e6 : -((10 : Int) ^ 12) = -1000000000000 := by decide
    have e7 : ((10 : Int) ^ 12) = 1000000000000 := by decide
    rw [e6, e7] at q
    obtain h | h | h | h | h | h | h | h : r3 = 0 ∨ r3 = 1 ∨ r3 = 2 ∨ r3 = 3 ∨ r3 = 4 ∨ r3 = 5 ∨ r3 = 6 ∨ r3 = 7 := by omega
    all_goals
      subst h
      refine r_ixL hL rfl (q _ _ ?_ ?_ T3 e4)
    all_goals first | decide | omega
end
end Fs
set_option maxRecDepth 100000
set_option maxHeartbeats 1000000
local macro_rules | `(tactic| walk_at "rd") => `(tactic| repeat (first | with_reducible refine L2.r_op ?_ | with_reducible refine L2.r_seq ?_ | with_reducible refine L2.r_asg ?_ | with_reducible refine L2.r_gn ?_ | with_reducible refine L2.r_ret ?_ | with_reducible refine L2.r_drop ?_ | with_reducible refine L2.r_next ?_ | with_reducible refine L2.r_if ?_ | with_reducible refine L2.r_test ?_ | with_reducible refine L2.r_tB ?_ | with_reducible refine L2.r_bl ?_ | with_reducible refine L2.r_gsub ?_ | with_reducible refine L2.r_nil ?_ | with_reducible refine L2.r_cons ?_ | with_reducible refine L2.r_tup ?_ | with_reducible refine L2.r_lst ?_ | with_reducible refine L2.r_call ?_ | with_reducible refine L2.r_cb ?_ | with_reducible refine L2.r_ife ?_ | with_reducible refine L2.r_un ?_ | with_reducible refine L2.r_u ?_ | with_reducible refine L2.r_and ?_ | with_reducible refine L2.r_or ?_ | with_reducible refine L2.r_not ?_ | with_reducible refine L2.r_par ?_ | with_reducible refine L2.r_c ?_ | with_reducible refine L2.r_i0 ?_ | with_reducible refine L2.r_bm ?_ | with_reducible refine L2.r_bm0 ?_ | with_reducible refine L2.r_comp ?_ | with_reducible refine L2.r_ilist ?_ | with_reducible refine L2.r_ienum ?_ | with_reducible refine L2.r_idict ?_ | with_reducible refine L2.r_itup ?_ | with_reducible refine L2.r_rng1 ?_ | with_reducible refine L2.r_for ?_ | with_reducible refine L2.r_din ?_ | with_reducible refine L2.r_dnotin ?_ | with_reducible refine L2.r_dget ?_ | with_reducible refine L2.r_dget2 ?_ | with_reducible refine L2.r_dput ?_ | with_reducible refine L2.r_app' ?_ | with_reducible refine L2.r_put' ?_ | with_reducible refine L2.r_all0 ?_ | with_reducible refine L2.r_all1 ?_ | with_reducible refine L2.r_gcons ?_ | with_reducible refine L2.r_gnil ?_ | with_reducible refine L2.r_sl ?_ | with_reducible refine L2.r_nop ?_ | with_reducible refine L2.r_part ?_ | with_reducible refine L2.r_var (by with_unfolding_all rfl) ?_ | with_reducible refine L2.r_ixL (by assumption) (by with_unfolding_all rfl) ?_ | with_reducible refine L2.r_ixT (by assumption) (by with_unfolding_all rfl) ?_))
namespace Fs
open PySem L2
section
variable {P : Program} {w : World} {K : PySem.W.Frag} {mg : Str → Option Value} {base : Heap}
theorem nexts_tail {D : Ends} {σ : St} {H5 : Hp} {l d p : Addr} {vs : List V} {kvs : List (Key × V)} {ns : List Int} (h2 : σ[2]? = some (some (.ref l))) (h3 : σ[3]? = some (some (.ref d))) (h7 : σ[7]? = some (some (.ref p))) (hl : H5 l = some (.lst vs)) (hd : H5 d = some (.dK kvs))
    (hp : H5 p = some (.lst (ns.map V.int))) (hz : vs.length < 1000) (hz2 : kvs.length ≤ 900) (hn : ns.length ≤ 2) (npl : p ≠ l) (q : ∀ H6 kvs', H6 l = some (.lst (vs ++ [.ref p])) → H6 d = some (.dK kvs') → kvs'.length ≤ kvs.length + 2 → Ext [l, d] H5 H6 → D.nx σ H6) :
    tSeq (tDrop (tBM K "list" rAppend (tVar 2) (tCons (tVar 7) tNil))) (tDrop (tBM K "dict" rUpdate (tVar 3) (tCons (tComp ["_law_one"] [] (.lst []) (iList K (tVar 7)) (gName 0) [] (eApp (tTup (tCons (tVar 0) (tCons (tC (.bl true)) tNil))))) tNil))) D σ H5 := by
  have nld : l ≠ d := ne_of hl hd (by intro z; cases z)
  have npd : p ≠ d := ne_of hp hd (by intro z; cases z)
  refine r_seq (r_drop (r_bm (r_var h2 (r_tyL hl (r_cons (r_var h7 (r_nil (r_app hl (small1000 (by omega)) ?_))))))))
  generalize hH6 : upd H5 l (.lst (vs ++ [.ref p])) = H6
  have l6 : H6 l = some (.lst (vs ++ [.ref p])) := by rw [← hH6, upd_same]
  have d6 : H6 d = some (.dK kvs) := by rw [← hH6, upd_ne nld.symm]; exact hd
  have p6 : H6 p = some (.lst (ns.map V.int)) := by rw [← hH6, upd_ne npl]; exact hp
  have e6 : Ext [l, d] H5 H6 := by rw [← hH6]; exact .put (by simp)
  refine r_drop (r_bm (r_var h3 (r_tyD d6 (r_cons (r_comp (r_ilist (r_var h7 ⟨p, rfl, ⟨_, SqL.of p6⟩, fun l2 hl2 => ?_⟩)))))))
  have n2p : p ≠ l2 := ne_of_none p6 hl2
  refine loop_list (xs := ns.map V.int) (fun j σ' H' => (∃ o, σ' = [o]) ∧ Ext [l2] H6 H' ∧ ∃ items, H' l2 = some (.lst items) ∧ PairsAt H' items ((ns.take j).map fun n => ((Sum.inl n : Key), V.bl true)))
    ⟨⟨none, rfl⟩, .laid hl2, [], upd_same, .nil⟩ (fun j σ' H' _ ⟨_, e, _⟩ => SqL.of (e _ _ (by simpa using n2p) p6)) ?_ ?_
  · rintro j x σ' H' R hx ⟨⟨o, rfl⟩, e, items, hi, pr⟩ hR
    obtain ⟨n, hnj, rfl⟩ : ∃ n, ns[j]? = some n ∧ x = V.int n := by
      rw [List.getElem?_map] at hx
      cases z : ns[j]? with
      | none => rw [z] at hx; cases hx
      | some n => rw [z] at hx; exact ⟨n, rfl, (Option.some.inj hx).symm⟩
    walk_at "rd"
    refine iteT ?_
    walk_at "rd"
    refine ⟨len2 (by show 2 ≤ 1000; decide), fun p2 hp2 => ?_⟩
    have n22 : l2 ≠ p2 := ne_of_none hi hp2
    have hlen : items.length ≤ 2 := by
      have := Paired.length pr
      rw [List.length_map, List.length_take] at this
      omega
    refine ⟨items, by rw [upd_ne n22]; exact hi, small1000 (by omega), hR _ _ ⟨⟨_, rfl⟩, ?_, items ++ [.ref p2], upd_same, ?_⟩⟩
    · exact e.trans ((Ext.laid hp2).trans (.put (by simp)))
    · have hj : (ns.take (j + 1)) = ns.take j ++ [n] := by rw [List.take_add_one, hnj]; rfl
      rw [hj, List.map_append]
      refine Paired.snoc (PairsAt.mono (fun b ys e => ?_) pr) ⟨p2, rfl, ?_⟩
      · rw [upd_ne (ne_of e hi (by intro z; cases z)), upd_ne (ne_of_none e hp2)]; exact e
      · rw [upd_ne n22.symm, upd_same]; rfl
  · rintro σ' H' ⟨_, e, items, hi, pr⟩
    rw [List.length_map, List.take_length] at pr
    have n2d : d ≠ l2 := ne_of_none d6 hl2
    have n2l : l ≠ l2 := ne_of_none l6 hl2
    have hmore := Paired.length pr
    rw [List.length_map] at hmore
    refine r_nil ⟨d, l2, kvs, items, _, rfl, rfl, e _ _ (by simpa using n2d) d6, hi, pr, len2 (by rw [List.length_map]; omega), ?_⟩
    have hml := length_mergeK (ns.map fun n => ((Sum.inl n : Key), V.bl true)) kvs
    rw [List.length_map] at hml
    refine q _ _ (by rw [upd_ne nld]; exact e _ _ (by simpa using n2l) l6) upd_same (by omega) ?_
    exact e6.trans (((e.drop hl2).mono (by simp)).trans (.put (by simp)))
abbrev sNexts : Stmt := top 15
theorem scNexts : FnScope ["_law_tape_here", "_law_many_here", "_law_found", "_law_led", "_law_k", "_law_way", "_law_other", "_law_some"] ["_law_tape_here", "_law_many_here"] (defScope sNexts) := ⟨rfl, rfl, rfl, by decide +kernel, rfl, by decide +kernel, by decide +kernel⟩
theorem ok_nexts {f : Addr} {fd : FuncData} (F : Fun K "_law_nexts" "_law_nexts" sNexts f fd) (nrange : mg "range" = none) (nmax : mg "max" = none) (hD : Has P w K mg base "_law_draw" 1 ["_law_tape_here", "_law_many_here"] spDraw) : FnOk P w K mg base CX0 2 f fd ["_law_tape_here", "_law_many_here"] (spNexts K) := by
  refine F.ok scNexts (fun vs H Q E h => ?_) (fun cdv A outer s H vs Q E hr h => ?_)
  · obtain ⟨t, k, m, rfl, _⟩ := h
    rfl
  · obtain ⟨t, k, m, rfl, hT, hk, hm1, hm2, q⟩ := h
    have hu := hu_of hr
    refine ⟨_, pss_cons (ps_par (i := 2) (j := 3) rfl scNexts.nd rfl rfl (by decide) rfl rfl (pa_cons (pe_lst pa_nil) (pa_cons pe_dnewK pa_nil)) rfl)
      (pss_cons (ps_for PassesOwn.never rfl (pi_range1 rfl nrange (pa_cons (pv 1) pa_nil)) (pg_name (i := 4) scNexts.nd rfl (Or.inl rfl))
        (pss_cons (ps_set (i := 5) scNexts.nd rfl (Or.inl rfl) (pe_fn hD hr (Nat.le_refl _) (pa_cons (pv 0) (pa_cons pe_int pa_nil))))
        (pss_cons (ps_set (i := 6) scNexts.nd rfl (Or.inl rfl) (pe_op op_add pe_int (pe_fn hD hr (Nat.le_refl _) (pa_cons (pv 0) (pa_cons (pe_callB (call_max2 rfl) (by rfl) nmax PyProof.Rows.boot_max (pa_cons pe_int (pa_cons (pe_op op_sub (pv 1) pe_int) pa_nil))) pa_nil)))))
        (pss_cons (ps_set (i := 7) scNexts.nd rfl (Or.inl rfl) (pe_ix ix_list (pe_lst (pa_cons (pe_lst (pa_cons (pe_op op_add (pv 4) pe_int) (pa_cons (pv 6) pa_nil))) (pa_cons (pe_lst (pa_cons (pv 6) (pa_cons (pe_op op_add (pv 4) pe_int) pa_nil))) pa_nil))) (pe_op op_mod (pv 5) pe_int) (fun _ _ => rfl)))
        (pss_cons (ps_if (pt_cmpR op_eq (pe_op op_add (pv 4) pe_int) (pv 1) (nomark _))
            (pss_one (ps_set (i := 7) scNexts.nd rfl (Or.inl rfl) (pe_ifExp (pw_and (pt_cmpR op_eq (pv 5) pe_int (nomark _)) (pw_and1 (pt_cmpR op_gt (pv 1) pe_int (nomark _)))).pt (pe_lst (pa_cons (pv 6) pa_nil)) (pe_lst pa_nil))))
            (pss_one (ps_if (pw_and (pt_cmp (pc_din hu (pe_op op_add (pv 4) pe_int) (pv 3))) (pw_and1 (pt_cmpR op_lt (pv 5) pe_int (nomark _)))).pt
              (pss_one (ps_set (i := 7) scNexts.nd rfl (Or.inl rfl) (pe_ifExp (pt_cmpR op_eq (pv 5) pe_int (nomark _)) (pe_lst (pa_cons (pv 6) pa_nil)) (pe_lst pa_nil))))
              (pss_one (ps_if (pw_or (pt_cmpR op_lt (pv 5) pe_int (nomark _)) (pw_or1 (pt_cmpR op_eq (pv 6) (pe_op op_add (pv 4) pe_int) (nomark _)))).pt
                (pss_one (ps_set (i := 7) scNexts.nd rfl (Or.inl rfl) (pe_lst (pa_cons (pe_op op_add (pv 4) pe_int) pa_nil)))) pss_nil)))))
        (pss_cons (ps_expr (pe_bm PySem.F.plainAttrs_list PySem.F.slot_list_append PySem.F.type_list_append mt_append (pv 2) (pa_cons (pv 7) pa_nil)))
        (pss_one (ps_expr (pe_bm PySem.F.plainAttrs_dict PySem.F.slot_dict_update PySem.F.type_dict_update (mt_update rfl) (pv 3)
          (pa_cons (pe_lc ["_law_one"] [] rfl (.of rfl) (pi_list (pv 7)) (fun _ _ _ _ => pg_name (i := 0) (by show ((["_law_one"] : List Str)).Nodup; decide) rfl (Or.inl rfl)) (fun _ _ _ _ => .nil) (fun _ _ _ _ => pe_tup (pa_cons (pv 0) (pa_cons pe_bl pa_nil)))) pa_nil))))))))))
      (pss_one (ps_ret (pv 2)))), ?_⟩
    dsimp only [nox_K, comp_K]
    walk_at "rd"
    refine ⟨len2 (Nat.zero_le _), fun l hl => ?_⟩
    have nlt : l ≠ t := hT.ne hl
    walk_at "rd"
    refine r_dnewK fun d hd => ?_
    have nld : l ≠ d := fun z => by rw [← z, upd_same] at hd; cases hd
    rw [upd_ne nld.symm] at hd
    have ndt : d ≠ t := hT.ne hd
    walk_at "rd"
    refine ⟨_, _, rfl, ?_⟩
    walk_at "rd"
    refine ⟨m, rfl, by omega, by omega, for_range (lo := 0) (n := m.toNat) (fun i σ' H' => ∃ (nx : List (List Int)) (vs : List V) (kvs : List (Key × V)) (o4 o5 o6 o7 : Option V), σ' = [some (.ref t), some (.int m), some (.ref l), some (.ref d), o4, o5, o6, o7] ∧ nx.length = i ∧ (∀ ns ∈ nx, NsOk m ns) ∧
      Tape H' t (k + 2 * i) ∧ Ext [t] H H' ∧ H' l = some (.lst vs) ∧ DenL K (yo H [t, l, d] H') (nx.map intsD) vs ∧ H' d = some (.dK kvs) ∧ kvs.length ≤ 2 * i) ?_ ?_ ?_⟩
    · refine ⟨[], [], [], none, none, none, none, rfl, rfl, (fun _ h => absurd h (by simp)), ?_, ?_, ?_, .nil, upd_same, Nat.le_refl _⟩
      · exact (hT.ext (ts := []) ((Ext.laid hl).trans (.laid (by rw [upd_ne nld.symm]; exact hd))) (by simp)).mono (by omega)
      · exact (Ext.laid hl).trans (.laid (by rw [upd_ne nld.symm]; exact hd))
      · rw [upd_ne nld, upd_same]
    · rintro i σ' H' hi ⟨nx, vs, kvs, o4, o5, o6, o7, rfl, hnl, hnx, hT', e', hl', hden, hd', hkl⟩
      have hvl : vs.length = i := by rw [hden.len, List.length_map, hnl]
      walk_at "rd"
      refine r_draw hT' (by omega) (by decide) (by decide) fun r1 H1 a1 b1 T1 e1 k1 => ?_
      walk_at "rd"
      refine ⟨_, _, rfl, ?_⟩
      walk_at "rd"
      refine r_draw T1 (by omega) (by split <;> omega) (by split <;> omega) fun r2 H2 a2 b2 T2 e2 k2 => ?_
      have l2 : H2 l = some (.lst vs) := by rw [k2 l nlt, k1 l nlt]; exact hl'
      have d2 : H2 d = some (.dK kvs) := by rw [k2 d ndt, k1 d ndt]; exact hd'
      have den2 : DenL K (yo H [t, l, d] H2) (nx.map intsD) vs := hden.mono ((e1.trans e2).mono (by simp)).young
      walk_at "rd"
      refine ⟨len2 (by show 2 ≤ 1000; decide), fun p1 hp1 => ?_⟩
      walk_at "rd"
      refine ⟨len2 (by show 2 ≤ 1000; decide), fun p2 hp2 => ?_⟩
      walk_at "rd"
      refine ⟨len2 (by show 2 ≤ 1000; decide), fun p3 hp3 => ?_⟩
      have n12 : p1 ≠ p2 := ne_of_none upd_same hp2
      have n23 : p2 ≠ p3 := ne_of_none upd_same hp3
      have n13 : p1 ≠ p3 := ne_of_none (by rw [upd_ne n12, upd_same]) hp3
      generalize hH5 : upd (upd (upd H2 p1 (HO.lst [V.int (0 + ↑i + 1), V.int (1 + r2)])) p2 (HO.lst [V.int (1 + r2), V.int (0 + ↑i + 1)])) p3 (HO.lst [V.ref p1, V.ref p2]) = H5
      have hp2' : H2 p2 = none := by rw [upd_ne n12.symm] at hp2; exact hp2
      have e5 : Ext [] H2 H5 := by
        rw [← hH5]
        exact (Ext.laid hp1).trans ((Ext.laid hp2).trans (.laid hp3))
      have q1 : H5 p1 = some (.lst ([0 + (i : Int) + 1, 1 + r2].map V.int)) := by rw [← hH5, upd_ne n13, upd_ne n12, upd_same]; rfl
      have q2 : H5 p2 = some (.lst ([1 + r2, 0 + (i : Int) + 1].map V.int)) := by rw [← hH5, upd_ne n23, upd_same]; rfl
      have q3 : SqL K H5 p3 [V.ref p1, V.ref p2] := SqL.of (by rw [← hH5, upd_same])
      have fr : ∀ p, H2 p = none → p ≠ t ∧ p ≠ l ∧ p ≠ d := fun p hp => ⟨T2.ne hp, (ne_of_none l2 hp).symm, (ne_of_none d2 hp).symm⟩
      have fin : ∀ (p : Addr) (ns : List Int) (H6 : Hp), Ext [] H5 H6 → H6 p = some (.lst (ns.map V.int)) → H2 p = none → NsOk m ns → ∀ (H7 : Hp) (kvs' : List (Key × V)), H7 l = some (.lst (vs ++ [.ref p])) → H7 d = some (.dK kvs') → kvs'.length ≤ kvs.length + 2 → Ext [l, d] H6 H7 → ∀ o4 o5 o6 o7 : Option V,
          ∃ (nx : List (List Int)) (vs : List V) (kvs : List (Key × V)) (p4 p5 p6 p7 : Option V), [some (V.ref t), some (.int m), some (.ref l), some (.ref d), o4, o5, o6, o7] = [some (.ref t), some (.int m), some (.ref l), some (.ref d), p4, p5, p6, p7] ∧ nx.length = i + 1 ∧ (∀ ns ∈ nx, NsOk m ns) ∧
            Tape H7 t (k + 2 * (i + 1)) ∧ Ext [t] H H7 ∧ H7 l = some (.lst vs) ∧ DenL K (yo H [t, l, d] H7) (nx.map intsD) vs ∧ H7 d = some (.dK kvs) ∧ kvs.length ≤ 2 * (i + 1) := by
        intro p ns H6 e6 hp hn hns H7 kvs' l7 d7 hk7 e7 o4 o5 o6 o7
        obtain ⟨npt, npl, npd⟩ := fr p hn
        have e27 : Ext [l, d] H2 H7 := ((e5.trans e6).mono (by simp)).trans e7
        refine ⟨nx ++ [ns], vs ++ [.ref p], kvs', o4, o5, o6, o7, rfl, by rw [List.length_append, hnl]; rfl, fun z hz => ?_, ?_, ?_, l7, ?_, d7, by omega⟩
        · rcases List.mem_append.mp hz with y | y
          · exact hnx z y
          · rw [List.mem_singleton.mp y]; exact hns
        · exact (T2.ext e27 (by simp [nlt.symm, ndt.symm])).mono (by omega)
        · have E7 : Ext [l, d, t] H H7 := (e'.mono (by simp)).trans (((e1.trans e2).mono (by simp)).trans (e27.mono (by simp)))
          exact (E7.drop hl).drop hd
        · rw [List.map_append]
          refine DenL.append (den2.mono (e27.mono (by simp)).young) (.cons (.list (SqL.of ?_) (DenL.ofInts ns)) .nil)
          rw [yo_out ((e'.trans (e1.trans e2)).none (by simpa using npt) hn) (by simp [npt, npl, npd])]
          exact e7 _ _ (by simp [npl, npd]) hp
      have hr2 : 1 + r2 ≤ 1 ∨ 1 + r2 ≤ m - 1 := by
        by_cases c : m - 1 > 1
        · rw [if_pos c] at b2; omega
        · rw [if_neg c] at b2; omega
      have l5 := e5 _ _ (by simp) l2
      have d5 := e5 _ _ (by simp) d2
      obtain ⟨p0, ns0, h0, hp0, hn0, hat⟩ : ∃ p0 ns0, H5 p0 = some (.lst (ns0.map V.int)) ∧ H2 p0 = none ∧ (ns0 = [0 + (i : Int) + 1, 1 + r2] ∨ ns0 = [1 + r2, 0 + (i : Int) + 1]) ∧ atI [V.ref p1, V.ref p2] (r1 % 2) = some (.ref p0) := by
        have hm := Int.emod_two_eq r1
        rcases hm with c | c
        · exact ⟨p1, _, q1, hp1, .inl rfl, by rw [c]; rfl⟩
        · exact ⟨p2, _, q2, hp2', .inr rfl, by rw [c]; rfl⟩
      walk_at "rd"
      refine r_mod (by decide) (r_ixL q3 hat ?_)
      walk_at "rd"
      refine r_eqI ?_
      walk_at "rd"
      have nsl : ∀ {ns}, NsOk m ns → ns.length ≤ 2 := by
        rintro ns (h | ⟨x, h, _⟩ | ⟨x, y, h, _⟩) <;> subst h <;> simp
      refine ite2 (fun g => ?_) (fun g => ?_)
      · have g := of_decide_eq_true g
        walk_at "rd"
        refine r_eqI ?_
        walk_at "rd"
        refine ite2 (fun g2 => ?_) (fun g2 => ?_)
        · walk_at "rd"
          refine ite2 (fun g3 => ?_) (fun g3 => ?_)
          · have g3 := of_decide_eq_true g3
            walk_at "rd"
            refine ⟨len2 (by first | exact Nat.zero_le _ | (show 1 ≤ 1000; decide)), fun p hp => ?_⟩
            have hf : H2 p = none := by
              cases z : H2 p with
              | none => rfl
              | some o => rw [e5 _ _ (by simp) z] at hp; cases hp
            have e6 : Ext [] H5 (upd H5 p (.lst (([1 + r2] : List Int).map V.int))) := .laid hp
            have hns : NsOk m [1 + r2] := (.inr (.inl ⟨_, rfl, by omega, by omega⟩))
            obtain ⟨_, npl, _⟩ := fr p hf
            refine r_gn ?_
            refine nexts_tail (l := l) (d := d) (p := p) (ns := [1 + r2]) rfl rfl rfl (e6 _ _ (by simp) l5) (e6 _ _ (by simp) d5) upd_same (by omega) (by omega) (nsl hns) npl ?_
            exact fun H7 kvs' l7 d7 hk7 e7 => fin p [1 + r2] _ e6 upd_same hf hns H7 kvs' l7 d7 hk7 e7 _ _ _ _
          · walk_at "rd"
            refine ⟨len2 (by first | exact Nat.zero_le _ | (show 1 ≤ 1000; decide)), fun p hp => ?_⟩
            have hf : H2 p = none := by
              cases z : H2 p with
              | none => rfl
              | some o => rw [e5 _ _ (by simp) z] at hp; cases hp
            have e6 : Ext [] H5 (upd H5 p (.lst (([] : List Int).map V.int))) := .laid hp
            have hns : NsOk m [] := (.inl rfl)
            obtain ⟨_, npl, _⟩ := fr p hf
            refine r_gn ?_
            refine nexts_tail (l := l) (d := d) (p := p) (ns := []) rfl rfl rfl (e6 _ _ (by simp) l5) (e6 _ _ (by simp) d5) upd_same (by omega) (by omega) (nsl hns) npl ?_
            exact fun H7 kvs' l7 d7 hk7 e7 => fin p [] _ e6 upd_same hf hns H7 kvs' l7 d7 hk7 e7 _ _ _ _
        · refine iteF ?_
          walk_at "rd"
          refine ⟨len2 (by first | exact Nat.zero_le _ | (show 1 ≤ 1000; decide)), fun p hp => ?_⟩
          have hf : H2 p = none := by
            cases z : H2 p with
            | none => rfl
            | some o => rw [e5 _ _ (by simp) z] at hp; cases hp
          have e6 : Ext [] H5 (upd H5 p (.lst (([] : List Int).map V.int))) := .laid hp
          have hns : NsOk m [] := (.inl rfl)
          obtain ⟨_, npl, _⟩ := fr p hf
          refine r_gn ?_
          refine nexts_tail (l := l) (d := d) (p := p) (ns := []) rfl rfl rfl (e6 _ _ (by simp) l5) (e6 _ _ (by simp) d5) upd_same (by omega) (by omega) (nsl hns) npl ?_
          exact fun H7 kvs' l7 d7 hk7 e7 => fin p [] _ e6 upd_same hf hns H7 kvs' l7 d7 hk7 e7 _ _ _ _
      · have g : ¬ (0 + (i : Int) + 1 = m) := fun z => g (decide_eq_true z)
        walk_at "rd"
        refine ⟨d, _, rfl, DGet.k (k := Sum.inl _) d5, ?_⟩
        refine r_bl ?_
        refine ite2 (fun g2 => ?_) (fun g2 => ?_)
        · walk_at "rd"
          refine ite2 (fun g3 => ?_) (fun g3 => ?_)
          · walk_at "rd"
            refine r_eqI ?_
            walk_at "rd"
            refine ite2 (fun g4 => ?_) (fun g4 => ?_)
            · walk_at "rd"
              refine ⟨len2 (by first | exact Nat.zero_le _ | (show 1 ≤ 1000; decide)), fun p hp => ?_⟩
              have hf : H2 p = none := by
                cases z : H2 p with
                | none => rfl
                | some o => rw [e5 _ _ (by simp) z] at hp; cases hp
              have e6 : Ext [] H5 (upd H5 p (.lst (([1 + r2] : List Int).map V.int))) := .laid hp
              have hns : NsOk m [1 + r2] := (.inr (.inl ⟨_, rfl, by omega, by omega⟩))
              obtain ⟨_, npl, _⟩ := fr p hf
              refine r_gn ?_
              refine nexts_tail (l := l) (d := d) (p := p) (ns := [1 + r2]) rfl rfl rfl (e6 _ _ (by simp) l5) (e6 _ _ (by simp) d5) upd_same (by omega) (by omega) (nsl hns) npl ?_
              exact fun H7 kvs' l7 d7 hk7 e7 => fin p [1 + r2] _ e6 upd_same hf hns H7 kvs' l7 d7 hk7 e7 _ _ _ _
            · walk_at "rd"
              refine ⟨len2 (by first | exact Nat.zero_le _ | (show 1 ≤ 1000; decide)), fun p hp => ?_⟩
              have hf : H2 p = none := by
                cases z : H2 p with
                | none => rfl
                | some o => rw [e5 _ _ (by simp) z] at hp; cases hp
              have e6 : Ext [] H5 (upd H5 p (.lst (([] : List Int).map V.int))) := .laid hp
              have hns : NsOk m [] := (.inl rfl)
              obtain ⟨_, npl, _⟩ := fr p hf
              refine r_gn ?_
              refine nexts_tail (l := l) (d := d) (p := p) (ns := []) rfl rfl rfl (e6 _ _ (by simp) l5) (e6 _ _ (by simp) d5) upd_same (by omega) (by omega) (nsl hns) npl ?_
              exact fun H7 kvs' l7 d7 hk7 e7 => fin p [] _ e6 upd_same hf hns H7 kvs' l7 d7 hk7 e7 _ _ _ _
          · walk_at "rd"
            refine ite2 (fun g5 => ?_) (fun g5 => ?_)
            · refine iteT ?_
              walk_at "rd"
              refine ⟨len2 (by first | exact Nat.zero_le _ | (show 1 ≤ 1000; decide)), fun p hp => ?_⟩
              have hf : H2 p = none := by
                cases z : H2 p with
                | none => rfl
                | some o => rw [e5 _ _ (by simp) z] at hp; cases hp
              have e6 : Ext [] H5 (upd H5 p (.lst (([0 + (i : Int) + 1] : List Int).map V.int))) := .laid hp
              have hns : NsOk m [0 + (i : Int) + 1] := (.inr (.inl ⟨_, rfl, by omega, by omega⟩))
              obtain ⟨_, npl, _⟩ := fr p hf
              refine r_gn ?_
              refine nexts_tail (l := l) (d := d) (p := p) (ns := [0 + (i : Int) + 1]) rfl rfl rfl (e6 _ _ (by simp) l5) (e6 _ _ (by simp) d5) upd_same (by omega) (by omega) (nsl hns) npl ?_
              exact fun H7 kvs' l7 d7 hk7 e7 => fin p [0 + (i : Int) + 1] _ e6 upd_same hf hns H7 kvs' l7 d7 hk7 e7 _ _ _ _
            · walk_at "rd"
              refine r_eqI ?_
              walk_at "rd"
              refine ite2 (fun g6 => ?_) (fun g6 => ?_)
              · walk_at "rd"
                refine ⟨len2 (by first | exact Nat.zero_le _ | (show 1 ≤ 1000; decide)), fun p hp => ?_⟩
                have hf : H2 p = none := by
                  cases z : H2 p with
                  | none => rfl
                  | some o => rw [e5 _ _ (by simp) z] at hp; cases hp
                have e6 : Ext [] H5 (upd H5 p (.lst (([0 + (i : Int) + 1] : List Int).map V.int))) := .laid hp
                have hns : NsOk m [0 + (i : Int) + 1] := (.inr (.inl ⟨_, rfl, by omega, by omega⟩))
                obtain ⟨_, npl, _⟩ := fr p hf
                refine r_gn ?_
                refine nexts_tail (l := l) (d := d) (p := p) (ns := [0 + (i : Int) + 1]) rfl rfl rfl (e6 _ _ (by simp) l5) (e6 _ _ (by simp) d5) upd_same (by omega) (by omega) (nsl hns) npl ?_
                exact fun H7 kvs' l7 d7 hk7 e7 => fin p [0 + (i : Int) + 1] _ e6 upd_same hf hns H7 kvs' l7 d7 hk7 e7 _ _ _ _
              · have g6 : ¬ (1 + r2 = 0 + (i : Int) + 1) := fun z => g6 (decide_eq_true z)
                obtain ⟨_, npl, _⟩ := fr p0 hp0
                have hns : NsOk m ns0 := by
                  rcases hn0 with h | h
                  · exact .inr (.inr ⟨_, _, h, by omega, by omega, by omega, by omega, by omega⟩)
                  · exact .inr (.inr ⟨_, _, h, by omega, by omega, by omega, by omega, by omega⟩)
                refine r_next ?_
                refine nexts_tail (l := l) (d := d) (p := p0) (ns := ns0) rfl rfl rfl l5 d5 h0 (by omega) (by omega) (nsl hns) npl ?_
                exact fun H7 kvs' l7 d7 hk7 e7 => fin p0 ns0 _ (fun _ _ _ h => h) h0 hp0 hns H7 kvs' l7 d7 hk7 e7 _ _ _ _
        · refine iteF ?_
          walk_at "rd"
          refine ite2 (fun g5 => ?_) (fun g5 => ?_)
          · refine iteT ?_
            walk_at "rd"
            refine ⟨len2 (by first | exact Nat.zero_le _ | (show 1 ≤ 1000; decide)), fun p hp => ?_⟩
            have hf : H2 p = none := by
              cases z : H2 p with
              | none => rfl
              | some o => rw [e5 _ _ (by simp) z] at hp; cases hp
            have e6 : Ext [] H5 (upd H5 p (.lst (([0 + (i : Int) + 1] : List Int).map V.int))) := .laid hp
            have hns : NsOk m [0 + (i : Int) + 1] := (.inr (.inl ⟨_, rfl, by omega, by omega⟩))
            obtain ⟨_, npl, _⟩ := fr p hf
            refine r_gn ?_
            refine nexts_tail (l := l) (d := d) (p := p) (ns := [0 + (i : Int) + 1]) rfl rfl rfl (e6 _ _ (by simp) l5) (e6 _ _ (by simp) d5) upd_same (by omega) (by omega) (nsl hns) npl ?_
            exact fun H7 kvs' l7 d7 hk7 e7 => fin p [0 + (i : Int) + 1] _ e6 upd_same hf hns H7 kvs' l7 d7 hk7 e7 _ _ _ _
          · walk_at "rd"
            refine r_eqI ?_
            walk_at "rd"
            refine ite2 (fun g6 => ?_) (fun g6 => ?_)
            · walk_at "rd"
              refine ⟨len2 (by first | exact Nat.zero_le _ | (show 1 ≤ 1000; decide)), fun p hp => ?_⟩
              have hf : H2 p = none := by
                cases z : H2 p with
                | none => rfl
                | some o => rw [e5 _ _ (by simp) z] at hp; cases hp
              have e6 : Ext [] H5 (upd H5 p (.lst (([0 + (i : Int) + 1] : List Int).map V.int))) := .laid hp
              have hns : NsOk m [0 + (i : Int) + 1] := (.inr (.inl ⟨_, rfl, by omega, by omega⟩))
              obtain ⟨_, npl, _⟩ := fr p hf
              refine r_gn ?_
              refine nexts_tail (l := l) (d := d) (p := p) (ns := [0 + (i : Int) + 1]) rfl rfl rfl (e6 _ _ (by simp) l5) (e6 _ _ (by simp) d5) upd_same (by omega) (by omega) (nsl hns) npl ?_
              exact fun H7 kvs' l7 d7 hk7 e7 => fin p [0 + (i : Int) + 1] _ e6 upd_same hf hns H7 kvs' l7 d7 hk7 e7 _ _ _ _
            · have g6 : ¬ (1 + r2 = 0 + (i : Int) + 1) := fun z => g6 (decide_eq_true z)
              obtain ⟨_, npl, _⟩ := fr p0 hp0
              have hns : NsOk m ns0 := by
                rcases hn0 with h | h
                · exact .inr (.inr ⟨_, _, h, by omega, by omega, by omega, by omega, by omega⟩)
                · exact .inr (.inr ⟨_, _, h, by omega, by omega, by omega, by omega, by omega⟩)
              refine r_next ?_
              refine nexts_tail (l := l) (d := d) (p := p0) (ns := ns0) rfl rfl rfl l5 d5 h0 (by omega) (by omega) (nsl hns) npl ?_
              exact fun H7 kvs' l7 d7 hk7 e7 => fin p0 ns0 _ (fun _ _ _ h => h) h0 hp0 hns H7 kvs' l7 d7 hk7 e7 _ _ _ _
    · rintro σ' H' ⟨nx, vs, kvs, o4, o5, o6, o7, rfl, hnl, hnx, hT', e', hl', hden, hd', hkl⟩
      walk_at "rd"
      refine q l nx H' hl (hT'.mono (by omega)) e' ⟨by omega, hnx⟩ (.list (SqL.of ?_) (hden.mono (yo_less (by simp))))
      rw [yo_out hl (by simpa using nlt)]; exact hl'
end
end Fs
set_option maxRecDepth 100000
set_option maxHeartbeats 1000000
namespace Fs
open PySem L2
section
variable {P : Program} {w : World} {K : PySem.W.Frag} {mg : Str → Option Value} {base : Heap}
abbrev sDeeds : Stmt := top 17
theorem scDeeds : FnScope ["_law_tape_here", "_law_most", "_law_boxes", "_law_first", "_law_works_here", "_law_found", "_law_turn", "_law_way", "_law_n", "_law_box", "_law_other", "_law_called"] ["_law_tape_here", "_law_most", "_law_boxes", "_law_first", "_law_works_here"] (defScope sDeeds) := ⟨rfl, rfl, rfl, by decide +kernel, rfl, by decide +kernel, by decide +kernel⟩
theorem ok_deeds {f : Addr} {fd : FuncData} (F : Fun K "_law_deeds" "_law_deeds" sDeeds f fd) (nrange : mg "range" = none) (nint : mg "int" = none) (nlen : mg "len" = none) (hD : Has P w K mg base "_law_draw" 1 ["_law_tape_here", "_law_many_here"] spDraw) (hN : Has P w K mg base "_law_number" 2 ["_law_tape_here"] spNumber) :
    FnOk P w K mg base CX0 3 f fd ["_law_tape_here", "_law_most", "_law_boxes", "_law_first", "_law_works_here"] (spDeeds K) := by
  refine F.ok scDeeds (fun vs H Q E h => ?_) (fun cdv A outer s H vs Q E hr h => ?_)
  · obtain ⟨t, b, k, most, first, works, bs, rfl, _⟩ := h
    rfl
  · obtain ⟨t, b, k, most, first, works, bs, rfl, hT, hk, hm1, hm2, hf1, hf2, hw1, hw2, hb, nbt, hB, q⟩ := h
    refine ⟨_, pss_cons (ps_set (i := 5) scDeeds.nd rfl (Or.inl rfl) (pe_lst pa_nil))
      (pss_cons (ps_for PassesOwn.never rfl (pi_range1 rfl nrange (pa_cons (pe_fn hD hr (by decide) (pa_cons (pv 0) (pa_cons (pe_op op_add pe_int (pe_ix ix_list (pe_lst (pa_cons (pv 1) (pa_cons pe_int pa_nil))) (pe_callTy call_int1 (by rfl) nint PyProof.Rows.boot_int (pa_cons (pe_cmpR op_eq (pe_fn hD hr (by decide) (pa_cons (pv 0) (pa_cons pe_int pa_nil))) pe_int (nomark _)) pa_nil)) (fun _ _ => rfl))) pa_nil))) pa_nil)) (pg_name (i := 6) scDeeds.nd rfl (Or.inl rfl))
        (pss_cons (ps_par (i := 7) (j := 8) rfl scDeeds.nd rfl rfl (by decide) rfl rfl (pa_cons (pe_fn hD hr (by decide) (pa_cons (pv 0) (pa_cons pe_int pa_nil))) (pa_cons (pe_fn hN hr (by decide) (pa_cons (pv 0) pa_nil)) pa_nil)) rfl)
        (pss_cons (ps_set (i := 9) scDeeds.nd rfl (Or.inl rfl) (pe_ix ix_list (pv 2) (pe_fn hD hr (by decide) (pa_cons (pv 0) (pa_cons (pe_callB call_len_seq (by rfl) nlen PySem.boot_len (pa_cons (pv 2) pa_nil)) pa_nil))) (fun _ _ => rfl)))
        (pss_cons (ps_set (i := 10) scDeeds.nd rfl (Or.inl rfl) (pe_ix ix_list (pv 2) (pe_fn hD hr (by decide) (pa_cons (pv 0) (pa_cons (pe_callB call_len_seq (by rfl) nlen PySem.boot_len (pa_cons (pv 2) pa_nil)) pa_nil))) (fun _ _ => rfl)))
        (pss_cons (ps_set (i := 11) scDeeds.nd rfl (Or.inl rfl) (pe_ix ix_list (pe_lst (pa_cons (pe_op op_add (pe_op op_add (pv 3) pe_int) (pe_fn hD hr (by decide) (pa_cons (pv 0) (pa_cons pe_int pa_nil)))) (pa_cons (pe_fn hD hr (by decide) (pa_cons (pv 0) (pa_cons (pv 4) pa_nil))) pa_nil))) (pe_callTy call_int1 (by rfl) nint PyProof.Rows.boot_int (pa_cons (pe_cmpR op_eq (pe_fn hD hr (by decide) (pa_cons (pv 0) (pa_cons pe_int pa_nil))) pe_int (nomark _)) pa_nil)) (fun _ _ => rfl)))
        (pss_one (ps_if (pw_and (pt_cmpR op_eq (pv 7) pe_int (nomark _)) (pw_and1 (pt_cmpR op_lt (pv 11) (pv 4) (nomark _)))).pt
          (pss_one (ps_expr (pe_bm PySem.F.plainAttrs_list PySem.F.slot_list_append PySem.F.type_list_append mt_append (pv 5) (pa_cons (pe_tup (pa_cons pe_str (pa_cons (pv 11) pa_nil))) pa_nil))))
          (pss_one (ps_expr (pe_bm PySem.F.plainAttrs_list PySem.F.slot_list_append PySem.F.type_list_append mt_append (pv 5) (pa_cons (pe_ix ix_list (pe_lst (pa_cons (pe_tup (pa_cons pe_str (pa_cons (pv 9) (pa_cons (pv 8) pa_nil)))) (pa_cons (pe_tup (pa_cons pe_str (pa_cons (pv 9) (pa_cons (pv 10) pa_nil)))) (pa_cons (pe_tup (pa_cons pe_str (pa_cons (pv 9) pa_nil))) pa_nil)))) (pe_op op_mod (pv 7) pe_int) (fun _ _ => rfl)) pa_nil)))))))))))
      (pss_one (ps_ret (pv 5)))), ?_⟩
    dsimp only [nox_K, comp_K]
    walk_at "rd"
    refine ⟨len2 (Nat.zero_le _), fun l hl => ?_⟩
    have nlt : l ≠ t := hT.ne hl
    have nlb : l ≠ b := (ne_of_none hb hl).symm
    have T0 : Tape (upd H l (.lst [])) t k := hT.ext (ts := []) (.laid hl) (by simp)
    walk_at "rd"
    refine ⟨len2 (by show 2 ≤ 1000; decide), fun p hp => ?_⟩
    have npt : p ≠ t := T0.ne hp
    have npl : p ≠ l := fun z => by rw [z, upd_same] at hp; cases hp
    walk_at "rd"
    refine r_draw (T0.ext (ts := []) (.laid hp) (by simp)) (by omega) (by decide) (by decide) fun r1 H1 a1 b1 T1 e1 k1 => ?_
    walk_at "rd"
    refine r_eqI ?_
    walk_at "rd"
    refine .inr ⟨_, rfl, ?_⟩
    have hpL : SqL K H1 p [V.int most, V.int 12] := SqL.of (by rw [k1 p npt, upd_same])
    obtain ⟨mo, hmo, mo0, mo1⟩ : ∃ mo : Int, atI [V.int most, V.int 12] (if decide (r1 = 0) = true then 1 else 0) = some (.int mo) ∧ 0 ≤ mo ∧ mo ≤ 12 := by
      cases decide (r1 = 0)
      · exact ⟨most, rfl, hm1, hm2⟩
      · exact ⟨12, rfl, by decide, by decide⟩
    refine r_ixL hpL hmo ?_
    walk_at "rd"
    refine r_draw T1 (by omega) (by omega) (by omega) fun r2 H2 a2 b2 T2 e2 k2 => ?_
    have l2 : H2 l = some (.lst []) := by rw [k2 l nlt, k1 l nlt, upd_ne npl.symm, upd_same]
    have E2 : Ext [t] H H2 := (Ext.laid hl).trans ((Ext.laid hp).trans (e1.trans e2))
    walk_at "rd"
    refine ⟨r2, rfl, by omega, by omega, for_range (lo := 0) (n := r2.toNat) (fun i σ' H' => ∃ (ds : List Deed) (vs : List V) (o6 o7 o8 o9 o10 o11 : Option V), σ' = [some (.ref t), some (.int most), some (.ref b), some (.int first), some (.int works), some (.ref l), o6, o7, o8, o9, o10, o11] ∧ ds.length = i ∧ (∀ d ∈ ds, DeedOk works d) ∧
      Tape H' t (k + 2 + 10 * i) ∧ Ext [t] H H' ∧ H' l = some (.lst vs) ∧ DenL K (yo H [t, l] H') (ds.map deedD) vs) ?_ ?_ ?_⟩
    · exact ⟨[], [], none, none, none, none, none, none, rfl, rfl, (fun _ h => absurd h (by simp)), T2.mono (by omega), E2, l2, .nil⟩
    · rintro i σ' H' hi ⟨ds, vs, o6, o7, o8, o9, o10, o11, rfl, hdl, hds, hT', e', hl', hden⟩
      have hvl : vs.length = i := by rw [hden.len, List.length_map, hdl]
      walk_at "rd"
      refine r_draw hT' (by omega) (by decide) (by decide) fun r3 H3 a3 b3 T3 e3 _ => ?_
      walk_at "rd"
      refine r_int T3 (by omega) fun n H4 n0 n1 T4 e4 => ?_
      walk_at "rd"
      refine ⟨_, _, rfl, ?_⟩
      have E4 : Ext [t] H' H4 := e3.trans e4
      have hbt : b ∉ [t] := by simpa using nbt
      have hltn : l ∉ [t] := by simpa using nlt
      walk_at "rd"
      refine ⟨b, _, rfl, .inl (SqL.of (E4 _ _ hbt (e' _ _ hbt hb))), ?_⟩
      rw [List.length_map]
      walk_at "rd"
      refine r_draw T4 (by omega) (by have := hB.one; omega) (by have := hB.few; omega) fun r5 H5 a5 b5 T5 e5 _ => ?_
      have E5 : Ext [t] H' H5 := E4.trans e5
      obtain ⟨bx, hbx, ebx⟩ := atI_ints (ns := bs) a5 b5
      refine r_ixL (SqL.of (E5 _ _ hbt (e' _ _ hbt hb))) ebx ?_
      walk_at "rd"
      refine ⟨b, _, rfl, .inl (SqL.of (E5 _ _ hbt (e' _ _ hbt hb))), ?_⟩
      rw [List.length_map]
      walk_at "rd"
      refine r_draw T5 (by omega) (by have := hB.one; omega) (by have := hB.few; omega) fun r6 H6 a6 b6 T6 e6 _ => ?_
      have E6 : Ext [t] H' H6 := E5.trans e6
      obtain ⟨ox, hox, eox⟩ := atI_ints (ns := bs) a6 b6
      refine r_ixL (SqL.of (E6 _ _ hbt (e' _ _ hbt hb))) eox ?_
      walk_at "rd"
      refine r_draw T6 (by omega) (by decide) (by decide) fun r7 H7 a7 b7 T7 e7 _ => ?_
      walk_at "rd"
      refine r_draw T7 (by omega) (by omega) (by omega) fun r8 H8 a8 b8 T8 e8 _ => ?_
      walk_at "rd"
      refine ⟨len2 (by show 2 ≤ 1000; decide), fun p1 hp1 => ?_⟩
      have np1 : p1 ≠ t := T8.ne hp1
      walk_at "rd"
      refine r_draw (T8.ext (ts := []) (.laid hp1) (by simp)) (by omega) (by decide) (by decide) fun r9 H9 a9 b9 T9 e9 k9 => ?_
      walk_at "rd"
      refine r_eqI ?_
      walk_at "rd"
      refine .inr ⟨_, rfl, ?_⟩
      have E9 : Ext [t] H' H9 := (E6.trans (e7.trans e8)).trans ((Ext.laid hp1).trans e9)
      have hL9 : SqL K H9 p1 [V.int (first + 1 + r7), V.int r8] := SqL.of (by rw [k9 p1 np1, upd_same])
      obtain ⟨ca, hca, ca0⟩ : ∃ ca : Int, atI [V.int (first + 1 + r7), V.int r8] (if decide (r9 = 0) = true then 1 else 0) = some (.int ca) ∧ 0 ≤ ca := by
        cases decide (r9 = 0)
        · exact ⟨_, rfl, by omega⟩
        · exact ⟨_, rfl, by omega⟩
      refine r_ixL hL9 hca ?_
      have l9 : H9 l = some (.lst vs) := E9 _ _ hltn hl'
      have fin : ∀ (d : Deed) (H6 : Hp) (p : Addr), DeedOk works d → Ext [] H9 H6 → p ≠ t → p ≠ l → Den K (yo H [t, l] H6) (deedD d) (.ref p) → ∀ o6 o7 o8 o9 o10 o11 : Option V, ∃ (ds : List Deed) (vs' : List V) (p6 p7 p8 p9 p10 p11 : Option V), [some (V.ref t), some (.int most), some (.ref b), some (.int first), some (.int works), some (.ref l), o6, o7, o8, o9, o10, o11] = [some (V.ref t), some (.int most), some (.ref b), some (.int first), some (.int works), some (.ref l), p6, p7, p8, p9, p10, p11] ∧ ds.length = i + 1 ∧ (∀ d ∈ ds, DeedOk works d) ∧
          Tape (upd H6 l (.lst (vs ++ [.ref p]))) t (k + 2 + 10 * (i + 1)) ∧ Ext [t] H (upd H6 l (.lst (vs ++ [.ref p]))) ∧ (upd H6 l (.lst (vs ++ [.ref p]))) l = some (.lst vs') ∧ DenL K (yo H [t, l] (upd H6 l (.lst (vs ++ [.ref p])))) (ds.map deedD) vs' := by
        intro d H6 p hd e6 npt npl hden6 o6 o7 o8 o9 o10 o11
        have E10 : Ext [l, t] H9 (upd H6 l (.lst (vs ++ [.ref p]))) := (e6.mono (by simp)).trans (.put (by simp))
        have E11 : Ext [l, t] H' (upd H6 l (.lst (vs ++ [.ref p]))) := (E9.mono (by simp)).trans E10
        refine ⟨ds ++ [d], vs ++ [.ref p], o6, o7, o8, o9, o10, o11, rfl, by rw [List.length_append, hdl]; rfl, fun z hz => ?_, ?_, ?_, upd_same, ?_⟩
        · rcases List.mem_append.mp hz with y | y
          · exact hds z y
          · rw [List.mem_singleton.mp y]; exact hd
        · exact ((T9.ext e6 (by simp)).ext (ts := [l]) (.put (by simp)) (by simpa using nlt.symm)).mono (by omega)
        · exact ((e'.mono (by simp)).trans E11).drop hl
        · rw [List.map_append]
          exact DenL.append (hden.mono (E11.mono (by simp)).young) (.cons (hden6.mono (Ext.put (by simp)).young) .nil)
      have sz : vs.length < sizeLine := small1000 (by omega)
      walk_at "rd"
      refine r_eqI ?_
      walk_at "rd"
      refine ite2 (fun g => ?_) (fun g => ?_)
      · walk_at "rd"
        refine ite2 (fun g2 => ?_) (fun g2 => ?_)
        · have g2 := of_decide_eq_true g2
          walk_at "rd"
          refine r_tyL l9 ?_
          walk_at "rd"
          refine ⟨len2 (by show 2 ≤ 1000; decide), fun p hp => ?_⟩
          have npt := T9.ne hp
          have hfresh := hp
          have npl : p ≠ l := (ne_of_none l9 hp).symm
          walk_at "rd"
          refine r_app (by rw [upd_ne npl.symm]; exact l9) sz ?_
          refine fin (.call ca) _ p ⟨ca0, g2⟩ (.laid hp) npt npl (.tuple (SqT.of ?_) (.cons .str (.cons .int .nil))) _ _ _ _ _ _
          rw [yo_out ((e'.trans E9).none (by simpa using npt) hfresh) (by simp [npt, npl]), upd_same]
        · walk_at "rd"
          refine r_tyL l9 ?_
          walk_at "rd"
          refine ⟨len2 (by show 3 ≤ 1000; decide), fun s1 hs1 => ?_⟩
          walk_at "rd"
          refine ⟨len2 (by show 3 ≤ 1000; decide), fun s2 hs2 => ?_⟩
          walk_at "rd"
          refine ⟨len2 (by show 2 ≤ 1000; decide), fun s3 hs3 => ?_⟩
          walk_at "rd"
          refine ⟨len2 (by show 3 ≤ 1000; decide), fun s4 hs4 => ?_⟩
          have e12 : s1 ≠ s2 := ne_of_none upd_same hs2
          have e13 : s1 ≠ s3 := ne_of_none (by rw [upd_ne e12, upd_same]) hs3
          have e23 : s2 ≠ s3 := ne_of_none upd_same hs3
          have e14 : s1 ≠ s4 := ne_of_none (by rw [upd_ne e13, upd_ne e12, upd_same]) hs4
          have e24 : s2 ≠ s4 := ne_of_none (by rw [upd_ne e23, upd_same]) hs4
          have e34 : s3 ≠ s4 := ne_of_none upd_same hs4
          have f2 : H9 s2 = none := by rw [upd_ne e12.symm] at hs2; exact hs2
          have f3 : H9 s3 = none := by rw [upd_ne e23.symm, upd_ne e13.symm] at hs3; exact hs3
          have E0 := (Ext.laid (ts := []) (o := .tup [V.str "set", .int bx, .int n]) hs1).trans ((Ext.laid (o := .tup [V.str "add", .int bx, .int ox]) hs2).trans ((Ext.laid (o := .tup [V.str "tell", .int bx]) hs3).trans (Ext.laid (o := .lst [V.ref s1, .ref s2, .ref s3]) hs4)))
          have l10 := E0 _ _ (by simp) l9
          have hbx' := hB.all _ hbx
          have hox' := hB.all _ hox
          walk_at "rd"
          refine r_mod (by decide) ?_
          have h3 : r3 % 3 = 0 ∨ r3 % 3 = 1 ∨ r3 % 3 = 2 := by omega
          have q4 : SqL K (upd (upd (upd (upd H9 s1 (.tup [V.str "set", .int bx, .int n])) s2 (.tup [V.str "add", .int bx, .int ox])) s3 (.tup [V.str "tell", .int bx])) s4 (.lst [V.ref s1, .ref s2, .ref s3])) s4 [V.ref s1, .ref s2, .ref s3] := SqL.of upd_same
          rcases h3 with h | h | h
          · refine r_ixL (v := V.ref s1) q4 (by rw [h]; rfl) ?_
            walk_at "rd"
            have npt := T9.ne hs1
            have hfresh := hs1
            have npl : s1 ≠ l := (ne_of_none l9 hs1).symm
            refine r_app l10 sz ?_
            refine fin (.set bx n) _ s1 ⟨hbx'.1, hbx'.2, n0, n1⟩ E0 npt npl (.tuple (SqT.of ?_) (.cons .str (.cons .int (.cons .int .nil)))) _ _ _ _ _ _
            rw [yo_out ((e'.trans E9).none (by simpa using npt) hfresh) (by simp [npt, npl]), upd_ne e14, upd_ne e13, upd_ne e12, upd_same]
          · refine r_ixL (v := V.ref s2) q4 (by rw [h]; rfl) ?_
            walk_at "rd"
            have npt := T9.ne f2
            have hfresh := f2
            have npl : s2 ≠ l := (ne_of_none l9 f2).symm
            refine r_app l10 sz ?_
            refine fin (.add bx ox) _ s2 ⟨hbx'.1, hbx'.2, hox'.1, hox'.2⟩ E0 npt npl (.tuple (SqT.of ?_) (.cons .str (.cons .int (.cons .int .nil)))) _ _ _ _ _ _
            rw [yo_out ((e'.trans E9).none (by simpa using npt) hfresh) (by simp [npt, npl]), upd_ne e24, upd_ne e23, upd_same]
          · refine r_ixL (v := V.ref s3) q4 (by rw [h]; rfl) ?_
            walk_at "rd"
            have npt := T9.ne f3
            have hfresh := f3
            have npl : s3 ≠ l := (ne_of_none l9 f3).symm
            refine r_app l10 sz ?_
            refine fin (.tell bx) _ s3 ⟨hbx'.1, hbx'.2⟩ E0 npt npl (.tuple (SqT.of ?_) (.cons .str (.cons .int .nil))) _ _ _ _ _ _
            rw [yo_out ((e'.trans E9).none (by simpa using npt) hfresh) (by simp [npt, npl]), upd_ne e34, upd_same]
      · refine iteF ?_
        walk_at "rd"
        refine r_tyL l9 ?_
        walk_at "rd"
        refine ⟨len2 (by show 3 ≤ 1000; decide), fun s1 hs1 => ?_⟩
        walk_at "rd"
        refine ⟨len2 (by show 3 ≤ 1000; decide), fun s2 hs2 => ?_⟩
        walk_at "rd"
        refine ⟨len2 (by show 2 ≤ 1000; decide), fun s3 hs3 => ?_⟩
        walk_at "rd"
        refine ⟨len2 (by show 3 ≤ 1000; decide), fun s4 hs4 => ?_⟩
        have e12 : s1 ≠ s2 := ne_of_none upd_same hs2
        have e13 : s1 ≠ s3 := ne_of_none (by rw [upd_ne e12, upd_same]) hs3
        have e23 : s2 ≠ s3 := ne_of_none upd_same hs3
        have e14 : s1 ≠ s4 := ne_of_none (by rw [upd_ne e13, upd_ne e12, upd_same]) hs4
        have e24 : s2 ≠ s4 := ne_of_none (by rw [upd_ne e23, upd_same]) hs4
        have e34 : s3 ≠ s4 := ne_of_none upd_same hs4
        have f2 : H9 s2 = none := by rw [upd_ne e12.symm] at hs2; exact hs2
        have f3 : H9 s3 = none := by rw [upd_ne e23.symm, upd_ne e13.symm] at hs3; exact hs3
        have E0 := (Ext.laid (ts := []) (o := .tup [V.str "set", .int bx, .int n]) hs1).trans ((Ext.laid (o := .tup [V.str "add", .int bx, .int ox]) hs2).trans ((Ext.laid (o := .tup [V.str "tell", .int bx]) hs3).trans (Ext.laid (o := .lst [V.ref s1, .ref s2, .ref s3]) hs4)))
        have l10 := E0 _ _ (by simp) l9
        have hbx' := hB.all _ hbx
        have hox' := hB.all _ hox
        walk_at "rd"
        refine r_mod (by decide) ?_
        have h3 : r3 % 3 = 0 ∨ r3 % 3 = 1 ∨ r3 % 3 = 2 := by omega
        have q4 : SqL K (upd (upd (upd (upd H9 s1 (.tup [V.str "set", .int bx, .int n])) s2 (.tup [V.str "add", .int bx, .int ox])) s3 (.tup [V.str "tell", .int bx])) s4 (.lst [V.ref s1, .ref s2, .ref s3])) s4 [V.ref s1, .ref s2, .ref s3] := SqL.of upd_same
        rcases h3 with h | h | h
        · refine r_ixL (v := V.ref s1) q4 (by rw [h]; rfl) ?_
          walk_at "rd"
          have npt := T9.ne hs1
          have hfresh := hs1
          have npl : s1 ≠ l := (ne_of_none l9 hs1).symm
          refine r_app l10 sz ?_
          refine fin (.set bx n) _ s1 ⟨hbx'.1, hbx'.2, n0, n1⟩ E0 npt npl (.tuple (SqT.of ?_) (.cons .str (.cons .int (.cons .int .nil)))) _ _ _ _ _ _
          rw [yo_out ((e'.trans E9).none (by simpa using npt) hfresh) (by simp [npt, npl]), upd_ne e14, upd_ne e13, upd_ne e12, upd_same]
        · refine r_ixL (v := V.ref s2) q4 (by rw [h]; rfl) ?_
          walk_at "rd"
          have npt := T9.ne f2
          have hfresh := f2
          have npl : s2 ≠ l := (ne_of_none l9 f2).symm
          refine r_app l10 sz ?_
          refine fin (.add bx ox) _ s2 ⟨hbx'.1, hbx'.2, hox'.1, hox'.2⟩ E0 npt npl (.tuple (SqT.of ?_) (.cons .str (.cons .int (.cons .int .nil)))) _ _ _ _ _ _
          rw [yo_out ((e'.trans E9).none (by simpa using npt) hfresh) (by simp [npt, npl]), upd_ne e24, upd_ne e23, upd_same]
        · refine r_ixL (v := V.ref s3) q4 (by rw [h]; rfl) ?_
          walk_at "rd"
          have npt := T9.ne f3
          have hfresh := f3
          have npl : s3 ≠ l := (ne_of_none l9 f3).symm
          refine r_app l10 sz ?_
          refine fin (.tell bx) _ s3 ⟨hbx'.1, hbx'.2⟩ E0 npt npl (.tuple (SqT.of ?_) (.cons .str (.cons .int .nil))) _ _ _ _ _ _
          rw [yo_out ((e'.trans E9).none (by simpa using npt) hfresh) (by simp [npt, npl]), upd_ne e34, upd_same]
    · rintro σ' H' ⟨ds, vs, o6, o7, o8, o9, o10, o11, rfl, hdl, hds, hT', e', hl', hden⟩
      walk_at "rd"
      refine q l ds H' hl (hT'.mono (by omega)) e' hds (by omega) (.list (SqL.of ?_) (hden.mono (yo_less (by simp))))
      rw [yo_out hl (by simpa using nlt)]; exact hl'
end
end Fs
set_option maxRecDepth 100000
set_option maxHeartbeats 1000000
namespace Fs
open PySem L2
section
variable {P : Program} {w : World} {K : PySem.W.Frag} {mg : Str → Option Value} {base : Heap}
abbrev sWork : Stmt := top 18
theorem scWork : FnScope ["_law_tape_here", "_law_many_here", "_law_most", "_law_first", "_law_works_here", "_law_left", "_law_size", "_law_boxes", "_law_found", "_law_there", "_law_end"] ["_law_tape_here", "_law_many_here", "_law_most", "_law_first", "_law_works_here"] (defScope sWork) := ⟨rfl, rfl, rfl, by decide +kernel, rfl, by decide +kernel, by decide +kernel⟩
theorem ok_work {f : Addr} {fd : FuncData} (F : Fun K "_law_work" "_law_work" sWork f fd) (nrange : mg "range" = none) (nlist : mg "list" = none) (nlen : mg "len" = none) (hD : Has P w K mg base "_law_draw" 1 ["_law_tape_here", "_law_many_here"] spDraw)
    (hX : Has P w K mg base "_law_nexts" 2 ["_law_tape_here", "_law_many_here"] (spNexts K)) (hE : Has P w K mg base "_law_deeds" 3 ["_law_tape_here", "_law_most", "_law_boxes", "_law_first", "_law_works_here"] (spDeeds K)) :
    FnOk P w K mg base CX0 4 f fd ["_law_tape_here", "_law_many_here", "_law_most", "_law_first", "_law_works_here"] (spWork K) := by
  refine F.ok scWork (fun vs H Q E h => ?_) (fun cdv A outer s H vs Q E hr h => ?_)
  · obtain ⟨t, k, m, most, first, works, rfl, _⟩ := h
    rfl
  · obtain ⟨t, k, m, most, first, works, rfl, hT, hk, m1, m2, hm1, hm2, hf1, hf2, hw1, hw2, q⟩ := h
    refine ⟨_, pss_cons (ps_set (i := 5) scWork.nd rfl (Or.inr rfl) (pe_callTy (call_list_rng hr.hd) (by rfl) nlist PyProof.Rows.boot_list (pa_cons (pe_callTy call_range1 (by rfl) nrange PyProof.Rows.boot_range (pa_cons pe_int pa_nil)) pa_nil)))
      (pss_cons (ps_set (i := 6) scWork.nd rfl (Or.inl rfl) (pe_op op_add pe_int (pe_fn hD hr (by decide) (pa_cons (pv 0) (pa_cons (pe_ix ix_list (pe_lst (pa_cons pe_int (pa_cons pe_int (pa_cons pe_int pa_nil)))) (pe_fn hD hr (by decide) (pa_cons (pv 0) (pa_cons pe_int pa_nil))) (fun _ _ => rfl)) pa_nil)))))
      (pss_cons (ps_lc (i := 7) ["_law_k"] [5, 0] rfl (.of rfl) scWork.nd rfl (Or.inl rfl) (pi_range1 rfl nrange (pa_cons (pv 6) pa_nil)) (fun _ _ _ _ => pg_name (i := 0) (by show ((["_law_k", "_law_left", "_law_tape_here"] : List Str)).Nodup; decide) rfl (Or.inl rfl)) (fun _ _ _ _ => .nil)
          (fun _ _ _ _ => pe_bmK K rfl PySem.F.plainAttrs_list PySem.F.slot_list_pop PySem.F.type_list_pop mt_popAt (pv 1) (pa_cons (pe_fn hD hr (by decide) (pa_cons (pv 2) (pa_cons (pe_callB (len_seqK K rfl) (by rfl) nlen PySem.boot_len (pa_cons (pv 1) pa_nil)) pa_nil))) pa_nil)))
      (pss_cons (ps_set (i := 8) scWork.nd rfl (Or.inl rfl) (pe_lst pa_nil))
      (pss_cons (ps_for PassesOwn.never rfl (pi_list (pe_fn hX hr (by decide) (pa_cons (pv 0) (pa_cons (pv 1) pa_nil)))) (pg_name (i := 9) scWork.nd rfl (Or.inl rfl))
        (pss_cons (ps_set (i := 10) scWork.nd rfl (Or.inl rfl) (pe_ifExp (pt_cmpR (op_eqD hr) (pv 9) (pe_lst pa_nil) (nomark _)) (pe_tup (pa_cons pe_str pa_nil)) (pe_ifExp (pt_cmpR op_eq (pe_callB call_len_seq (by rfl) nlen PySem.boot_len (pa_cons (pv 9) pa_nil)) pe_int (nomark _))
            (pe_tup (pa_cons pe_str (pa_cons (pe_ix ix_list (pv 9) pe_int (fun _ _ => rfl)) pa_nil))) (pe_tup (pa_cons pe_str (pa_cons (pe_ix ix_list (pv 9) pe_int (fun _ _ => rfl)) (pa_cons (pe_ix ix_list (pv 9) pe_int (fun _ _ => rfl)) pa_nil)))))))
        (pss_one (ps_expr (pe_bm PySem.F.plainAttrs_list PySem.F.slot_list_append PySem.F.type_list_append mt_append (pv 8) (pa_cons (pe_tup (pa_cons (pe_fn hE hr (by decide) (pa_cons (pv 0) (pa_cons (pv 2) (pa_cons (pv 7) (pa_cons (pv 3) (pa_cons (pv 4) pa_nil)))))) (pa_cons (pv 10) pa_nil))) pa_nil))))))
      (pss_one (ps_ret (pv 8))))))), ?_⟩
    dsimp only [nox_K, comp_K]
    walk_at "rd"
    refine ⟨8, rfl, fun pr hpr => ?_⟩
    walk_at "rd"
    refine ⟨pr, 8, rfl, upd_same, by decide, fun lf hlf => ?_⟩
    have nrl : pr ≠ lf := ne_of_none upd_same hlf
    have hlf0 : H lf = none := by rw [upd_ne nrl.symm] at hlf; exact hlf
    have nlt : lf ≠ t := hT.ne hlf0
    have EG := (Ext.laid (ts := []) (o := .rng 0 8) hpr).trans (.laid (o := .lst (([0, 1, 2, 3, 4, 5, 6, 7] : List Int).map V.int)) hlf)
    generalize hG : upd (upd H pr (.rng 0 8)) lf (.lst (([0, 1, 2, 3, 4, 5, 6, 7] : List Int).map V.int)) = G at EG
    have hG' : upd (upd H pr (.rng 0 8)) lf (.lst ((List.range 8).map fun (i : Nat) => V.int (i : Int))) = G := hG
    have lG : G lf = some (.lst (([0, 1, 2, 3, 4, 5, 6, 7] : List Int).map V.int)) := by rw [← hG, upd_same]
    have TG := hT.ext EG (by simp)
    first | rw [hG'] | erw [hG']
    clear hG hG'
    walk_at "rd"
    refine ⟨len2 (by show 3 ≤ 1000; decide), fun p hp => ?_⟩
    have npt : p ≠ t := TG.ne hp
    have npl : p ≠ lf := (ne_of_none lG hp).symm
    walk_at "rd"
    refine r_draw (TG.ext (ts := []) (.laid hp) (by simp)) (by omega) (by decide) (by decide) fun r1 H1 a1 b1 T1 e1 k1 => ?_
    have hpL : SqL K H1 p (([3, 3, 8] : List Int).map V.int) := SqL.of (by rw [k1 p npt, upd_same]; rfl)
    obtain ⟨n8, hn8, en8⟩ := atI_ints (ns := [3, 3, 8]) a1 b1
    have hn8' : 3 ≤ n8 ∧ n8 ≤ 8 := by
      simp only [List.mem_cons, List.not_mem_nil, or_false] at hn8
      omega
    refine r_ixL hpL en8 ?_
    walk_at "rd"
    refine r_draw T1 (by omega) (by omega) (by omega) fun r2 H2 a2 b2 T2 e2 k2 => ?_
    have l2 : H2 lf = some (.lst (([0, 1, 2, 3, 4, 5, 6, 7] : List Int).map V.int)) := by rw [k2 lf nlt, k1 lf nlt, upd_ne npl.symm]; exact lG
    have E2 : Ext [t] H H2 := (EG.mono (by simp)).trans ((Ext.laid hp).trans (e1.trans e2))
    walk_at "rd"
    refine ⟨1 + r2, rfl, by omega, by omega, fun bx hbx => ?_⟩
    have nbt : bx ≠ t := T2.ne hbx
    have nbl : bx ≠ lf := (ne_of_none l2 hbx).symm
    refine loop_range (lo := 0) (n := (1 + r2).toNat) (fun i σ' H' => ∃ (o : Option V) (left bs : List Int), σ' = [o, some (.ref lf), some (.ref t)] ∧ left.length + i = 8 ∧ bs.length = i ∧ (∀ b ∈ left, 0 ≤ b ∧ b < 8) ∧ (∀ b ∈ bs, 0 ≤ b ∧ b < 8) ∧ H' lf = some (.lst (left.map V.int)) ∧ H' bx = some (.lst (bs.map V.int)) ∧ Tape H' t (k + 2 + i) ∧ Ext [t] H H') ?_ ?_ ?_
    · refine ⟨none, [0, 1, 2, 3, 4, 5, 6, 7], [], rfl, rfl, rfl, by decide, (fun _ h => absurd h (by simp)), ?_, upd_same, ?_, E2.trans (.laid hbx)⟩
      · rw [upd_ne nbl.symm]; exact l2
      · exact T2.ext (ts := []) (.laid hbx) (by simp)
    · rintro i σ' H' R hi ⟨o, left, bs, rfl, hll, hbl, hleft, hbs, hL, hBx, T', E'⟩ hR
      walk_at "rd"
      refine iteT ?_
      walk_at "rd"
      refine r_tyL hL ?_
      walk_at "rd"
      refine ⟨lf, _, rfl, .inl (SqL.of hL), ?_⟩
      rw [List.length_map]
      walk_at "rd"
      refine r_draw T' (by omega) (by omega) (by omega) fun r3 H3 a3 b3 T3 e3 k3 => ?_
      have l3 : H3 lf = some (.lst (left.map V.int)) := by rw [k3 lf nlt]; exact hL
      have b3x : H3 bx = some (.lst (bs.map V.int)) := by rw [k3 bx nbt]; exact hBx
      obtain ⟨j, rfl⟩ := Int.eq_ofNat_of_zero_le a3
      have hj : j < left.length := by omega
      walk_at "rd"
      refine ⟨lf, left.map V.int, (j : Int), j, V.int left[j], rfl, rfl, l3, by omega, by omega, ?_, by rw [List.getElem?_map, List.getElem?_eq_getElem hj]; rfl, ?_⟩
      · rw [List.length_map]
        exact seq_ix hj
      · refine ⟨bs.map V.int, by rw [upd_ne nbl]; exact b3x, small1000 (by rw [List.length_map]; omega), hR _ _ ?_⟩
        have hmem : left[j] ∈ left := List.getElem_mem hj
        refine ⟨_, left.eraseIdx j, bs ++ [left[j]], rfl, ?_, ?_, fun b hb => hleft b (List.mem_of_mem_eraseIdx hb), fun b hb => ?_, ?_, ?_, ?_, ?_⟩
        · rw [List.length_eraseIdx, if_pos hj]; omega
        · rw [List.length_append, hbl]; rfl
        · rcases List.mem_append.mp hb with y | y
          · exact hbs b y
          · rw [List.mem_singleton.mp y]; exact hleft _ hmem
        · rw [upd_ne nbl.symm, upd_same, map_erase]
        · rw [upd_same, List.map_append]; rfl
        · exact ((T3.ext (ts := [lf]) (.put (by simp)) (by simpa using nlt.symm)).ext (ts := [bx]) (.put (by simp)) (by simpa using nbt.symm)).mono (by omega)
        · have hbx0 : H bx = none := by
            cases z : H bx with
            | none => rfl
            | some o => rw [E2 _ _ (by simpa using nbt) z] at hbx; cases hbx
          have E4 : Ext [lf, bx, t] H (upd (upd H3 lf (.lst ((left.map V.int).eraseIdx j))) bx (.lst (bs.map V.int ++ [V.int left[j]]))) := (E'.mono (by simp)).trans ((e3.mono (by simp)).trans ((Ext.put (by simp)).trans (.put (by simp))))
          exact (E4.drop hlf0).drop hbx0
    · rintro σ' H3 ⟨o, left, bs, rfl, hll, hbl, hleft, hbs, hL, hBx, T3, E3⟩
      have hB : BsOk bs := ⟨by omega, by omega, hbs⟩
      walk_at "rd"
      refine ⟨len2 (Nat.zero_le _), fun l hl => ?_⟩
      have nlT : l ≠ t := T3.ne hl
      have nlb : l ≠ bx := (ne_of_none hBx hl).symm
      have hlH : H l = none := E3.none (by simpa using nlT) hl
      walk_at "rd"
      refine ⟨t, _, m, rfl, T3.ext (ts := []) (.laid hl) (by simp), by omega, m1, m2, fun nl nx H4 hnl T4 e4 hNx hDn => ?_⟩
      obtain ⟨a, vs, ea, hSq, hDL⟩ := hDn.ofList
      cases ea
      have nnl : nl ≠ l := (ne_of_none upd_same hnl).symm
      have hlen := hDL.len
      rw [List.length_map] at hlen
      have hnm : (nx.length : Int) = m := hNx.1
      have l4 : H4 l = some (.lst []) := e4 _ _ (by simpa using nlT) upd_same
      have E4 : Ext [t] H H4 := E3.trans ((Ext.laid hl).trans e4)
      have apart : Same (yo (upd H3 l (.lst [])) [t] H4) (yo (upd H3 l (.lst [])) [l, t] H4) := yo_apart (H0 := H) (by simp [upd_same])
      have hSq4 := Same.seq apart hSq
      have hDL4 := hDL.mono apart
      have bx4 : H4 bx = some (.lst (bs.map V.int)) := e4 _ _ (by simpa using nbt) (by rw [upd_ne nlb.symm]; exact hBx)
      refine ⟨nl, rfl, ⟨vs, yo_same.seq hSq4⟩, for_list (xs := vs) (fun i σ' H' => ∃ (wk : List Blk) (ws : List V) (o9 o10 : Option V), σ' = [some (.ref t), some (.int m), some (.int most), some (.int first), some (.int works), some (.ref lf), some (.int (1 + r2)), some (.ref bx), some (.ref l), o9, o10] ∧ wk.length = i ∧
        (∀ b ∈ wk, BlkOk m works b ∧ b.ds.length ≤ 12) ∧ Tape H' t (k + 45 + 140 * i) ∧ Ext [l, t] H4 H' ∧ H' l = some (.lst ws) ∧ DenL K (yo H [l, t] H') (wk.map blkD) ws) ?_ ?_ ?_ ?_⟩
      · exact ⟨[], [], none, none, rfl, rfl, (fun _ h => absurd h (by simp)), T4.mono (by omega), .refl _ _, l4, .nil⟩
      · rintro i σ' H' hi ⟨wk, ws, o9, o10, rfl, hwl, hwk, T', e', hl', hden⟩
        exact yo_same.seq (Same.seq e'.young hSq4)
      · rintro i x σ' H' hx ⟨wk, ws, o9, o10, rfl, hwl, hwk, T', e', hl', hden⟩
        obtain ⟨dd, hdd, hDx⟩ := hDL4.get hx
        have hi : i < vs.length := (List.getElem?_eq_some_iff.mp hx).1
        obtain ⟨ns, hns, rfl⟩ : ∃ ns, nx[i]? = some ns ∧ dd = intsD ns := by
          rw [List.getElem?_map] at hdd
          cases z : nx[i]? with
          | none => rw [z] at hdd; cases hdd
          | some n => rw [z] at hdd; exact ⟨n, rfl, (Option.some.inj hdd).symm⟩
        have hok : NsOk m ns := hNx.2 ns (List.mem_of_getElem? hns)
        obtain ⟨c, zs, rfl, hc, hcs⟩ := hDx.ofList
        have hzs := hcs.ints
        subst hzs
        have hwl' : ws.length = i := by rw [hden.len, List.length_map, hwl]
        have hc' : SqL K H' c (ns.map V.int) := yo_same.seq (Same.seq e'.young hc)
        have tail : ∀ (en : Addr) (H6 : Hp), Ext [] H' H6 → H' en = none → Den K (yo H [l, t] H6) (endD ns) (.ref en) → ∀ D : Ends, (∀ (H7 : Hp) (o9 o10 : Option V), (∃ (wk : List Blk) (ws : List V) (p9 p10 : Option V), [some (V.ref t), some (.int m), some (.int most), some (.int first), some (.int works), some (.ref lf), some (.int (1 + r2)), some (.ref bx), some (.ref l), o9, o10] = [some (.ref t), some (.int m), some (.int most), some (.int first), some (.int works), some (.ref lf), some (.int (1 + r2)), some (.ref bx), some (.ref l), p9, p10] ∧ wk.length = i + 1 ∧
            (∀ b ∈ wk, BlkOk m works b ∧ b.ds.length ≤ 12) ∧ Tape H7 t (k + 45 + 140 * (i + 1)) ∧ Ext [l, t] H4 H7 ∧ H7 l = some (.lst ws) ∧ DenL K (yo H [l, t] H7) (wk.map blkD) ws) → D.nx [some (V.ref t), some (.int m), some (.int most), some (.int first), some (.int works), some (.ref lf), some (.int (1 + r2)), some (.ref bx), some (.ref l), o9, o10] H7) →
            tDrop (tBM K "list" rAppend (tVar 8) (tCons (tTup (tCons (tCall (spDeeds K) [] E0 (tCons (tVar 0) (tCons (tVar 2) (tCons (tVar 7) (tCons (tVar 3) (tCons (tVar 4) tNil)))))) (tCons (tVar 10) tNil))) tNil)) D [some (V.ref t), some (.int m), some (.int most), some (.int first), some (.int works), some (.ref lf), some (.int (1 + r2)), some (.ref bx), some (.ref l), some (.ref c), some (.ref en)] H6 := by
          intro en H6 e6 hen hDe D hD
          have l6 := e6 _ _ (by simp) hl'
          walk_at "rd"
          refine r_tyL l6 ?_
          walk_at "rd"
          refine ⟨t, bx, _, most, first, works, bs, rfl, T'.ext e6 (by simp), by omega, hm1, hm2, hf1, hf2, hw1, hw2, e6 _ _ (by simp) (e' _ _ (by simp [nbt, nlb.symm]) bx4), nbt, hB, fun dl ds H7 hdl T7 e7 hds hdf hDd => ?_⟩
          have l7 := e7 _ _ (by simpa using nlT) l6
          have ndl : dl ≠ l := (ne_of_none l6 hdl).symm
          have EH : Ext [l, t] H H6 := (E4.mono (by simp)).trans (e'.trans (e6.mono (by simp)))
          have hDd' : Den K (yo H [l, t] H7) (.list (ds.map deedD)) (.ref dl) := (hDd.mono (yo_apart (H0 := H) (us := [l, t]) (by simp [l6]))).mono (yo_older EH (by simp))
          walk_at "rd"
          refine ⟨len2 (by show 2 ≤ 1000; decide), fun p hp => ?_⟩
          have npl : p ≠ l := (ne_of_none l7 hp).symm
          have npt : p ≠ t := T7.ne hp
          walk_at "rd"
          refine r_app (by rw [upd_ne npl.symm]; exact l7) (small1000 (by omega)) ?_
          refine hD _ _ _ ⟨wk ++ [⟨ds, ns⟩], ws ++ [.ref p], _, _, rfl, by rw [List.length_append, hwl]; rfl, fun b hb => ?_, ?_, ?_, upd_same, ?_⟩
          · rcases List.mem_append.mp hb with y | y
            · exact hwk b y
            · rw [List.mem_singleton.mp y]; exact ⟨⟨hok, hds, Nat.le_trans hdf (by decide)⟩, hdf⟩
          · exact ((T7.ext (ts := []) (.laid hp) (by simp)).ext (ts := [l]) (.put (by simp)) (by simpa using nlT.symm)).mono (by omega)
          · exact e'.trans ((e6.mono (by simp)).trans ((e7.mono (by simp)).trans ((Ext.laid hp).trans (.put (by simp)))))
          · have E7 : Ext [l, t] H7 (upd (upd H7 p (.tup [.ref dl, .ref en])) l (.lst (ws ++ [.ref p]))) := (Ext.laid hp).trans (.put (by simp))
            have E67 : Ext [l, t] H6 (upd (upd H7 p (.tup [.ref dl, .ref en])) l (.lst (ws ++ [.ref p]))) := (e7.mono (by simp)).trans E7
            rw [List.map_append]
            refine DenL.append (hden.mono ((e6.mono (by simp)).trans E67).young) (.cons (.tuple (SqT.of ?_) (.cons (hDd'.mono E7.young) (.cons (hDe.mono E67.young) .nil))) .nil)
            rw [yo_out ((EH.trans (e7.mono (by simp))).none (by simp [npl, npt]) hp) (by simp [npl, npt]), upd_ne npl, upd_same]
        have nT : ∀ {en : Addr}, H' en = none → en ≠ t ∧ en ≠ l ∧ H en = none := fun {en} h => by
          have a1 := T'.ne h
          have a2 := (ne_of_none hl' h).symm
          exact ⟨a1, a2, ((E4.mono (us := [l, t]) (by simp)).trans e').none (by simp [a1, a2]) h⟩
        walk_at "rd"
        refine ⟨len2 (Nat.zero_le _), fun e0 he0 => ?_⟩
        have E0 : Ext [] H' (upd H' e0 (.lst [])) := .laid he0
        have hc0 : SqL K (upd H' e0 (.lst [])) c (ns.map V.int) := Same.seq (fun b o h => E0 b o (by simp) h) hc'
        rcases hok with h | ⟨x, h, _⟩ | ⟨x, y, h, _⟩
        · subst h
          refine ⟨intsD [], .list [], .list hc0 (DenL.ofInts []), .list (SqL.of upd_same) .nil, rfl, rfl, ?_⟩
          walk_at "rd"
          refine iteT ?_
          walk_at "rd"
          refine ⟨len2 (by show 1 ≤ 1000; decide), fun en hen => ?_⟩
          have hen' := E0.none (by simp) hen
          obtain ⟨z1, z2, z3⟩ := nT hen'
          refine r_gn (tail en _ (E0.trans (.laid hen)) hen' (.tuple (SqT.of ?_) (.cons .str .nil)) _ fun H7 o9 o10 h => h)
          rw [yo_out z3 (by simp [z1, z2]), upd_same]
        · subst h
          refine ⟨intsD [x], .list [], .list hc0 (DenL.ofInts [x]), .list (SqL.of upd_same) .nil, rfl, rfl, ?_⟩
          walk_at "rd"
          refine iteF ?_
          walk_at "rd"
          refine ⟨c, _, rfl, .inl hc0, ?_⟩
          walk_at "rd"
          refine r_eqI ?_
          walk_at "rd"
          refine iteT ?_
          walk_at "rd"
          refine ⟨len2 (by show 2 ≤ 1000; decide), fun en hen => ?_⟩
          have hen' := E0.none (by simp) hen
          obtain ⟨z1, z2, z3⟩ := nT hen'
          refine r_gn (tail en _ (E0.trans (.laid hen)) hen' (.tuple (SqT.of ?_) (.cons .str (.cons .int .nil))) _ fun H7 o9 o10 h => h)
          rw [yo_out z3 (by simp [z1, z2]), upd_same]
        · subst h
          refine ⟨intsD [x, y], .list [], .list hc0 (DenL.ofInts [x, y]), .list (SqL.of upd_same) .nil, rfl, rfl, ?_⟩
          walk_at "rd"
          refine iteF ?_
          walk_at "rd"
          refine ⟨c, _, rfl, .inl hc0, ?_⟩
          walk_at "rd"
          refine r_eqI ?_
          walk_at "rd"
          refine iteF ?_
          walk_at "rd"
          refine ⟨len2 (by show 3 ≤ 1000; decide), fun en hen => ?_⟩
          have hen' := E0.none (by simp) hen
          obtain ⟨z1, z2, z3⟩ := nT hen'
          refine r_gn (tail en _ (E0.trans (.laid hen)) hen' (.tuple (SqT.of ?_) (.cons .str (.cons .int (.cons .int .nil)))) _ fun H7 o9 o10 h => h)
          rw [yo_out z3 (by simp [z1, z2]), upd_same]
      · rintro σ' H' ⟨wk, ws, o9, o10, rfl, hwl, hwk, T', e', hl', hden⟩
        walk_at "rd"
        have EH : Ext [l, t] H H' := (E4.mono (by simp)).trans e'
        exact q l wk ws H' hlH nlT (T'.mono (by omega)) (EH.drop hlH) ⟨by omega, fun b hb => (hwk b hb).1⟩ (fun b hb => (hwk b hb).2) hl' hden
end
end Fs
set_option maxRecDepth 100000
set_option maxHeartbeats 1000000
namespace Fs
open PySem L2
section
variable {P : Program} {w : World} {K : PySem.W.Frag} {mg : Str → Option Value} {base : Heap}
abbrev sWorks : Stmt := top 20
theorem scWorks : FnScope ["_law_tape_here", "_law_most", "_law_works_here", "_law_found", "_law_first", "_law_many_here"] ["_law_tape_here", "_law_most"] (defScope sWorks) := ⟨rfl, rfl, rfl, by decide +kernel, rfl, by decide +kernel, by decide +kernel⟩
theorem ok_works {f : Addr} {fd : FuncData} (F : Fun K "_law_works" "_law_works" sWorks f fd) (nrange : mg "range" = none) (nint : mg "int" = none) (hD : Has P w K mg base "_law_draw" 1 ["_law_tape_here", "_law_many_here"] spDraw)
    (hM : Has P w K mg base "_law_many" 2 ["_law_tape_here"] spMany) (hW : Has P w K mg base "_law_work" 4 ["_law_tape_here", "_law_many_here", "_law_most", "_law_first", "_law_works_here"] (spWork K)) :
    FnOk P w K mg base CX0 5 f fd ["_law_tape_here", "_law_most"] (spWorks K) := by
  refine F.ok scWorks (fun vs H Q E h => ?_) (fun cdv A outer s H vs Q E hr h => ?_)
  · obtain ⟨t, k, most, rfl, _⟩ := h
    rfl
  · obtain ⟨t, k, most, rfl, hT, hk, hm1, hm2, q⟩ := h
    refine ⟨_, pss_cons (ps_set (i := 2) scWorks.nd rfl (Or.inl rfl) (pe_ix ix_list (pe_lst (pa_cons (pe_op op_add pe_int (pe_fn hD hr (by decide) (pa_cons (pv 0) (pa_cons pe_int pa_nil)))) (pa_cons (pe_op op_add pe_int (pe_fn hD hr (by decide) (pa_cons (pv 0) (pa_cons pe_int pa_nil)))) pa_nil)))
        (pe_callTy call_int1 (by rfl) nint PyProof.Rows.boot_int (pa_cons (pe_cmpR op_eq (pe_fn hD hr (by decide) (pa_cons (pv 0) (pa_cons pe_int pa_nil))) pe_int (nomark _)) pa_nil)) (fun _ _ => rfl)))
      (pss_cons (ps_set (i := 3) scWorks.nd rfl (Or.inl rfl) (pe_lst pa_nil))
      (pss_cons (ps_for PassesOwn.never rfl (pi_range1 rfl nrange (pa_cons (pv 2) pa_nil)) (pg_name (i := 4) scWorks.nd rfl (Or.inl rfl))
        (pss_cons (ps_set (i := 5) scWorks.nd rfl (Or.inl rfl) (pe_ifExp (pt_cmpR op_lt (pv 2) pe_int (nomark _)) (pe_fn hM hr (by decide) (pa_cons (pv 0) pa_nil)) (pe_op op_add pe_int (pe_fn hD hr (by decide) (pa_cons (pv 0) (pa_cons pe_int pa_nil))))))
        (pss_one (ps_expr (pe_bm PySem.F.plainAttrs_list PySem.F.slot_list_append PySem.F.type_list_append mt_append (pv 3) (pa_cons (pe_fn hW hr (by decide) (pa_cons (pv 0) (pa_cons (pv 5) (pa_cons (pv 1) (pa_cons (pv 4) (pa_cons (pv 2) pa_nil)))))) pa_nil))))))
      (pss_one (ps_ret (pv 3))))), ?_⟩
    dsimp only [nox_K]
    walk_at "rd"
    refine r_draw hT (by omega) (by decide) (by decide) fun r1 H1 a1 b1 T1 e1 _ => ?_
    walk_at "rd"
    refine r_draw T1 (by omega) (by decide) (by decide) fun r2 H2 a2 b2 T2 e2 _ => ?_
    walk_at "rd"
    refine ⟨len2 (by show 2 ≤ 1000; decide), fun p hp => ?_⟩
    have np : p ≠ t := T2.ne hp
    walk_at "rd"
    refine r_draw (T2.ext (.laid (ts := []) hp) (by simp)) (by omega) (by decide) (by decide) fun r3 H3 a3 b3 T3 e3 k3 => ?_
    walk_at "rd"
    refine r_eqI ?_
    walk_at "rd"
    refine .inr ⟨_, rfl, ?_⟩
    have e4 : Ext [t] H H3 := (e1.trans e2).trans ((Ext.laid hp).trans e3)
    have hL : SqL K H3 p [V.int (1 + r1), V.int (5 + r2)] := SqL.of (by rw [k3 p np, upd_same])
    obtain ⟨n, hn1, hn2, en⟩ : ∃ n : Int, 1 ≤ n ∧ n ≤ 10 ∧ atI [V.int (1 + r1), V.int (5 + r2)] (if decide (r3 = 0) = true then (1 : Int) else 0) = some (.int n) := by
      cases c : decide (r3 = 0) with
      | true => exact ⟨5 + r2, by omega, by omega, rfl⟩
      | false => exact ⟨1 + r1, by omega, by omega, rfl⟩
    refine r_ixL hL en ?_
    clear en hL k3 e3 hp np
    walk_at "rd"
    refine ⟨len2 (Nat.zero_le _), fun l hl => ?_⟩
    have nlt : l ≠ t := T3.ne hl
    have hlH : H l = none := e4.none (by simpa using nlt) hl
    walk_at "rd"
    refine ⟨n, rfl, by omega, by omega, for_range (lo := 0) (n := n.toNat) (fun i σ' H' => ∃ (as : List Addr) (ws : List (List Blk)) (o4 o5 : Option V), σ' = [some (.ref t), some (.int most), some (.int n), some (.ref l), o4, o5] ∧ as.length = i ∧ (∀ w ∈ ws, ∃ m : Int, 1 ≤ m ∧ m ≤ 12 ∧ WorkOk m n w) ∧ (∀ w ∈ ws, ∀ b ∈ w, b.ds.length ≤ 12) ∧
      l ∉ as ∧ (∀ a ∈ as, H a = none ∧ a ≠ t) ∧ as.Nodup ∧ Tape H' t (k + 3 + 2003 * i) ∧ Ext [l, t] H3 H' ∧ H' l = some (.lst (as.map V.ref)) ∧ WorksAt K (yo H (l :: t :: as) H') H' as ws) ?_ ?_ ?_⟩
    · exact ⟨[], [], _, _, rfl, rfl, by simp, by simp, by simp, by simp, .nil, T3.ext (ts := []) (.laid hl) (by simp), .laid hl, upd_same, .nil⟩
    · rintro i σ' H' hi ⟨as, ws, o4, o5, rfl, hal, hws, hfew, hla, has, hnd, T', e', hl', hA⟩
      have hin : i < 10 := by omega
      have EH : Ext [l, t] H H' := (e4.mono (by simp)).trans e'
      walk_at "rd"
      have fin : ∀ (m : Int) (H5 H6 : Hp) (a : Addr) (w1 : List Blk) (bs : List V), 1 ≤ m → m ≤ 12 → Ext [t] H' H5 → H5 a = none → a ≠ t → Tape H6 t (k + 3 + 2003 * (i + 1)) → Ext [t] H5 H6 → WorkOk m n w1 → (∀ b ∈ w1, b.ds.length ≤ 12) → H6 a = some (.lst bs) → DenL K (yo H5 [a, t] H6) (w1.map blkD) bs → ∀ o4 o5 : Option V,
          H6 l = some (.lst (as.map V.ref)) ∧ ∃ (as' : List Addr) (ws' : List (List Blk)) (o4' o5' : Option V), [some (V.ref t), some (.int most), some (.int n), some (.ref l), o4, o5] = [some (V.ref t), some (.int most), some (.int n), some (.ref l), o4', o5'] ∧ as'.length = i + 1 ∧ (∀ w ∈ ws', ∃ m : Int, 1 ≤ m ∧ m ≤ 12 ∧ WorkOk m n w) ∧ (∀ w ∈ ws', ∀ b ∈ w, b.ds.length ≤ 12) ∧
          l ∉ as' ∧ (∀ a ∈ as', H a = none ∧ a ≠ t) ∧ as'.Nodup ∧ Tape (upd H6 l (.lst (as.map V.ref ++ [V.ref a]))) t (k + 3 + 2003 * (i + 1)) ∧ Ext [l, t] H3 (upd H6 l (.lst (as.map V.ref ++ [V.ref a]))) ∧ (upd H6 l (.lst (as.map V.ref ++ [V.ref a]))) l = some (.lst (as'.map V.ref)) ∧ WorksAt K (yo H (l :: t :: as') (upd H6 l (.lst (as.map V.ref ++ [V.ref a])))) (upd H6 l (.lst (as.map V.ref ++ [V.ref a]))) as' ws' := by
        intro m H5 H6 a w1 bs hm1 hm2 e5 ha nat T6 e6 hw1 hf1 hba hden o4 o5
        have l5 : H5 l = some (.lst (as.map V.ref)) := e5 _ _ (by simpa using nlt) hl'
        have l6 : H6 l = some (.lst (as.map V.ref)) := e6 _ _ (by simpa using nlt) l5
        have nal : a ≠ l := (ne_of_none l5 ha).symm
        have haH' : H' a = none := e5.none (by simpa using nat) ha
        have haH : H a = none := EH.none (by simp [nal, nat]) haH'
        have naas : a ∉ as := fun hm => by
          obtain ⟨j, hj, e⟩ := List.getElem_of_mem hm
          obtain ⟨_, bs', _, hb', _⟩ := hA.get (i := j) (a := a) (by rw [List.getElem?_eq_getElem hj, e])
          rw [haH'] at hb'; cases hb'
        have E6 : Ext [l, t] H' (upd H6 l (.lst (as.map V.ref ++ [V.ref a]))) := (e5.mono (by simp)).trans ((e6.mono (by simp)).trans (.put (by simp)))
        refine ⟨l6, as ++ [a], ws ++ [w1], o4, o5, rfl, by rw [List.length_append, hal]; rfl, ?_, ?_, by simp [hla, nal.symm], ?_, ?_, ?_, e'.trans E6, by rw [upd_same, List.map_append]; rfl, ?_⟩
        · intro w hw
          rcases List.mem_append.mp hw with z | z
          · exact hws w z
          · rw [List.mem_singleton.mp z]; exact ⟨m, hm1, hm2, hw1⟩
        · intro w hw
          rcases List.mem_append.mp hw with z | z
          · exact hfew w z
          · rw [List.mem_singleton.mp z]; exact hf1
        · intro b hb
          rcases List.mem_append.mp hb with z | z
          · exact has b z
          · rw [List.mem_singleton.mp z]; exact ⟨haH, nat⟩
        · exact List.nodup_append.mpr ⟨hnd, by simp, by intro x hx y hy; simp at hy; subst hy; intro e; subst e; exact naas hx⟩
        · exact T6.ext (ts := [l]) (.put (by simp)) (by simpa using nlt.symm)
        · have key : Same (yo H (l :: t :: as) H') (yo H (l :: t :: (as ++ [a])) (upd H6 l (.lst (as.map V.ref ++ [V.ref a])))) := fun b o e => by
            obtain ⟨h1, h2, h3⟩ := yo_some e
            have nb : b ≠ a := fun z => by rw [z, haH'] at h3; cases h3
            have h2' : b ∉ [l, t] := fun z => h2 (by rcases List.mem_cons.mp z with z | z <;> simp_all)
            rw [yo_out h1 (fun z => h2 (by
              rcases List.mem_cons.mp z with z | z
              · simp [z]
              · rcases List.mem_cons.mp z with z | z
                · simp [z]
                · rcases List.mem_append.mp z with z | z
                  · simp [z]
                  · exact absurd (by simpa using z) nb))]
            exact E6 _ _ h2' h3
          refine (hA.mono key fun b hb o e => ?_).snoc (bs := bs) ?_ (hden.mono fun b o e => ?_)
          · have nbl : b ≠ l := fun z => hla (z ▸ hb)
            exact E6 _ _ (by simp [nbl, (has b hb).2]) e
          · rw [upd_ne nal]; exact hba
          · obtain ⟨h1, h2, h3⟩ := yo_some e
            have nbl : b ≠ l := fun z => by rw [z, l5] at h1; cases h1
            have nbt : b ≠ t := fun z => h2 (by simp [z])
            have nba : b ≠ a := fun z => h2 (by simp [z])
            have h1' : H' b = none := e5.none (by simpa using nbt) h1
            rw [yo_out (EH.none (by simp [nbl, nbt]) h1') (by
              intro z
              rcases List.mem_cons.mp z with z | z
              · exact nbl z
              · rcases List.mem_cons.mp z with z | z
                · exact nbt z
                · rcases List.mem_append.mp z with z | z
                  · obtain ⟨j, hj, e⟩ := List.getElem_of_mem z
                    obtain ⟨_, bs', _, hb', _⟩ := hA.get (i := j) (a := b) (by rw [List.getElem?_eq_getElem hj, e])
                    rw [h1'] at hb'; cases hb'
                  · exact nba (by simpa using z)), upd_ne nbl]
            exact h3
      refine ite2 (fun hn5 => ?_) (fun hn5 => ?_)
      · walk_at "rd"
        refine r_int T' (by omega) fun m H5 hm1' hm2' T5 e5 => ?_
        walk_at "rd"
        refine r_tyL (e5 _ _ (by simpa using nlt) hl') ?_
        walk_at "rd"
        refine ⟨t, _, m, most, _, n, rfl, T5, by omega, hm1', hm2', hm1, hm2, by omega, by omega, by omega, by omega, fun a w1 bs H6 ha nat T6 e6 hw1 hf1 hba hden => ?_⟩
        obtain ⟨l6, post⟩ := fin m H5 H6 a w1 bs hm1' hm2' e5 ha nat (T6.mono (by omega)) e6 hw1 hf1 hba hden _ _
        walk_at "rd"
        exact r_app l6 (small1000 (by rw [List.length_map]; omega)) post
      · walk_at "rd"
        refine r_draw T' (by omega) (by decide) (by decide) fun r H5 hm1' hm2' T5 e5 _ => ?_
        walk_at "rd"
        refine r_tyL (e5 _ _ (by simpa using nlt) hl') ?_
        walk_at "rd"
        refine ⟨t, _, 1 + r, most, _, n, rfl, T5, by omega, by omega, by omega, hm1, hm2, by omega, by omega, by omega, by omega, fun a w1 bs H6 ha nat T6 e6 hw1 hf1 hba hden => ?_⟩
        obtain ⟨l6, post⟩ := fin (1 + r) H5 H6 a w1 bs (by omega) (by omega) e5 ha nat (T6.mono (by omega)) e6 hw1 hf1 hba hden _ _
        walk_at "rd"
        exact r_app l6 (small1000 (by rw [List.length_map]; omega)) post
    · rintro σ' H' ⟨as, ws, o4, o5, rfl, hal, hws, hfew, hla, has, hnd, T', e', hl', hA⟩
      walk_at "rd"
      have hwl := hA.len
      exact q l as ws H' hlH nlt hla has hnd (T'.mono (by omega)) ((e4.mono (by simp)).trans e' |>.drop hlH) hl' hA ⟨by rw [show ((ws.length : Nat) : Int) = n by omega]; exact hws, by omega, by omega⟩ hfew
end
end Fs
set_option maxRecDepth 100000
set_option maxHeartbeats 1000000
namespace Fs
open PySem L2
section
variable {P : Program} {w : World} {K : PySem.W.Frag} {mg : Str → Option Value} {base : Heap}
structure LedT (H : Hp) (d du : Addr) (N : Pl → List Pl) (starts U ks due : List Pl) (H' : Hp) : Prop where
  ext : Ext [] H H'
  hd : H' d = some (.dT (trueD ks))
  hdu : ∃ vs, H' du = some (.lst vs) ∧ PlsAt H' vs due
  nod : ks.Nodup
  rk : ∀ x ∈ ks, ∃ s ∈ starts, RT N s x
  rd : ∀ x ∈ due, ∃ s ∈ starts, RT N s x
  clo : ∀ k ∈ ks, ∀ c ∈ N k, c ∈ ks ∨ c ∈ due
  one : ∀ s ∈ starts, s ∈ ks ∨ s ∈ due
  fewd : due.length ≤ 5000 + 5000 * ks.length
def LedWT (H : Hp) (st nd d du : Addr) (N : Pl → List Pl) (starts U : List Pl) (μ : Nat) (σ' : St) (H' : Hp) : Prop := ∃ (ks due : List Pl) (o4 : Option V), μ = (U.length - ks.length) * 5001 + due.length ∧ σ' = [some (.ref st), some (.ref nd), some (.ref d), some (.ref du), o4] ∧ LedT H d du N starts U ks due H'
theorem LedT.end_ {H H' : Hp} {d du : Addr} {N : Pl → List Pl} {starts U ks : List Pl} (h : LedT H d du N starts U ks [] H') (x : Pl) : x ∈ ks ↔ ∃ s ∈ starts, RT N s x := by
  have key : ∀ s ∈ starts, ∀ y, RT N s y → y ∈ ks := by
    intro s hs y r
    induction r with
    | refl => exact (h.one s hs).elim id fun z => absurd z (by simp)
    | step _ hc ih => exact (h.clo _ ih _ hc).elim id fun z => absurd z (by simp)
  exact ⟨h.rk x, fun ⟨s, hs, r⟩ => key s hs x r⟩
abbrev sLed : Stmt := top 1
theorem scLed : FnScope ["starts", "nexts", "seen", "due", "place"] ["starts", "nexts"] (defScope sLed) := ⟨rfl, rfl, rfl, by decide +kernel, rfl, by decide +kernel, by decide +kernel⟩
theorem ok_ledT {f : Addr} {fd : FuncData} (F : Fun K "led_to" "led_to" sLed f fd) (nlist : mg "list" = none) : FnOk P w K mg base CX0 1 f fd ["starts", "nexts"] (spLedT K) := by
  refine F.ok scLed (fun vs H Q E h => ?_) (fun cdv A outer s H vs Q E hr h => ?_)
  · obtain ⟨st, nd, svs, starts, U, N, rfl, _⟩ := h
    rfl
  · obtain ⟨st, nd, svs, starts, U, N, rfl, hSt, hPl, hNx, hsU, hcU, hN, hU, hsl, q⟩ := h
    have hu := hu_of hr
    refine ⟨_, pss_cons (ps_set (i := 2) scLed.nd rfl (Or.inl rfl) pe_dnewT)
      (pss_cons (ps_set (i := 3) scLed.nd rfl (Or.inl rfl) (pe_callTy call_list_of (by rfl) nlist PyProof.Rows.boot_list (pa_cons (pv 0) pa_nil)))
      (pss_cons (ps_while PassesOwn.never (pt_truth (pv 3) (fun _ => rfl))
        (pss_cons (ps_set (i := 4) scLed.nd rfl (Or.inl rfl) (pe_bm0 PySem.F.plainAttrs_list PySem.F.slot_list_pop PySem.F.type_list_pop mt_pop (pv 3)))
        (pss_one (ps_if (pt_cmp (pc_dnotin hu (pv 4) (pv 2)))
          (pss_cons (ps_dput hu (pv 2) (pv 4) pe_bl rfl)
          (pss_one (ps_expr (pe_bm PySem.F.plainAttrs_list PySem.F.slot_list_extend PySem.F.type_list_extend mt_extend (pv 3) (pa_cons (pe_dget2 hu (pv 1) (pv 4) (pe_lst pa_nil) ⟨rfl, rfl, rfl, rfl⟩) pa_nil)))))
          pss_nil))))
      (pss_one (ps_ret (pv 2))))), ?_⟩
    dsimp only [nox_K, comp_K]
    walk_at "rd"
    refine (show ∀ p, H p = none → _ from fun d hd => ?_)
    walk_at "rd"
    have E0 : Ext [] H (upd H d (.dT [])) := .laid hd
    refine ⟨st, _, rfl, .inl (E0.toSame.seq hSt), fun du hdu => ?_⟩
    have nd1 : d ≠ du := ne_of_none upd_same hdu
    have hdu0 : H du = none := E0.none (by simp) hdu
    walk_at "rd"
    have st0 : LedT H d du N starts U [] starts (upd (upd H d (.dT [])) du (.lst svs)) := by
      have e : Ext [] H (upd (upd H d (.dT [])) du (.lst svs)) := E0.trans (.laid hdu)
      refine ⟨e, ?_, ⟨svs, upd_same, hPl.mono e.tk⟩, List.nodup_nil, (fun _ h => absurd h (by simp)), fun x hx => ⟨x, hx, .refl⟩, (fun _ h => absurd h (by simp)), fun s hs => .inr hs, by simp; omega⟩
      rw [upd_ne nd1, upd_same]; rfl
    refine ⟨LedWT H st nd d du N starts U, ⟨_, [], starts, none, rfl, rfl, st0⟩, ?_⟩
    rintro μ σ' H' ⟨ks, due, o4, rfl, rfl, I⟩
    obtain ⟨dvs, hdu', hdp⟩ := I.hdu
    refine r_var (v := .ref du) rfl ⟨!dvs.isEmpty, .inl ⟨_, SqL.of hdu', rfl⟩, ?_⟩
    rcases List.eq_nil_or_concat due with h | ⟨init, y, h⟩
    · subst h
      cases hdp
      refine iteF ?_
      walk_at "rd"
      exact q d ks H' hd I.ext I.hd I.nod I.end_
    · have h : due = init ++ [y] := by rw [h, List.concat_eq_append]
      rw [h] at hdp
      obtain ⟨ws, v, rfl, hws, vb, rfl, hvb⟩ := hdp.last
      have he : (!(ws ++ [V.ref vb]).isEmpty) = true := by simp
      rw [he]
      refine iteT ⟨fun σ' H' => ∃ m', m' < (U.length - ks.length) * 5001 + due.length ∧ LedWT H st nd d du N starts U m' σ' H', fun _ _ h => h, ?_⟩
      obtain ⟨s0, hs0, hyr⟩ := I.rd y (by rw [h]; simp)
      have hyU := hyr.within hcU (hsU s0 hs0)
      have hksU : ∀ x ∈ ks, x ∈ U := fun x hx => by
        obtain ⟨s1, hs1, r1⟩ := I.rk x hx
        exact r1.within hcU (hsU s1 hs1)
      have hkl := nodup_le I.nod hksU
      have hdl : due.length = init.length + 1 := by rw [h]; simp
      have hfd := I.fewd
      have hwl := hws.len
      walk_at "rd"
      refine r_tyL hdu' ?_
      refine ⟨du, ws ++ [V.ref vb], .ref vb, rfl, rfl, hdu', by simp, ?_⟩
      rw [List.dropLast_concat]
      have d1 : upd H' du (.lst ws) d = some (.dT (trueD ks)) := by rw [upd_ne nd1]; exact I.hd
      have e1 : Ext [] H (upd H' du (.lst ws)) := ((I.ext.mono (us := [du]) (by simp)).trans (.put (by simp))).drop hdu0
      have u1 : upd H' du (.lst ws) du = some (.lst ws) := upd_same
      have tk1 : TK H' (upd H' du (.lst ws)) := .put (by intro ys z; rw [hdu'] at z; cases z)
      have hws1 := hws.mono tk1
      have hvb1 := tk1 _ _ hvb
      generalize upd H' du (.lst ws) = H1 at d1 e1 u1 tk1 hws1 hvb1 ⊢
      walk_at "rd"
      refine ⟨d, _, rfl, DGet.t (k := plK y) d1 hvb1, ?_⟩
      rw [valV_pl]
      by_cases hy : y ∈ ks
      · rw [if_pos hy]
        refine r_bl (iteF ?_)
        walk_at "rd"
        refine ⟨_, by rw [hdl]; exact Nat.lt_succ_self _, ks, init, _, rfl, rfl, e1, d1, ⟨ws, u1, hws1⟩, I.nod, I.rk, fun x hx => I.rd x (by rw [h]; exact List.mem_append_left _ hx), fun k hk c hc' => ?_, fun s hs => ?_, by omega⟩
        · rcases I.clo k hk c hc' with z | z
          · exact .inl z
          · rw [h] at z
            rcases List.mem_append.mp z with z | z
            · exact .inr z
            · rw [List.mem_singleton.mp z]; exact .inl hy
        · rcases I.one s hs with z | z
          · exact .inl z
          · rw [h] at z
            rcases List.mem_append.mp z with z | z
            · exact .inr z
            · rw [List.mem_singleton.mp z]; exact .inl hy
      · rw [if_neg hy]
        refine r_bl (iteT ?_)
        walk_at "rd"
        refine ⟨d, _, rfl, DPut.t (k := plK y) d1 hvb1 (small3 (by unfold trueD; rw [List.length_map]; omega)), ?_⟩
        have hput : putK (trueD ks) (plK y) (V.bl true) = trueD (ks ++ [y]) := by
          rw [putK_new _ (by rw [valV_pl, if_neg hy])]; unfold trueD; rw [List.map_append]; rfl
        rw [hput]
        have d2 : upd H1 d (.dT (trueD (ks ++ [y]))) d = some (.dT (trueD (ks ++ [y]))) := upd_same
        have e2 : Ext [] H (upd H1 d (.dT (trueD (ks ++ [y])))) := ((e1.mono (us := [d]) (by simp)).trans (.put (by simp))).drop hd
        have u2 : upd H1 d (.dT (trueD (ks ++ [y]))) du = some (.lst ws) := by rw [upd_ne nd1.symm]; exact u1
        have tk2 : TK H1 (upd H1 d (.dT (trueD (ks ++ [y])))) := .put (by intro ys z; rw [d1] at z; cases z)
        have hws2 := hws1.mono tk2
        have hvb2 := tk2 _ _ hvb1
        generalize upd H1 d (.dT (trueD (ks ++ [y]))) = H2 at d2 e2 u2 tk2 hws2 hvb2 ⊢
        have hNx2 := hNx.mono e2
        obtain ⟨kvs, hk1, hk2⟩ := hNx2
        have hnod : (ks ++ [y]).Nodup := by
          rw [List.nodup_append]
          refine ⟨I.nod, by simp, fun x hx z hz => ?_⟩
          rw [List.mem_singleton.mp hz]
          rintro rfl
          exact hy hx
        have hkl2 := nodup_le (l2 := U) hnod fun x hx => by
          rcases List.mem_append.mp hx with z | z
          · exact hksU x z
          · rw [List.mem_singleton.mp z]; exact hyU
        rw [List.length_append, List.length_singleton] at hkl2
        have hNy := hN y
        walk_at "rd"
        refine r_tyL u2 ?_
        walk_at "rd"
        refine ⟨nd, rfl, .inr ⟨kvs, .inl hk1⟩, ?_⟩
        walk_at "rd"
        refine ⟨len2 (Nat.zero_le _), fun e0 he0 => ?_⟩
        have e3 : Ext [] H2 (upd H2 e0 (.lst [])) := .laid he0
        have u3 := e3 _ _ (by simp) u2
        have d3 := e3 _ _ (by simp) d2
        have hws3 := hws2.mono e3.tk
        have EE : Ext [] H (upd H2 e0 (.lst [])) := e2.trans e3
        have he03 : upd H2 e0 (.lst []) e0 = some (.lst []) := upd_same
        have fin : ∀ (c : Addr) (cvs : List V) (H3 : Hp), H3 = upd H2 e0 (.lst []) → H3 c = some (.lst cvs) → PlsAt H3 cvs (N y) → ∀ R : St → Hp → Prop, (∀ σ' H', (∃ m', m' < (U.length - ks.length) * 5001 + due.length ∧ LedWT H st nd d du N starts U m' σ' H') → R σ' H') → ∀ o4 : Option V,
            rExtend (.ref du) [.ref c] H3 (fun _ H4 => R [some (.ref st), some (.ref nd), some (.ref d), some (.ref du), o4] H4) := by
          rintro c cvs H3 rfl hc hcp R hR o4
          have hcl := hcp.len
          refine ⟨du, c, ws, cvs, rfl, rfl, u3, hc, by rw [sizeLine_eq]; omega, hR _ _ ?_⟩
          have tk4 : TK (upd H2 e0 (.lst [])) (upd (upd H2 e0 (.lst [])) du (.lst (ws ++ cvs))) := .put (by intro ys z; rw [u3] at z; cases z)
          refine ⟨_, ?_, ks ++ [y], init ++ N y, _, rfl, rfl, ?_, ?_, ⟨ws ++ cvs, upd_same, (hws3.append hcp).mono tk4⟩, hnod, ?_, ?_, ?_, ?_, ?_⟩
          · rw [List.length_append, List.length_append, List.length_singleton]; omega
          · exact ((EE.mono (us := [du]) (by simp)).trans (.put (by simp))).drop hdu0
          · rw [upd_ne nd1]; exact d3
          · intro x hx
            rcases List.mem_append.mp hx with z | z
            · exact I.rk x z
            · rw [List.mem_singleton.mp z]; exact ⟨s0, hs0, hyr⟩
          · intro x hx
            rcases List.mem_append.mp hx with z | z
            · exact I.rd x (by rw [h]; exact List.mem_append_left _ z)
            · exact ⟨s0, hs0, .step hyr z⟩
          · intro k hk c' hc'
            rcases List.mem_append.mp hk with z | z
            · rcases I.clo k z c' hc' with t | t
              · exact .inl (List.mem_append_left _ t)
              · rw [h] at t
                rcases List.mem_append.mp t with t | t
                · exact .inr (List.mem_append_left _ t)
                · exact .inl (List.mem_append_right _ t)
            · rw [List.mem_singleton.mp z] at hc'
              exact .inr (List.mem_append_right _ hc')
          · intro s hs
            rcases I.one s hs with t | t
            · exact .inl (List.mem_append_left _ t)
            · rw [h] at t
              rcases List.mem_append.mp t with t | t
              · exact .inr (List.mem_append_left _ t)
              · exact .inl (List.mem_append_right _ t)
          · rw [List.length_append, List.length_append, List.length_singleton]; omega
        have hvb3 := e3.tk _ _ hvb2
        rcases hk2 y with ⟨z1, z2⟩ | ⟨c, cvs, c1, c2, c3⟩
        · refine ⟨none, ?_, ?_⟩
          · have := DGet.t (k := plK y) (e3 _ _ (by simp) hk1) hvb3
            rw [z1] at this
            exact this
          walk_at "rd"
          exact fin e0 [] _ rfl he03 (by rw [z2]; exact .nil) _ (fun _ _ z => z) _
        · refine ⟨some (.ref c), ?_, ?_⟩
          · have := DGet.t (k := plK y) (e3 _ _ (by simp) hk1) hvb3
            rw [c1] at this
            exact this
          walk_at "rd"
          exact fin c cvs _ rfl (e3 _ _ (by simp) c2) (c3.mono e3.tk) _ (fun _ _ z => z) _
end
end Fs
set_option maxRecDepth 100000
set_option maxHeartbeats 1000000
namespace Fs
open PySem L2
section
variable {P : Program} {w : World} {K : PySem.W.Frag} {mg : Str → Option Value} {base : Heap}
abbrev sWrites : Stmt := top 6
abbrev sReads : Stmt := top 7
theorem scWrites : FnScope ["deed", "box"] ["deed", "box"] (defScope sWrites) := ⟨rfl, rfl, rfl, by decide +kernel, rfl, by decide +kernel, by decide +kernel⟩
theorem scReads : FnScope ["deed", "box"] ["deed", "box"] (defScope sReads) := ⟨rfl, rfl, rfl, by decide +kernel, rfl, by decide +kernel, by decide +kernel⟩
theorem r_andV {ta tb : TE} {σ : St} {H : Hp} {Q : VK} (h : ta σ H fun x H1 => ∃ c, x = .bl c ∧ if c = true then tb σ H1 Q else Q (.bl false) H1) : tAndV ta tb σ H Q := h
theorem r_orV {ta tb : TE} {σ : St} {H : Hp} {Q : VK} (h : ta σ H fun x H1 => ∃ c, x = .bl c ∧ if c = true then Q (.bl true) H1 else tb σ H1 Q) : tOrV ta tb σ H Q := h
theorem deed_open {K : PySem.W.Frag} {H : Hp} {d : Deed} {v : V} (h : Den K H (deedD d) v) : ∃ p, v = .ref p ∧ SqT K H p (V.str (dword d) :: (dargs d).map V.int) := by
  rw [deed_is] at h
  obtain ⟨p, ps, rfl, hp, hps⟩ := h.ofTuple
  obtain ⟨v1, q1, rfl, hv1, hq1⟩ := hps.ofCons
  have z1 := hv1.ofStr
  have z2 := hq1.ints
  subst z1 z2
  exact ⟨p, rfl, hp⟩
theorem at_arg (d : Deed) : atI (V.str (dword d) :: (dargs d).map V.int) ((1 : Nat) : Int) = some (V.int (darg d)) := by
  obtain ⟨r, hr⟩ := dargs_head d
  rw [hr]
  exact atI_nat rfl
theorem ok_writes {f wa : Addr} {fd : FuncData} (F : Fun K "writes_box" "writes_box" sWrites f fd) (hWr : mg "WRITING" = some (.ref wa)) (hWt : Writing K wa) : FnOk P w K mg base CX0 1 f fd ["deed", "box"] (spDeedB wrB K) := by
  refine F.ok scWrites (fun vs H Q E h => ?_) (fun cdv A outer s H vs Q E hr h => ?_)
  · obtain ⟨v, d, x, rfl, _⟩ := h
    rfl
  · obtain ⟨v, d, x, rfl, hd, q⟩ := h
    refine ⟨_, pss_one (ps_ret (pe_and (pe_cmpR op_in_seq (pe_ix ix_tup (pv 0) pe_int (fun _ _ => rfl)) (pe_glob (v := .ref wa) rfl hWr rfl) rfl) (pe_one (pe_cmpR op_eq (pe_ix ix_tup (pv 0) pe_int (fun _ _ => rfl)) (pv 1) (nomark _))))), ?_⟩
    dsimp only [nox_K]
    obtain ⟨p, rfl, hp⟩ := deed_open hd
    walk_at "rd"
    refine r_andV ?_
    walk_at "rd"
    refine r_ixT hp (show atI _ ((0 : Nat) : Int) = some (V.str (dword d)) from atI_nat rfl) ?_
    walk_at "rd"
    refine ⟨wa, [V.str "set", .str "add"], rfl, .inr (.inr hWt), rfl, rfl, ?_⟩
    rw [if_neg Bool.false_ne_true, deed_in]
    refine ⟨_, rfl, ?_⟩
    have hq := q H (.refl _ _)
    unfold wrB at hq
    cases hw : (wr d).isSome with
    | true =>
      rw [hw] at hq
      refine iteT ?_
      walk_at "rd"
      refine r_ixT hp (at_arg d) ?_
      walk_at "rd"
      exact r_eqI hq
    | false =>
      rw [hw] at hq
      exact iteF hq
theorem ok_reads {f wa : Addr} {fd : FuncData} (F : Fun K "reads_box" "reads_box" sReads f fd) (hWr : mg "READING" = some (.ref wa)) (hWt : Reading K wa) : FnOk P w K mg base CX0 1 f fd ["deed", "box"] (spDeedB rdB K) := by
  refine F.ok scReads (fun vs H Q E h => ?_) (fun cdv A outer s H vs Q E hr h => ?_)
  · obtain ⟨v, d, x, rfl, _⟩ := h
    rfl
  · obtain ⟨v, d, x, rfl, hd, q⟩ := h
    refine ⟨_, pss_one (ps_ret (pe_and (pe_cmpR op_in_seq (pe_ix ix_tup (pv 0) pe_int (fun _ _ => rfl)) (pe_glob (v := .ref wa) rfl hWr rfl) rfl) (pe_one (pe_cmpR op_in_seq (pv 1) (pe_slice sl_tup (pv 0) (po_some pe_int) po_none) rfl)))), ?_⟩
    dsimp only [nox_K]
    obtain ⟨p, rfl, hp⟩ := deed_open hd
    walk_at "rd"
    refine r_andV ?_
    walk_at "rd"
    refine r_ixT hp (show atI _ ((0 : Nat) : Int) = some (V.str (dword d)) from atI_nat rfl) ?_
    walk_at "rd"
    refine ⟨wa, [V.str "add", .str "tell"], rfl, .inr (.inr hWt), rfl, rfl, ?_⟩
    rw [if_neg Bool.false_ne_true, deed_read]
    refine ⟨_, rfl, ?_⟩
    cases hw : isRead d with
    | true =>
      refine iteT ?_
      walk_at "rd"
      refine ⟨1, rfl, ?_⟩
      walk_at "rd"
      refine ⟨p, _, rfl, hp, ?_, fun p2 hp2 => ?_⟩
      · intro h
        have := h.1
        revert this
        have hn : (V.str (dword d) :: (dargs d).map V.int).length = (dargs d).length + 1 := by simp
        have := (dargs_len d).1
        rw [hn]
        unfold HT.sIx
        simp
        try omega
      rw [cut1]
      refine ⟨p2, (dargs d).map V.int, rfl, .inr (SqT.of upd_same), rfl, flat_ints _, ?_⟩
      rw [if_neg Bool.false_ne_true, inV_ints]
      have hq := q _ (Ext.laid (o := .tup ((dargs d).map V.int)) hp2)
      unfold rdB at hq
      rw [hw] at hq
      exact hq
    | false =>
      have hq := q H (.refl _ _)
      unfold rdB at hq
      rw [hw] at hq
      exact iteF hq
end
end Fs
set_option maxRecDepth 100000
set_option maxHeartbeats 1000000
namespace Fs
open PySem L2
section
variable {P : Program} {w : World} {K : PySem.W.Frag} {mg : Str → Option Value} {base : Heap}
theorem cut_take (xs : List V) (n : Nat) : cutV xs none (some (n : Int)) = xs.take n := by
  unfold cutV
  rw [HT.sIx_none, HT.sIx_nat, List.drop_zero, Nat.sub_zero]
  by_cases h : n ≤ xs.length
  · rw [Nat.min_eq_left h]
  · rw [Nat.min_eq_right (by omega), List.take_of_length_le (Nat.le_refl _), List.take_of_length_le (by omega)]
theorem DenL.taken {K : PySem.W.Frag} {G : Hp} : ∀ {ds : List PyData} {vs : List V} (n : Nat), DenL K G ds vs → DenL K G (ds.take n) (vs.take n)
  | [], vs, n, h => by have := h.ofNil; subst this; simpa using DenL.nil
  | d :: ds, vs, 0, h => by simpa using DenL.nil
  | d :: ds, vs, n + 1, h => by
    obtain ⟨v, r, rfl, h1, h2⟩ := h.ofCons
    exact .cons h1 (DenL.taken n h2)
def spTill (K : PySem.W.Frag) : Sp := fun vs H Q _ => ∃ (v : V) (ds : List Deed) (x : Int), vs = [v, .int x] ∧ Den K H (.list (ds.map deedD)) v ∧ ds.length ≤ 100 ∧
  ∀ (l : Addr) (us : List V) (H' : Hp), H l = none → Ext [] H H' → H' l = some (.lst us) → DenL K H' ((till x ds).map deedD) us → Q (.ref l) H'
abbrev sTill : Stmt := top 8
theorem scTill : FnScope ["deeds", "box", "at", "deed"] ["deeds", "box"] (defScope sTill) := ⟨rfl, rfl, rfl, by decide +kernel, rfl, by decide +kernel, by decide +kernel⟩
theorem ok_till {f : Addr} {fd : FuncData} (F : Fun K "till_write" "till_write" sTill f fd) (nenum : mg "enumerate" = none) (nlist : mg "list" = none) (hWr : Has P w K mg base "writes_box" 1 ["deed", "box"] (spDeedB wrB K)) : FnOk P w K mg base CX0 2 f fd ["deeds", "box"] (spTill K) := by
  refine F.ok scTill (fun vs H Q E h => ?_) (fun cdv A outer s H vs Q E hr h => ?_)
  · obtain ⟨v, ds, x, rfl, _⟩ := h
    rfl
  · obtain ⟨v, ds, x, rfl, hd, hl, q⟩ := h
    refine ⟨_, pss_cons (ps_for PassesOwn.never rfl (pi_enum rfl nenum (pa_cons (pv 0) pa_nil)) (pg_tup (n := 2) rfl (pgs_cons (pg_name (i := 2) scTill.nd rfl (Or.inl rfl)) (pgs_cons (pg_name (i := 3) scTill.nd rfl (Or.inl rfl)) pgs_nil)))
        (pss_one (ps_if (pt_truthK K rfl (pe_fn hWr hr (by decide) (pa_cons (pv 3) (pa_cons (pv 1) pa_nil))) (fun _ => rfl)) (pss_one (ps_ret (pe_slice sl_list (pv 0) po_none (po_some (pe_op op_add (pv 2) pe_int))))) pss_nil)))
      (pss_one (ps_ret (pe_callTy call_list_of (by rfl) nlist PyProof.Rows.boot_list (pa_cons (pv 0) pa_nil)))), ?_⟩
    dsimp only [nox_K, comp_K]
    obtain ⟨a, dvs, rfl, hSq, hDL⟩ := hd.ofList
    have hvl : dvs.length = ds.length := by rw [hDL.len, List.length_map]
    walk_at "rd"
    refine ⟨a, rfl, ⟨dvs, hSq⟩, for_enum (xs := dvs) (fun i σ' H' => ∃ (o2 o3 : Option V), σ' = [some (.ref a), some (.int x), o2, o3] ∧ Ext [] H H' ∧ ∀ e ∈ ds.take i, wrB x e = false) ?_ ?_ ?_ ?_⟩
    · exact ⟨_, _, rfl, .refl _ _, by simp⟩
    · rintro i σ' H' hi ⟨o2, o3, rfl, e', hno⟩
      exact e'.toSame.seq hSq
    · rintro i y σ' H' pt hy ⟨o2, o3, rfl, e', hno⟩ hpt
      obtain ⟨dd, hdd, hDy⟩ := hDL.get hy
      obtain ⟨d, hd, rfl⟩ := map_get hdd
      have hi : i < ds.length := (List.getElem?_eq_some_iff.mp hd).1
      have e2 : Ext [] H' (upd H' pt (.tup [.int i, y])) := .laid hpt
      refine r_gtup (SqT.of upd_same) rfl ?_
      have E2 := e'.trans e2
      generalize upd H' pt (.tup [.int i, y]) = H2 at e2 E2 ⊢
      walk_at "rd"
      refine ⟨y, d, x, rfl, hDy.mono E2.toSame, fun H3 e3 => ?_⟩
      refine ⟨wrB x d, rfl, ?_⟩
      cases hw : wrB x d with
      | true =>
        refine iteT ?_
        walk_at "rd"
        refine ⟨(i : Int) + 1, rfl, ?_⟩
        refine ⟨a, dvs, rfl, (E2.trans e3).toSame.seq hSq, fun l hl => ?_⟩
        rw [show (i : Int) + 1 = ((i + 1 : Nat) : Int) by omega, cut_take]
        have E3 := E2.trans e3
        refine q l _ _ (E3.none (by simp) hl) (E3.trans (.laid hl)) upd_same ?_
        rw [till_first hno hd hw, List.map_take]
        exact DenL.taken _ (hDL.mono (E3.trans (.laid hl)).toSame)
      | false =>
        refine iteF ?_
        walk_at "rd"
        refine ⟨_, _, rfl, E2.trans e3, fun e he => ?_⟩
        rw [take_get hd] at he
        rcases List.mem_append.mp he with z | z
        · exact hno e z
        · rw [List.mem_singleton.mp z]; exact hw
    · rintro σ' H' ⟨o2, o3, rfl, e', hno⟩
      rw [hvl, List.take_length] at hno
      walk_at "rd"
      refine ⟨a, dvs, rfl, .inl (e'.toSame.seq hSq), fun l hl => ?_⟩
      refine q l _ _ (e'.none (by simp) hl) (e'.trans (.laid hl)) upd_same ?_
      rw [till_none hno]
      exact hDL.mono (e'.trans (.laid hl)).toSame
end
end Fs
set_option maxRecDepth 100000
set_option maxHeartbeats 1000000
namespace Fs
open PySem L2
section
variable {P : Program} {w : World} {K : PySem.W.Frag} {mg : Str → Option Value} {base : Heap}
abbrev sBegins : Stmt := top 9
theorem scBegins : FnScope ["works", "number", "at", "box", "deeds", "end", "met"] ["works", "number", "at", "box"] (defScope sBegins) := ⟨rfl, rfl, rfl, by decide +kernel, rfl, by decide +kernel, by decide +kernel⟩
theorem endD_is' {m : Int} {ns : List Int} (h : NsOk m ns) : ∃ wd : Str, endD ns = .tuple (.str wd :: ns.map .int) ∧ True := by
  rcases h with z | ⟨x, z, _⟩ | ⟨x, y, z, _⟩ <;> subst z
  · exact ⟨_, rfl, True.intro⟩
  · exact ⟨_, rfl, True.intro⟩
  · exact ⟨_, rfl, True.intro⟩
theorem open_blk {H : Hp} {wa : Addr} {ws : List (List Blk)} {n a : Nat} {b : Blk} (hW : Den K H (worksD ws) (.ref wa)) (hb : blkAt ws ((n : Int), (a : Int)) = some b) :
    ∃ (vs bs : List V) (wb pb : Addr) (dl : Addr) (dvs : List V) (ve : V), SqL K H wa vs ∧ atI vs (n : Int) = some (.ref wb) ∧ SqL K H wb bs ∧ atI bs (a : Int) = some (.ref pb) ∧ SqT K H pb [.ref dl, ve] ∧ SqL K H dl dvs ∧ DenL K H (b.ds.map deedD) dvs ∧ Den K H (endD b.ns) ve := by
  rw [blkAt_nat] at hb
  cases hw : ws[n]? with
  | none => rw [hw] at hb; cases hb
  | some w1 =>
    rw [hw] at hb
    have hb : w1[a]? = some b := hb
    obtain ⟨wa', vs, ea, hvs, hdvs⟩ := hW.ofList
    cases ea
    obtain ⟨v1, hv1, hd1⟩ := hdvs.get' (i := n) (d := workD w1) (by rw [List.getElem?_map, hw]; rfl)
    obtain ⟨wb, bs, rfl, hbs, hdbs⟩ := hd1.ofList
    obtain ⟨v2, hv2, hd2⟩ := hdbs.get' (i := a) (d := blkD b) (by rw [List.getElem?_map, hb]; rfl)
    obtain ⟨pb, cs, rfl, hc, hcs⟩ := hd2.ofTuple
    obtain ⟨vd, q1, rfl, hdd, hr1⟩ := hcs.ofCons
    obtain ⟨ve, q2, rfl, hde, hr2⟩ := hr1.ofCons
    have hr2 := hr2.ofNil
    subst hr2
    obtain ⟨dl, dvs, rfl, hdl, hdd2⟩ := hdd.ofList
    exact ⟨vs, bs, wb, pb, dl, dvs, ve, hvs, atI_nat hv1, hbs, atI_nat hv2, hc, hdl, hdd2, hde⟩
theorem ok_begins {f : Addr} {fd : FuncData} (F : Fun K "begins_met" "begins_met" sBegins f fd) (nany : mg "any" = none) (hTw : Has P w K mg base "till_write" 2 ["deeds", "box"] (spTill K)) (hWr : Has P w K mg base "writes_box" 1 ["deed", "box"] (spDeedB wrB K)) : FnOk P w K mg base CX0 3 f fd ["works", "number", "at", "box"] (spBegins K) := by
  refine F.ok scBegins (fun vs H Q E h => ?_) (fun cdv A outer s H vs Q E hr h => ?_)
  · obtain ⟨wa, ws, n, b, x, rfl, _⟩ := h
    rfl
  · obtain ⟨wa, ws, n, a, x, rfl, hW, hok, hpl, q⟩ := h
    refine ⟨_, pss_cons (ps_asg (pe_ix ix_list (pe_ix ix_list (pv 0) (pv 1) (fun _ _ => rfl)) (pv 2) (fun _ _ => rfl)) (pg_tup (n := 2) rfl (pgs_cons (pg_name (i := 4) scBegins.nd rfl (Or.inl rfl)) (pgs_cons (pg_name (i := 5) scBegins.nd rfl (Or.inl rfl)) pgs_nil))))
      (pss_cons (ps_lc (i := 6) ["deed"] [] rfl (.of rfl) scBegins.nd rfl (Or.inl rfl) (pi_list (pe_fn hTw hr (by decide) (pa_cons (pv 4) (pa_cons (pv 3) pa_nil)))) (fun _ _ _ _ => pg_name (i := 0) (by show ((["deed"] : List Str)).Nodup; decide) rfl (Or.inl rfl)) (fun _ _ _ _ => .cons (pt_cmpR op_eq (pe_ix (ix_tupK K rfl) (pv 0) pe_int (fun _ _ => rfl)) pe_str (nomark _)) .nil) (fun _ _ _ _ => pe_tup (pa_cons (pe_ix (ix_tupK K rfl) (pv 0) pe_int (fun _ _ => rfl)) (pa_cons pe_int pa_nil))))
      (pss_cons (ps_if (pt_not (pt_truthK K rfl (pe_callB (call_anyB hr.hd) (by rfl) nany PyProof.Rows.boot_any (pa_cons (pe_lc ["deed"] [3] rfl (.of rfl) (pi_list (pv 4)) (fun _ _ _ _ => pg_name (i := 0) (by show ((["deed", "box"] : List Str)).Nodup; decide) rfl (Or.inl rfl)) (fun _ _ _ _ => .nil) (fun _ _ _ _ => pe_fn hWr hr (by decide) (pa_cons (pv 0) (pa_cons (pv 1) pa_nil)))) pa_nil)) (fun _ => rfl)))
        (pss_one (ps_expr (pe_bm PySem.F.plainAttrs_list PySem.F.slot_list_extend PySem.F.type_list_extend mt_extend (pv 6) (pa_cons (pe_lc ["to"] [1] rfl (.of rfl) (pi_tup (pe_slice sl_tup (pv 5) (po_some pe_int) po_none)) (fun _ _ _ _ => pg_name (i := 0) (by show ((["to", "number"] : List Str)).Nodup; decide) rfl (Or.inl rfl)) (fun _ _ _ _ => .nil) (fun _ _ _ _ => pe_tup (pa_cons (pv 1) (pa_cons (pv 0) pa_nil)))) pa_nil)))) pss_nil)
      (pss_one (ps_ret (pv 6))))), ?_⟩
    dsimp only [nox_K, comp_K]
    obtain ⟨b, hb⟩ := mem_places.mp hpl
    obtain ⟨m, n', w1, hp1, hw1, hm, hm1, hm2, hbok⟩ := hok.blk hb
    obtain ⟨vs, bs, wb, pb, dl, dvs, ve, s1, s2, s3, s4, s5, s6, s7, s8⟩ := open_blk hW hb
    walk_at "rd"
    refine r_ixL s1 s2 ?_
    walk_at "rd"
    refine r_ixL s3 s4 ?_
    refine r_gtup s5 rfl ?_
    walk_at "rd"
    have hds := hbok.few
    refine ⟨.ref dl, b.ds, x, rfl, .list s6 s7, by omega, fun lt tvs H1 hlt e1 hlt1 hden1 => ?_⟩
    have htl : tvs.length = (till x b.ds).length := by rw [hden1.len, List.length_map]
    have htl2 := till_len x b.ds
    refine ⟨lt, rfl, ⟨_, SqL.of hlt1⟩, fun l hl => ?_⟩
    have nltl : lt ≠ l := ne_of_none hlt1 hl
    refine loop_list (xs := tvs) (fun j σ' G => ∃ (o0 : Option V) (us : List V), σ' = [o0] ∧ Ext [l] H1 G ∧ G l = some (.lst us) ∧ PlsAt G us ((((till x b.ds).take j).filterMap callOf).map fun c => (c, 0))) ?_ ?_ ?_ ?_
    · exact ⟨none, [], rfl, .laid hl, upd_same, .nil⟩
    · rintro j σ' G hj ⟨o0, us, rfl, eG, hlG, hus⟩
      exact SqL.of (eG _ _ (by simpa using nltl) hlt1)
    · rintro j y σ' G R hy ⟨o0, us, rfl, eG, hlG, hus⟩ hR
      obtain ⟨dd, hdd, hDy⟩ := hden1.get hy
      obtain ⟨d, hd, rfl⟩ := map_get hdd
      obtain ⟨p, rfl, hp⟩ := deed_open hDy
      have hpG := (eG.drop hl).toSame.seqT hp
      have hjl : j < (till x b.ds).length := (List.getElem?_eq_some_iff.mp hd).1
      have hul := hus.len
      have hfl := List.length_filterMap_le callOf ((till x b.ds).take j)
      rw [List.length_take] at hfl
      rw [List.length_map] at hul
      have htake : ((till x b.ds).take (j + 1)).filterMap callOf = ((till x b.ds).take j).filterMap callOf ++ [d].filterMap callOf := by rw [take_get hd, List.filterMap_append]
      walk_at "rd"
      refine r_ixT hpG (show atI _ ((0 : Nat) : Int) = some (V.str (dword d)) from atI_nat rfl) ?_
      walk_at "rd"
      refine r_eqS ?_
      rw [deed_call]
      walk_at "rd"
      cases hw : isCall d with
      | true =>
        refine iteT (iteT ?_)
        walk_at "rd"
        refine r_ixT hpG (at_arg d) ?_
        walk_at "rd"
        refine ⟨len2 (by show 2 ≤ 1000; decide), fun p2 hp2 => ?_⟩
        have np2 : p2 ≠ l := (ne_of_none hlG hp2).symm
        have tk : TK G (upd (upd G p2 (.tup [.int (darg d), .int 0])) l (.lst (us ++ [.ref p2]))) := (Ext.laid hp2).tk.trans (.put (by intro ys z; rw [upd_ne np2.symm, hlG] at z; cases z))
        refine ⟨us, by rw [upd_ne np2.symm]; exact hlG, small1000 (by omega), hR _ _ ⟨_, us ++ [.ref p2], rfl, eG.trans ((Ext.laid hp2).trans (.put (by simp))), upd_same, ?_⟩⟩
        rw [htake, List.filterMap_cons, call_of d hw, List.map_append]
        exact (hus.mono tk).append (.one (by rw [upd_ne np2, upd_same]))
      | false =>
        refine iteF (iteF (hR _ _ ⟨_, us, rfl, eG, hlG, ?_⟩))
        have hn : callOf d = none := by
          unfold isCall at hw
          cases z : callOf d with
          | none => rfl
          | some y => rw [z] at hw; cases hw
        rw [htake, List.filterMap_cons, hn, List.filterMap_nil, List.append_nil]
        exact hus
    · rintro σ' G ⟨o0, us, rfl, eG, hlG, hus⟩
      rw [htl, List.take_length] at hus
      have EG : Ext [] H G := e1.trans (eG.drop hl)
      have hlH : H l = none := e1.none (by simp) hl
      have hul := hus.len
      have hfl := List.length_filterMap_le callOf (till x b.ds)
      rw [List.length_map] at hul
      walk_at "rd"
      have s6G := EG.toSame.seq s6
      refine ⟨dl, rfl, ⟨_, s6G⟩, fun lc hlc => ?_⟩
      have nlc : l ≠ lc := ne_of_none hlG hlc
      refine loop_list (xs := dvs) (fun j σ' G2 => ∃ (o0 : Option V), σ' = [o0, some (.int x)] ∧ Ext [lc] G G2 ∧ G2 lc = some (.lst (((b.ds.take j).map (wrB x)).map V.bl))) ?_ ?_ ?_ ?_
      · exact ⟨none, rfl, .laid hlc, upd_same⟩
      · rintro j σ' G2 hj ⟨o0, rfl, e2, hlc2⟩
        exact (e2.drop hlc).toSame.seq s6G
      · rintro j y σ' G2 R hy ⟨o0, rfl, e2, hlc2⟩ hR
        obtain ⟨dd, hdd, hDy⟩ := s7.get hy
        obtain ⟨d, hd, rfl⟩ := map_get hdd
        have hjl : j < b.ds.length := (List.getElem?_eq_some_iff.mp hd).1
        walk_at "rd"
        refine iteT ?_
        walk_at "rd"
        refine ⟨y, d, x, rfl, hDy.mono (EG.trans (e2.drop hlc)).toSame, fun H3 e3 => ?_⟩
        refine ⟨_, e3 _ _ (by simp) hlc2, small1000 (by rw [List.length_map, List.length_map, List.length_take]; omega), hR _ _ ⟨_, rfl, e2.trans ((e3.mono (by simp)).trans (.put (by simp))), ?_⟩⟩
        rw [upd_same, take_get hd, List.map_append, List.map_append]; rfl
      · rintro σ' G2 ⟨o0, rfl, e2, hlc2⟩
        have hdvl : dvs.length = b.ds.length := by rw [s7.len, List.length_map]
        rw [hdvl, List.take_length] at hlc2
        walk_at "rd"
        refine ⟨lc, b.ds.map (wrB x), rfl, SqL.of hlc2, ?_⟩
        refine ⟨wrote x b.ds, ?_, ?_⟩
        · have e : (b.ds.map (wrB x)).any id = wrote x b.ds := by unfold wrote; rw [List.any_map]; rfl
          rw [e]; rfl
        have EG2 : Ext [] G G2 := e2.drop hlc
        have hl2 := EG2 _ _ (by simp) hlG
        have hus2 := hus.mono EG2.tk
        have hmet : metOf ws x ((n : Int), (a : Int)) = metB x n b := by unfold metOf; rw [hb]
        cases hw : wrote x b.ds with
        | true =>
          refine iteF ?_
          walk_at "rd"
          refine q l us G2 hlH (EG.trans EG2) hl2 ?_
          rw [hmet]
          unfold metB
          rw [hw, if_pos rfl, List.append_nil]
          exact hus2
        | false =>
          refine iteT ?_
          walk_at "rd"
          refine r_tyL hl2 ?_
          walk_at "rd"
          obtain ⟨wd, hwd, _⟩ := endD_is' hbok.ns
          rw [hwd] at s8
          obtain ⟨en, es', rfl, hen, hes⟩ := s8.ofTuple
          obtain ⟨v3, r3, rfl, hd3, hr3⟩ := hes.ofCons
          have e3 := hd3.ofStr
          subst e3
          have e4 := hr3.ints
          subst e4
          have hnf := hbok.ns.few
          refine ⟨1, rfl, ?_⟩
          walk_at "rd"
          refine ⟨en, _, rfl, (EG.trans EG2).toSame.seqT hen, ?_, fun p hp => ?_⟩
          · intro h
            have := h.1
            revert this
            have hn : (V.str wd :: b.ns.map V.int).length = b.ns.length + 1 := by simp
            rw [hn]
            unfold HT.sIx
            simp
            try omega
          rw [cut1]
          have e3 : Ext [] G2 (upd G2 p (.tup (b.ns.map V.int))) := .laid hp
          have hl3 := e3 _ _ (by simp) hl2
          have hus3 := hus2.mono e3.tk
          have hp3 : upd G2 p (.tup (b.ns.map V.int)) p = some (.tup (b.ns.map V.int)) := upd_same
          generalize upd G2 p (.tup (b.ns.map V.int)) = G3 at e3 hl3 hus3 hp3 ⊢
          refine ⟨p, rfl, ⟨_, SqT.of hp3⟩, fun le hle => ?_⟩
          have npl : p ≠ le := ne_of_none hp3 hle
          have nle : l ≠ le := ne_of_none hl3 hle
          refine loop_tup (xs := b.ns.map V.int) (fun j σ' G4 => ∃ (o0 : Option V) (ts : List V), σ' = [o0, some (.int n)] ∧ Ext [le] G3 G4 ∧ G4 le = some (.lst ts) ∧ PlsAt G4 ts ((b.ns.take j).map fun t => ((n : Int), t))) ?_ ?_ ?_ ?_
          · exact ⟨none, [], rfl, .laid hle, upd_same, .nil⟩
          · rintro j σ' G4 hj ⟨o0, ts, rfl, e4, hle4, hts⟩
            exact SqT.of (e4 _ _ (by simpa using npl) hp3)
          · rintro j y σ' G4 R hy ⟨o0, ts, rfl, e4, hle4, hts⟩ hR
            obtain ⟨t, ht, rfl⟩ := map_get hy
            have hj : j < b.ns.length := (List.getElem?_eq_some_iff.mp ht).1
            have htl := hts.len
            rw [List.length_map, List.length_take] at htl
            walk_at "rd"
            refine iteT ?_
            walk_at "rd"
            refine ⟨len2 (by show 2 ≤ 1000; decide), fun p2 hp2 => ?_⟩
            have np2 : p2 ≠ le := (ne_of_none hle4 hp2).symm
            have tk : TK G4 (upd (upd G4 p2 (.tup [.int n, .int t])) le (.lst (ts ++ [.ref p2]))) := (Ext.laid hp2).tk.trans (.put (by intro ys z; rw [upd_ne np2.symm, hle4] at z; cases z))
            refine ⟨ts, by rw [upd_ne np2.symm]; exact hle4, small1000 (by omega), hR _ _ ⟨_, ts ++ [.ref p2], rfl, e4.trans ((Ext.laid hp2).trans (.put (by simp))), upd_same, ?_⟩⟩
            rw [take_get ht, List.map_append]
            exact (hts.mono tk).append (.one (by rw [upd_ne np2, upd_same]))
          · rintro σ' G4 ⟨o0, ts, rfl, e4, hle4, hts⟩
            rw [List.length_map, List.take_length] at hts
            have htl := hts.len
            rw [List.length_map] at htl
            have EG4 := e4.drop hle
            have hl4 := EG4 _ _ (by simp) hl3
            walk_at "rd"
            refine ⟨l, le, us, ts, rfl, rfl, hl4, hle4, len2 (by omega), ?_⟩
            walk_at "rd"
            have tk : TK G4 (upd G4 l (.lst (us ++ ts))) := .put (by intro ys z; rw [hl4] at z; cases z)
            refine q l (us ++ ts) _ hlH ?_ upd_same ?_
            · exact ((((EG.trans EG2).trans (e3.trans EG4)).mono (us := [l]) (by simp)).trans (.put (by simp))).drop hlH
            · rw [hmet]
              unfold metB
              rw [hw, if_neg Bool.false_ne_true]
              exact ((hus3.mono EG4.tk).append hts).mono tk
end
end Fs
set_option maxRecDepth 100000
set_option maxHeartbeats 1000000
namespace Fs
open PySem L2
section
variable {P : Program} {w : World} {K : PySem.W.Frag} {mg : Str → Option Value} {base : Heap}
def placesTo (ws : List (List Blk)) (n : Nat) : List Pl := (List.range n).flatMap fun (n : Nat) => (List.range ((ws[n]?).getD []).length).map fun (a : Nat) => ((n : Int), (a : Int))
theorem placesTo_succ {ws : List (List Blk)} {n : Nat} {w : List Blk} (h : ws[n]? = some w) : placesTo ws (n + 1) = placesTo ws n ++ (List.range w.length).map fun (a : Nat) => ((n : Int), (a : Int)) := by
  unfold placesTo
  rw [List.range_succ, List.flatMap_append]
  simp [h]
theorem row_succ (n a : Nat) : ((List.range (a + 1)).map fun (a : Nat) => ((n : Int), (a : Int))) = ((List.range a).map fun (a : Nat) => ((n : Int), (a : Int))) ++ [((n : Int), (a : Int))] := by
  rw [List.range_succ, List.map_append]; rfl
theorem r_seqC {t u : TS} {D : Ends} {σ : St} {H : Hp} (C : St → Hp → Prop) (h2 : ∀ σ' H', C σ' H' → u D σ' H') (h1 : (∀ σ' H', C σ' H' → u D σ' H') → t { D with nx := u D } σ H) : tSeq t u D σ H := h1 h2
theorem r_ds2 {td ty tx : TE} {σ : St} {H : Hp} {Q : VK} (h : td σ H fun x H1 => ∃ a, x = .ref a ∧ IsD H1 a ∧ ty σ H1 fun y H2 => tx σ H2 fun z H3 => ∃ kvs k b, y = .ref b ∧ H3 a = some (.dT kvs) ∧ H3 b = some (.tup (k.map kV)) ∧ kvs.length < sizeLine ∧
  (∀ v, valV kvs k = some v → Q v H3) ∧ (valV kvs k = none → Q z (upd H3 a (.dT (putK kvs k z))))) : tDSet2 td ty tx σ H Q := h
theorem dn_nodup (ws : List (List Blk)) (n a : Nat) (hn : n < ws.length) : (placesTo ws n ++ (List.range a).map fun (a : Nat) => ((n : Int), (a : Int))).Nodup := by
  have row : ∀ (k l : Nat), ((List.range l).map fun (a : Nat) => ((k : Int), (a : Int))).Nodup := fun k l => List.Pairwise.map _ (fun x y h z => h (by have := (Prod.mk.inj z).2; omega)) List.nodup_range
  have fst : ∀ (k : Nat) (p : Pl), p ∈ placesTo ws k → p.1 < (k : Int) := fun k p hp => by
    obtain ⟨j, hj, h⟩ := List.mem_flatMap.mp hp
    obtain ⟨b, _, rfl⟩ := List.mem_map.mp h
    have := List.mem_range.mp hj
    show (j : Int) < k
    omega
  have all : ∀ k : Nat, (placesTo ws k).Nodup := by
    intro k
    induction k with
    | zero => exact List.nodup_nil
    | succ k ih =>
      unfold placesTo at ih ⊢
      rw [List.range_succ, List.flatMap_append, List.nodup_append]
      refine ⟨ih, by simpa using row k _, fun x hx y hy e => ?_⟩
      have h1 := fst k x hx
      simp only [List.flatMap_cons, List.flatMap_nil, List.append_nil] at hy
      obtain ⟨b, _, rfl⟩ := List.mem_map.mp hy
      rw [e] at h1
      have h1 : (k : Int) < k := h1
      omega
  rw [List.nodup_append]
  refine ⟨all n, row n a, fun x hx y hy e => ?_⟩
  have h1 := fst n x hx
  obtain ⟨b, _, rfl⟩ := List.mem_map.mp hy
  rw [e] at h1
  have h1 : (n : Int) < n := h1
  omega
abbrev sAwait : Stmt := top 10
theorem scAwait : FnScope ["works", "box", "readers", "behind", "number", "work", "at", "deeds", "end", "place"] ["works", "box"] (defScope sAwait) := ⟨rfl, rfl, rfl, by decide +kernel, rfl, by decide +kernel, by decide +kernel⟩
theorem ok_await {f : Addr} {fd : FuncData} (F : Fun K "awaiting" "awaiting" sAwait f fd) (nenum : mg "enumerate" = none) (nany : mg "any" = none) (hTw : Has P w K mg base "till_write" 2 ["deeds", "box"] (spTill K)) (hRd : Has P w K mg base "reads_box" 1 ["deed", "box"] (spDeedB rdB K))
    (hBg : Has P w K mg base "begins_met" 3 ["works", "number", "at", "box"] (spBegins K)) (hLd : Has P w K mg base "led_to" 1 ["starts", "nexts"] (spLedT K)) : FnOk P w K mg base CX0 4 f fd ["works", "box"] (spAwait K) := by
  refine F.ok scAwait (fun vs H Q E h => ?_) (fun cdv A outer s H vs Q E hr h => ?_)
  · obtain ⟨wa, ws, x, rfl, _⟩ := h
    rfl
  · obtain ⟨wa, ws, x, rfl, hW, hok, q⟩ := h
    have hu := hu_of hr
    refine ⟨_, pss_cons (ps_set (i := 2) scAwait.nd rfl (Or.inl rfl) (pe_lst pa_nil))
      (pss_cons (ps_set (i := 3) scAwait.nd rfl (Or.inl rfl) pe_dnewT)
      (pss_cons (ps_for PassesOwn.never rfl (pi_enum rfl nenum (pa_cons (pv 0) pa_nil)) (pg_tup (n := 2) rfl (pgs_cons (pg_name (i := 4) scAwait.nd rfl (Or.inl rfl)) (pgs_cons (pg_name (i := 5) scAwait.nd rfl (Or.inl rfl)) pgs_nil)))
        (pss_one (ps_for PassesOwn.never rfl (pi_enum rfl nenum (pa_cons (pv 5) pa_nil)) (pg_tup (n := 2) rfl (pgs_cons (pg_name (i := 6) scAwait.nd rfl (Or.inl rfl)) (pgs_cons (pg_tup (n := 2) rfl (pgs_cons (pg_name (i := 7) scAwait.nd rfl (Or.inl rfl)) (pgs_cons (pg_name (i := 8) scAwait.nd rfl (Or.inl rfl)) pgs_nil))) pgs_nil)))
          (pss_cons (ps_if (pt_truthK K rfl (pe_callB (call_anyB hr.hd) (by rfl) nany PyProof.Rows.boot_any (pa_cons (pe_lc ["deed"] [1] rfl (.of rfl) (pi_list (pe_fn hTw hr (by decide) (pa_cons (pv 7) (pa_cons (pv 1) pa_nil)))) (fun _ _ _ _ => pg_name (i := 0) (by show ((["deed", "box"] : List Str)).Nodup; decide) rfl (Or.inl rfl)) (fun _ _ _ _ => .nil) (fun _ _ _ _ => pe_fn hRd hr (by decide) (pa_cons (pv 0) (pa_cons (pv 1) pa_nil)))) pa_nil)) (fun _ => rfl))
            (pss_one (ps_expr (pe_bm PySem.F.plainAttrs_list PySem.F.slot_list_append PySem.F.type_list_append mt_append (pv 2) (pa_cons (pe_tup (pa_cons (pv 4) (pa_cons (pv 6) pa_nil))) pa_nil)))) pss_nil)
          (pss_one (ps_for PassesOwn.never rfl (pi_list (pe_fn hBg hr (by decide) (pa_cons (pv 0) (pa_cons (pv 4) (pa_cons (pv 6) (pa_cons (pv 1) pa_nil)))))) (pg_name (i := 9) scAwait.nd rfl (Or.inl rfl))
            (pss_one (ps_expr (pe_bm PySem.F.plainAttrs_list PySem.F.slot_list_append PySem.F.type_list_append mt_append (pe_dset2 hu (pv 3) (pv 9) (pe_lst pa_nil) ⟨rfl, rfl, rfl, rfl⟩) (pa_cons (pe_tup (pa_cons (pv 4) (pa_cons (pv 6) pa_nil))) pa_nil))))))))))
      (pss_one (ps_ret (pe_fn hLd hr (by decide) (pa_cons (pv 2) (pa_cons (pv 3) pa_nil))))))), ?_⟩
    dsimp only [nox_K, comp_K]
    walk_at "rd"
    refine ⟨len2 (Nat.zero_le _), fun rd hrd => ?_⟩
    walk_at "rd"
    refine (show ∀ p, _ = none → _ from fun nd hnd => ?_)
    walk_at "rd"
    have nrn : rd ≠ nd := ne_of_none upd_same hnd
    have hndH : H nd = none := by rw [upd_ne nrn.symm] at hnd; exact hnd
    have E1 : Ext [] H (upd (upd H rd (.lst [])) nd (.dT [])) := (Ext.laid hrd).trans (.laid hnd)
    have rd1 : upd (upd H rd (.lst [])) nd (.dT []) rd = some (.lst []) := by rw [upd_ne nrn, upd_same]
    have nd1 : upd (upd H rd (.lst [])) nd (.dT []) nd = some (.dT []) := upd_same
    generalize upd (upd H rd (.lst [])) nd (.dT []) = H1 at E1 rd1 nd1 ⊢
    obtain ⟨wa', vs, ea, hSq, hDL⟩ := hW.ofList
    cases ea
    have hvl : vs.length = ws.length := by rw [hDL.len, List.length_map]
    have pfew := places_len hok
    have extH : ∀ {G : Hp}, Ext [rd, nd] H1 G → Ext [] H G := fun {G} e => (((E1.mono (us := [rd, nd]) (by simp)).trans e).drop hrd).drop hndH
    refine ⟨wa, rfl, ⟨vs, E1.toSame.seq hSq⟩, for_enum (xs := vs) (fun n σ' G => ∃ (rvs : List V) (o4 o5 o6 o7 o8 o9 : Option V), σ' = [some (.ref wa), some (.int x), some (.ref rd), some (.ref nd), o4, o5, o6, o7, o8, o9] ∧ Ext [rd, nd] H1 G ∧ G rd = some (.lst rvs) ∧ PlsAt G rvs ((placesTo ws n).filter (readAt ws x)) ∧
      NexB G nd (behindOf ws x (placesTo ws n)) (fun c => H1 c = none) (16 * (placesTo ws n).length)) ?_ ?_ ?_ ?_⟩
    · refine ⟨[], _, _, _, _, _, _, rfl, .refl _ _, rd1, .nil, [], nd1, Nat.zero_le _, fun p => .inl ⟨rfl, rfl⟩, fun p q c h => ?_⟩
      cases h
    · rintro n σ' G hn ⟨rvs, o4, o5, o6, o7, o8, o9, rfl, eG, hrG, hrp, hN⟩
      exact (extH eG).toSame.seq hSq
    · rintro n y σ' G pt hy ⟨rvs, o4, o5, o6, o7, o8, o9, rfl, eG, hrG, hrp, hN⟩ hpt
      obtain ⟨dd, hdd, hDy⟩ := hDL.get hy
      obtain ⟨wk, hwk, rfl⟩ := map_get hdd
      obtain ⟨wb, bs, rfl, hbs, hdbs⟩ := hDy.ofList
      have hbl : bs.length = wk.length := by rw [hdbs.len, List.length_map]
      obtain ⟨m, hm1, hm2, hWk⟩ := hok.all wk (List.mem_of_getElem? hwk)
      have hwm := hWk.len
      have hsub : ∀ p ∈ placesTo ws n, p ∈ places ws := fun p hp => by
        unfold placesTo at hp; unfold places
        obtain ⟨k, hk, h⟩ := List.mem_flatMap.mp hp
        have hnl : n < ws.length := (List.getElem?_eq_some_iff.mp hwk).1
        exact List.mem_flatMap.mpr ⟨k, List.mem_range.mpr (by have := List.mem_range.mp hk; omega), h⟩
      have e2 : Ext [] G (upd G pt (.tup [.int n, .ref wb])) := .laid hpt
      refine r_gtup (SqT.of upd_same) rfl ?_
      have eG2 : Ext [rd, nd] H1 (upd G pt (.tup [.int n, .ref wb])) := eG.trans (e2.mono (by simp))
      have hr2 := e2 _ _ (by simp) hrG
      have hrp2 := hrp.mono e2.tk
      have hN2 := hN.mono e2 (by simp) (by simp) e2.tk
      generalize upd G pt (.tup [.int n, .ref wb]) = G2 at e2 eG2 hr2 hrp2 hN2 ⊢
      walk_at "rd"
      refine ⟨wb, rfl, ⟨bs, (extH eG2).toSame.seq hbs⟩, for_enum (xs := bs) (fun a σ' G' => ∃ (rvs : List V) (o6 o7 o8 o9 : Option V), σ' = [some (.ref wa), some (.int x), some (.ref rd), some (.ref nd), some (.int n), some (.ref wb), o6, o7, o8, o9] ∧ Ext [rd, nd] H1 G' ∧ G' rd = some (.lst rvs) ∧ PlsAt G' rvs ((placesTo ws n ++ (List.range a).map fun (a : Nat) => ((n : Int), (a : Int))).filter (readAt ws x)) ∧
        NexB G' nd (behindOf ws x (placesTo ws n ++ (List.range a).map fun (a : Nat) => ((n : Int), (a : Int)))) (fun c => H1 c = none) (16 * (placesTo ws n ++ (List.range a).map fun (a : Nat) => ((n : Int), (a : Int))).length)) ?_ ?_ ?_ ?_⟩
      · refine ⟨rvs, _, _, _, _, rfl, eG2, hr2, ?_, ?_⟩
        · simpa using hrp2
        · simpa using hN2
      · rintro a σ' G' ha ⟨rvs, o6, o7, o8, o9, rfl, e', hr', hrp', hN'⟩
        exact (extH e').toSame.seq hbs
      · rintro a v σ' G' pt2 hv ⟨rvs, o6, o7, o8, o9, rfl, e', hr', hrp', hN'⟩ hpt2
        obtain ⟨dd, hdd, hDv⟩ := hdbs.get hv
        obtain ⟨b, hb, rfl⟩ := map_get hdd
        have hbok := hWk.blk b (List.mem_of_getElem? hb)
        obtain ⟨pb, cs, rfl, hc, hcs⟩ := hDv.ofTuple
        obtain ⟨vd, q1, rfl, hdd1, hr1⟩ := hcs.ofCons
        obtain ⟨ve, q2, rfl, hde, hr2'⟩ := hr1.ofCons
        have hr2' := hr2'.ofNil
        subst hr2'
        have hblk : blkAt ws ((n : Int), (a : Int)) = some b := by rw [blkAt_nat, hwk]; exact hb
        have hpl : ((n : Int), (a : Int)) ∈ places ws := mem_places.mpr ⟨b, hblk⟩
        generalize hdn : (placesTo ws n ++ (List.range a).map fun (a : Nat) => ((n : Int), (a : Int))) = dn at hrp' hN'
        have hsub2 : ∀ p ∈ dn, p ∈ places ws := fun p hp => by
          rw [← hdn] at hp
          rcases List.mem_append.mp hp with z | z
          · exact hsub p z
          · obtain ⟨a', ha', rfl⟩ := List.mem_map.mp z
            have ha1 : a < wk.length := (List.getElem?_eq_some_iff.mp hb).1
            have ha2 := List.mem_range.mp ha'
            exact mem_places.mpr ⟨wk[a'], by rw [blkAt_nat, hwk]; exact List.getElem?_eq_getElem (by omega)⟩
        have hrl := hrp'.len
        have e3 : Ext [] G' (upd G' pt2 (.tup [.int a, .ref pb])) := .laid hpt2
        refine r_gtup (SqT.of upd_same) rfl ?_
        have e3' : Ext [rd, nd] H1 (upd G' pt2 (.tup [.int a, .ref pb])) := e'.trans (e3.mono (by simp))
        have hr3 := e3 _ _ (by simp) hr'
        have hrp3 := hrp'.mono e3.tk
        have hN3 := hN'.mono e3 (by simp) (by simp) e3.tk
        generalize upd G' pt2 (.tup [.int a, .ref pb]) = G3 at e3 e3' hr3 hrp3 hN3 ⊢
        walk_at "rd"
        refine r_gtup ((extH e3').toSame.seqT hc) rfl ?_
        with_reducible refine L2.r_gcons ?_
        with_reducible refine L2.r_gn ?_
        with_reducible refine L2.r_gcons ?_
        with_reducible refine L2.r_gn ?_
        with_reducible refine L2.r_gnil ?_
        with_reducible refine L2.r_gnil ?_
        have hfin : placesTo ws n ++ (List.range (a + 1)).map (fun (a : Nat) => ((n : Int), (a : Int))) = dn ++ [((n : Int), (a : Int))] := by rw [row_succ, ← List.append_assoc, hdn]
        have hdl : dn.length ≤ 300 := by
          have := nodup_le (l1 := dn) (l2 := places ws) (by rw [← hdn]; exact dn_nodup ws n a (List.getElem?_eq_some_iff.mp hwk).1) hsub2
          omega
        with_reducible refine r_seqC (fun σ' G => ∃ (rvs : List V), σ' = [some (.ref wa), some (.int x), some (.ref rd), some (.ref nd), some (.int n), some (.ref wb), some (.int a), some vd, some ve, o9] ∧ Ext [rd, nd] H1 G ∧ G rd = some (.lst rvs) ∧ PlsAt G rvs ((dn ++ [((n : Int), (a : Int))]).filter (readAt ws x)) ∧ NexB G nd (behindOf ws x dn) (fun c => H1 c = none) (16 * dn.length)) ?_ (fun hC => ?_)
        · rintro σ' G4 ⟨rvs, rfl, e4, hr4, hrp4, hN4⟩
          walk_at "rd"
          refine ⟨wa, ws, n, a, x, rfl, hW.mono (extH e4).toSame, hok, hpl, fun lm us H5 hlm e5 hlm5 hus => ?_⟩
          have e45 : Ext [rd, nd] H1 H5 := e4.trans (e5.mono (by simp))
          have hml := met_len hok x ((n : Int), (a : Int))
          have hul := hus.len
          refine ⟨lm, rfl, ⟨_, SqL.of hlm5⟩, for_list (xs := us) (fun j σ' G => ∃ (o9 : Option V), σ' = [some (.ref wa), some (.int x), some (.ref rd), some (.ref nd), some (.int n), some (.ref wb), some (.int a), some vd, some ve, o9] ∧ Ext [rd, nd] H1 G ∧ G lm = some (.lst us) ∧ PlsAt G us (metOf ws x ((n : Int), (a : Int))) ∧ G rd = some (.lst rvs) ∧ PlsAt G rvs ((dn ++ [((n : Int), (a : Int))]).filter (readAt ws x)) ∧
            NexB G nd (behindUp ws x dn ((n : Int), (a : Int)) ((metOf ws x ((n : Int), (a : Int))).take j)) (fun c => H1 c = none ∧ c ≠ lm) (16 * dn.length + j)) ?_ ?_ ?_ ?_⟩
          · refine ⟨_, rfl, e45, hlm5, hus, e5 _ _ (by simp) hr4, hrp4.mono e5.tk, ?_⟩
            rw [List.take_zero, behindUp_nil]
            obtain ⟨kvs, z⟩ := hN4
            refine ⟨kvs, e5 _ _ (by simp) z.at_, z.few, fun p => ?_, z.one⟩
            rcases z.all p with y | ⟨c, vs, h1, h2, h3, h4⟩
            · exact .inl y
            · exact .inr ⟨c, vs, h1, ⟨h2, ne_of_none h3 hlm⟩, e5 _ _ (by simp) h3, h4.mono e5.tk⟩
          · rintro j σ' G hj ⟨o9, rfl, e6, hlm6, hus6, hr6, hrp6, hN6⟩
            exact SqL.of hlm6
          · rintro j v σ' G hv ⟨o9, rfl, e6, hlm6, hus6, hr6, hrp6, kvs, hN6⟩
            obtain ⟨r, hr, rb, rfl, hrb⟩ := hus6.get hv
            have hjl : j < (metOf ws x ((n : Int), (a : Int))).length := (List.getElem?_eq_some_iff.mp hr).1
            have hkf := hN6.few
            walk_at "rd"
            refine r_ds2 ?_
            walk_at "rd"
            refine ⟨nd, rfl, .inr ⟨kvs, .inl hN6.at_⟩, ?_⟩
            walk_at "rd"
            refine ⟨len2 (Nat.zero_le _), fun e0 he0 => ?_⟩
            have e7 : Ext [] G (upd G e0 (.lst [])) := .laid he0
            have hN7 := hN6.mono e7 (by simp) (by simp) e7.tk
            have he07 : upd G e0 (.lst []) e0 = some (.lst []) := upd_same
            have he0H1 : H1 e0 = none := by
              by_cases z1 : e0 = rd
              · rw [z1, hr6] at he0; cases he0
              · by_cases z2 : e0 = nd
                · rw [z2, hN6.at_] at he0; cases he0
                · exact e6.none (by simp [z1, z2]) he0
            have he0lm : e0 ≠ lm := (ne_of_none hlm6 he0).symm
            have hlm7 := e7 _ _ (by simp) hlm6
            have hr7 := e7 _ _ (by simp) hr6
            have hus7 := hus6.mono e7.tk
            have hrp7 := hrp6.mono e7.tk
            have e67 : Ext [rd, nd] H1 (upd G e0 (.lst [])) := e6.trans (e7.mono (by simp))
            have hrb7 := e7.tk _ _ hrb
            have hfr : ∀ (p : Pl) (c : Addr), valV kvs (plK p) = some (.ref c) → c ≠ e0 := fun p c hc => by
              rcases hN6.all p with z | ⟨c', vs', h1, _, h3, _⟩
              · rw [z.1] at hc; cases hc
              · rw [h1] at hc; cases hc; exact ne_of_none h3 he0
            generalize upd G e0 (.lst []) = G7 at e7 hN7 he07 hlm7 hr7 hus7 hrp7 e67 hrb7 ⊢
            have put : ∀ (G8 : Hp) (kv : List (List Key × V)) (c : Addr) (cvs : List V), NexK G8 nd (behindUp ws x dn ((n : Int), (a : Int)) ((metOf ws x ((n : Int), (a : Int))).take j)) (fun c => H1 c = none ∧ c ≠ lm) (16 * dn.length + j + 1) kv → valV kv (plK r) = some (.ref c) → G8 c = some (.lst cvs) → PlsAt G8 cvs (behindUp ws x dn ((n : Int), (a : Int)) ((metOf ws x ((n : Int), (a : Int))).take j) r) → Ext [rd, nd] H1 G8 → G8 lm = some (.lst us) → PlsAt G8 us (metOf ws x ((n : Int), (a : Int))) → G8 rd = some (.lst rvs) → PlsAt G8 rvs ((dn ++ [((n : Int), (a : Int))]).filter (readAt ws x)) →
                ∀ (pt : Addr), G8 pt = none → ∀ o9 : Option V, cvs.length < 100000 ∧ (∃ (o9' : Option V), [some (V.ref wa), some (.int x), some (.ref rd), some (.ref nd), some (.int n), some (.ref wb), some (.int a), some vd, some ve, o9] = [some (V.ref wa), some (.int x), some (.ref rd), some (.ref nd), some (.int n), some (.ref wb), some (.int a), some vd, some ve, o9'] ∧ Ext [rd, nd] H1 (upd (upd G8 pt (.tup [.int n, .int a])) c (.lst (cvs ++ [.ref pt]))) ∧ (upd (upd G8 pt (.tup [.int n, .int a])) c (.lst (cvs ++ [.ref pt]))) lm = some (.lst us) ∧ PlsAt (upd (upd G8 pt (.tup [.int n, .int a])) c (.lst (cvs ++ [.ref pt]))) us (metOf ws x ((n : Int), (a : Int))) ∧ (upd (upd G8 pt (.tup [.int n, .int a])) c (.lst (cvs ++ [.ref pt]))) rd = some (.lst rvs) ∧ PlsAt (upd (upd G8 pt (.tup [.int n, .int a])) c (.lst (cvs ++ [.ref pt]))) rvs ((dn ++ [((n : Int), (a : Int))]).filter (readAt ws x)) ∧
                  NexB (upd (upd G8 pt (.tup [.int n, .int a])) c (.lst (cvs ++ [.ref pt]))) nd (behindUp ws x dn ((n : Int), (a : Int)) ((metOf ws x ((n : Int), (a : Int))).take (j + 1))) (fun c => H1 c = none ∧ c ≠ lm) (16 * dn.length + (j + 1))) := by
              intro G8 kv c cvs hK hc hcv hcp e8 hlm8 hus8 hr8 hrp8 pt hpt o9
              have e9 : Ext [] G8 (upd G8 pt (.tup [.int n, .int a])) := .laid hpt
              have hK9 := hK.mono e9 (by simp) (by simp) e9.tk
              have hc9 := e9 _ _ (by simp) hcv
              have hK10 := hK9.app (p := ((n : Int), (a : Int))) (pt := pt) hc hc9 (hcp.mono e9.tk) upd_same
              have hcok : H1 c = none ∧ c ≠ lm := by
                rcases hK.all r with z | ⟨c', _, h1, h2, _⟩
                · rw [z.1] at hc; cases hc
                · rw [h1] at hc; cases hc; exact h2
              have tk : TK G8 (upd (upd G8 pt (.tup [.int n, .int a])) c (.lst (cvs ++ [.ref pt]))) := e9.tk.trans (.put (by intro ys z; rw [hc9] at z; cases z))
              have nrc : rd ≠ c := fun z => by rw [← z, rd1] at hcok; cases hcok.1
              have hcl := hcp.len
              have hbl2 : (behindUp ws x dn ((n : Int), (a : Int)) ((metOf ws x ((n : Int), (a : Int))).take j) r).length ≤ 16 * dn.length + 16 := by
                unfold behindUp
                rw [List.length_append, List.length_map]
                have h1 := behind_len hok x r dn
                have h2 := List.length_filter_le (fun y => decide (y = r)) ((metOf ws x ((n : Int), (a : Int))).take j)
                rw [List.length_take] at h2
                omega
              refine ⟨by omega, o9, rfl, ?_, ?_, hus8.mono tk, ?_, hrp8.mono tk, ?_⟩
              · exact ((e8.trans (e9.mono (by simp))).mono (us := [c, rd, nd]) (by simp)).trans (.put (by simp)) |>.drop hcok.1
              · rw [upd_ne hcok.2.symm]; exact e9 _ _ (by simp) hlm8
              · rw [upd_ne nrc]; exact e9 _ _ (by simp) hr8
              · rw [take_get hr, behindUp_snoc]; exact ⟨kv, hK10⟩
            refine ⟨kvs, plK r, rb, rfl, hN7.at_, hrb7, small3 (by omega), fun v hv => ?_, fun hv => ?_⟩
            · rcases hN7.all r with z | ⟨c, cvs, h1, h2, h3, h4⟩
              · rw [z.1] at hv; cases hv
              · rw [h1] at hv; cases hv
                refine r_tyL h3 ?_
                walk_at "rd"
                refine ⟨len2 (by show 2 ≤ 1000; decide), fun pt hpt => ?_⟩
                obtain ⟨hlt, post⟩ := put G7 kvs c cvs ⟨hN7.at_, by have := hN7.few; omega, hN7.all, hN7.one⟩ h1 h3 h4 e67 hlm7 hus7 hr7 hrp7 pt hpt _
                walk_at "rd"
                exact r_app (Ext.laid (ts := []) hpt _ _ (by simp) h3) (small3 (by omega)) post
            · have hK8 := hN7.new hv he07 ⟨he0H1, he0lm⟩ hfr
              have n0d : e0 ≠ nd := ne_of he07 hN7.at_ (by intro z; cases z)
              have tk8 : TK G7 (upd G7 nd (.dT (putK kvs (plK r) (.ref e0)))) := .put (by intro ys z; rw [hN7.at_] at z; cases z)
              have h08 : upd G7 nd (.dT (putK kvs (plK r) (.ref e0))) e0 = some (.lst []) := by rw [upd_ne n0d]; exact he07
              have hN0 : behindUp ws x dn ((n : Int), (a : Int)) ((metOf ws x ((n : Int), (a : Int))).take j) r = [] := by
                rcases hN7.all r with z | ⟨c, cvs, h1, _⟩
                · exact z.2
                · rw [h1] at hv; cases hv
              have nlm : lm ≠ nd := ne_of hlm7 hN7.at_ (by intro z; cases z)
              refine r_tyL h08 ?_
              walk_at "rd"
              refine ⟨len2 (by show 2 ≤ 1000; decide), fun pt hpt => ?_⟩
              obtain ⟨hlt, post⟩ := put _ _ e0 [] hK8 (by rw [valV_put, if_pos rfl]) h08 (by rw [hN0]; exact .nil) (e67.trans (.put (by simp))) (by rw [upd_ne nlm]; exact hlm7) (hus7.mono tk8) (by rw [upd_ne nrn]; exact hr7) (hrp7.mono tk8) pt hpt _
              walk_at "rd"
              exact r_app (xs := []) (Ext.laid (ts := []) hpt _ _ (by simp) h08) (small3 (by simp)) post
          · rintro σ' G ⟨o9, rfl, e6, hlm6, hus6, hr6, hrp6, hN6⟩
            rw [hul, List.take_length, behindOf_snoc] at hN6
            refine ⟨rvs, _, _, _, _, rfl, e6, hr6, ?_, ?_⟩
            · rw [hfin]; exact hrp6
            · rw [hfin]
              obtain ⟨kvs, z⟩ := hN6
              refine ⟨kvs, z.at_, ?_, fun p => ?_, z.one⟩
              · have := z.few; rw [List.length_append, List.length_singleton]; omega
              · rcases z.all p with y | ⟨c, vs, h1, h2, h3, h4⟩
                · exact .inl y
                · exact .inr ⟨c, vs, h1, h2.1, h3, h4⟩
        · have hra : readAt ws x ((n : Int), (a : Int)) = readB x b := by unfold readAt; rw [hblk]
          have hds := hbok.few
          have htl2 := till_len x b.ds
          walk_at "rd"
          refine ⟨vd, b.ds, x, rfl, hdd1.mono (extH e3').toSame, by omega, fun lt tvs H4 hlt e4 hlt4 hden4 => ?_⟩
          have htl : tvs.length = (till x b.ds).length := by rw [hden4.len, List.length_map]
          refine ⟨lt, rfl, ⟨_, SqL.of hlt4⟩, fun lc hlc => ?_⟩
          have nlc : lt ≠ lc := ne_of_none hlt4 hlc
          refine loop_list (xs := tvs) (fun j σ' G => ∃ (o0 : Option V), σ' = [o0, some (.int x)] ∧ Ext [lc] H4 G ∧ G lc = some (.lst ((((till x b.ds).take j).map (rdB x)).map V.bl))) ?_ ?_ ?_ ?_
          · exact ⟨none, rfl, .laid hlc, upd_same⟩
          · rintro j σ' G hj ⟨o0, rfl, e5, hlc5⟩
            exact SqL.of (e5 _ _ (by simpa using nlc) hlt4)
          · rintro j y σ' G R hy ⟨o0, rfl, e5, hlc5⟩ hR
            obtain ⟨dd, hdd, hDy⟩ := hden4.get hy
            obtain ⟨d, hd, rfl⟩ := map_get hdd
            have hjl : j < (till x b.ds).length := (List.getElem?_eq_some_iff.mp hd).1
            walk_at "rd"
            refine iteT ?_
            walk_at "rd"
            refine ⟨y, d, x, rfl, hDy.mono (e5.drop hlc).toSame, fun H6 e6 => ?_⟩
            refine ⟨_, e6 _ _ (by simp) hlc5, small1000 (by rw [List.length_map, List.length_map, List.length_take]; omega), hR _ _ ⟨_, rfl, e5.trans ((e6.mono (by simp)).trans (.put (by simp))), ?_⟩⟩
            rw [upd_same, take_get hd, List.map_append, List.map_append]; rfl
          · rintro σ' G ⟨o0, rfl, e5, hlc5⟩
            rw [htl, List.take_length] at hlc5
            have e35 : Ext [] G3 G := e4.trans (e5.drop hlc)
            have hr5 := e35 _ _ (by simp) hr3
            have hrp5 := hrp3.mono e35.tk
            have hN5 := hN3.mono e35 (by simp) (by simp) e35.tk
            have e5' : Ext [rd, nd] H1 G := e3'.trans (e35.mono (by simp))
            have hfl := List.length_filter_le (readAt ws x) dn
            walk_at "rd"
            refine ⟨lc, (till x b.ds).map (rdB x), rfl, SqL.of hlc5, ?_⟩
            refine ⟨readB x b, ?_, ?_⟩
            · have e : ((till x b.ds).map (rdB x)).any id = readB x b := by unfold readB; rw [List.any_map]; rfl
              rw [e]; rfl
            cases hw : readB x b with
            | true =>
              refine iteT ?_
              walk_at "rd"
              refine r_tyL hr5 ?_
              walk_at "rd"
              refine ⟨len2 (by show 2 ≤ 1000; decide), fun p2 hp2 => ?_⟩
              have np2 : p2 ≠ rd := (ne_of_none hr5 hp2).symm
              with_reducible refine L2.r_nil ?_
              refine r_app (xs := rvs) (by rw [upd_ne np2.symm]; exact hr5) (small1000 (by omega)) ?_
              have tk : TK G (upd (upd G p2 (.tup [.int n, .int a])) rd (.lst (rvs ++ [.ref p2]))) := (Ext.laid hp2).tk.trans (.put (by intro ys z; rw [upd_ne np2.symm, hr5] at z; cases z))
              have e6 : Ext [rd] G (upd (upd G p2 (.tup [.int n, .int a])) rd (.lst (rvs ++ [.ref p2]))) := (Ext.laid hp2).trans (.put (by simp))
              have hnot : ∀ z ∈ [rd], ¬ H1 z = none := fun z hz y => by
                have e : z = rd := by simpa using hz
                rw [e, rd1] at y; cases y
              refine hC _ _ ⟨rvs ++ [.ref p2], rfl, e5'.trans (e6.mono (by simp)), upd_same, ?_, hN5.mono e6 (by simpa using nrn.symm) hnot tk⟩
              rw [List.filter_append, List.filter_cons, if_pos (by rw [hra, hw]), List.filter_nil]
              exact (hrp5.mono tk).append (.one (by rw [upd_ne np2, upd_same]))
            | false =>
              refine iteF ?_
              with_reducible refine L2.r_next ?_
              refine hC _ _ ⟨rvs, rfl, e5', hr5, ?_, hN5⟩
              rw [List.filter_append, List.filter_cons, if_neg (by rw [hra, hw]; exact Bool.false_ne_true), List.filter_nil, List.append_nil]
              exact hrp5
      · rintro σ' G' ⟨rvs, o6, o7, o8, o9, rfl, e', hr', hrp', hN'⟩
        rw [hbl] at hrp' hN'
        rw [← placesTo_succ hwk] at hrp' hN'
        walk_at "rd"
        exact ⟨rvs, _, _, _, _, _, _, rfl, e', hr', hrp', hN'⟩
    · rintro σ' G ⟨rvs, o4, o5, o6, o7, o8, o9, rfl, eG, hrG, hrp, hN⟩
      rw [hvl] at hrp hN
      have hrp : PlsAt G rvs ((places ws).filter (readAt ws x)) := hrp
      have hN : NexB G nd (behindOf ws x (places ws)) (fun c => H1 c = none) (16 * (places ws).length) := hN
      have hfl := List.length_filter_le (readAt ws x) (places ws)
      walk_at "rd"
      refine ⟨rd, nd, rvs, (places ws).filter (readAt ws x), places ws, behindOf ws x (places ws), rfl, SqL.of hrG, hrp, hN.toT, fun p hp => (List.mem_filter.mp hp).1, fun p hp z hz => (mem_behind.mp hz).1, fun p => by have := behind_len hok x p (places ws); omega, by omega, by omega, fun d ks H' hd e5 hd5 hnod hks => ?_⟩
      exact q d ks H' ((extH eG).none (by simp) hd) ((extH eG).trans e5) hd5 hnod fun p => by rw [hks, asks_back]
end
end Fs
set_option maxRecDepth 100000
set_option maxHeartbeats 1000000
namespace Fs
open PySem L2
section
variable {P : Program} {w : World} {K : PySem.W.Frag} {mg : Str → Option Value} {base : Heap}
def DictsAt (ws : List (List Blk)) (G : Hp) (vs : List V) (k : Nat) : Prop := vs.length = k ∧ ∀ i < k, ∃ d ks, vs[i]? = some (.ref d) ∧ G d = some (.dT (trueD ks)) ∧ ∀ p, p ∈ ks ↔ Asks ws (i : Int) p
abbrev sAsks : Stmt := top 11
theorem scAsks : FnScope ["works", "waiting"] ["works"] (defScope sAsks) := ⟨rfl, rfl, rfl, by decide +kernel, rfl, by decide +kernel, by decide +kernel⟩
theorem ok_asks {f : Addr} {fd : FuncData} {tb : Tok} (F : Fun K "asks" "asks" sAsks f fd) (nrange : mg "range" = none) (nlen : mg "len" = none) (hBx : mg "BOXES" = some (.int 8 tb)) (hAw : Has P w K mg base "awaiting" 4 ["works", "box"] (spAwait K)) : FnOk P w K mg base CX0 5 f fd ["works"] (spAsks K) := by
  refine F.ok scAsks (fun vs H Q E h => ?_) (fun cdv A outer s H vs Q E hr h => ?_)
  · obtain ⟨wa, ws, rfl, _⟩ := h
    rfl
  · obtain ⟨wa, ws, rfl, hW, hok, q⟩ := h
    have hu := hu_of hr
    refine ⟨_, pss_cons (ps_set (i := 1) scAsks.nd rfl (Or.inr rfl) (pe_lc ["box"] [0] rfl (.of rfl) (pi_range1 rfl nrange (pa_cons (pe_glob (v := .int 8) rfl hBx ⟨_, rfl⟩) pa_nil)) (fun _ _ _ _ => pg_name (i := 0) (by show ((["box", "works"] : List Str)).Nodup; decide) rfl (Or.inl rfl)) (fun _ _ _ _ => .nil) (fun _ _ _ _ => pe_fn hAw hr (by decide) (pa_cons (pv 1) (pa_cons (pv 0) pa_nil)))))
      (pss_one (ps_ret (pe_lcC ["number"] [1] "number" rfl (.of rfl) (pi_range1 rfl nrange (pa_cons (pe_callB call_len_seq (by rfl) nlen PySem.boot_len (pa_cons (pv 0) pa_nil)) pa_nil)) (fun _ _ _ _ => pg_name (i := 0) (by show ((["number", "waiting"] : List Str)).Nodup; decide) rfl (Or.inr rfl)) (fun _ _ _ _ => .nil)
        (fun _ _ _ _ => pe_lc ["box"] [0, 1] rfl (.of rfl) (pi_range1 rfl nrange (pa_cons (pe_glob (v := .int 8) rfl hBx ⟨_, rfl⟩) pa_nil)) (fun _ _ _ _ => pg_name (i := 0) (by show ((["box", "number", "waiting"] : List Str)).Nodup; decide) rfl (Or.inl rfl)) (fun _ _ _ _ => .cons (pt_cmp (pc_din hu (pe_tup (pa_cons (pv 1) (pa_cons pe_int pa_nil))) (pe_ix (ix_listK K rfl) (pv 2) (pv 0) (fun _ _ => rfl)))) .nil) (fun _ _ _ _ => pv 0))))), ?_⟩
    dsimp only [nox_K, comp_K, compC_K]
    walk_at "rd"
    refine ⟨8, rfl, by decide, by decide, fun l hl => ?_⟩
    refine loop_range (lo := 0) (n := (8 : Int).toNat) (fun j σ' G => ∃ (o0 : Option V) (vs : List V), σ' = [o0, some (.ref wa)] ∧ Ext [l] H G ∧ G l = some (.lst vs) ∧ DictsAt ws G vs j) ?_ ?_ ?_
    · exact ⟨none, [], rfl, .laid hl, upd_same, rfl, fun i hi => absurd hi (by omega)⟩
    · rintro j σ' G R hj ⟨o0, vs, rfl, eG, hlG, hvl, hD⟩ hR
      have hj8 : j < 8 := hj
      walk_at "rd"
      refine iteT ?_
      walk_at "rd"
      refine ⟨wa, ws, 0 + (j : Int), rfl, hW.mono (eG.drop hl).toSame, hok, fun d ks H' hd e' hd' hnod hks => ?_⟩
      refine ⟨vs, e' _ _ (by simp) hlG, small1000 (by omega), hR _ _ ⟨_, vs ++ [.ref d], rfl, eG.trans ((e'.mono (by simp)).trans (.put (by simp))), upd_same, by simp [hvl], fun i hi => ?_⟩⟩
      have tk : ∀ (a : Addr) (kvs : List (List Key × V)), H' a = some (.dT kvs) → upd H' l (.lst (vs ++ [V.ref d])) a = some (.dT kvs) := fun a kvs z => by
        rw [upd_ne (ne_of z (e' _ _ (by simp) hlG) (by intro y; cases y))]; exact z
      by_cases hij : i < j
      · obtain ⟨d1, ks1, h1, h2, h3⟩ := hD i hij
        exact ⟨d1, ks1, by rw [List.getElem?_append_left (by omega)]; exact h1, tk _ _ (e' _ _ (by simp) h2), h3⟩
      · have e : i = j := by omega
        subst e
        refine ⟨d, ks, by rw [← hvl, List.getElem?_append_right (Nat.le_refl _), Nat.sub_self]; rfl, tk _ _ hd', fun p => ?_⟩
        rw [hks, Int.zero_add]
    · rintro σ' G ⟨o0, vs, rfl, eG, hlG, hvl, hD⟩
      have EG := eG.drop hl
      obtain ⟨wa', wvs, ea, hSq, hDL⟩ := hW.ofList
      cases ea
      have hwl : wvs.length = ws.length := by rw [hDL.len, List.length_map]
      have hws := hok.few
      walk_at "rd"
      refine ⟨wa, wvs, rfl, .inl (EG.toSame.seq hSq), ?_⟩
      rw [hwl]
      walk_at "rd"
      refine ⟨(ws.length : Int), rfl, by omega, by omega, fun la hla => ?_⟩
      have nla : l ≠ la := ne_of_none hlG hla
      refine loop_range (lo := 0) (n := (ws.length : Int).toNat) (fun n σ' G2 => ∃ (o0 : Option V) (us : List V), σ' = [o0, some (.ref l)] ∧ Ext [la] G G2 ∧ G2 la = some (.lst us) ∧ IntsAt G2 us (askAll ws n) ∧ Young G us ∧ ∀ v ∈ us, v ≠ .ref la) ?_ ?_ ?_
      · exact ⟨none, [], rfl, .laid hla, upd_same, .nil, by intro v hv; simp at hv, by simp⟩
      · rintro n σ' G2 R hn ⟨o0, us, rfl, e2, hla2, hI, hY, hne⟩ hR
        have hn8 : n < ws.length := by omega
        have hul := hI.len
        rw [askAll_len] at hul
        walk_at "rd"
        refine iteT ?_
        walk_at "rd"
        refine ⟨8, rfl, by decide, by decide, fun lb hlb => ?_⟩
        have nlb : la ≠ lb := ne_of_none hla2 hlb
        have hl2 : G2 l = some (.lst vs) := e2 _ _ (by simpa using nla) hlG
        have nlbl : l ≠ lb := ne_of_none hl2 hlb
        have hlbG : G lb = none := e2.none (by simpa using nlb.symm) hlb
        refine loop_range (lo := 0) (n := (8 : Int).toNat) (fun j σ' G3 => ∃ (o0 : Option V), σ' = [o0, some (.int (0 + (n : Int))), some (.ref l)] ∧ Ext [lb] G2 G3 ∧ G3 lb = some (.lst ((askTo ws n j).map V.int))) ?_ ?_ ?_
        · exact ⟨none, rfl, .laid hlb, upd_same⟩
        · rintro j σ' G3 R hj ⟨o0, rfl, e3, hlb3⟩ hR
          have hj8 : j < 8 := hj
          have hal := askTo_len ws n j
          obtain ⟨d, ks, h1, h2, h3⟩ := hD j hj8
          have nlad : d ≠ la := ne_of_none h2 hla
          have hd3 : G3 d = some (.dT (trueD ks)) := (e3.drop hlb) _ _ (by simp) (e2 _ _ (by simpa using nlad) h2)
          walk_at "rd"
          refine ⟨len2 (by show 2 ≤ 1000; decide), fun p hp => ?_⟩
          have e4 : Ext [] G3 (upd G3 p (.tup [.int (0 + (n : Int)), .int 0])) := .laid hp
          have hp4 : upd G3 p (.tup [.int (0 + (n : Int)), .int 0]) p = some (.tup [.int (0 + (n : Int)), .int 0]) := upd_same
          have hd4 := e4 _ _ (by simp) hd3
          have hl4 := e4 _ _ (by simp) ((e3.drop hlb) _ _ (by simp) hl2)
          have hlb4 := e4 _ _ (by simp) hlb3
          generalize upd G3 p (.tup [.int (0 + (n : Int)), .int 0]) = G4 at e4 hp4 hd4 hl4 hlb4 ⊢
          walk_at "rd"
          refine r_ixL (v := .ref d) (SqL.of hl4) (by rw [Int.zero_add]; exact atI_nat h1) ?_
          refine ⟨d, _, rfl, DGet.t (k := plK ((0 + (n : Int)), 0)) hd4 hp4, ?_⟩
          rw [valV_pl]
          have hask : askB ws (j : Int) ((n : Int), 0) = decide (((0 + (n : Int)), (0 : Int)) ∈ ks) := by
            rw [Bool.eq_iff_iff, askB_iff, decide_eq_true_iff, h3, Int.zero_add]
          by_cases hm : ((0 + (n : Int)), (0 : Int)) ∈ ks
          · rw [if_pos hm]
            refine r_bl (iteT (iteT ?_))
            walk_at "rd"
            refine ⟨_, hlb4, small1000 (by rw [List.length_map]; omega), hR _ _ ⟨_, rfl, (e3.trans (e4.mono (by simp))).trans (.put (by simp)), ?_⟩⟩
            rw [upd_same, askTo_succ, hask, decide_eq_true hm, if_pos rfl, List.map_append, Int.zero_add]; rfl
          · rw [if_neg hm]
            refine r_bl (iteF (iteF (hR _ _ ⟨_, rfl, e3.trans (e4.mono (by simp)), ?_⟩)))
            rw [hlb4, askTo_succ, hask, decide_eq_false hm, if_neg Bool.false_ne_true, List.append_nil]
        · rintro σ' G3 ⟨o0, rfl, e3, hlb3⟩
          have E3 := e3.drop hlb
          refine ⟨us, E3 _ _ (by simp) hla2, small1000 (by omega), hR _ _ ⟨_, us ++ [.ref lb], rfl, (e2.trans (E3.mono (by simp))).trans (.put (by simp)), upd_same, ?_, ?_, ?_⟩⟩
          · rw [askAll_succ]
            have keep : IntsAt (upd G3 la (.lst (us ++ [V.ref lb]))) us (askAll ws n) := by
              have hI3 := hI.mono E3
              have all : ∀ {vs : List V} {ns : List (List Int)}, IntsAt G3 vs ns → (∀ v ∈ vs, v ≠ .ref la) → IntsAt (upd G3 la (.lst (us ++ [V.ref lb]))) vs ns := by
                intro vs ns h
                induction h with
                | nil => intro _; exact .nil
                | cons a r ih =>
                  intro hv
                  obtain ⟨b, rfl, hb⟩ := a
                  have nb : b ≠ la := fun z => hv (.ref b) (List.mem_cons_self ..) (by rw [z])
                  exact .cons ⟨b, rfl, by rw [upd_ne nb]; exact hb⟩ (ih fun v hv' => hv v (List.mem_cons_of_mem _ hv'))
              exact all hI3 hne
            exact Paired.snoc keep ⟨lb, rfl, by rw [upd_ne nlb.symm]; exact hlb3⟩
          · intro v hv
            rcases List.mem_append.mp hv with z | z
            · exact hY v z
            · rw [List.mem_singleton.mp z]; exact ⟨lb, rfl, hlbG⟩
          · intro v hv
            rcases List.mem_append.mp hv with z | z
            · exact hne v z
            · rw [List.mem_singleton.mp z]; intro y; exact nlb.symm (V.ref.inj y)
      · rintro σ' G2 ⟨o0, us, rfl, e2, hla2, hI, hY, hne⟩
        have hI : IntsAt G2 us (askAll ws ws.length) := by simpa using hI
        refine q la us G2 (EG.none (by simp) hla) (EG.trans (e2.drop hla)) hla2 hI fun v hv => ?_
        obtain ⟨a, rfl, ha⟩ := hY v hv
        exact ⟨a, rfl, EG.none (by simp) ha⟩
end
end Fs
set_option maxRecDepth 100000
set_option maxHeartbeats 1000000
namespace Fs
open PySem L2
section
variable {P : Program} {w : World} {K : PySem.W.Frag} {mg : Str → Option Value} {base : Heap}
abbrev sLReads : Stmt := top 21
theorem scLReads : FnScope ["_law_deed", "_law_box"] ["_law_deed", "_law_box"] (defScope sLReads) := ⟨rfl, rfl, rfl, by decide +kernel, rfl, by decide +kernel, by decide +kernel⟩
def isAdd : Deed → Bool
  | .add _ _ => true
  | _ => false
def isTell : Deed → Bool
  | .tell _ => true
  | _ => false
theorem word_add (d : Deed) : decide (dword d = "add") = isAdd d := by
  cases d with
  | add _ _ => exact decide_eq_true rfl
  | set _ _ => exact decide_eq_false (show ¬ ("set" : Str) = "add" by decide)
  | call _ => exact decide_eq_false (show ¬ ("call" : Str) = "add" by decide)
  | tell _ => exact decide_eq_false (show ¬ ("tell" : Str) = "add" by decide)
  | save _ => exact decide_eq_false (show ¬ ("save" : Str) = "add" by decide)
  | back _ => exact decide_eq_false (show ¬ ("back" : Str) = "add" by decide)
theorem word_tell (d : Deed) : decide (dword d = "tell") = isTell d := by
  cases d with
  | tell _ => exact decide_eq_true rfl
  | set _ _ => exact decide_eq_false (show ¬ ("set" : Str) = "tell" by decide)
  | call _ => exact decide_eq_false (show ¬ ("call" : Str) = "tell" by decide)
  | add _ _ => exact decide_eq_false (show ¬ ("add" : Str) = "tell" by decide)
  | save _ => exact decide_eq_false (show ¬ ("save" : Str) = "tell" by decide)
  | back _ => exact decide_eq_false (show ¬ ("back" : Str) = "tell" by decide)
theorem law_rd (x : Int) (d : Deed) : rdB x d = (isAdd d && decide (x ∈ dargs d) || (isTell d && decide (darg d = x))) := by
  cases d with
  | tell b =>
    show (true && decide (x ∈ [b])) = (false && _ || (true && decide (b = x)))
    rw [Bool.true_and, Bool.false_and, Bool.false_or, Bool.true_and]
    have : (x ∈ [b]) ↔ b = x := by simp [eq_comm]
    simp only [this]
  | add b o => show (true && _) = (true && _ || (false && _)); simp [dargs]
  | set b o => rfl
  | call b => rfl
  | save b => rfl
  | back b => rfl
theorem ok_lreads {f : Addr} {fd : FuncData} (F : Fun K "_law_reads" "_law_reads" sLReads f fd) : FnOk P w K mg base CX0 1 f fd ["_law_deed", "_law_box"] (spDeedB rdB K) := by
  refine F.ok scLReads (fun vs H Q E h => ?_) (fun cdv A outer s H vs Q E hr h => ?_)
  · obtain ⟨v, d, x, rfl, _⟩ := h
    rfl
  · obtain ⟨v, d, x, rfl, hd, q⟩ := h
    refine ⟨_, pss_one (ps_ret (pe_or (pe_and (pe_cmpR op_eq (pe_ix ix_tup (pv 0) pe_int (fun _ _ => rfl)) pe_str (nomark _)) (pe_one (pe_cmpR op_in_seq (pv 1) (pe_slice sl_tup (pv 0) (po_some pe_int) po_none) rfl)))
      (pe_one (pe_and (pe_cmpR op_eq (pe_ix ix_tup (pv 0) pe_int (fun _ _ => rfl)) pe_str (nomark _)) (pe_one (pe_cmpR op_eq (pe_ix ix_tup (pv 0) pe_int (fun _ _ => rfl)) (pv 1) (nomark _))))))), ?_⟩
    dsimp only [nox_K]
    obtain ⟨p, rfl, hp⟩ := deed_open hd
    have tail : ∀ H', Ext [] H H' → (isAdd d && decide (x ∈ dargs d)) = false → ∀ Q' : VK, (∀ H', Ext [] H H' → Q' (.bl (rdB x d)) H') → tAndV (tOp rEq (tOp (rIxT K) (tVar 0) (tC (V.int 0))) (tC (V.str "tell"))) (tOp rEq (tOp (rIxT K) (tVar 0) (tC (V.int 1))) (tVar 1)) [some (.ref p), some (.int x)] H' Q' := by
      intro H' e' hno Q' hQ
      have hp' := e'.toSame.seqT hp
      refine r_andV ?_
      walk_at "rd"
      refine r_ixT hp' (show atI _ ((0 : Nat) : Int) = some (V.str (dword d)) from atI_nat rfl) ?_
      walk_at "rd"
      refine r_eqS ?_
      rw [word_tell]
      refine ⟨_, rfl, ?_⟩
      have hq := hQ H' e'
      rw [law_rd, hno, Bool.false_or] at hq
      cases hw : isTell d with
      | true =>
        rw [hw] at hq
        refine iteT ?_
        walk_at "rd"
        refine r_ixT hp' (at_arg d) ?_
        walk_at "rd"
        exact r_eqI hq
      | false =>
        rw [hw] at hq
        exact iteF hq
    walk_at "rd"
    refine r_orV (r_andV ?_)
    walk_at "rd"
    refine r_ixT hp (show atI _ ((0 : Nat) : Int) = some (V.str (dword d)) from atI_nat rfl) ?_
    walk_at "rd"
    refine r_eqS ?_
    rw [word_add]
    refine ⟨_, rfl, ?_⟩
    cases hw : isAdd d with
    | true =>
      refine iteT ?_
      walk_at "rd"
      refine ⟨1, rfl, ?_⟩
      walk_at "rd"
      refine ⟨p, _, rfl, hp, ?_, fun p2 hp2 => ?_⟩
      · intro h
        have := h.1
        revert this
        have hn : (V.str (dword d) :: (dargs d).map V.int).length = (dargs d).length + 1 := by simp
        have := (dargs_len d).1
        rw [hn]
        unfold HT.sIx
        simp
        try omega
      rw [cut1]
      refine ⟨p2, (dargs d).map V.int, rfl, .inr (SqT.of upd_same), rfl, flat_ints _, ?_⟩
      rw [if_neg Bool.false_ne_true, inV_ints]
      refine ⟨_, rfl, ?_⟩
      cases hx : decide (x ∈ dargs d) with
      | true =>
        refine iteT ?_
        have hq := q _ (Ext.laid (o := .tup ((dargs d).map V.int)) hp2)
        rw [law_rd, hw, hx] at hq
        exact hq
      | false =>
        refine iteF ?_
        exact tail _ (.laid hp2) (by rw [hx, Bool.and_false]) _ q
    | false =>
      refine iteF ?_
      refine ⟨_, rfl, iteF ?_⟩
      exact tail H (.refl _ _) (by rw [hw]; rfl) _ q
end
end Fs
set_option maxRecDepth 100000
set_option maxHeartbeats 1000000
namespace Fs
open PySem L2
section
variable {P : Program} {w : World} {K : PySem.W.Frag} {mg : Str → Option Value} {base : Heap}
structure GoI (H : Hp) (d du : Addr) (ws : List (List Blk)) (x : Int) (p0 : Pl) (ks due : List Pl) (H' : Hp) : Prop where
  ext : Ext [] H H'
  hd : H' d = some (.dT (trueD ks))
  hdu : ∃ vs, H' du = some (.lst vs) ∧ PlsAt H' vs due
  nod : ks.Nodup
  rk : ∀ y ∈ ks, RT (metOf ws x) p0 y
  rd : ∀ y ∈ due, RT (metOf ws x) p0 y
  clo : ∀ k ∈ ks, readAt ws x k = false ∧ ∀ c ∈ metOf ws x k, c ∈ ks ∨ c ∈ due
  one : p0 ∈ ks ∨ p0 ∈ due
  fewd : due.length ≤ 1 + 16 * ks.length
theorem GoI.end_ {H H' : Hp} {d du : Addr} {ws : List (List Blk)} {x : Int} {p0 : Pl} {ks : List Pl} (h : GoI H d du ws x p0 ks [] H') : askB ws x p0 = false := by
  have key : ∀ y, RT (metOf ws x) p0 y → y ∈ ks := by
    intro y r
    induction r with
    | refl => exact h.one.elim id fun z => absurd z (by simp)
    | step _ hc ih => exact ((h.clo _ ih).2 _ hc).elim id fun z => absurd z (by simp)
  rw [Bool.eq_false_iff]
  intro hb
  obtain ⟨q, r, hq⟩ := askB_iff.mp hb
  rw [(h.clo q (key q r)).1] at hq
  cases hq
abbrev sIsAsked : Stmt := top 22
theorem scIsAsked : FnScope ["_law_works_here", "_law_number_here", "_law_block", "_law_box", "_law_met", "_law_waiting", "_law_place", "_law_deeds_here", "_law_end", "_law_open_yet", "_law_deed"] ["_law_works_here", "_law_number_here", "_law_block", "_law_box"] (defScope sIsAsked) := ⟨rfl, rfl, rfl, by decide +kernel, rfl, by decide +kernel, by decide +kernel⟩
def GoW (H : Hp) (wa d du : Addr) (ws : List (List Blk)) (x : Int) (n b : Nat) (μ : Nat) (σ' : St) (H' : Hp) : Prop := ∃ (ks due : List Pl) (o6 o7 o8 o9 o10 : Option V), μ = ((places ws).length - ks.length) * 17 + due.length ∧
  σ' = [some (.ref wa), some (.int n), some (.int b), some (.int x), some (.ref d), some (.ref du), o6, o7, o8, o9, o10] ∧ GoI H d du ws x ((n : Int), (b : Int)) ks due H'
theorem ok_isasked {f : Addr} {fd : FuncData} (F : Fun K "_law_is_asked" "_law_is_asked" sIsAsked f fd) (hRd : Has P w K mg base "_law_reads" 1 ["_law_deed", "_law_box"] (spDeedB rdB K)) : FnOk P w K mg base CX0 2 f fd ["_law_works_here", "_law_number_here", "_law_block", "_law_box"] (spIsAsked K) := by
  refine F.ok scIsAsked (fun vs H Q E h => ?_) (fun cdv A outer s H vs Q E hr h => ?_)
  · obtain ⟨wa, ws, n, b, x, rfl, _⟩ := h
    rfl
  · obtain ⟨wa, ws, n, b, x, rfl, hW, hok, hpl, q⟩ := h
    have hu := hu_of hr
    refine ⟨_, pss_cons (ps_par (i := 4) (j := 5) rfl scIsAsked.nd rfl rfl (by decide) rfl rfl (pa_cons pe_dnewT (pa_cons (pe_lst (pa_cons (pe_tup (pa_cons (pv 1) (pa_cons (pv 2) pa_nil))) pa_nil)) pa_nil)) rfl)
      (pss_cons (ps_while PassesOwn.never (pt_cmpR (op_neD hr) (pv 5) (pe_lst pa_nil) (nomark _))
        (pss_cons (ps_set (i := 6) scIsAsked.nd rfl (Or.inr rfl) (pe_bm0 PySem.F.plainAttrs_list PySem.F.slot_list_pop PySem.F.type_list_pop mt_pop (pv 5)))
        (pss_one (ps_if (pt_cmp (pc_dnotin hu (pv 6) (pv 4)))
          (pss_cons (ps_dput hu (pv 4) (pv 6) pe_bl rfl)
          (pss_cons (ps_asg (pe_ix ix_list (pe_ix ix_list (pv 0) (pe_ix ix_tup (pv 6) pe_int (fun _ _ => rfl)) (fun _ _ => rfl)) (pe_ix ix_tup (pv 6) pe_int (fun _ _ => rfl)) (fun _ _ => rfl)) (pg_tup (n := 2) rfl (pgs_cons (pg_name (i := 7) scIsAsked.nd rfl (Or.inl rfl)) (pgs_cons (pg_name (i := 8) scIsAsked.nd rfl (Or.inl rfl)) pgs_nil))))
          (pss_cons (ps_set (i := 9) scIsAsked.nd rfl (Or.inl rfl) pe_bl)
          (pss_cons (ps_for PassesOwn.never rfl (pi_list (pv 7)) (pg_name (i := 10) scIsAsked.nd rfl (Or.inl rfl))
            (pss_cons (ps_if (pw_and (pt_truthK K rfl (pv 9) (fun _ => rfl)) (pw_and1 (pt_truthK K rfl (pe_fn hRd hr (by decide) (pa_cons (pv 10) (pa_cons (pv 3) pa_nil))) (fun _ => rfl)))).pt (pss_one (ps_ret pe_bl)) pss_nil)
            (pss_cons (ps_if (pw_and (pt_truthK K rfl (pv 9) (fun _ => rfl)) (pw_and1 (pt_cmpR op_eq (pe_ix ix_tup (pv 10) pe_int (fun _ _ => rfl)) pe_str (nomark _)))).pt (pss_one (ps_expr (pe_bm PySem.F.plainAttrs_list PySem.F.slot_list_append PySem.F.type_list_append mt_append (pv 5) (pa_cons (pe_tup (pa_cons (pe_ix ix_tup (pv 10) pe_int (fun _ _ => rfl)) (pa_cons pe_int pa_nil))) pa_nil)))) pss_nil)
            (pss_one (ps_if (pw_and (pt_cmpR op_in_seq (pe_ix ix_tup (pv 10) pe_int (fun _ _ => rfl)) (pe_tup (pa_cons pe_str (pa_cons pe_str pa_nil))) rfl) (pw_and1 (pt_cmpR op_eq (pe_ix ix_tup (pv 10) pe_int (fun _ _ => rfl)) (pv 3) (nomark _)))).pt (pss_one (ps_set (i := 9) scIsAsked.nd rfl (Or.inl rfl) pe_bl)) pss_nil)))))
          (pss_one (ps_if (pt_truthK K rfl (pv 9) (fun _ => rfl)) (pss_one (ps_expr (pe_bm PySem.F.plainAttrs_list PySem.F.slot_list_extend PySem.F.type_list_extend mt_extend (pv 5) (pa_cons (pe_lc ["_law_to"] [6] rfl (.of rfl) (pi_tup (pe_slice sl_tup (pv 8) (po_some pe_int) po_none)) (fun _ _ _ _ => pg_name (i := 0) (by show ((["_law_to", "_law_place"] : List Str)).Nodup; decide) rfl (Or.inl rfl)) (fun _ _ _ _ => .nil) (fun _ _ _ _ => pe_tup (pa_cons (pe_ix (ix_tupK K rfl) (pv 1) pe_int (fun _ _ => rfl)) (pa_cons (pv 0) pa_nil)))) pa_nil)))) pss_nil))))))
          pss_nil))))
      (pss_one (ps_ret pe_bl))), ?_⟩
    dsimp only [nox_K, comp_K]
    walk_at "rd"
    refine (show ∀ p, _ = none → _ from fun d hd => ?_)
    walk_at "rd"
    refine ⟨len2 (by show 2 ≤ 1000; decide), fun p hp => ?_⟩
    walk_at "rd"
    refine ⟨len2 (by show 1 ≤ 1000; decide), fun du hdu => ?_⟩
    have e0 : Ext [] H (upd H d (.dT [])) := .laid hd
    have E1 : Ext [] H (upd (upd (upd H d (.dT [])) p (.tup [.int n, .int b])) du (.lst [.ref p])) := e0.trans ((Ext.laid hp).trans (.laid hdu))
    have npd : p ≠ du := ne_of_none upd_same hdu
    have hduH : H du = none := (e0.trans (.laid hp)).none (by simp) hdu
    have ndp : d ≠ p := ne_of_none upd_same hp
    have ndu : d ≠ du := ne_of_none (o := .dT []) (by rw [upd_ne ndp, upd_same]) hdu
    refine ⟨_, _, rfl, ?_⟩
    have pfew := places_len hok
    have st0 : GoI H d du ws x ((n : Int), (b : Int)) [] [((n : Int), (b : Int))] (upd (upd (upd H d (.dT [])) p (.tup [.int n, .int b])) du (.lst [.ref p])) := by
      refine ⟨E1, by rw [upd_ne ndu, upd_ne ndp, upd_same]; rfl, ⟨[.ref p], upd_same, .one (by rw [upd_ne npd, upd_same])⟩, List.nodup_nil, (fun _ h => absurd h (by simp)), fun y hy => by rw [List.mem_singleton.mp hy]; exact .refl, (fun _ h => absurd h (by simp)), .inr (List.mem_singleton.mpr rfl), by simp⟩
    generalize upd (upd (upd H d (.dT [])) p (.tup [.int n, .int b])) du (.lst [.ref p]) = H1 at st0 ⊢
    walk_at "rd"
    refine ⟨GoW H wa d du ws x n b, ⟨_, [], _, _, _, _, _, _, rfl, rfl, st0⟩, ?_⟩
    rintro μ σ' H' ⟨ks, due, o6, o7, o8, o9, o10, rfl, rfl, I⟩
    obtain ⟨dvs, hdu', hdp⟩ := I.hdu
    walk_at "rd"
    refine ⟨len2 (Nat.zero_le _), fun en0 hen0 => ?_⟩
    have e2 : Ext [] H' (upd H' en0 (.lst [])) := .laid hen0
    have hdu2 := e2 _ _ (by simp) hdu'
    have hdp2 := hdp.mono e2.tk
    have hd2 := e2 _ _ (by simp) I.hd
    have ext2 := I.ext.trans e2
    refine ⟨pairsD due, .list [], .list (SqL.of hdu2) hdp2.den, .list (SqL.of upd_same) .nil, pairs_shaped due, rfl, ?_⟩
    rw [if_pos rfl, eqv_pairs_nil]
    generalize upd H' en0 (.lst []) = H2 at e2 hdu2 hdp2 hd2 ext2 ⊢
    walk_at "rd"
    rcases List.eq_nil_or_concat due with h | ⟨init, y, h⟩
    · subst h
      rw [decide_eq_true rfl]
      refine iteF ?_
      walk_at "rd"
      have hq := q H2 ext2
      rw [I.end_] at hq
      exact hq
    · have h : due = init ++ [y] := by rw [h, List.concat_eq_append]
      rw [decide_eq_false (by rw [h]; simp)]
      rw [h] at hdp2
      obtain ⟨wvs, v, rfl, hws, vb, rfl, hvb⟩ := hdp2.last
      refine iteT ⟨fun σ' H' => ∃ m', m' < ((places ws).length - ks.length) * 17 + due.length ∧ GoW H wa d du ws x n b m' σ' H', fun _ _ h => h, ?_⟩
      have hyr := I.rd y (by rw [h]; simp)
      have hcU : ∀ p ∈ places ws, ∀ q ∈ metOf ws x p, q ∈ places ws := fun p _ q hq => met_there hok hq
      have hyU := hyr.within hcU hpl
      have hksU : ∀ z ∈ ks, z ∈ places ws := fun z hz => (I.rk z hz).within hcU hpl
      have hkl := nodup_le I.nod hksU
      have hdl : due.length = init.length + 1 := by rw [h]; simp
      have hfd := I.fewd
      have hwl := hws.len
      walk_at "rd"
      refine r_tyL hdu2 ?_
      refine ⟨du, wvs ++ [V.ref vb], .ref vb, rfl, rfl, hdu2, by simp, ?_⟩
      rw [List.dropLast_concat]
      have d3 : upd H2 du (.lst wvs) d = some (.dT (trueD ks)) := by rw [upd_ne ndu]; exact hd2
      have e3 : Ext [] H (upd H2 du (.lst wvs)) := ((ext2.mono (us := [du]) (by simp)).trans (.put (by simp))).drop hduH
      have u3 : upd H2 du (.lst wvs) du = some (.lst wvs) := upd_same
      have tk3 : TK H2 (upd H2 du (.lst wvs)) := .put (by intro ys z; rw [hdu2] at z; cases z)
      have hws3 := hws.mono tk3
      have hvb3 := tk3 _ _ hvb
      generalize upd H2 du (.lst wvs) = H3 at d3 e3 u3 tk3 hws3 hvb3 ⊢
      walk_at "rd"
      refine ⟨d, _, rfl, DGet.t (k := plK y) d3 hvb3, ?_⟩
      rw [valV_pl]
      by_cases hy : y ∈ ks
      · rw [if_pos hy]
        refine r_bl (iteF ?_)
        walk_at "rd"
        refine ⟨_, by rw [hdl]; exact Nat.lt_succ_self _, ks, init, _, _, _, _, _, rfl, rfl, e3, d3, ⟨wvs, u3, hws3⟩, I.nod, I.rk, fun z hz => I.rd z (by rw [h]; exact List.mem_append_left _ hz), fun k hk => ⟨(I.clo k hk).1, fun c hc' => ?_⟩, ?_, by omega⟩
        · rcases (I.clo k hk).2 c hc' with z | z
          · exact .inl z
          · rw [h] at z
            rcases List.mem_append.mp z with z | z
            · exact .inr z
            · rw [List.mem_singleton.mp z]; exact .inl hy
        · rcases I.one with z | z
          · exact .inl z
          · rw [h] at z
            rcases List.mem_append.mp z with z | z
            · exact .inr z
            · rw [List.mem_singleton.mp z]; exact .inl hy
      · rw [if_neg hy]
        refine r_bl (iteT ?_)
        walk_at "rd"
        refine ⟨d, _, rfl, DPut.t (k := plK y) d3 hvb3 (small3 (by unfold trueD; rw [List.length_map]; omega)), ?_⟩
        have hput : putK (trueD ks) (plK y) (V.bl true) = trueD (ks ++ [y]) := by
          rw [putK_new _ (by rw [valV_pl, if_neg hy])]; unfold trueD; rw [List.map_append]; rfl
        rw [hput]
        have d4 : upd H3 d (.dT (trueD (ks ++ [y]))) d = some (.dT (trueD (ks ++ [y]))) := upd_same
        have e4 : Ext [] H (upd H3 d (.dT (trueD (ks ++ [y])))) := ((e3.mono (us := [d]) (by simp)).trans (.put (by simp))).drop hd
        have u4 : upd H3 d (.dT (trueD (ks ++ [y]))) du = some (.lst wvs) := by rw [upd_ne ndu.symm]; exact u3
        have tk4 : TK H3 (upd H3 d (.dT (trueD (ks ++ [y])))) := .put (by intro ys z; rw [d3] at z; cases z)
        have hws4 := hws3.mono tk4
        have hvb4 := tk4 _ _ hvb3
        generalize upd H3 d (.dT (trueD (ks ++ [y]))) = H4 at d4 e4 u4 tk4 hws4 hvb4 ⊢
        have hnod : (ks ++ [y]).Nodup := by
          rw [List.nodup_append]
          refine ⟨I.nod, by simp, fun z hz z' hz' => ?_⟩
          rw [List.mem_singleton.mp hz']
          rintro rfl
          exact hy hz
        have hkl2 := nodup_le (l2 := places ws) hnod fun z hz => by
          rcases List.mem_append.mp hz with t | t
          · exact hksU z t
          · rw [List.mem_singleton.mp t]; exact hyU
        rw [List.length_append, List.length_singleton] at hkl2
        obtain ⟨bk, hbk⟩ := mem_places.mp hyU
        obtain ⟨yn, ya, w1, hy2, hw1, hb1⟩ := blkAt_some hbk
        subst hy2
        obtain ⟨m, n', w1', hp1, hw1', hm, hm1, hm2, hbok⟩ := hok.blk hbk
        obtain ⟨wv, bs, wb, pb, dl, ds, ve, s1, s2, s3, s4, s5, s6, s7, s8⟩ := open_blk hW hbk
        have hra : readAt ws x ((yn : Int), (ya : Int)) = readB x bk := by unfold readAt; rw [hbk]
        have hmet : metOf ws x ((yn : Int), (ya : Int)) = metB x yn bk := by unfold metOf; rw [hbk]
        have hml := met_len hok x ((yn : Int), (ya : Int))
        have hdsl : ds.length = bk.ds.length := by rw [s7.len, List.length_map]
        have hds14 := hbok.few
        walk_at "rd"
        refine r_ixT (SqT.of hvb4) (show atI _ ((0 : Nat) : Int) = some (V.int yn) from atI_nat rfl) ?_
        refine r_ixL (e4.toSame.seq s1) s2 ?_
        walk_at "rd"
        refine r_ixT (SqT.of hvb4) (show atI _ ((1 : Nat) : Int) = some (V.int ya) from atI_nat rfl) ?_
        refine r_ixL (e4.toSame.seq s3) s4 ?_
        refine r_gtup (e4.toSame.seqT s5) rfl ?_
        walk_at "rd"
        refine ⟨dl, rfl, ⟨_, e4.toSame.seq s6⟩, for_list (xs := ds) (fun j σ' G => ∃ (cvs : List V) (o10 : Option V), σ' = [some (.ref wa), some (.int n), some (.int b), some (.int x), some (.ref d), some (.ref du), some (.ref vb), some (.ref dl), some ve, some (.bl (!wrote x (bk.ds.take j))), o10] ∧ Ext [] H G ∧ G d = some (.dT (trueD (ks ++ [((yn : Int), (ya : Int))]))) ∧ G du = some (.lst cvs) ∧
          PlsAt G cvs (init ++ (((till x (bk.ds.take j)).filterMap callOf).map fun c => (c, 0))) ∧ G vb = some (.tup [.int yn, .int ya]) ∧ (till x (bk.ds.take j)).any (rdB x) = false) ?_ ?_ ?_ ?_⟩
        · refine ⟨wvs, _, rfl, e4, d4, u4, ?_, hvb4, rfl⟩
          simpa [till] using hws4
        · rintro j σ' G hj ⟨cvs, o10, rfl, eG, hdG, huG, hcp, hvG, hno⟩
          exact eG.toSame.seq s6
        · rintro j v σ' G hv ⟨cvs, o10, rfl, eG, hdG, huG, hcp, hvG, hno⟩
          obtain ⟨dd, hdd, hDv⟩ := s7.get hv
          obtain ⟨de, hde, rfl⟩ := map_get hdd
          have hjl : j < bk.ds.length := (List.getElem?_eq_some_iff.mp hde).1
          obtain ⟨pd, rfl, hpd⟩ := deed_open hDv
          have hcl := hcp.len
          have hfl := List.length_filterMap_le callOf (till x (bk.ds.take j))
          have htl := till_len x (bk.ds.take j)
          rw [List.length_take] at htl
          rw [List.length_append, List.length_map] at hcl
          have htk : bk.ds.take (j + 1) = bk.ds.take j ++ [de] := take_get hde
          have third : ∀ (G5 : Hp) (fl : Bool) (D : Ends), Ext [] H G5 → (∀ G6, Ext [] G5 G6 → D.nx [some (V.ref wa), some (.int n), some (.int b), some (.int x), some (.ref d), some (.ref du), some (.ref vb), some (.ref dl), some ve, some (.bl (fl && !wrB x de)), some (.ref pd)] G6) →
              tIfS (tAnd (tTest (tOp (rIn K false) (tOp (rIxT K) (tVar 10) (tC (V.int 0))) (tTup (tCons (tC (V.str "set")) (tCons (tC (V.str "add")) tNil))))) (tTest (tOp rEq (tOp (rIxT K) (tVar 10) (tC (V.int 1))) (tVar 3)))) (tAsg (tC (V.bl false)) (gName 9)) tNext D [some (V.ref wa), some (.int n), some (.int b), some (.int x), some (.ref d), some (.ref du), some (.ref vb), some (.ref dl), some ve, some (.bl fl), some (.ref pd)] G5 := by
            intro G5 fl D e5 hD
            have hp5 := e5.toSame.seqT hpd
            with_reducible refine L2.r_if ?_
            with_reducible refine L2.r_and ?_
            walk_at "rd"
            refine r_ixT hp5 (show atI _ ((0 : Nat) : Int) = some (V.str (dword de)) from atI_nat rfl) ?_
            walk_at "rd"
            refine ⟨len2 (by show 2 ≤ 1000; decide), fun pt hpt => ?_⟩
            have e6 : Ext [] G5 (upd G5 pt (.tup [.str "set", .str "add"])) := .laid hpt
            refine ⟨pt, [V.str "set", .str "add"], rfl, .inr (SqT.of upd_same), rfl, rfl, ?_⟩
            rw [if_neg Bool.false_ne_true, deed_in]
            refine ⟨_, rfl, ?_⟩
            have hq := hD _ e6
            have hp6 := e6.toSame.seqT hp5
            generalize upd G5 pt (.tup [.str "set", .str "add"]) = G6 at e6 hq hp6 ⊢
            unfold wrB at hq
            cases hw : (wr de).isSome with
            | true =>
              rw [hw] at hq
              refine iteT ?_
              walk_at "rd"
              refine r_ixT hp6 (at_arg de) ?_
              walk_at "rd"
              refine r_eqI ?_
              refine ⟨_, rfl, ?_⟩
              cases hx : decide (darg de = x) with
              | true =>
                rw [hx] at hq
                refine iteT ?_
                walk_at "rd"
                simpa using hq
              | false =>
                rw [hx] at hq
                refine iteF ?_
                with_reducible refine L2.r_next ?_
                simpa using hq
            | false =>
              rw [hw] at hq
              refine iteF (iteF ?_)
              with_reducible refine L2.r_next ?_
              simpa using hq
          cases hwt : wrote x (bk.ds.take j) with
          | true =>
            have hw1 : wrote x (bk.ds.take (j + 1)) = true := by rw [htk, wrote_snoc, hwt]; rfl
            have ht1 : till x (bk.ds.take (j + 1)) = till x (bk.ds.take j) := by rw [htk, till_app_shut hwt]
            walk_at "rd"
            refine ⟨false, rfl, iteF (iteF ?_)⟩
            walk_at "rd"
            refine ⟨false, rfl, iteF (iteF ?_)⟩
            with_reducible refine L2.r_next ?_
            refine third G false _ eG fun G6 e6 => ⟨cvs, some (.ref pd), ?_, eG.trans e6, e6 _ _ (by simp) hdG, e6 _ _ (by simp) huG, ?_, e6 _ _ (by simp) hvG, ?_⟩
            · rw [hw1]; rfl
            · rw [ht1]; exact hcp.mono e6.tk
            · rw [ht1]; exact hno
          | false =>
            have hw1 : wrote x (bk.ds.take (j + 1)) = wrB x de := by rw [htk, wrote_snoc, hwt]; rfl
            have ht1 : till x (bk.ds.take (j + 1)) = till x (bk.ds.take j) ++ [de] := by rw [htk, till_app_open hwt]
            walk_at "rd"
            refine ⟨true, rfl, iteT ?_⟩
            walk_at "rd"
            refine ⟨.ref pd, de, x, rfl, hDv.mono eG.toSame, fun G2 eG2 => ?_⟩
            refine ⟨rdB x de, rfl, ?_⟩
            cases hrd : rdB x de with
            | true =>
              refine iteT ?_
              walk_at "rd"
              have hask : askB ws x ((n : Int), (b : Int)) = true := askB_iff.mpr ⟨_, hyr, by rw [hra]; unfold readB; exact List.any_eq_true.mpr ⟨de, till_has hwt hde, hrd⟩⟩
              have hq := q G2 (eG.trans eG2)
              rw [hask] at hq
              exact hq
            | false =>
              refine iteF ?_
              have E2 := eG.trans eG2
              have hd2' := eG2 _ _ (by simp) hdG
              have hu2' := eG2 _ _ (by simp) huG
              have hcp2 := hcp.mono eG2.tk
              have hv2' := eG2 _ _ (by simp) hvG
              have hpd2 := E2.toSame.seqT hpd
              have hno1 : (till x (bk.ds.take (j + 1))).any (rdB x) = false := by rw [ht1, List.any_append, hno]; simp [hrd]
              walk_at "rd"
              refine ⟨true, rfl, iteT ?_⟩
              walk_at "rd"
              refine r_ixT hpd2 (show atI _ ((0 : Nat) : Int) = some (V.str (dword de)) from atI_nat rfl) ?_
              walk_at "rd"
              refine r_eqS ?_
              rw [deed_call]
              walk_at "rd"
              cases hcl2 : isCall de with
              | true =>
                refine iteT ?_
                walk_at "rd"
                refine r_tyL hu2' ?_
                walk_at "rd"
                refine r_ixT hpd2 (at_arg de) ?_
                walk_at "rd"
                refine ⟨len2 (by show 2 ≤ 1000; decide), fun p2 hp2 => ?_⟩
                have np2 : p2 ≠ du := (ne_of_none hu2' hp2).symm
                with_reducible refine L2.r_nil ?_
                refine r_app (xs := cvs) (by rw [upd_ne np2.symm]; exact hu2') (by rw [sizeLine_eq]; omega) ?_
                have tk : TK G2 (upd (upd G2 p2 (.tup [.int (darg de), .int 0])) du (.lst (cvs ++ [.ref p2]))) := (Ext.laid hp2).tk.trans (.put (by intro ys z; rw [upd_ne np2.symm, hu2'] at z; cases z))
                have ndd : d ≠ p2 := ne_of_none hd2' hp2
                have E5 : Ext [] H (upd (upd G2 p2 (.tup [.int (darg de), .int 0])) du (.lst (cvs ++ [.ref p2]))) := ((E2.mono (us := [du]) (by simp)).trans ((Ext.laid hp2).trans (.put (by simp)))).drop hduH
                refine third _ true _ E5 fun G6 e6 => ⟨cvs ++ [.ref p2], some (.ref pd), ?_, E5.trans e6, e6 _ _ (by simp) (by rw [upd_ne ndu, upd_ne ndd]; exact hd2'), e6 _ _ (by simp) upd_same, ?_, e6.tk _ _ (tk _ _ hv2'), hno1⟩
                · rw [hw1]; rfl
                · rw [ht1, List.filterMap_append, List.map_append, ← List.append_assoc, List.filterMap_cons, call_of de hcl2]
                  exact ((hcp2.mono tk).append (.one (p := (darg de, 0)) (by rw [upd_ne np2, upd_same]))).mono e6.tk
              | false =>
                refine iteF ?_
                with_reducible refine L2.r_next ?_
                have hn : callOf de = none := by
                  unfold isCall at hcl2
                  cases z : callOf de with
                  | none => rfl
                  | some y => rw [z] at hcl2; cases hcl2
                refine third _ true _ E2 fun G6 e6 => ⟨cvs, some (.ref pd), ?_, E2.trans e6, e6 _ _ (by simp) hd2', e6 _ _ (by simp) hu2', ?_, e6 _ _ (by simp) hv2', hno1⟩
                · rw [hw1]; rfl
                · rw [ht1, List.filterMap_append, List.filterMap_cons, hn, List.filterMap_nil, List.append_nil]
                  exact hcp2.mono e6.tk
        · rintro σ' G ⟨cvs, o10, rfl, eG, hdG, huG, hcp, hvG, hno⟩
          rw [hdsl, List.take_length] at hcp hno ⊢
          have hnr : readAt ws x ((yn : Int), (ya : Int)) = false := by rw [hra]; exact hno
          have hcl := hcp.len
          have hfl := List.length_filterMap_le callOf (till x bk.ds)
          have htl := till_len x bk.ds
          rw [List.length_append, List.length_map] at hcl
          have fin : ∀ (G6 : Hp) (cvs6 : List V), Ext [] H G6 → G6 d = some (.dT (trueD (ks ++ [((yn : Int), (ya : Int))]))) → G6 du = some (.lst cvs6) → PlsAt G6 cvs6 (init ++ metOf ws x ((yn : Int), (ya : Int))) → ∀ o6 o7 o8 o9 o10 : Option V,
              ∃ m', m' < ((places ws).length - ks.length) * 17 + due.length ∧ GoW H wa d du ws x n b m' [some (.ref wa), some (.int n), some (.int b), some (.int x), some (.ref d), some (.ref du), o6, o7, o8, o9, o10] G6 := by
            intro G6 cvs6 e6 hd6 hu6 hp6 o6 o7 o8 o9 o10
            refine ⟨_, ?_, ks ++ [((yn : Int), (ya : Int))], init ++ metOf ws x ((yn : Int), (ya : Int)), o6, o7, o8, o9, o10, rfl, rfl, e6, hd6, ⟨cvs6, hu6, hp6⟩, hnod, ?_, ?_, ?_, ?_, ?_⟩
            · rw [List.length_append, List.length_append, List.length_singleton]; omega
            · intro z hz
              rcases List.mem_append.mp hz with t | t
              · exact I.rk z t
              · rw [List.mem_singleton.mp t]; exact hyr
            · intro z hz
              rcases List.mem_append.mp hz with t | t
              · exact I.rd z (by rw [h]; exact List.mem_append_left _ t)
              · exact .step hyr t
            · intro k hk
              rcases List.mem_append.mp hk with t | t
              · refine ⟨(I.clo k t).1, fun c hc' => ?_⟩
                rcases (I.clo k t).2 c hc' with r | r
                · exact .inl (List.mem_append_left _ r)
                · rw [h] at r
                  rcases List.mem_append.mp r with r | r
                  · exact .inr (List.mem_append_left _ r)
                  · exact .inl (List.mem_append_right _ r)
              · rw [List.mem_singleton.mp t]
                exact ⟨hnr, fun c hc' => .inr (List.mem_append_right _ hc')⟩
            · rcases I.one with r | r
              · exact .inl (List.mem_append_left _ r)
              · rw [h] at r
                rcases List.mem_append.mp r with r | r
                · exact .inr (List.mem_append_left _ r)
                · exact .inl (List.mem_append_right _ r)
            · rw [List.length_append, List.length_append, List.length_singleton]; omega
          walk_at "rd"
          cases hwt : wrote x bk.ds with
          | true =>
            refine ⟨false, rfl, iteF ?_⟩
            with_reducible refine L2.r_next ?_
            refine fin G cvs eG hdG huG ?_ _ _ _ _ _
            rw [hmet]
            unfold metB callsOf
            rw [hwt, if_pos rfl, List.append_nil]
            exact hcp
          | false =>
            refine ⟨true, rfl, iteT ?_⟩
            walk_at "rd"
            refine r_tyL huG ?_
            walk_at "rd"
            obtain ⟨wd, hwd, _⟩ := endD_is' hbok.ns
            rw [hwd] at s8
            obtain ⟨en, es', rfl, hen, hes⟩ := s8.ofTuple
            obtain ⟨v3, r3, rfl, hd3', hr3⟩ := hes.ofCons
            have ee3 := hd3'.ofStr
            subst ee3
            have ee4 := hr3.ints
            subst ee4
            have hnf := hbok.ns.few
            refine ⟨1, rfl, ?_⟩
            walk_at "rd"
            refine ⟨en, _, rfl, eG.toSame.seqT hen, ?_, fun pp hpp => ?_⟩
            · intro hh
              have := hh.1
              revert this
              have hn : (V.str wd :: bk.ns.map V.int).length = bk.ns.length + 1 := by simp
              rw [hn]
              unfold HT.sIx
              simp
              try omega
            rw [cut1]
            have e5 : Ext [] G (upd G pp (.tup (bk.ns.map V.int))) := .laid hpp
            have hu5 := e5 _ _ (by simp) huG
            have hd5 := e5 _ _ (by simp) hdG
            have hv5 := e5 _ _ (by simp) hvG
            have hcp5 := hcp.mono e5.tk
            have hpp5 : upd G pp (.tup (bk.ns.map V.int)) pp = some (.tup (bk.ns.map V.int)) := upd_same
            generalize upd G pp (.tup (bk.ns.map V.int)) = G5 at e5 hu5 hd5 hv5 hcp5 hpp5 ⊢
            refine ⟨pp, rfl, ⟨_, SqT.of hpp5⟩, fun le hle => ?_⟩
            have npl : pp ≠ le := ne_of_none hpp5 hle
            have nvl : vb ≠ le := ne_of_none hv5 hle
            refine loop_tup (xs := bk.ns.map V.int) (fun j σ' G6 => ∃ (o0 : Option V) (ts : List V), σ' = [o0, some (.ref vb)] ∧ Ext [le] G5 G6 ∧ G6 le = some (.lst ts) ∧ PlsAt G6 ts ((bk.ns.take j).map fun t => ((yn : Int), t))) ?_ ?_ ?_ ?_
            · exact ⟨none, [], rfl, .laid hle, upd_same, .nil⟩
            · rintro j σ' G6 hj ⟨o0, ts, rfl, e6, hle6, hts⟩
              exact SqT.of (e6 _ _ (by simpa using npl) hpp5)
            · rintro j yy σ' G6 R hyy ⟨o0, ts, rfl, e6, hle6, hts⟩ hR
              obtain ⟨t, ht, rfl⟩ := map_get hyy
              have hj : j < bk.ns.length := (List.getElem?_eq_some_iff.mp ht).1
              have htl := hts.len
              rw [List.length_map, List.length_take] at htl
              walk_at "rd"
              refine iteT ?_
              walk_at "rd"
              refine r_ixT (SqT.of (e6 _ _ (by simpa using nvl) hv5)) (show atI _ ((0 : Nat) : Int) = some (V.int yn) from atI_nat rfl) ?_
              walk_at "rd"
              refine ⟨len2 (by show 2 ≤ 1000; decide), fun p2 hp2 => ?_⟩
              have np2 : p2 ≠ le := (ne_of_none hle6 hp2).symm
              have tk : TK G6 (upd (upd G6 p2 (.tup [.int yn, .int t])) le (.lst (ts ++ [.ref p2]))) := (Ext.laid hp2).tk.trans (.put (by intro ys z; rw [upd_ne np2.symm, hle6] at z; cases z))
              refine ⟨ts, by rw [upd_ne np2.symm]; exact hle6, small1000 (by omega), hR _ _ ⟨_, ts ++ [.ref p2], rfl, e6.trans ((Ext.laid hp2).trans (.put (by simp))), upd_same, ?_⟩⟩
              rw [take_get ht, List.map_append]
              exact (hts.mono tk).append (.one (by rw [upd_ne np2, upd_same]))
            · rintro σ' G6 ⟨o0, ts, rfl, e6, hle6, hts⟩
              rw [List.length_map, List.take_length] at hts
              have htl := hts.len
              rw [List.length_map] at htl
              have E6 := e6.drop hle
              have hu6 := E6 _ _ (by simp) hu5
              have hd6 := E6 _ _ (by simp) hd5
              walk_at "rd"
              refine ⟨du, le, cvs, ts, rfl, rfl, hu6, hle6, by rw [sizeLine_eq]; omega, ?_⟩
              have tk : TK G6 (upd G6 du (.lst (cvs ++ ts))) := .put (by intro ys z; rw [hu6] at z; cases z)
              refine fin _ (cvs ++ ts) (((((eG.trans e5).trans E6).mono (us := [du]) (by simp)).trans (.put (by simp))).drop hduH) (by rw [upd_ne ndu]; exact hd6) upd_same ?_ _ _ _ _ _
              rw [hmet]
              unfold metB callsOf
              rw [hwt, if_neg Bool.false_ne_true, ← List.append_assoc]
              exact ((hcp5.mono E6.tk).append hts).mono tk
end
end Fs
set_option maxRecDepth 100000
set_option maxHeartbeats 1000000
namespace Fs
open PySem L2
section
variable {P : Program} {w : World} {K : PySem.W.Frag} {mg : Str → Option Value} {base : Heap}
abbrev sChain : Stmt := top 23
theorem scChain : FnScope ["_law_many_here", "_law_box", "_law_chain"] ["_law_many_here", "_law_box"] (defScope sChain) := ⟨rfl, rfl, rfl, by decide +kernel, rfl, by decide +kernel, by decide +kernel⟩
theorem ok_chain {f : Addr} {fd : FuncData} (F : Fun K "_law_chain_right" "_law_chain_right" sChain f fd) (nrange : mg "range" = none) (hAs : Has P w K mg base "asks" 5 ["works"] (spAsks K)) : FnOk P w K mg base CX0 6 f fd ["_law_many_here", "_law_box"] (spChain K) := by
  refine F.ok scChain (fun vs H Q E h => ?_) (fun cdv A outer s H vs Q E hr h => ?_)
  · obtain ⟨k, box, rfl, _⟩ := h
    rfl
  · obtain ⟨k, box, rfl, hk, hb0, hb1, q⟩ := h
    refine ⟨_, pss_cons (ps_set (i := 2) scChain.nd rfl (Or.inl rfl) (pe_op op_cat
        (pe_lc ["_law_k"] [] rfl (.of rfl) (pi_range1 rfl nrange (pa_cons (pv 0) pa_nil)) (fun _ _ _ _ => pg_name (i := 0) (by show ((["_law_k"] : List Str)).Nodup; decide) rfl (Or.inl rfl)) (fun _ _ _ _ => .nil) (fun _ _ _ _ => pe_lst (pa_cons (pe_tup (pa_cons (pe_lst (pa_cons (pe_tup (pa_cons pe_str (pa_cons (pe_op op_add (pv 0) pe_int) pa_nil))) pa_nil)) (pa_cons (pe_tup (pa_cons pe_str pa_nil)) pa_nil))) pa_nil)))
        (pe_lst (pa_cons (pe_lst (pa_cons (pe_tup (pa_cons (pe_lst (pa_cons (pe_tup (pa_cons pe_str (pa_cons (pv 1) pa_nil))) pa_nil)) (pa_cons (pe_tup (pa_cons pe_str pa_nil)) pa_nil))) pa_nil)) pa_nil))))
      (pss_one (ps_ret (pe_cmpR (op_eqD hr) (pe_fn hAs hr (by decide) (pa_cons (pv 2) pa_nil)) (pe_op op_rep (pe_lst (pa_cons (pe_lst (pa_cons (pv 1) pa_nil)) pa_nil)) (pe_op op_add (pv 0) pe_int)) (nomark _)))), ?_⟩
    dsimp only [nox_K, comp_K]
    walk_at "rd"
    refine ⟨(k : Int), rfl, by omega, by omega, fun l hl => ?_⟩
    have lay : ∀ (G : Hp) (p1 l1 p2 p3 l2 : Addr) (wd : Str) (c : Int), G p1 = none → upd G p1 (.tup [.str wd, .int c]) l1 = none → upd (upd G p1 (.tup [.str wd, .int c])) l1 (.lst [.ref p1]) p2 = none → upd (upd (upd G p1 (.tup [.str wd, .int c])) l1 (.lst [.ref p1])) p2 (.tup [.str "out"]) p3 = none → upd (upd (upd (upd G p1 (.tup [.str wd, .int c])) l1 (.lst [.ref p1])) p2 (.tup [.str "out"])) p3 (.tup [.ref l1, .ref p2]) l2 = none →
        Ext [] G (upd (upd (upd (upd (upd G p1 (.tup [.str wd, .int c])) l1 (.lst [.ref p1])) p2 (.tup [.str "out"])) p3 (.tup [.ref l1, .ref p2])) l2 (.lst [.ref p3])) ∧ Den K (yo G [] (upd (upd (upd (upd (upd G p1 (.tup [.str wd, .int c])) l1 (.lst [.ref p1])) p2 (.tup [.str "out"])) p3 (.tup [.ref l1, .ref p2])) l2 (.lst [.ref p3]))) (.list [.tuple [.list [.tuple [.str wd, .int c]], .tuple [.str "out"]]]) (.ref l2) := by
      intro G p1 l1 p2 p3 l2 wd c h1 h2 h3 h4 h5
      have e5 := Ext.laid (ts := []) (o := .lst [V.ref p3]) h5
      have e4 := (Ext.laid (ts := []) (o := .tup [V.ref l1, .ref p2]) h4).trans e5
      have e3 := (Ext.laid (ts := []) (o := .tup [V.str "out"]) h3).trans e4
      have e2 := (Ext.laid (ts := []) (o := .lst [V.ref p1]) h2).trans e3
      have x1 := Ext.laid (ts := []) (o := .tup [V.str wd, .int c]) h1
      have x2 := x1.trans (.laid (o := .lst [V.ref p1]) h2)
      have x3 := x2.trans (.laid (o := .tup [V.str "out"]) h3)
      have x4 := x3.trans (.laid (o := .tup [V.ref l1, .ref p2]) h4)
      have g2 := x1.none (by simp) h2
      have g3 := x2.none (by simp) h3
      have g4 := x3.none (by simp) h4
      have g5 := x4.none (by simp) h5
      refine ⟨(Ext.laid h1).trans e2, .list (vs := [.ref p3]) (SqL.of ?_) (.cons (.tuple (vs := [.ref l1, .ref p2]) (SqT.of ?_) (.cons (.list (vs := [.ref p1]) (SqL.of ?_) (.cons (.tuple (vs := [.str wd, .int c]) (SqT.of ?_) (.cons .str (.cons .int .nil))) .nil)) (.cons (.tuple (vs := [.str "out"]) (SqT.of ?_) (.cons .str .nil)) .nil))) .nil)⟩
      · rw [yo_out g5 (by simp)]; exact upd_same
      · rw [yo_out g4 (by simp)]; exact e5 _ _ (by simp) upd_same
      · rw [yo_out g2 (by simp)]; exact e3 _ _ (by simp) upd_same
      · rw [yo_out h1 (by simp)]; exact e2 _ _ (by simp) upd_same
      · rw [yo_out g3 (by simp)]; exact e4 _ _ (by simp) upd_same
    refine loop_range (lo := 0) (n := (k : Int).toNat) (fun j σ' G => ∃ (o0 : Option V) (us : List V), σ' = [o0] ∧ Ext [l] H G ∧ G l = some (.lst us) ∧ DenL K (wo [l] G) ((chainTo j).map workD) us) ?_ ?_ ?_
    · exact ⟨none, [], rfl, .laid hl, upd_same, .nil⟩
    · rintro j σ' G R hj ⟨o0, us, rfl, eG, hlG, hus⟩ hR
      have hul : us.length = j := by rw [hus.len, List.length_map]; unfold chainTo; simp
      walk_at "rd"
      refine iteT ?_
      walk_at "rd"
      refine ⟨len2 (by show 2 ≤ 1000; decide), fun p1 h1 => ?_⟩
      walk_at "rd"
      refine ⟨len2 (by show 1 ≤ 1000; decide), fun l1 h2 => ?_⟩
      walk_at "rd"
      refine ⟨len2 (by show 1 ≤ 1000; decide), fun p2 h3 => ?_⟩
      walk_at "rd"
      refine ⟨len2 (by show 2 ≤ 1000; decide), fun p3 h4 => ?_⟩
      walk_at "rd"
      refine ⟨len2 (by show 1 ≤ 1000; decide), fun l2 h5 => ?_⟩
      obtain ⟨e1, d1⟩ := lay G p1 l1 p2 p3 l2 "call" (0 + (j : Int) + 1) h1 h2 h3 h4 h5
      generalize upd (upd (upd (upd (upd G p1 (.tup [V.str "call", .int (0 + (j : Int) + 1)])) l1 (.lst [.ref p1])) p2 (.tup [.str "out"])) p3 (.tup [.ref l1, .ref p2])) l2 (.lst [V.ref p3]) = G5 at e1 d1 ⊢
      have hl5 := e1 _ _ (by simp) hlG
      refine ⟨us, hl5, small1000 (by omega), hR _ _ ⟨_, us ++ [.ref l2], rfl, (eG.trans (e1.mono (by simp))).trans (.put (by simp)), upd_same, ?_⟩⟩
      have hs : Same (wo [l] G5) (wo [l] (upd G5 l (.lst (us ++ [.ref l2])))) := (Ext.put (ts := [l]) (by simp)).same
      have hch : (chainTo (j + 1)).map workD = (chainTo j).map workD ++ [.list [.tuple [.list [.tuple [.str "call", .int (0 + (j : Int) + 1)]], .tuple [.str "out"]]]] := by
        unfold chainTo; rw [List.range_succ, List.map_append, List.map_append, Int.zero_add]; rfl
      rw [hch]
      refine DenL.append ((hus.mono (e1.mono (us := [l]) (by simp)).same).mono hs) (.cons (d1.mono fun a o z => hs a o ?_) .nil)
      obtain ⟨z1, z2, z3⟩ := yo_some z
      have na : a ≠ l := fun y => by rw [y, hlG] at z1; cases z1
      rw [wo_out (by simpa using na)]; exact z3
    · rintro σ' G ⟨o0, us, rfl, eG, hlG, hus⟩
      have hus : DenL K G ((chainTo k).map workD) us := by
        have := hus.mono (wo_same _ _)
        simpa using this
      have hul : us.length = k := by rw [hus.len, List.length_map]; unfold chainTo; simp
      walk_at "rd"
      refine ⟨len2 (by show 2 ≤ 1000; decide), fun p1 h1 => ?_⟩
      walk_at "rd"
      refine ⟨len2 (by show 1 ≤ 1000; decide), fun l1 h2 => ?_⟩
      walk_at "rd"
      refine ⟨len2 (by show 1 ≤ 1000; decide), fun p2 h3 => ?_⟩
      walk_at "rd"
      refine ⟨len2 (by show 2 ≤ 1000; decide), fun p3 h4 => ?_⟩
      walk_at "rd"
      refine ⟨len2 (by show 1 ≤ 1000; decide), fun l2 h5 => ?_⟩
      obtain ⟨e1, d1⟩ := lay G p1 l1 p2 p3 l2 "tell" box h1 h2 h3 h4 h5
      generalize upd (upd (upd (upd (upd G p1 (.tup [V.str "tell", .int box])) l1 (.lst [.ref p1])) p2 (.tup [.str "out"])) p3 (.tup [.ref l1, .ref p2])) l2 (.lst [V.ref p3]) = G5 at e1 d1 ⊢
      walk_at "rd"
      refine ⟨len2 (by show 1 ≤ 1000; decide), fun l3 h6 => ?_⟩
      have e6 : Ext [] G5 (upd G5 l3 (.lst [.ref l2])) := .laid h6
      refine ⟨l, l3, us, [.ref l2], rfl, rfl, (e1.trans e6) _ _ (by simp) hlG, upd_same, len2 (by simp; omega), fun lw hlw => ?_⟩
      have e7 : Ext [] G (upd (upd G5 l3 (.lst [.ref l2])) lw (.lst (us ++ [.ref l2]))) := e1.trans (e6.trans (.laid hlw))
      have dW : Den K (upd (upd G5 l3 (.lst [.ref l2])) lw (.lst (us ++ [V.ref l2]))) (worksD (chainWs k box)) (.ref lw) := by
        refine .list (SqL.of upd_same) ?_
        unfold chainWs
        rw [List.map_append]
        exact DenL.append (hus.mono e7.toSame) (.cons ((d1.mono yo_same).mono (e6.trans (.laid hlw)).toSame) .nil)
      have EH : Ext [] H (upd (upd G5 l3 (.lst [.ref l2])) lw (.lst (us ++ [V.ref l2]))) := (eG.drop hl).trans e7
      generalize upd (upd G5 l3 (.lst [.ref l2])) lw (.lst (us ++ [V.ref l2])) = G7 at e7 dW EH ⊢
      walk_at "rd"
      refine ⟨lw, chainWs k box, rfl, dW, chain_ok hk hb0 hb1, fun la ua H8 hla e8 hla8 hI _ => ?_⟩
      rw [chain_askAll hb0 hb1] at hI
      walk_at "rd"
      refine ⟨len2 (by show 1 ≤ 1000; decide), fun lb hlb => ?_⟩
      walk_at "rd"
      refine ⟨len2 (by show 1 ≤ 1000; decide), fun lc hlc => ?_⟩
      walk_at "rd"
      have nbc : lb ≠ lc := ne_of_none upd_same hlc
      refine ⟨lc, (k : Int) + 1, [.ref lb], rfl, rfl, upd_same, by omega, by omega, len2 (by simp; omega), fun ld hld => ?_⟩
      have e9 : Ext [] H8 (upd (upd (upd H8 lb (.lst [.int box])) lc (.lst [.ref lb])) ld (.lst (List.replicate ((k : Int) + 1).toNat [V.ref lb]).flatten)) := (Ext.laid hlb).trans ((Ext.laid hlc).trans (.laid hld))
      have hlb9 : upd (upd (upd H8 lb (.lst [.int box])) lc (.lst [.ref lb])) ld (.lst (List.replicate ((k : Int) + 1).toNat [V.ref lb]).flatten) lb = some (.lst [.int box]) := ((Ext.laid (ts := []) hlc).trans (.laid hld)) _ _ (by simp) upd_same
      have hrep : (List.replicate ((k : Int) + 1).toNat [V.ref lb]).flatten = List.replicate (k + 1) (V.ref lb) := by
        rw [show ((k : Int) + 1).toNat = k + 1 by omega]
        generalize k + 1 = n
        induction n with
        | zero => rfl
        | succ n ih => rw [List.replicate_succ, List.flatten_cons, ih]; rfl
      rw [hrep] at e9 hlb9 ⊢
      have hld9 : upd (upd (upd H8 lb (.lst [.int box])) lc (.lst [.ref lb])) ld (.lst (List.replicate (k + 1) (V.ref lb))) ld = some (.lst (List.replicate (k + 1) (V.ref lb))) := upd_same
      generalize upd (upd (upd H8 lb (.lst [.int box])) lc (.lst [.ref lb])) ld (.lst (List.replicate (k + 1) (V.ref lb))) = H9 at e9 hlb9 hld9 ⊢
      have hsm : ∀ ns ∈ List.replicate (k + 1) [box], (∀ n ∈ ns, -1 ≤ n ∧ n ≤ 100) ∧ ns.length ≤ 8 := fun ns hns => by
        rw [(List.mem_replicate.mp hns).2]
        exact ⟨fun n hn => by rw [List.mem_singleton.mp hn]; omega, by simp⟩
      obtain ⟨t1, t2, t3⟩ := lists_tame hsm (by rw [List.length_replicate]; omega)
      have tS := tame_shaped t1 t3 ⟨_, rfl⟩
      have dR : DenL K H9 ((List.replicate (k + 1) [box]).map intsD) (List.replicate (k + 1) (V.ref lb)) := by
        rw [List.map_replicate]
        generalize k + 1 = n
        induction n with
        | zero => exact .nil
        | succ n ih => rw [List.replicate_succ, List.replicate_succ]; exact .cons (.list (SqL.of hlb9) (DenL.ofInts [box])) ih
      refine ⟨.list ((List.replicate (k + 1) [box]).map intsD), .list ((List.replicate (k + 1) [box]).map intsD), .list (SqL.of (e9 _ _ (by simp) hla8)) (hI.den.mono e9.toSame), .list (SqL.of hld9) dR, tS, tS, ?_⟩
      rw [if_neg Bool.false_ne_true, eqv_refl _ (tame_nodict t1)]
      exact q H9 (EH.trans (e8.trans e9))
end
end Fs
set_option maxRecDepth 100000
set_option maxHeartbeats 1000000
namespace Fs
open PySem L2
section
variable {P : Program} {w : World} {K : PySem.W.Frag} {mg : Str → Option Value} {base : Heap}
abbrev sLaw : Stmt := top 24
def spLaw (K : PySem.W.Frag) : Sp := fun vs H Q _ => ∃ (a : Addr) (ns : List Int), vs = [.ref a] ∧ SqL K H a (ns.map V.int) ∧ ns.length ≤ 63 ∧ ∀ H', Q (.bl true) H'
theorem scLaw : FnScope ["_law_script", "_law_k", "_law_tape_here", "_law_works_here", "_law_kept", "_law_due", "_law_found", "_law_some"] ["_law_script"] (defScope sLaw) := ⟨rfl, rfl, rfl, by decide +kernel, rfl, by decide +kernel, by decide +kernel⟩
theorem works_den {K : PySem.W.Frag} {G H : Hp} : ∀ {as : List Addr} {ws : List (List Blk)}, WorksAt K G H as ws → Same G H → DenL K H (ws.map workD) (as.map V.ref)
  | _, _, .nil, _ => .nil
  | _, _, .cons ⟨bs, e, d⟩ r, g => .cons (.list (SqL.of e) (d.mono g)) (works_den r g)
theorem ok_law {f : Addr} {fd : FuncData} (F : Fun K "law" "law" sLaw f fd) (nrange : mg "range" = none) (nlen : mg "len" = none) (nmax : mg "max" = none) (nmin : mg "min" = none) (nrepr : mg "repr" = none)
    (hT : Has P w K mg base "_law_tape" 1 ["_law_script", "_law_k"] (spTape K)) (hD : Has P w K mg base "_law_draw" 1 ["_law_tape_here", "_law_many_here"] spDraw) (hW : Has P w K mg base "_law_works" 5 ["_law_tape_here", "_law_most"] (spWorks K))
    (hA : Has P w K mg base "_law_is_asked" 2 ["_law_works_here", "_law_number_here", "_law_block", "_law_box"] (spIsAsked K)) (hS : Has P w K mg base "asks" 5 ["works"] (spAsks K)) (hC : Has P w K mg base "_law_chain_right" 6 ["_law_many_here", "_law_box"] (spChain K)) :
    FnOk P w K mg base CX0 7 f fd ["_law_script"] (spLaw K) := by
  refine F.ok scLaw (fun vs H Q E h => ?_) (fun cdv A outer s H vs Q E hr h => ?_)
  · obtain ⟨a, ns, rfl, _⟩ := h
    rfl
  · obtain ⟨a, ns, rfl, hSq, hlen, q⟩ := h
    refine ⟨_, pss_cons (ps_for PassesOwn.never rfl (pi_range1 rfl nrange (pa_cons (pe_callB (call_max2 rfl) (by rfl) nmax PyProof.Rows.boot_max (pa_cons pe_int (pa_cons (pe_callB (call_min2 rfl) (by rfl) nmin PyProof.Rows.boot_min (pa_cons (pe_callB call_len_seq (by rfl) nlen PySem.boot_len (pa_cons (pv 0) pa_nil)) (pa_cons pe_int pa_nil))) pa_nil))) pa_nil)) (pg_name (i := 1) scLaw.nd rfl (Or.inl rfl))
        (pss_cons (ps_set (i := 2) scLaw.nd rfl (Or.inl rfl) (pe_fn hT hr (by decide) (pa_cons (pv 0) (pa_cons (pv 1) pa_nil))))
        (pss_cons (ps_set (i := 3) scLaw.nd rfl (Or.inr rfl) (pe_fn hW hr (by decide) (pa_cons (pv 2) (pa_cons pe_int pa_nil))))
        (pss_cons (ps_set (i := 4) scLaw.nd rfl (Or.inl rfl) (pe_callB (call_repr hr) (by rfl) nrepr PyProof.Rows.boot_repr (pa_cons (pv 3) pa_nil)))
        (pss_cons (ps_lcC (i := 5) ["_law_n"] [3] "_law_n" rfl (.of rfl) scLaw.nd rfl (Or.inl rfl) (pi_range1 rfl nrange (pa_cons (pe_callB call_len_seq (by rfl) nlen PySem.boot_len (pa_cons (pv 3) pa_nil)) pa_nil)) (fun _ _ _ _ => pg_name (i := 0) (by show ((["_law_n", "_law_works_here"] : List Str)).Nodup; decide) rfl (Or.inr rfl)) (fun _ _ _ _ => .nil)
          (fun _ _ _ _ => pe_lc ["_law_box"] [1, 0] rfl (.of rfl) (pi_range1 rfl nrange (pa_cons pe_int pa_nil)) (fun _ _ _ _ => pg_name (i := 0) (by show ((["_law_box", "_law_works_here", "_law_n"] : List Str)).Nodup; decide) rfl (Or.inl rfl)) (fun _ _ _ _ => .cons (pt_truthK K rfl (pe_fn hA hr (by decide) (pa_cons (pv 1) (pa_cons (pv 2) (pa_cons pe_int (pa_cons (pv 0) pa_nil))))) (fun _ => rfl)) .nil) (fun _ _ _ _ => pv 0)))
        (pss_cons (ps_set (i := 6) scLaw.nd rfl (Or.inl rfl) (pe_fn hS hr (by decide) (pa_cons (pv 3) pa_nil)))
        (pss_cons (ps_if (pw_or (pt_cmpR op_ne (pe_callB (call_repr hr) (by rfl) nrepr PyProof.Rows.boot_repr (pa_cons (pv 6) pa_nil)) (pe_callB (call_repr hr) (by rfl) nrepr PyProof.Rows.boot_repr (pa_cons (pv 5) pa_nil)) (nomark _)) (pw_or1 (pt_cmpR op_ne (pe_callB (call_repr hr) (by rfl) nrepr PyProof.Rows.boot_repr (pa_cons (pv 3) pa_nil)) (pv 4) (nomark _)))).pt (pss_one (ps_ret pe_bl)) pss_nil)
        (pss_cons (ps_for PassesOwn.never rfl (pi_list (pv 6)) (pg_name (i := 7) scLaw.nd rfl (Or.inl rfl)) (pss_one (ps_expr (pe_bm PySem.F.plainAttrs_list PySem.F.slot_list_append PySem.F.type_list_append mt_append (pv 7) (pa_cons pe_int pa_nil)))))
        (pss_cons (ps_expr (pe_bm0 PySem.F.plainAttrs_list PySem.F.slot_list_clear PySem.F.type_list_clear mt_clear (pv 6)))
        (pss_one (ps_if (pw_or (pt_cmpR (op_neD hr) (pe_fn hS hr (by decide) (pa_cons (pv 3) pa_nil)) (pv 5) (nomark _)) (pw_or1 (pt_not (pt_truthK K rfl (pe_fn hC hr (by decide) (pa_cons (pe_fn hD hr (by decide) (pa_cons (pv 2) (pa_cons pe_int pa_nil))) (pa_cons (pe_fn hD hr (by decide) (pa_cons (pv 2) (pa_cons pe_int pa_nil))) pa_nil))) (fun _ => rfl))))).pt (pss_one (ps_ret pe_bl)) pss_nil)))))))))))
      (pss_one (ps_ret pe_bl)), ?_⟩
    dsimp only [nox_K, comp_K, compC_K]
    walk_at "rd"
    refine ⟨a, _, rfl, .inl hSq, ?_⟩
    rw [List.length_map]
    walk_at "rd"
    refine ⟨_, _, rfl, ?_⟩
    walk_at "rd"
    refine ⟨_, _, rfl, ?_⟩
    generalize hN : (if (if (4 : Int) < (ns.length : Int) then (4 : Int) else (ns.length : Int)) > 1 then (if (4 : Int) < (ns.length : Int) then (4 : Int) else (ns.length : Int)) else 1) = N
    have hN1 : 1 ≤ N ∧ N ≤ 4 := by
      rw [← hN]
      repeat' split
      all_goals omega
    walk_at "rd"
    refine ⟨N, rfl, by omega, by omega, for_range (lo := 0) (n := N.toNat) (fun i σ' H' => ∃ (o1 o2 o3 o4 o5 o6 o7 : Option V), σ' = [some (.ref a), o1, o2, o3, o4, o5, o6, o7] ∧ Ext [] H H') ?_ ?_ ?_⟩
    · exact ⟨_, _, _, _, _, _, _, rfl, .refl _ _⟩
    · rintro i σ' H' hi ⟨o1, o2, o3, o4, o5, o6, o7, rfl, e'⟩
      walk_at "rd"
      refine ⟨a, ns, i, by show [V.ref a, V.int (0 + (i : Int))] = [V.ref a, V.int (i : Int)]; rw [Int.zero_add], e'.toSame.seq hSq, by omega, fun t H1 ht T1 s1 => ?_⟩
      walk_at "rd"
      refine ⟨t, 0, 4, rfl, T1, by omega, by decide, by decide, fun l as ws H2 hl nlt hla has hnd T2 e2 hl2 hWA hok0 _ => ?_⟩
      have hok : WsOk ws := ⟨hok0.all, hok0.one, by have := hok0.few; omega⟩
      have h10 := hok0.few
      have e12 : Ext [] H' H2 := ((show Ext [t] H' H1 from fun b o _ h => s1 b o h).trans e2).drop ht
      have hal := hWA.len
      have dW : Den K H2 (worksD ws) (.ref l) := .list (SqL.of hl2) (works_den hWA yo_same)
      obtain ⟨w1, w2, w3⟩ := works_tame hok
      obtain ⟨v4, v5, v6⟩ := tame_shown2 w1 (by omega) w3
      obtain ⟨t1, t2, t3⟩ := lists_tame (askAll_small ws ws.length) (by rw [askAll_len]; omega)
      obtain ⟨u1, u2, u3⟩ := tame_shown t1 t2 t3
      have tS := tame_shaped t1 t3 ⟨_, rfl⟩
      walk_at "rd"
      refine ⟨l, worksD ws, rfl, dW, v4, v5, v6, ?_⟩
      walk_at "rd"
      refine ⟨l, _, rfl, .inl (SqL.of hl2), ?_⟩
      rw [List.length_map, hal]
      walk_at "rd"
      refine ⟨(ws.length : Int), rfl, by omega, by omega, fun ld hld => ?_⟩
      have nld : l ≠ ld := ne_of_none hl2 hld
      refine loop_range (lo := 0) (n := (ws.length : Int).toNat) (fun n σ' G => ∃ (o0 : Option V) (us : List V), σ' = [o0, some (.ref l)] ∧ Ext [ld] H2 G ∧ G ld = some (.lst us) ∧ IntsAt G us (askAll ws n) ∧ ∀ v ∈ us, v ≠ .ref ld) ?_ ?_ ?_
      · exact ⟨none, [], rfl, .laid hld, upd_same, .nil, by simp⟩
      · rintro n σ' G R hn ⟨o0, us, rfl, eG, hldG, hI, hne⟩ hR
        have hn8 : n < ws.length := by omega
        have hul := hI.len
        rw [askAll_len] at hul
        have hpl : ((n : Int), ((0 : Nat) : Int)) ∈ places ws := by
          refine mem_places.mpr ?_
          rw [blkAt_nat, List.getElem?_eq_getElem hn8]
          obtain ⟨m', g1, g2, g3⟩ := hok.all ws[n] (List.getElem_mem hn8)
          have g4 := g3.len
          exact ⟨_, List.getElem?_eq_getElem (by omega)⟩
        walk_at "rd"
        refine iteT ?_
        walk_at "rd"
        refine ⟨8, rfl, by decide, by decide, fun lb hlb => ?_⟩
        have nlb : ld ≠ lb := ne_of_none hldG hlb
        refine loop_range (lo := 0) (n := (8 : Int).toNat) (fun j σ' G3 => ∃ (o0 : Option V), σ' = [o0, some (.ref l), some (.int (0 + (n : Int)))] ∧ Ext [lb] G G3 ∧ G3 lb = some (.lst ((askTo ws n j).map V.int))) ?_ ?_ ?_
        · exact ⟨none, rfl, .laid hlb, upd_same⟩
        · rintro j σ' G3 R hj ⟨o0, rfl, e3, hlb3⟩ hR
          have hj8 : j < 8 := hj
          have hal2 := askTo_len ws n j
          walk_at "rd"
          refine ⟨l, ws, n, 0, (j : Int), by show [V.ref l, V.int (0 + (n : Int)), V.int 0, V.int (0 + (j : Int))] = [V.ref l, V.int (n : Int), V.int ((0 : Nat) : Int), V.int (j : Int)]; rw [Int.zero_add, Int.zero_add]; rfl, dW.mono ((eG.drop hld).trans (e3.drop hlb)).toSame, hok, hpl, fun G4 e4 => ?_⟩
          have hlb4 := e4 _ _ (by simp) hlb3
          refine ⟨askB ws (j : Int) ((n : Int), ((0 : Nat) : Int)), rfl, ?_⟩
          cases hask : askB ws (j : Int) ((n : Int), ((0 : Nat) : Int)) with
          | true =>
            refine iteT (iteT ?_)
            walk_at "rd"
            refine ⟨_, hlb4, small1000 (by rw [List.length_map]; omega), hR _ _ ⟨_, rfl, (e3.trans (e4.mono (by simp))).trans (.put (by simp)), ?_⟩⟩
            have hask' : askB ws (j : Int) ((n : Int), 0) = true := hask
            rw [upd_same, askTo_succ, hask', if_pos rfl, List.map_append, Int.zero_add]; rfl
          | false =>
            refine iteF (iteF (hR _ _ ⟨_, rfl, e3.trans (e4.mono (by simp)), ?_⟩))
            have hask' : askB ws (j : Int) ((n : Int), 0) = false := hask
            rw [hlb4, askTo_succ, hask', if_neg Bool.false_ne_true, List.append_nil]
        · rintro σ' G3 ⟨o0, rfl, e3, hlb3⟩
          have E3 := e3.drop hlb
          refine ⟨us, E3 _ _ (by simp) hldG, small1000 (by omega), hR _ _ ⟨_, us ++ [.ref lb], rfl, (eG.trans (E3.mono (by simp))).trans (.put (by simp)), upd_same, ?_, ?_⟩⟩
          · rw [askAll_succ]
            have all : ∀ {vs : List V} {ns : List (List Int)}, IntsAt G3 vs ns → (∀ v ∈ vs, v ≠ .ref ld) → IntsAt (upd G3 ld (.lst (us ++ [V.ref lb]))) vs ns := by
              intro vs ns h
              induction h with
              | nil => intro _; exact .nil
              | cons a r ih =>
                intro hv
                obtain ⟨b, rfl, hb⟩ := a
                have nb : b ≠ ld := fun z => hv (.ref b) (List.mem_cons_self ..) (by rw [z])
                exact .cons ⟨b, rfl, by rw [upd_ne nb]; exact hb⟩ (ih fun v hv' => hv v (List.mem_cons_of_mem _ hv'))
            exact Paired.snoc (all (hI.mono E3) hne) ⟨lb, rfl, by rw [upd_ne nlb.symm]; exact hlb3⟩
          · intro v hv
            rcases List.mem_append.mp hv with z | z
            · exact hne v z
            · rw [List.mem_singleton.mp z]; intro y; exact nlb.symm (V.ref.inj y)
      · rintro σ' H3 ⟨o0, us, rfl, e3, hld3, hI, hne⟩
        have hI : IntsAt H3 us (askAll ws ws.length) := by simpa using hI
        have E3 : Ext [] H2 H3 := e3.drop hld
        walk_at "rd"
        refine ⟨l, ws, rfl, dW.mono E3.toSame, hok, fun lf uf H4 hlf e4 hlf4 hIf hYf => ?_⟩
        have hufl := hIf.len
        rw [askAll_len] at hufl
        walk_at "rd"
        refine ⟨lf, .list ((askAll ws ws.length).map intsD), rfl, .list (SqL.of hlf4) hIf.den, u1, u2, u3, ?_⟩
        walk_at "rd"
        refine ⟨ld, .list ((askAll ws ws.length).map intsD), rfl, .list (SqL.of (e4 _ _ (by simp) hld3)) (hI.den.mono e4.toSame), u1, u2, u3, ?_⟩
        walk_at "rd"
        refine r_neS ?_
        rw [decide_eq_true rfl]
        walk_at "rd"
        refine iteF ?_
        walk_at "rd"
        refine ⟨l, worksD ws, rfl, dW.mono (E3.trans e4).toSame, v4, v5, v6, ?_⟩
        walk_at "rd"
        refine r_neS ?_
        rw [decide_eq_true rfl]
        walk_at "rd"
        refine iteF ?_
        walk_at "rd"
        have hfne : ∀ v ∈ uf, v ≠ .ref lf := fun v hv z => by
          subst z
          have all : ∀ {vs : List V} {ns : List (List Int)}, IntsAt H4 vs ns → V.ref lf ∈ vs → ∃ ms : List Int, H4 lf = some (.lst (ms.map V.int)) := by
            intro vs ns h
            induction h with
            | nil => intro h; cases h
            | cons a r ih =>
              intro hm
              obtain ⟨b, rfl, hb⟩ := a
              rcases List.mem_cons.mp hm with z | z
              · cases z; exact ⟨_, hb⟩
              · exact ih z
          obtain ⟨ms, hms⟩ := all hIf hv
          rw [hlf4] at hms
          have hms : uf = ms.map V.int := by cases hms; rfl
          rw [hms] at hv
          obtain ⟨y, _, hy⟩ := List.mem_map.mp hv
          cases hy
        have hinit : ∀ v ∈ uf, ∃ (b : Addr) (xs : List V), v = .ref b ∧ H3 b = none ∧ H4 b = some (.lst xs) ∧ xs.length ≤ 8 := by
          have all : ∀ {vs : List V} {ns : List (List Int)}, IntsAt H4 vs ns → (∀ m ∈ ns, m.length ≤ 8) → ∀ v ∈ vs, ∃ (b : Addr) (xs : List V), v = .ref b ∧ H4 b = some (.lst xs) ∧ xs.length ≤ 8 := by
            intro vs ns h
            induction h with
            | nil => intro _ v hv; cases hv
            | @cons v0 m0 _ _ a r ih =>
              intro hm v hv
              obtain ⟨b, e, hb⟩ := a
              rcases List.mem_cons.mp hv with z | z
              · rw [z]; exact ⟨b, _, e, hb, by rw [List.length_map]; exact hm _ (List.mem_cons_self ..)⟩
              · exact ih (fun m hm' => hm m (List.mem_cons_of_mem _ hm')) v z
          intro v hv
          obtain ⟨b, xs, rfl, h1, h2⟩ := all hIf (fun m hm => (askAll_small ws ws.length m hm).2) v hv
          obtain ⟨b', hb', hn⟩ := hYf _ hv
          cases hb'
          exact ⟨b, xs, rfl, hn, h1, h2⟩
        refine ⟨lf, rfl, ⟨_, SqL.of hlf4⟩, for_list (xs := uf) (fun j σ' G => ∃ (o7 : Option V), σ' = [some (.ref a), some (.int (0 + (i : Int))), some (.ref t), some (.ref l), some (.str (worksD ws).shown), some (.ref ld), some (.ref lf), o7] ∧ Ext [] H3 G ∧ G lf = some (.lst uf) ∧ ∀ v ∈ uf, ∃ (b : Addr) (xs : List V), v = .ref b ∧ H3 b = none ∧ G b = some (.lst xs) ∧ xs.length ≤ 8 + j) ?_ ?_ ?_ ?_⟩
        · exact ⟨_, rfl, e4, hlf4, hinit⟩
        · rintro j σ' G hj ⟨o7, rfl, eG, hlfG, hall⟩
          exact SqL.of hlfG
        · rintro j v σ' G hv ⟨o7, rfl, eG, hlfG, hall⟩
          have hvm := List.mem_of_getElem? hv
          have hjl : j < uf.length := (List.getElem?_eq_some_iff.mp hv).1
          obtain ⟨b, xs, rfl, hb3, hbG, hxl⟩ := hall v hvm
          have nb : lf ≠ b := fun z => hfne _ hvm (by rw [z])
          walk_at "rd"
          refine r_tyL hbG ?_
          walk_at "rd"
          refine r_app hbG (small1000 (by omega)) ?_
          refine ⟨_, rfl, ((eG.mono (us := [b]) (by simp)).trans (.put (by simp))).drop hb3, by rw [upd_ne nb]; exact hlfG, fun v' hv' => ?_⟩
          obtain ⟨b', xs', rfl, hb3', hbG', hxl'⟩ := hall v' hv'
          by_cases hbb : b' = b
          · subst hbb
            exact ⟨b', _, rfl, hb3', upd_same, by rw [List.length_append, List.length_singleton]; omega⟩
          · exact ⟨b', xs', rfl, hb3', by rw [upd_ne hbb]; exact hbG', by omega⟩
        · rintro σ' G ⟨o7, rfl, eG, hlfG, hall⟩
          walk_at "rd"
          refine r_tyL hlfG ?_
          refine ⟨lf, uf, rfl, rfl, hlfG, ?_⟩
          have e5 : Ext [] H3 (upd G lf (.lst [])) := ((eG.mono (us := [lf]) (by simp)).trans (.put (by simp))).drop hlf
          generalize upd G lf (.lst []) = G5 at e5 ⊢
          walk_at "rd"
          refine ⟨l, ws, rfl, dW.mono (E3.trans e5).toSame, hok, fun l6 u6 H6 hl6 e6 hl66 hI6 _ => ?_⟩
          walk_at "rd"
          refine ⟨.list ((askAll ws ws.length).map intsD), .list ((askAll ws ws.length).map intsD), .list (SqL.of hl66) hI6.den, .list (SqL.of ((e5.trans e6) _ _ (by simp) hld3)) (hI.den.mono (e5.trans e6).toSame), tS, tS, ?_⟩
          rw [if_pos rfl, eqv_refl _ (tame_nodict t1)]
          walk_at "rd"
          refine iteF ?_
          have E6 : Ext [] H2 H6 := E3.trans (e5.trans e6)
          walk_at "rd"
          refine r_draw (T2.ext E6 (by simp)) (by omega) (by decide) (by decide) fun r1 H7 a1 b1 T7 e7 _ => ?_
          walk_at "rd"
          refine r_draw T7 (by omega) (by decide) (by decide) fun r2 H8 a2 b2 T8 e8 _ => ?_
          walk_at "rd"
          refine ⟨r1.toNat, r2, by show [V.int r1, V.int r2] = [V.int (r1.toNat : Int), V.int r2]; rw [Int.toNat_of_nonneg a1], by omega, a2, b2, fun H9 e9 => ?_⟩
          refine ⟨true, rfl, ?_⟩
          refine iteF ?_
          walk_at "rd"
          refine ⟨_, _, _, _, _, _, _, rfl, e'.trans ?_⟩
          exact ((((e12.trans E6).mono (us := [t]) (by simp)).trans (e7.trans (e8.trans (e9.mono (by simp))))).drop ht)
    · rintro σ' H' ⟨o1, o2, o3, o4, o5, o6, o7, rfl, e'⟩
      walk_at "rd"
      exact q H'
end
end Fs
set_option maxRecDepth 100000
set_option maxHeartbeats 1000000
namespace Fs
open PySem L2
theorem has_mk {P : Program} {w : World} {K : PySem.W.Frag} {mg : Str → Option Value} {base h : Heap} {x : Str} {st : Stmt} {k : Nat} {ps : List Str} {sp : Sp} {f : Addr} {oc : Value} {od an : Option Addr} {osl : Array (Option Value)} {kV doc pm cdv ct : Value} (X : K.In h) (G : h.Ns mainGlobals mg)
    (a : PySem.W.nsIn K mainGlobals x = some (some (.ref f))) (l : K.lookup f = some ⟨oc, od, .func (PySem.W.fnOf x x (defArgs st) (defBody st) (defScope st) .none kV doc pm an cdv ct), osl⟩) (c : PySem.W.codeIn K cdv x = true) (kk : PySem.W.keepIn K (.ref f) = true)
    (hb : ∀ (kV doc pm : Value) (an : Option Addr) (cdv ct : Value) (us : List Value), us.length = ps.length → bindArgs (PySem.W.fnOf x x (defArgs st) (defBody st) (defScope st) .none kV doc pm an cdv ct) ⟨us, []⟩ = pure (ps.zip us))
    (ok : ∀ fd, Fun K x x st f fd → FnOk P w K mg base CX0 k f fd ps sp) : Has P w K mg base x k ps sp := by
  have F := fun_mk (st := st) l c kk
  exact ⟨f, _, ok _ F, PySem.W.mg_of X G a, kk, F.binds hb⟩
theorem all_mk {l : PySem.W.OpenLaw} {w : World} {K : PySem.W.Frag} {h : Heap} {mg : Str → Option Value} {fa f1 f2 f3 f4 f5 f6 f7 f8 f9 f10 f11 f12 f13 f14 f15 f16 f17 f18 f19 wa0 wa1 : Addr} (X : K.In h) (G : h.Ns mainGlobals mg) (hfa : mg "law" = some (.ref fa))
    {od1 an1 od2 an2 od3 an3 od4 an4 od5 an5 od6 an6 od7 an7 od8 an8 od9 an9 od10 an10 od11 an11 od12 an12 od13 an13 od14 an14 od15 an15 od16 an16 od17 an17 od18 an18 od19 an19 : Option Addr} {sl1 sl2 sl3 sl4 sl5 sl6 sl7 sl8 sl9 sl10 sl11 sl12 sl13 sl14 sl15 sl16 sl17 sl18 sl19 : Array (Option Value)} {oc1 kV1 dc1 pm1 cd1 ct1 oc2 kV2 dc2 pm2 cd2 ct2 oc3 kV3 dc3 pm3 cd3 ct3 oc4 kV4 dc4 pm4 cd4 ct4 oc5 kV5 dc5 pm5 cd5 ct5 oc6 kV6 dc6 pm6 cd6 ct6 oc7 kV7 dc7 pm7 cd7 ct7 oc8 kV8 dc8 pm8 cd8 ct8 oc9 kV9 dc9 pm9 cd9 ct9 oc10 kV10 dc10 pm10 cd10 ct10 oc11 kV11 dc11 pm11 cd11 ct11 oc12 kV12 dc12 pm12 cd12 ct12 oc13 kV13 dc13 pm13 cd13 ct13 oc14 kV14 dc14 pm14 cd14 ct14 oc15 kV15 dc15 pm15 cd15 ct15 oc16 kV16 dc16 pm16 cd16 ct16 oc17 kV17 dc17 pm17 cd17 ct17 oc18 kV18 dc18 pm18 cd18 ct18 oc19 kV19 dc19 pm19 cd19 ct19 : Value}
    (a1 : PySem.W.nsIn K mainGlobals "_law_tape" = some (some (.ref f1))) (l1 : K.lookup f1 = some ⟨oc1, od1, .func (PySem.W.fnOf "_law_tape" "_law_tape" (defArgs sTape) (defBody sTape) (defScope sTape) .none kV1 dc1 pm1 an1 cd1 ct1), sl1⟩) (c1 : PySem.W.codeIn K cd1 "_law_tape" = true) (k1 : PySem.W.keepIn K (.ref f1) = true)
    (a2 : PySem.W.nsIn K mainGlobals "_law_draw" = some (some (.ref f2))) (l2 : K.lookup f2 = some ⟨oc2, od2, .func (PySem.W.fnOf "_law_draw" "_law_draw" (defArgs sDraw) (defBody sDraw) (defScope sDraw) .none kV2 dc2 pm2 an2 cd2 ct2), sl2⟩) (c2 : PySem.W.codeIn K cd2 "_law_draw" = true) (k2 : PySem.W.keepIn K (.ref f2) = true)
    (a3 : PySem.W.nsIn K mainGlobals "_law_nexts" = some (some (.ref f3))) (l3 : K.lookup f3 = some ⟨oc3, od3, .func (PySem.W.fnOf "_law_nexts" "_law_nexts" (defArgs sNexts) (defBody sNexts) (defScope sNexts) .none kV3 dc3 pm3 an3 cd3 ct3), sl3⟩) (c3 : PySem.W.codeIn K cd3 "_law_nexts" = true) (k3 : PySem.W.keepIn K (.ref f3) = true)
    (a4 : PySem.W.nsIn K mainGlobals "_law_number" = some (some (.ref f4))) (l4 : K.lookup f4 = some ⟨oc4, od4, .func (PySem.W.fnOf "_law_number" "_law_number" (defArgs sNumber) (defBody sNumber) (defScope sNumber) .none kV4 dc4 pm4 an4 cd4 ct4), sl4⟩) (c4 : PySem.W.codeIn K cd4 "_law_number" = true) (k4 : PySem.W.keepIn K (.ref f4) = true)
    (a5 : PySem.W.nsIn K mainGlobals "_law_deeds" = some (some (.ref f5))) (l5 : K.lookup f5 = some ⟨oc5, od5, .func (PySem.W.fnOf "_law_deeds" "_law_deeds" (defArgs sDeeds) (defBody sDeeds) (defScope sDeeds) .none kV5 dc5 pm5 an5 cd5 ct5), sl5⟩) (c5 : PySem.W.codeIn K cd5 "_law_deeds" = true) (k5 : PySem.W.keepIn K (.ref f5) = true)
    (a6 : PySem.W.nsIn K mainGlobals "_law_work" = some (some (.ref f6))) (l6 : K.lookup f6 = some ⟨oc6, od6, .func (PySem.W.fnOf "_law_work" "_law_work" (defArgs sWork) (defBody sWork) (defScope sWork) .none kV6 dc6 pm6 an6 cd6 ct6), sl6⟩) (c6 : PySem.W.codeIn K cd6 "_law_work" = true) (k6 : PySem.W.keepIn K (.ref f6) = true)
    (a7 : PySem.W.nsIn K mainGlobals "_law_many" = some (some (.ref f7))) (l7 : K.lookup f7 = some ⟨oc7, od7, .func (PySem.W.fnOf "_law_many" "_law_many" (defArgs sMany) (defBody sMany) (defScope sMany) .none kV7 dc7 pm7 an7 cd7 ct7), sl7⟩) (c7 : PySem.W.codeIn K cd7 "_law_many" = true) (k7 : PySem.W.keepIn K (.ref f7) = true)
    (a8 : PySem.W.nsIn K mainGlobals "_law_works" = some (some (.ref f8))) (l8 : K.lookup f8 = some ⟨oc8, od8, .func (PySem.W.fnOf "_law_works" "_law_works" (defArgs sWorks) (defBody sWorks) (defScope sWorks) .none kV8 dc8 pm8 an8 cd8 ct8), sl8⟩) (c8 : PySem.W.codeIn K cd8 "_law_works" = true) (k8 : PySem.W.keepIn K (.ref f8) = true)
    (a9 : PySem.W.nsIn K mainGlobals "led_to" = some (some (.ref f9))) (l9 : K.lookup f9 = some ⟨oc9, od9, .func (PySem.W.fnOf "led_to" "led_to" (defArgs sLed) (defBody sLed) (defScope sLed) .none kV9 dc9 pm9 an9 cd9 ct9), sl9⟩) (c9 : PySem.W.codeIn K cd9 "led_to" = true) (k9 : PySem.W.keepIn K (.ref f9) = true)
    (a10 : PySem.W.nsIn K mainGlobals "writes_box" = some (some (.ref f10))) (l10 : K.lookup f10 = some ⟨oc10, od10, .func (PySem.W.fnOf "writes_box" "writes_box" (defArgs sWrites) (defBody sWrites) (defScope sWrites) .none kV10 dc10 pm10 an10 cd10 ct10), sl10⟩) (c10 : PySem.W.codeIn K cd10 "writes_box" = true) (k10 : PySem.W.keepIn K (.ref f10) = true)
    (a11 : PySem.W.nsIn K mainGlobals "reads_box" = some (some (.ref f11))) (l11 : K.lookup f11 = some ⟨oc11, od11, .func (PySem.W.fnOf "reads_box" "reads_box" (defArgs sReads) (defBody sReads) (defScope sReads) .none kV11 dc11 pm11 an11 cd11 ct11), sl11⟩) (c11 : PySem.W.codeIn K cd11 "reads_box" = true) (k11 : PySem.W.keepIn K (.ref f11) = true)
    (a12 : PySem.W.nsIn K mainGlobals "till_write" = some (some (.ref f12))) (l12 : K.lookup f12 = some ⟨oc12, od12, .func (PySem.W.fnOf "till_write" "till_write" (defArgs sTill) (defBody sTill) (defScope sTill) .none kV12 dc12 pm12 an12 cd12 ct12), sl12⟩) (c12 : PySem.W.codeIn K cd12 "till_write" = true) (k12 : PySem.W.keepIn K (.ref f12) = true)
    (a13 : PySem.W.nsIn K mainGlobals "begins_met" = some (some (.ref f13))) (l13 : K.lookup f13 = some ⟨oc13, od13, .func (PySem.W.fnOf "begins_met" "begins_met" (defArgs sBegins) (defBody sBegins) (defScope sBegins) .none kV13 dc13 pm13 an13 cd13 ct13), sl13⟩) (c13 : PySem.W.codeIn K cd13 "begins_met" = true) (k13 : PySem.W.keepIn K (.ref f13) = true)
    (a14 : PySem.W.nsIn K mainGlobals "awaiting" = some (some (.ref f14))) (l14 : K.lookup f14 = some ⟨oc14, od14, .func (PySem.W.fnOf "awaiting" "awaiting" (defArgs sAwait) (defBody sAwait) (defScope sAwait) .none kV14 dc14 pm14 an14 cd14 ct14), sl14⟩) (c14 : PySem.W.codeIn K cd14 "awaiting" = true) (k14 : PySem.W.keepIn K (.ref f14) = true)
    (a15 : PySem.W.nsIn K mainGlobals "asks" = some (some (.ref f15))) (l15 : K.lookup f15 = some ⟨oc15, od15, .func (PySem.W.fnOf "asks" "asks" (defArgs sAsks) (defBody sAsks) (defScope sAsks) .none kV15 dc15 pm15 an15 cd15 ct15), sl15⟩) (c15 : PySem.W.codeIn K cd15 "asks" = true) (k15 : PySem.W.keepIn K (.ref f15) = true)
    (a16 : PySem.W.nsIn K mainGlobals "_law_reads" = some (some (.ref f16))) (l16 : K.lookup f16 = some ⟨oc16, od16, .func (PySem.W.fnOf "_law_reads" "_law_reads" (defArgs sLReads) (defBody sLReads) (defScope sLReads) .none kV16 dc16 pm16 an16 cd16 ct16), sl16⟩) (c16 : PySem.W.codeIn K cd16 "_law_reads" = true) (k16 : PySem.W.keepIn K (.ref f16) = true)
    (a17 : PySem.W.nsIn K mainGlobals "_law_is_asked" = some (some (.ref f17))) (l17 : K.lookup f17 = some ⟨oc17, od17, .func (PySem.W.fnOf "_law_is_asked" "_law_is_asked" (defArgs sIsAsked) (defBody sIsAsked) (defScope sIsAsked) .none kV17 dc17 pm17 an17 cd17 ct17), sl17⟩) (c17 : PySem.W.codeIn K cd17 "_law_is_asked" = true) (k17 : PySem.W.keepIn K (.ref f17) = true)
    (a18 : PySem.W.nsIn K mainGlobals "_law_chain_right" = some (some (.ref f18))) (l18 : K.lookup f18 = some ⟨oc18, od18, .func (PySem.W.fnOf "_law_chain_right" "_law_chain_right" (defArgs sChain) (defBody sChain) (defScope sChain) .none kV18 dc18 pm18 an18 cd18 ct18), sl18⟩) (c18 : PySem.W.codeIn K cd18 "_law_chain_right" = true) (k18 : PySem.W.keepIn K (.ref f18) = true)
    (a19 : PySem.W.nsIn K mainGlobals "law" = some (some (.ref f19))) (l19 : K.lookup f19 = some ⟨oc19, od19, .func (PySem.W.fnOf "law" "law" (defArgs sLaw) (defBody sLaw) (defScope sLaw) .none kV19 dc19 pm19 an19 cd19 ct19), sl19⟩) (c19 : PySem.W.codeIn K cd19 "law" = true) (k19 : PySem.W.keepIn K (.ref f19) = true)
    (u0 : PySem.W.nsIn K mainGlobals "WRITING" = some (some (.ref wa0))) (v0 : Writing K wa0)
    (u1 : PySem.W.nsIn K mainGlobals "READING" = some (some (.ref wa1))) (v1 : Reading K wa1)
    {tb0 : Tok} (i0 : PySem.W.nsIn K mainGlobals "BOXES" = some (some (.int 8 tb0)))
    (z1 : PySem.W.nsIn K mainGlobals "range" = some none) (z2 : PySem.W.nsIn K mainGlobals "len" = some none) (z3 : PySem.W.nsIn K mainGlobals "abs" = some none) (z4 : PySem.W.nsIn K mainGlobals "int" = some none) (z5 : PySem.W.nsIn K mainGlobals "max" = some none) (z6 : PySem.W.nsIn K mainGlobals "min" = some none) (z7 : PySem.W.nsIn K mainGlobals "list" = some none) (z8 : PySem.W.nsIn K mainGlobals "repr" = some none) (z9 : PySem.W.nsIn K mainGlobals "enumerate" = some none) (z10 : PySem.W.nsIn K mainGlobals "any" = some none) :
    ∃ fd : FuncData, (∀ (s : Shared) (v : Value), BindsTo s fd ⟨[v], []⟩ [("_law_script", v)]) ∧ ∀ base : Heap, K.In base → base.Ns mainGlobals mg → FnOk l.prog w K mg base CX0 7 fa fd ["_law_script"] (spLaw K) := by
  have e := hfa.symm.trans (PySem.W.mg_of X G a19)
  cases e
  have nrange := PySem.W.mg_none_of X G z1
  have nlen := PySem.W.mg_none_of X G z2
  have nabs := PySem.W.mg_none_of X G z3
  have nint := PySem.W.mg_none_of X G z4
  have nmax := PySem.W.mg_none_of X G z5
  have nmin := PySem.W.mg_none_of X G z6
  have nlist := PySem.W.mg_none_of X G z7
  have nrepr := PySem.W.mg_none_of X G z8
  have nenumerate := PySem.W.mg_none_of X G z9
  have nany := PySem.W.mg_none_of X G z10
  have hwr := PySem.W.mg_of X G u0
  have hrd := PySem.W.mg_of X G u1
  have hbx := PySem.W.mg_of X G i0
  have FL := fun_mk (st := sLaw) l19 c19 k19
  refine ⟨PySem.W.fnOf "law" "law" (defArgs sLaw) (defBody sLaw) (defScope sLaw) .none kV19 dc19 pm19 an19 cd19 ct19, fun s v => .of_eq rfl, fun base _ _ => ?_⟩
  have htape : Has l.prog w K mg base "_law_tape" 1 ["_law_script", "_law_k"] (spTape K) := has_mk (st := sTape) X G a1 l1 c1 k1 (fun _ _ _ _ _ _ us hl => match us, hl with | [_, _], _ => rfl) fun _ F => ok_tape F nlen nabs nint
  have hdraw : Has l.prog w K mg base "_law_draw" 1 ["_law_tape_here", "_law_many_here"] spDraw := has_mk (st := sDraw) X G a2 l2 c2 k2 (fun _ _ _ _ _ _ us hl => match us, hl with | [_, _], _ => rfl) fun _ F => ok_draw F
  have hnexts : Has l.prog w K mg base "_law_nexts" 2 ["_law_tape_here", "_law_many_here"] (spNexts K) := has_mk (st := sNexts) X G a3 l3 c3 k3 (fun _ _ _ _ _ _ us hl => match us, hl with | [_, _], _ => rfl) fun _ F => ok_nexts F nrange nmax hdraw
  have hnumber : Has l.prog w K mg base "_law_number" 2 ["_law_tape_here"] spNumber := has_mk (st := sNumber) X G a4 l4 c4 k4 (fun _ _ _ _ _ _ us hl => match us, hl with | [_], _ => rfl) fun _ F => ok_number F hdraw
  have hdeeds : Has l.prog w K mg base "_law_deeds" 3 ["_law_tape_here", "_law_most", "_law_boxes", "_law_first", "_law_works_here"] (spDeeds K) := has_mk (st := sDeeds) X G a5 l5 c5 k5 (fun _ _ _ _ _ _ us hl => match us, hl with | [_, _, _, _, _], _ => rfl) fun _ F => ok_deeds F nrange nint nlen hdraw hnumber
  have hwork : Has l.prog w K mg base "_law_work" 4 ["_law_tape_here", "_law_many_here", "_law_most", "_law_first", "_law_works_here"] (spWork K) := has_mk (st := sWork) X G a6 l6 c6 k6 (fun _ _ _ _ _ _ us hl => match us, hl with | [_, _, _, _, _], _ => rfl) fun _ F => ok_work F nrange nlist nlen hdraw hnexts hdeeds
  have hmany : Has l.prog w K mg base "_law_many" 2 ["_law_tape_here"] spMany := has_mk (st := sMany) X G a7 l7 c7 k7 (fun _ _ _ _ _ _ us hl => match us, hl with | [_], _ => rfl) fun _ F => ok_many F nint hdraw
  have hworks : Has l.prog w K mg base "_law_works" 5 ["_law_tape_here", "_law_most"] (spWorks K) := has_mk (st := sWorks) X G a8 l8 c8 k8 (fun _ _ _ _ _ _ us hl => match us, hl with | [_, _], _ => rfl) fun _ F => ok_works F nrange nint hdraw hmany hwork
  have hled_to : Has l.prog w K mg base "led_to" 1 ["starts", "nexts"] (spLedT K) := has_mk (st := sLed) X G a9 l9 c9 k9 (fun _ _ _ _ _ _ us hl => match us, hl with | [_, _], _ => rfl) fun _ F => ok_ledT F nlist
  have hwrites_box : Has l.prog w K mg base "writes_box" 1 ["deed", "box"] (spDeedB wrB K) := has_mk (st := sWrites) X G a10 l10 c10 k10 (fun _ _ _ _ _ _ us hl => match us, hl with | [_, _], _ => rfl) fun _ F => ok_writes F hwr v0
  have hreads_box : Has l.prog w K mg base "reads_box" 1 ["deed", "box"] (spDeedB rdB K) := has_mk (st := sReads) X G a11 l11 c11 k11 (fun _ _ _ _ _ _ us hl => match us, hl with | [_, _], _ => rfl) fun _ F => ok_reads F hrd v1
  have htill_write : Has l.prog w K mg base "till_write" 2 ["deeds", "box"] (spTill K) := has_mk (st := sTill) X G a12 l12 c12 k12 (fun _ _ _ _ _ _ us hl => match us, hl with | [_, _], _ => rfl) fun _ F => ok_till F nenumerate nlist hwrites_box
  have hbegins_met : Has l.prog w K mg base "begins_met" 3 ["works", "number", "at", "box"] (spBegins K) := has_mk (st := sBegins) X G a13 l13 c13 k13 (fun _ _ _ _ _ _ us hl => match us, hl with | [_, _, _, _], _ => rfl) fun _ F => ok_begins F nany htill_write hwrites_box
  have hawaiting : Has l.prog w K mg base "awaiting" 4 ["works", "box"] (spAwait K) := has_mk (st := sAwait) X G a14 l14 c14 k14 (fun _ _ _ _ _ _ us hl => match us, hl with | [_, _], _ => rfl) fun _ F => ok_await F nenumerate nany htill_write hreads_box hbegins_met hled_to
  have hasks : Has l.prog w K mg base "asks" 5 ["works"] (spAsks K) := has_mk (st := sAsks) X G a15 l15 c15 k15 (fun _ _ _ _ _ _ us hl => match us, hl with | [_], _ => rfl) fun _ F => ok_asks F nrange nlen hbx hawaiting
  have hreads : Has l.prog w K mg base "_law_reads" 1 ["_law_deed", "_law_box"] (spDeedB rdB K) := has_mk (st := sLReads) X G a16 l16 c16 k16 (fun _ _ _ _ _ _ us hl => match us, hl with | [_, _], _ => rfl) fun _ F => ok_lreads F
  have his_asked : Has l.prog w K mg base "_law_is_asked" 2 ["_law_works_here", "_law_number_here", "_law_block", "_law_box"] (spIsAsked K) := has_mk (st := sIsAsked) X G a17 l17 c17 k17 (fun _ _ _ _ _ _ us hl => match us, hl with | [_, _, _, _], _ => rfl) fun _ F => ok_isasked F hreads
  have hchain_right : Has l.prog w K mg base "_law_chain_right" 6 ["_law_many_here", "_law_box"] (spChain K) := has_mk (st := sChain) X G a18 l18 c18 k18 (fun _ _ _ _ _ _ us hl => match us, hl with | [_, _], _ => rfl) fun _ F => ok_chain F nrange hasks
  exact ok_law FL nrange nlen nmax nmin nrepr htape hdraw hworks his_asked hasks hchain_right
theorem walk {l : PySem.W.OpenLaw} {q : Program} {loose : List Str} {XP : (Str → Option Value) → Heap → Prop} {YP : World → Heap → Prop} {d : DefRec} {K : Params → PySem.W.Frag} (hn : l.most = some 63) (hdf : d.params.defaults = [])
    (hY : ∀ (w : World) (h : Heap), YP w h → (K w.params).In h)
    (F : ∀ (w : World) (mg : Str → Option Value) (fa : Addr) (h : Heap), (K w.params).In h → h.Ns mainGlobals mg → mg d.name = some (.ref fa) →
      ∃ fd : FuncData, (∀ (s : Shared) (u : Value), BindsTo s fd ⟨[u], []⟩ [("_law_script", u)]) ∧ ∀ base : Heap, (K w.params).In base → base.Ns mainGlobals mg → FnOk l.prog w (K w.params) mg base CX0 7 fa fd ["_law_script"] (spLaw (K w.params))) :
    PySem.W.WalkO q loose XP YP l.row.toRowW d [] (fun f vs => PySem.call f vs) :=
  L2.walk_of (n := 63) (k := 7) (x := "_law_script") (CX := fun _ => CX0) (sp := fun w => spLaw (K w.params)) hn (by decide) hdf ⟨rfl, by decide, by decide, rfl⟩ hY F (fun _ _ a ns hl _ hS => ⟨a, ns, rfl, hS, hl, fun _ => rfl⟩) fun _ _ _ _ _ z => z
end Fs
open PySem PySem.W PyProof.Rows
set_option maxRecDepth 100000 in
set_option maxHeartbeats 0 in
theorem PySem.Challenge.cw_fewsaves_k04_what_works_ask_holds : PySem.Challenge.rw_fewsaves_k04_what_works_ask.Holds := by
  w_on; o_law; k_head; (case hw => w_witness2)
  k_fill
  refine Fs.walk (l := PySem.Challenge.rw_fewsaves_k04_what_works_ask) rfl rfl (fun w h Y => PySem.W.kIn_of Y) ?F
  case F =>
    intro w mg fa h KX G hmg
    refine' Fs.all_mk KX G hmg ?a1 ?l1 ?c1 ?k1 ?a2 ?l2 ?c2 ?k2 ?a3 ?l3 ?c3 ?k3 ?a4 ?l4 ?c4 ?k4 ?a5 ?l5 ?c5 ?k5 ?a6 ?l6 ?c6 ?k6 ?a7 ?l7 ?c7 ?k7 ?a8 ?l8 ?c8 ?k8 ?a9 ?l9 ?c9 ?k9 ?a10 ?l10 ?c10 ?k10 ?a11 ?l11 ?c11 ?k11 ?a12 ?l12 ?c12 ?k12 ?a13 ?l13 ?c13 ?k13 ?a14 ?l14 ?c14 ?k14 ?a15 ?l15 ?c15 ?k15 ?a16 ?l16 ?c16 ?k16 ?a17 ?l17 ?c17 ?k17 ?a18 ?l18 ?c18 ?k18 ?a19 ?l19 ?c19 ?k19 ?u0 ?v0 ?u1 ?v1 ?i0 ?z1 ?z2 ?z3 ?z4 ?z5 ?z6 ?z7 ?z8 ?z9 ?z10
    (case a1 => k_is)
    (case l1 => k_is)
    (case c1 => k_is)
    (case k1 => k_is)
    (case a2 => k_is)
    (case l2 => k_is)
    (case c2 => k_is)
    (case k2 => k_is)
    (case a3 => k_is)
    (case l3 => k_is)
    (case c3 => k_is)
    (case k3 => k_is)
    (case a4 => k_is)
    (case l4 => k_is)
    (case c4 => k_is)
    (case k4 => k_is)
    (case a5 => k_is)
    (case l5 => k_is)
    (case c5 => k_is)
    (case k5 => k_is)
    (case a6 => k_is)
    (case l6 => k_is)
    (case c6 => k_is)
    (case k6 => k_is)
    (case a7 => k_is)
    (case l7 => k_is)
    (case c7 => k_is)
    (case k7 => k_is)
    (case a8 => k_is)
    (case l8 => k_is)
    (case c8 => k_is)
    (case k8 => k_is)
    (case a9 => k_is)
    (case l9 => k_is)
    (case c9 => k_is)
    (case k9 => k_is)
    (case a10 => k_is)
    (case l10 => k_is)
    (case c10 => k_is)
    (case k10 => k_is)
    (case a11 => k_is)
    (case l11 => k_is)
    (case c11 => k_is)
    (case k11 => k_is)
    (case a12 => k_is)
    (case l12 => k_is)
    (case c12 => k_is)
    (case k12 => k_is)
    (case a13 => k_is)
    (case l13 => k_is)
    (case c13 => k_is)
    (case k13 => k_is)
    (case a14 => k_is)
    (case l14 => k_is)
    (case c14 => k_is)
    (case k14 => k_is)
    (case a15 => k_is)
    (case l15 => k_is)
    (case c15 => k_is)
    (case k15 => k_is)
    (case a16 => k_is)
    (case l16 => k_is)
    (case c16 => k_is)
    (case k16 => k_is)
    (case a17 => k_is)
    (case l17 => k_is)
    (case c17 => k_is)
    (case k17 => k_is)
    (case a18 => k_is)
    (case l18 => k_is)
    (case c18 => k_is)
    (case k18 => k_is)
    (case a19 => k_is)
    (case l19 => k_is)
    (case c19 => k_is)
    (case k19 => k_is)
    (case u0 => k_is)
    (case v0 => exact ⟨_, _, _, by k_is, rfl, rfl, by decide, .cons ⟨_, rfl⟩ (.cons ⟨_, rfl⟩ .nil)⟩)
    (case u1 => k_is)
    (case v1 => exact ⟨_, _, _, by k_is, rfl, rfl, by decide, .cons ⟨_, rfl⟩ (.cons ⟨_, rfl⟩ .nil)⟩)
    (case i0 => k_is)
    (case z1 => k_is)
    (case z2 => k_is)
    (case z3 => k_is)
    (case z4 => k_is)
    (case z5 => k_is)
    (case z6 => k_is)
    (case z7 => k_is)
    (case z8 => k_is)
    (case z9 => k_is)
    (case z10 => k_is)
#print axioms PySem.Challenge.cw_fewsaves_k04_what_works_ask_holds
