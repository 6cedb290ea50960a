import PyProof.Rows.All
import Wide.All
import OpenK.AllK
import Wide.FinOn
import Lean
import PyProof.EqAt
import PyProof.EqKinds
import PyProof.TupleCall
import PySem.Challenge.RW_fewsaves_k21_plain_and_tight_plans
import PyProof.CollectWalk
import PyProof.DictItems
import KE.KItemsList
set_option Elab.async false
set_option linter.all false
set_option maxRecDepth 100000
set_option compiler.extract_closed false
set_option genInjectivity false
set_option genSizeOfSpec false
namespace L2
open PySem PySem.Spec PyProof.Rows
abbrev Key:=Sum Int Str
def keyIs:Key->Value->Bool
 | .inl k,v=>Value.isInt k v
 | .inr x,v=>Value.isStrOf x v
def keyH (w:World):Key->Int
 | .inl k=>hashInt k
 | .inr x=>hashStr w x
theorem qAz : ∀ {k:Key} {v:Value},keyIs k v=true->(∃i t,k=Sum.inl i/\v=Value.int i t)\/(∃x t,k=Sum.inr x/\v=Value.str x t)
 | .inl i,v,h=>by
  obtain⟨t,e⟩:=Value.isInt_shape (k:=i) (v:=v) h
  exact .inl ⟨i,t,rfl,e⟩
 | .inr x,v,h=>by
  obtain⟨t,e⟩:=Value.isStrOf_shape (x:=x) (v:=v) h
  exact .inr ⟨x,t,rfl,e⟩
theorem qPz (i:Int) (t:Tok):keyIs (.inl i) (.int i t)=true:=by simp [keyIs,Value.isInt]
theorem qPy (x:Str) (t:Tok):keyIs (.inr x) (.str x t)=true:=by simp [keyIs,Value.isStrOf]
theorem qWe (a b:Int):decide ((Sum.inl a:Key)=Sum.inl b)=(a == b):=by
 by_cases e:a=b
 ·subst e;simp
 ·have h : ¬(Sum.inl a:Key)=Sum.inl b:=fun q=>e (Sum.inl.inj q)
  rw [decide_eq_false h]
  exact (beq_eq_false_iff_ne.mpr e).symm
theorem qWb (a b:Str):decide ((Sum.inr a:Key)=Sum.inr b)=decide (a=b):=by
 by_cases e:a=b
 ·subst e;simp
 ·have h : ¬(Sum.inr a:Key)=Sum.inr b:=fun q=>e (Sum.inr.inj q)
  rw [decide_eq_false h,decide_eq_false e]
theorem qWd (a:Int) (b:Str):decide ((Sum.inl a:Key)=Sum.inr b)=false:=decide_eq_false (fun q=>nomatch q)
theorem qWc (a:Str) (b:Int):decide ((Sum.inr a:Key)=Sum.inl b)=false:=decide_eq_false (fun q=>nomatch q)
def qAp (prog:Program) (w:World):PySem.KeyKind prog w Key where
 is:=keyIs
 hash:=keyH w
 inj:=fun v a b ha hb=>by
  rcases qAz ha with ⟨i,t,rfl,rfl⟩ | ⟨x,t,rfl,rfl⟩
  ·rcases qAz hb with ⟨j,u,rfl,e⟩ | ⟨y,u,rfl,e⟩
   ·injection e with e1 _;rw [e1]
   ·exact nomatch e
  ·rcases qAz hb with ⟨j,u,rfl,e⟩ | ⟨y,u,rfl,e⟩
   ·exact nomatch e
   ·injection e with e1 _;rw [e1]
 byValue:=fun k v h=>by
  rcases qAz h with ⟨i,t,rfl,rfl⟩ | ⟨x,t,rfl,rfl⟩ <;> rfl
 pyHash:=fun hv h=>by
  rcases qAz hv with ⟨i,t,rfl,rfl⟩ | ⟨x,t,rfl,rfl⟩
  ·exact wpAny_pyHash_int h
  ·exact wpAny_pyHash_str h
 eqBool:=fun hu hv h=>by
  rcases qAz hu with ⟨i,t,rfl,rfl⟩ | ⟨x,t,rfl,rfl⟩
  ·rcases qAz hv with ⟨j,u,rfl,rfl⟩ | ⟨y,u,rfl,rfl⟩
   ·rw [qWe] at h;exact wpAny_eqBool_int h
   ·rw [qWd] at h;exact SeqAt.EqAt.int_str i t y u _ _ _ _ h
  ·rcases qAz hv with ⟨j,u,rfl,rfl⟩ | ⟨y,u,rfl,rfl⟩
   ·rw [qWc] at h;exact SeqAt.EqAt.str_int x t j u _ _ _ _ h
   ·rw [qWb] at h;exact wpAny_eqBool_str h
 «strs» :=fun k x t v h=>by
  rcases qAz h with ⟨i,u,rfl,e⟩ | ⟨y,u,rfl,e⟩
  ·exact nomatch e
  ·injection e with e1 _
   subst e1
   cases v <;> rfl
theorem qLt (prog:Program) (w:World) (i:Int) (t:Tok):(qAp prog w).is (.inl i) (.int i t)=true:=qPz i t
theorem qLs (prog:Program) (w:World) (x:Str) (t:Tok):(qAp prog w).is (.inr x) (.str x t)=true:=qPy x t
set_option genInjectivity true in
inductive V where
 | non | bl (b:Bool) | int (i:Int) | str (x:Str) | byt (b:Array UInt8) | flt (b:UInt64) | ref (a:Addr) | ty (n:String)
 deriving DecidableEq
def RelV:V->Value->Prop
 | .non,u=>u=Value.none
 | .bl b,u=>u=Value.bool b
 | .int i,u => ∃t,u=Value.int i t
 | .str x,u => ∃t,u=Value.str x t
 | .byt b,u => ∃t,u=Value.bytes b t
 | .flt b,u => ∃t,u=Value.float b t
 | .ref a,u=>u=Value.ref a
 | .ty n,u=>u=Value.type n
abbrev Vals:List V->List Value->Prop:=Paired RelV
theorem Vals.length {xs:List V} {us:List Value} (r:Vals xs us):xs.length=us.length:=Paired.length r
theorem Vals.get : ∀ {xs:List V} {us:List Value} {i:Nat} {x:V},Vals xs us->xs[i]? = some x -> ∃u,us[i]? = some u/\RelV x u
 | _,_,_,_,.nil,e=>by simp at e
 | _,_,0,_,.cons r _,e=>by simp at e;subst e;exact⟨_,rfl,r⟩
 | _,_,i+1,x,.cons _ t,e=>by
  obtain⟨u,h1,h2⟩:=Vals.get (i:=i) (x:=x) t (by simpa using e)
  exact⟨u,by simpa using h1,h2⟩
theorem Vals.set {x:V} {u:Value} (r:RelV x u) : ∀ {xs:List V} {us:List Value} (i:Nat),Vals xs us->Vals (xs.set i x) (us.set i u)
 | _,_,_,.nil =>.nil
 | _,_,0,.cons _ t =>.cons r t
 | _,_,i+1,.cons q t =>.cons q (Vals.set r i t)
theorem Vals.append {xs ys:List V} {us ws:List Value} (h:Vals xs us) (s:Vals ys ws):Vals (xs++ys) (us++ws):=by
 induction h with
 | nil=>exact s
 | cons r _ ih=>exact .cons r ih
theorem Vals.take : ∀ {xs:List V} {us:List Value} (n:Nat),Vals xs us->Vals (xs.take n) (us.take n)
 | _,_,0,_ =>.nil
 | _,_,_+1,.nil =>.nil
 | _,_,n+1,.cons r t =>.cons r (Vals.take n t)
theorem Vals.drop : ∀ {xs:List V} {us:List Value} (n:Nat),Vals xs us->Vals (xs.drop n) (us.drop n)
 | _,_,0,r=>r
 | _,_,_+1,.nil =>.nil
 | _,_,n+1,.cons _ t=>Vals.drop n t
def RelO:Option V->Option Value->Prop
 | some v,some u=>RelV v u
 | none,none=>True
 | _,_=>False
def KV {κ : Type}:List (κ × V)->List (κ × Value)->Prop:=Paired fun (p : κ × V) (q : κ × Value)=>p.1=q.1/\RelV p.2 q.2
def kV:Key->V
 | .inl i =>.int i
 | .inr x =>.str x
inductive HO where
 | lst (xs:List V)
 | tup (xs:List V)
 | dK (kvs:List (Key×V)) | dT (kvs:List (List Key×V))
 | set (S:Int->Bool) (n:Nat)
 | ins (C dx:Addr) (fs:List (Str×V))
 | own (x:Addr)
 | xd (fs:List (Str×V))
 | met (f x:Addr)
 | rng (lo hi:Int)
 | frz (o:Obj) (u:HO)
 | tbl (ps:Array Value)
 | ext (φ : Addr->Heap->Prop)
abbrev Hp:=Addr->Option HO
def upd (H:Hp) (a:Addr) (o:HO):Hp:=fun b=>if b=a then some o else H b
theorem qA1 {H:Hp} {a:Addr} {o:HO}:upd H a o a=some o:=by unfold upd;rw [if_pos rfl]
theorem qA4 {H:Hp} {a b:Addr} {o:HO} (h:b≠a):upd H a o b=H b:=by unfold upd;rw [if_neg h]
theorem qTi {H:Hp} {a:Addr} {o u:HO}:upd (upd H a o) a u=upd H a u:=by
 funext b;unfold upd;split <;> rfl
theorem qFy {H:Hp} {a b:Addr} {o u:HO} (h:H a=some o) (h':H b=some u) (d:o≠u):a≠b:=by
 intro e;subst e;rw [h] at h';exact d (Option.some.inj h')
theorem qA2 {H:Hp} {a b:Addr} {o:HO} (h:H a=some o) (h':H b=none):a≠b:=by
 intro e;subst e;rw [h] at h';cases h'
section
variable (P:Program) (w:World)
def ObjOk (H:Hp) (h:Heap) (a:Addr):HO->Prop
 | .lst xs=>xs.length<=sizeLine /\ ∃(its:List Value) (n:Nat),Vals xs its/\h.get? a=some { cls :=.type "list",data :=.seq its.toArray n }
 | .tup xs=>xs.length<=sizeLine /\ ∃its:List Value,Vals xs its/\IsTup h a its.toArray
 | .dK kvs=>kvs.length<=sizeLine/\(a == sysModules)=false /\ ∃vs,KV kvs vs/\h.DictOf (qAp P w) a vs
 | .dT kvs=>kvs.length<=sizeLine/\(a == sysModules)=false /\ ∃xs:List (List Key×Addr×Value),
   Paired (fun (p:List Key×V) (q:List Key×Addr×Value)=>p.1=q.1/\H q.2.1=some (.tup (p.1.map kV))/\RelV p.2 q.2.2) kvs xs /\
   ∃o es ep,h.get? a=some o/\o.ExactDict/\o.data = .dict es ep/\es.toList=xs.map (entryOfKey (tupleKind (qAp P w)))/\(xs.map (·.1)).Nodup
 | .set S n=>h.SetOf (intKind P w) a S n
 | .ins C dx fs=>H dx=some (.own a)/\fs.length<=1000/\dx≠a/\h.get? a=some (PySem.W.instObj C dx) /\
   ∃mA,h.Ns1 dx mA/\(∀f,RelO (fs.lookup f) (mA f))/\PySem.Within mA (fs.map (·.1))
 | .own _ => ∃o,h.get? a=some o
 | .xd fs => ∃mA,h.Ns1 a mA /\ ∀f,RelO (fs.lookup f) (mA f)
 | .rng lo hi => ∃t u v,h.get? a=some { cls :=.type "range",data :=.fields #[.int lo t,.int hi u,.int 1 v] }
 | .frz o u=>h.get? a=some o/\ObjOk H h a u
 | .tbl ps=>h.get? a=some { cls :=.none,data :=.fields ps }
 | .met f x=>h.get? a=some (PySem.W.methodObj (.ref f) (.ref x))
 | .ext φ => φ a h/\(∃o,h.get? a=some o) /\ ∀h1 h2:Heap,φ a h1->(∀o,h1.get? a=some o->h2.get? a=some o) -> φ a h2
def HOk (H:Hp) (h:Heap):Prop := ∀a o,H a=some o->ObjOk P w H h a o
end
section
variable {P:Program} {w:World} {H H':Hp} {h h':Heap} {a:Addr} {o:HO}
theorem ObjOk.lt (x:ObjOk P w H h a o):a<h.objs.size:=by
 cases o with
 | lst xs=>obtain⟨_,_,_,_,e⟩:=x;exact Heap.lt_size e
 | tup xs=>obtain⟨_,_,_,p⟩:=x;exact p.lt
 | dK kvs=>obtain⟨_,_,_,_,o,_,_,e,_⟩:=x;exact Heap.lt_size e
 | dT kvs=>obtain⟨_,_,_,_,o,_,_,e,_⟩:=x;exact Heap.lt_size e
 | set S n=>obtain⟨o,_,_,_,e,_⟩:=x;exact Heap.lt_size e
 | ins C dx fs=>obtain⟨_,_,_,e,_⟩:=x;exact Heap.lt_size e
 | own y=>obtain⟨_,e⟩:=x;exact Heap.lt_size e
 | xd fs=>obtain⟨_,⟨_,_,_,e,_⟩,_⟩:=x;exact Heap.lt_size e
 | rng lo hi=>obtain⟨_,_,_,e⟩:=x;exact Heap.lt_size e
 | frz ob u=>obtain⟨e,_⟩:=x;exact Heap.lt_size e
 | tbl ps=>exact Heap.lt_size (show h.get? a=some _ from x)
 | met f y=>exact Heap.lt_size (show h.get? a=some _ from x)
 | ext φ =>obtain⟨_,⟨_,e⟩,_⟩:=x;exact Heap.lt_size e
theorem Paired.mapP {α β : Type} {F G : α -> β -> Prop} {l₁ : List α} {l₂ : List β} (h:Paired F l₁ l₂) (f : ∀a b,F a b->G a b):Paired G l₁ l₂ :=by
 induction h with
 | nil=>exact .nil
 | cons r _ ih=>exact .cons (f _ _ r) ih
theorem ObjOk.stay (x:ObjOk P w H h a o) (k : ∀b u,(b=a\/H b=some (.own a))->h.get? b=some u->h'.get? b=some u)
  (ho : ∀b,H b=some (.own a)->H' b=some (.own a)) (ht : ∀b xs,H b=some (.tup xs)->H' b=some (.tup xs)):ObjOk P w H' h' a o:=by
 induction o with
 | lst xs=>obtain⟨z,its,n,r,e⟩:=x;exact⟨z,its,n,r,k _ _ (.inl rfl) e⟩
 | tup xs=>obtain⟨z,its,r,ob,e,c⟩:=x;exact⟨z,its,r,ob,k _ _ (.inl rfl) e,c⟩
 | dK kvs=>obtain⟨z,y,vs,r,ob,es,ep,e,c⟩:=x;exact⟨z,y,vs,r,ob,es,ep,k _ _ (.inl rfl) e,c⟩
 | dT kvs =>
  obtain⟨z,y,xs,r,ob,es,ep,e,c⟩:=x
  exact⟨z,y,xs,Paired.mapP r fun p q z=>⟨z.1,ht _ _ z.2.1,z.2.2⟩,ob,es,ep,k _ _ (.inl rfl) e,c⟩
 | set S n=>obtain⟨ob,es,ep,t,e,c⟩:=x;exact⟨ob,es,ep,t,k _ _ (.inl rfl) e,c⟩
 | ins C dx fs =>
  obtain⟨d,z,ne,e,mA,⟨od,es,ep,e2,c⟩,r⟩:=x
  exact⟨ho _ d,z,ne,k _ _ (.inl rfl) e,mA,⟨od,es,ep,k _ _ (.inr d) e2,c⟩,r⟩
 | own y=>obtain⟨ob,e⟩:=x;exact⟨ob,k _ _ (.inl rfl) e⟩
 | xd fs=>obtain⟨mA,⟨od,es,ep,e,c⟩,r⟩:=x;exact⟨mA,⟨od,es,ep,k _ _ (.inl rfl) e,c⟩,r⟩
 | rng lo hi=>obtain⟨t,u,v,e⟩:=x;exact⟨t,u,v,k _ _ (.inl rfl) e⟩
 | frz ob u ih=>obtain⟨e,q⟩:=x;exact⟨k _ _ (.inl rfl) e,ih q⟩
 | tbl ps =>
  have e:h.get? a=some { cls :=.none,data :=.fields ps }:=x
  show h'.get? a=some { cls :=.none,data :=.fields ps }
  exact k a _ (.inl rfl) e
 | met f y =>
  have e:h.get? a=some (PySem.W.methodObj (.ref f) (.ref y)):=x
  show h'.get? a=some (PySem.W.methodObj (.ref f) (.ref y))
  exact k a _ (.inl rfl) e
 | ext φ =>obtain⟨p,⟨o,e⟩,st⟩:=x;exact⟨st _ _ p fun o q=>k _ _ (.inl rfl) q,⟨o,k _ _ (.inl rfl) e⟩,st⟩
theorem HOk.lt (x:HOk P w H h) (e:H a=some o):a<h.objs.size:=(x a o e).lt
theorem HOk.fresh (x:HOk P w H h) (e:h.objs.size<=a):H a=none:=by
 cases q:H a with
 | none=>rfl
 | some u=>exact absurd (Nat.lt_of_lt_of_le (x.lt q) e) (Nat.lt_irrefl _)
theorem HOk.kept (x:HOk P w H h) (k : ∀b u,h.get? b=some u->h'.get? b=some u):HOk P w H h':=fun a o e =>
 (x a o e).stay (fun b u _ q=>k b u q) (fun _ q=>q) fun _ _ q=>q
theorem HOk.laid (x:HOk P w H h) (k : ∀b u,h.get? b=some u->h'.get? b=some u) (hp:h.objs.size<=a) (new:ObjOk P w (upd H a o) h' a o):HOk P w (upd H a o) h':=fun b u e=>by
 have hn:=x.fresh hp
 by_cases hb:b=a
 ·subst hb;rw [qA1] at e;cases e;exact new
 ·rw [qA4 hb] at e
  exact (x b u e).stay (fun c v _ q=>k c v q) (fun c q=>by rw [qA4 (qA2 q hn)];exact q) fun c xs q=>by rw [qA4 (qA2 q hn)];exact q
end
def Rd (H:Hp) (a:Addr) (u:HO):Prop:=H a=some u \/ ∃o,H a=some (.frz o u)
theorem Rd.ok {P:Program} {w:World} {H:Hp} {h:Heap} {a:Addr} {u:HO} (r:Rd H a u) (x:HOk P w H h):ObjOk P w H h a u:=by
 rcases r with r | ⟨o,r⟩
 ·exact x a u r
 ·obtain⟨_,q⟩:=x a _ r
  exact q
def Mut:Option HO->Prop
 | some (.lst _)=>True
 | some (.dK _)=>True
 | some (.dT _)=>True
 | some (.set _ _)=>True
 | some (.ins _ _ _)=>True
 | some (.ext _)=>True
 | _=>False
section
variable {P:Program} {w:World} {H:Hp} {h h':Heap} {x e:Addr} {o':HO}
theorem HOk.write (ok:HOk P w H h) (mu:Mut (H x)) (he:e=x\/H e=some (.own x)) (k : ∀b u,b≠e->h.get? b=some u->h'.get? b=some u) (heo : ∃u,h'.get? e=some u)
  (new:ObjOk P w (upd H x o') h' x o'):HOk P w (upd H x o') h':=fun b u q=>by
 have nown : ∀c y,H c=some (.own y)->c≠x:=fun c y r z=>by subst z;rw [r] at mu;exact mu
 have ntup : ∀c xs,H c=some (.tup xs)->c≠x:=fun c xs r z=>by subst z;rw [r] at mu;exact mu
 by_cases hb:b=x
 ·subst hb;rw [qA1] at q;cases q;exact new
 ·rw [qA4 hb] at q
  by_cases hbe:b=e
  ·have q':H b=some (.own x):=by
    rcases he with z | z
    ·exact absurd (hbe.trans z) hb
    ·rw [hbe];exact z
   rw [q] at q';cases q'
   obtain⟨v,hv⟩:=heo
   exact⟨v,by rw [hbe];exact hv⟩
  ·refine (ok b u q).stay (fun c v hc r=>k c v ?_ r) (fun c r=>by rw [qA4 (nown c b r)];exact r) fun c xs r=>by rw [qA4 (ntup c xs r)];exact r
   rcases hc with rfl | hc
   ·exact hbe
   ·rintro rfl
    rcases he with z | z
    ·exact nown c b hc z
    ·rw [hc] at z;cases z;exact hb rfl
end
structure Un (fs ex:List Addr) (H H':Hp) (h h':Heap):Prop where
 keep : ∀b o,h.get? b=some o->H b=none->b∉fs->b∉ex->h'.get? b=some o
 slot : ∀b o,h.get? b=some o->H b=none->b∈fs->b∉ex -> ∃sl,h'.get? b=some { o with slots:=sl }
 free : ∀b o,h.get? b=some o->H b=none->b∉ex->H' b=none
 there : ∀b o,h.get? b=some o->b∉ex -> ∃o',h'.get? b=some o'
 tups : ∀b xs,H b=some (.tup xs)->H' b=some (.tup xs)
 frzs : ∀b o u,H b=some (.frz o u)->H' b=some (.frz o u)
 tbls : ∀b ps,H b=some (.tbl ps) -> ∃more,H' b=some (.tbl (ps++more))
section
variable {fs fs' ex ex':List Addr} {H H1 H2:Hp} {h h1 h2 h':Heap} {a x e:Addr} {o:HO}
theorem Un.any (u:Un fs ex H H1 h h1) {b:Addr} {ob:Obj} (q:h.get? b=some ob) (n:H b=none) (hx:b∉ex) : ∃sl,h1.get? b=some { ob with slots:=sl }:=by
 by_cases hb:b∈fs
 ·exact u.slot b ob q n hb hx
 ·exact⟨ob.slots,u.keep b ob q n hb hx⟩
theorem Un.kept (k : ∀b u,h.get? b=some u->h'.get? b=some u):Un fs ex H H h h' :=
 ⟨fun b ob q _ _ _=>k b ob q,fun b ob q _ _ _=>⟨ob.slots,k b ob q⟩,fun _ _ _ n _=>n,fun b ob q _=>⟨ob,k b ob q⟩,fun _ _ q=>q,fun _ _ _ q=>q,fun _ ps q=>⟨#[],by rw [q];simp⟩⟩
theorem Un.refl:Un fs ex H H h h:=Un.kept fun _ _ q=>q
theorem Un.laid (k : ∀b u,h.get? b=some u->h'.get? b=some u) (hp:h.objs.size<=a) (hn:H a=none):Un fs ex H (upd H a o) h h' where
 keep:=fun b u q _ _ _=>k b u q
 slot:=fun b u q _ _ _=>⟨u.slots,k b u q⟩
 free:=fun b u q n _=>by rw [qA4 (Nat.ne_of_lt (Nat.lt_of_lt_of_le (Heap.lt_size q) hp))];exact n
 there:=fun b u q _=>⟨u,k b u q⟩
 tups:=fun b xs q=>by rw [qA4 (qA2 q hn)];exact q
 frzs:=fun b u xs q=>by rw [qA4 (qA2 q hn)];exact q
 tbls:=fun b ps q=>⟨#[],by rw [qA4 (qA2 q hn),q];simp⟩
theorem Un.write (mu:Mut (H x)) (he:e=x\/H e=some (.own x)) (k : ∀b u,b≠e->h.get? b=some u->h'.get? b=some u) (heo : ∃u,h'.get? e=some u):Un fs ex H (upd H x o) h h':=by
 have hx : ∀b,H b=none->b≠x:=fun b n z=>by subst z;rw [n] at mu;exact mu
 have hb : ∀b,H b=none->b≠e:=fun b n z=>by
  subst z
  rcases he with r | r
  ·exact hx b n r
  ·rw [n] at r;cases r
 have hm : ∀b u,H b=some u -> ¬Mut (some u)->b≠x:=fun b u q nm z=>by subst z;rw [q] at mu;exact nm mu
 refine⟨fun b u q n _ _=>k b u (hb b n) q,fun b u q n _ _=>⟨u.slots,k b u (hb b n) q⟩,fun b u q n _=>by rw [qA4 (hx b n)];exact n,fun b u q _ => ?_,
  fun b xs q=>by rw [qA4 (hm b _ q fun z=>z)];exact q,fun b u xs q=>by rw [qA4 (hm b _ q fun z=>z)];exact q,fun b ps q=>⟨#[],by rw [qA4 (hm b _ q fun z=>z),q];simp⟩⟩
 by_cases hbe:b=e
 ·subst hbe;exact heo
 ·exact⟨u,k b u hbe q⟩
end
def trk (h:Heap) (H:Hp):List Addr:=(List.range h.objs.size).filter fun a=>(H a).isSome
def hidT (h:Heap) (H:Hp):Heap:=PySem.W.hideAll h (trk h H)
theorem qQ7 (h:Heap) (H:Hp):(hidT h H).objs.size=h.objs.size:=PySem.W.hideAll_size _ _
theorem qSb {h:Heap} {H:Hp} {b:Addr} {o:Obj} (e:h.get? b=some o) (n:H b=none):(hidT h H).get? b=some o :=
 PySem.W.hideAll_get _ e fun hm=>by
  have q:(H b).isSome=true:=(List.mem_filter.mp hm).2
  rw [n] at q;simp at q
theorem qUj {h:Heap} {H:Hp} {b:Addr} {o:Obj} (e:(hidT h H).get? b=some o):h.get? b=some o/\H b=none:=by
 have e':h.get? b=some o:=PySem.W.of_hideAll (trk h H) e
 refine⟨e',?_⟩
 cases q:H b with
 | none=>rfl
 | some x =>
  have hm:b∈trk h H:=List.mem_filter.mpr ⟨List.mem_range.mpr (Heap.lt_size e'),by simp [q]⟩
  have z:(hidT h H).get? b=none:=PySem.W.hideAll_none (trk h H) hm
  rw [z] at e;cases e
def qDl (g h:Heap) (L:Addr):List (Addr×Obj):=(List.range h.objs.size).filterMap fun a=>if a=L\/(g.get? a).isSome=true then none else (h.get? a).map fun o=>(a,o)
theorem qGs {g h:Heap} {L a:Addr} {o:Obj} (h1:a≠L) (h2:g.get? a=none) (h3:h.get? a=some o):(a,o)∈qDl g h L :=
 List.mem_filterMap.mpr ⟨a,List.mem_range.mpr (Heap.lt_size h3),by simp [h1,h2,h3]⟩
theorem qCs {g h:Heap} {L:Addr} {p:Addr×Obj} (hp:p∈qDl g h L):p.1≠L/\g.get? p.1=none/\h.get? p.1=some p.2:=by
 obtain⟨b,_,e⟩:=List.mem_filterMap.mp hp
 split at e
 ·cases e
 ·rename_i hn
  cases q:h.get? b with
  | none=>rw [q] at e;simp at e
  | some u =>
   rw [q] at e
   simp only [Option.map_some,Option.some.injEq] at e
   subst e
   refine⟨fun z=>hn (.inl z),?_,q⟩
   show g.get? b=none
   cases r:g.get? b with
   | none=>rfl
   | some v=>exact (hn (.inr (by simp [r]))).elim
def rest (g h:Heap) (L d:Addr):List (Addr×Obj):=(qDl g h L).filter fun p=>decide (p.1≠d)
structure Mod (K:PySem.W.Frag) (mg:Str->Option Value) (base:Heap):Prop where
 kin:K.In base
 glob:base.Ns mainGlobals mg
 blt : ∃mb,base.Ns builtinsNs mb /\ ∀x:Str,x ≠ "__name__" -> mb x=bootBuiltins x
 nolimit:base.NoLimit
structure Cx where
 prog:Program
 w:World
 K:PySem.W.Frag
 mg:Str->Option Value
 base:Heap
 A:Around
 N:List Str
 s₀ : Shared
 H₀ : Hp
 env:Env
 outer:List Env
 stack:List Env
 ex:List Addr
 fn:Str->Bool
 calm:Bool
 pn:List (Addr×Obj)
 xe:Value->Shared->Prop
def frs (l:List Env):List Addr:=l.filterMap (·.frame)
abbrev Cx.fs (X:Cx):List Addr:=frs X.outer
def Vis (sc:Scope) (x:Str):Prop:=sc.names.lookup x=some .local\/sc.names.lookup x=some .cell\/sc.names.lookup x=some .free
def Loc (sc:Scope) (x:Str):Prop:=sc.names.lookup x=some .local\/sc.names.lookup x=some .cell
def Look (env:Env) (h:Heap) (m:Str->Option Value) (x:Str) (u:Value):Prop :=
 (env.kindOf x=some .local/\m x=some u)\/((env.kindOf x=some .cell\/env.kindOf x=some .free) /\ ∃c,env.cells.lookup x=some c/\h.IsCell c (some u))
structure Cx.Ok (X:Cx):Prop where
 mod:Mod X.K X.mg X.base
 kind:X.env.scope.kind = .function
 glob:X.env.globals=mainGlobals
 blt:X.env.builtins=builtinsNs
 above:X.s₀.heap.objs.size<=X.env.locals
 inj : ∀x y c,X.env.cells.lookup x=some c->X.env.cells.lookup y=some c->x=y
 has : ∀x,(X.env.kindOf x=some .cell\/X.env.kindOf x=some .free) -> ∃c,X.env.cells.lookup x=some c
 cab : ∀x c,X.fn x=true->X.env.cells.lookup x=some c->X.s₀.heap.objs.size<=c
 hd:X.calm=true->X.A.handled=none
 frames:X.A.frames=some X.stack
 stk:X.stack=X.outer\/(X.stack=X.env::X.outer/\X.env.frame=some X.env.locals)
 exf : ∀b∈X.ex,b≠X.env.locals /\ ∀x c,X.env.cells.lookup x=some c->c≠b
 bs : ∀b o,X.base.get? b=some o->X.s₀.heap.get? b=some o/\X.H₀ b=none
 bsz:X.base.objs.size<=X.s₀.heap.objs.size
 noex : ∀b o,X.base.get? b=some o->b∉X.ex
 exfs : ∀b∈X.ex,b∉X.fs
 funs:X.s₀.heap.FunFrames X.base X.outer
 frf : ∀b∈X.fs,X.H₀ b=none
structure Inv (X:Cx) (pins:List (Addr×Obj)) (σ : List (Option V)) (H:Hp) (s:Shared):Prop where
 ok:X.Ok
 os:s.os=X.s₀.os
 bare:AllBare s.gens
 base:Un X.fs X.ex X.H₀ H X.s₀.heap s.heap
 loc : ∃m,s.heap.Ns X.env.locals m /\ ∀(i:Nat) (x:Str) (v:V),X.N[i]? = some x -> σ[i]? = some (some v)->Vis X.env.scope x -> ∃u,RelV v u/\Look X.env s.heap m x u
 cell : ∀x c,X.env.cells.lookup x=some c -> ∃v,s.heap.IsCell c v
 free:H X.env.locals=none
 freeC : ∀x c,X.env.cells.lookup x=some c->H c=none
 pin : ∀p∈X.pn++pins,s.heap.get? p.1=some p.2/\H p.1=none/\p.1≠X.env.locals/\p.1∉X.fs /\ ∀v,p.2.data ≠ .cell v
 hok:HOk X.prog X.w H s.heap
 len : σ.length=X.N.length
section
variable {X:Cx} {pins:List (Addr×Obj)} {σ : List (Option V)} {H H':Hp} {s:Shared} {h':Heap}
theorem Cx.Ok.nofr (ok:X.Ok) {b:Addr} {o:Obj} (e:X.base.get? b=some o):b∉X.fs:=fun hb=>by
 have:=(ok.funs.mem hb).1
 rw [e] at this;cases this
theorem Inv.bs (I:Inv X pins σ H s) : ∀b o,X.base.get? b=some o->s.heap.get? b=some o/\H b=none:=fun b o e =>
 ⟨I.base.keep b o (I.ok.bs b o e).1 (I.ok.bs b o e).2 (I.ok.nofr e) (I.ok.noex b o e),I.base.free b o (I.ok.bs b o e).1 (I.ok.bs b o e).2 (I.ok.noex b o e)⟩
theorem Inv.bk (I:Inv X pins σ H s) : ∀b o,X.base.get? b=some o->s.heap.get? b=some o:=fun b o e=>(I.bs b o e).1
theorem Inv.mod (I:Inv X pins σ H s):Mod X.K X.mg X.base:=I.ok.mod
theorem Inv.kIn (I:Inv X pins σ H s):X.K.In s.heap:=I.ok.mod.kin.keeps I.bk
theorem Inv.fr (I:Inv X pins σ H s) : ∃m,Fr X.base X.env.locals s.heap m :=
 let ⟨m,hn,_⟩:=I.loc
 ⟨m,hn,I.bk,Nat.le_trans I.ok.bsz I.ok.above⟩
theorem Inv.lt (I:Inv X pins σ H s):X.env.locals<s.heap.objs.size:=let ⟨_,hn,_⟩:=I.loc;hn.lt
theorem Inv.sz (I:Inv X pins σ H s):X.s₀.heap.objs.size<=s.heap.objs.size:=Nat.le_trans I.ok.above (Nat.le_of_lt I.lt)
theorem Inv.nofs (I:Inv X pins σ H s) {a:Addr} (h:s.heap.objs.size<=a):a∉X.fs:=fun hb=>by
 obtain⟨_,o,ho,_⟩:=I.ok.funs.mem hb
 exact absurd (Nat.lt_of_lt_of_le (Heap.lt_size ho) (Nat.le_trans I.sz h)) (Nat.lt_irrefl _)
theorem Inv.cne (I:Inv X pins σ H s) : ∀x c,X.env.cells.lookup x=some c->c≠X.env.locals:=fun x c e z=>by
 obtain⟨v,o,ho,hd⟩:=I.cell x c e
 obtain⟨m,⟨o',es,ep,ho',hd',_⟩,_⟩:=I.loc
 rw [z,ho'] at ho;cases ho;rw [hd'] at hd;cases hd
theorem Inv.funs (I:Inv X pins σ H s):s.heap.FunFrames X.base X.outer:=by
 have all : ∀(l:List Env),(∀b∈frs l,b∈X.fs)->X.s₀.heap.FunFrames X.base l->s.heap.FunFrames X.base l:=by
  intro l
  induction l with
  | nil=>intro _ _;trivial
  | cons env r ih =>
   intro hs hl
   obtain⟨hk,⟨L,o,hf,hn,ho,hd⟩,hr⟩:=hl
   have hL:L∈X.fs:=hs L (by unfold frs;rw [List.filterMap_cons,hf];exact List.mem_cons_self)
   obtain⟨sl,e⟩:=I.base.slot L o ho (I.ok.frf L hL) hL fun z=>I.ok.exfs L z hL
   exact⟨hk,⟨L,_,hf,hn,e,hd⟩,ih (fun b hb=>hs b (by unfold frs;rw [List.filterMap_cons,hf];exact List.mem_cons_of_mem _ hb)) hr⟩
 exact all X.outer (fun _ hb=>hb) I.ok.funs
theorem Inv.stack (I:Inv X pins σ H s):s.heap.FunFrames X.base X.stack:=by
 rcases I.ok.stk with e | ⟨e,hf⟩
 ·rw [e];exact I.funs
 ·rw [e]
  obtain⟨m,hn,_⟩:=I.loc
  refine .cons (by rw [I.ok.kind];decide) hf hn ?_ I.funs
  exact Heap.get?_none_of_le (Nat.le_trans I.ok.bsz I.ok.above)
theorem Inv.stkSub (I:Inv X pins σ H s) : ∀b∈frs X.stack,b∈X.env.locals::X.fs:=fun b hb=>by
 rcases I.ok.stk with e | ⟨e,hf⟩
 ·rw [e] at hb;exact List.mem_cons_of_mem _ hb
 ·rw [e] at hb
  unfold frs at hb
  rw [List.filterMap_cons,hf] at hb
  exact hb
theorem Inv.stkFree (I:Inv X pins σ H s) : ∀b∈frs X.stack,H b=none:=fun b hb=>by
 rcases List.mem_cons.mp (I.stkSub b hb) with e | hb
 ·rw [e];exact I.free
 ·obtain⟨_,o,ho,_⟩:=I.ok.funs.mem hb
  exact I.base.free b o ho (I.ok.frf b hb) fun z=>I.ok.exfs b z hb
theorem Inv.step {g':Array GenState} {t':Nat} {d':Drawn} {ch:List Addr} (I:Inv X pins σ H s)
  (hch : ∀b∈ch,(b∈X.ex\/X.s₀.heap.objs.size<=b)/\b≠X.env.locals/\(∀x c,X.env.cells.lookup x=some c->c≠b) /\ ∀p∈X.pn++pins,p.1≠b)
  (keep : ∀b o,b≠X.env.locals->b∉X.fs->b∉ch->s.heap.get? b=some o->H b=none->h'.get? b=some o)
  (slot : ∀b o,b≠X.env.locals->b∈X.fs->b∉ch->s.heap.get? b=some o->H b=none -> ∃sl,h'.get? b=some { o with slots:=sl }) (free : ∀b o,b∉ch->s.heap.get? b=some o->H b=none->H' b=none)
  (there : ∀b o,b∉ch->s.heap.get? b=some o -> ∃o',h'.get? b=some o')
  (tups : ∀b xs,H b=some (.tup xs)->H' b=some (.tup xs)) (frzs : ∀b o u,H b=some (.frz o u)->H' b=some (.frz o u)) (tbls : ∀b ps,H b=some (.tbl ps) -> ∃more,H' b=some (.tbl (ps++more)))
  (ns : ∀m,s.heap.Ns X.env.locals m->h'.Ns X.env.locals m) (hok:HOk X.prog X.w H' h') (hg:AllBare g') :
  Inv X pins σ H' { s with heap:=h',gens:=g',drawn:=d',toks:=t' }:=by
 have neL : ∀b o,X.s₀.heap.get? b=some o->b≠X.env.locals:=fun b o e=>Nat.ne_of_lt (Nat.lt_of_lt_of_le (Heap.lt_size e) I.ok.above)
 have neC : ∀b o,X.s₀.heap.get? b=some o->b∉X.ex->b∉ch:=fun b o e hx hb=>by
  rcases (hch b hb).1 with z | z
  ·exact hx z
  ·exact absurd (Nat.lt_of_lt_of_le (Heap.lt_size e) z) (Nat.lt_irrefl _)
 have cellK : ∀x c,X.env.cells.lookup x=some c -> ∀v,s.heap.IsCell c v->h'.IsCell c v:=fun x c e v ⟨o,ho,hd⟩=>by
  have nch:c∉ch:=fun z=>(hch c z).2.2.1 x c e rfl
  by_cases hc:c∈X.fs
  ·obtain⟨sl,q⟩:=slot c o (I.cne x c e) hc nch ho (I.freeC x c e)
   exact⟨_,q,hd⟩
  ·exact⟨o,keep c o (I.cne x c e) hc nch ho (I.freeC x c e),hd⟩
 refine⟨I.ok,I.os,hg,⟨fun b o e n hb hx => ?_,fun b o e n hb hx => ?_,fun b o e n hx => ?_,fun b o e hx => ?_,fun b xs e=>tups b xs (I.base.tups b xs e),fun b o xs e=>frzs b o xs (I.base.frzs b o xs e),fun b ps e => ?_⟩,?_,fun x c e => ?_,?_,fun x c e => ?_,fun p hp => ?_,hok,I.len⟩
 ·exact keep b o (neL b o e) hb (neC b o e hx) (I.base.keep b o e n hb hx) (I.base.free b o e n hx)
 ·obtain⟨sl,e1⟩:=I.base.slot b o e n hb hx
  obtain⟨sl',e2⟩:=slot b _ (neL b o e) hb (neC b o e hx) e1 (I.base.free b o e n hx)
  exact⟨sl',e2⟩
 ·obtain⟨o',e1⟩:=I.base.there b o e hx
  exact free b o' (neC b o e hx) e1 (I.base.free b o e n hx)
 ·obtain⟨o',e1⟩:=I.base.there b o e hx
  exact there b o' (neC b o e hx) e1
 ·obtain⟨m1,e1⟩:=I.base.tbls b ps e
  obtain⟨m2,e2⟩:=tbls b _ e1
  exact⟨m1++m2,by rw [e2,Array.append_assoc]⟩
 ·obtain⟨m,hn,hl⟩:=I.loc
  refine⟨m,ns m hn,fun i x v e1 e2 e3 => ?_⟩
  obtain⟨u,r,l⟩:=hl i x v e1 e2 e3
  refine⟨u,r,?_⟩
  rcases l with l | ⟨k,c,e,z⟩
  ·exact .inl l
  ·exact .inr ⟨k,c,e,cellK x c e _ z⟩
 ·obtain⟨v,z⟩:=I.cell x c e
  exact⟨v,cellK x c e v z⟩
 ·obtain⟨m,⟨o,_,_,ho,_⟩,_⟩:=I.loc
  exact free _ o (fun z=>(hch _ z).2.1 rfl) ho I.free
 ·obtain⟨v,o,ho,hd⟩:=I.cell x c e
  exact free c o (fun z=>(hch c z).2.2.1 x c e rfl) ho (I.freeC x c e)
 ·obtain⟨e,n,ne,nf,d⟩:=I.pin p hp
  have nch:p.1∉ch:=fun z=>(hch p.1 z).2.2.2 p hp rfl
  exact⟨keep p.1 p.2 ne nf nch e n,free p.1 p.2 nch e n,ne,nf,d⟩
theorem Inv.un {t':Nat} (I:Inv X pins σ H s) (u:Un X.fs [] H H' s.heap h') (hok:HOk X.prog X.w H' h'):Inv X pins σ H' { s with heap:=h',toks:=t' }:=by
 obtain⟨m,⟨o,es,ep,ho,r⟩,_⟩:=id I.loc
 obtain⟨sl,hL⟩:=u.any ho I.free (by simp)
 exact I.step (g':=s.gens) (d':=s.drawn) (ch :=[]) (fun _ z=>nomatch z) (fun b o _ hb _ e n=>u.keep b o e n hb (by simp)) (fun b o _ hb _ e n=>u.slot b o e n hb (by simp)) (fun b o _ e n=>u.free b o e n (by simp)) (fun b o _ e=>u.there b o e (by simp)) u.tups u.frzs u.tbls (fun m' hm=>by
  obtain⟨o',es',ep',ho',r'⟩:=hm
  rw [ho] at ho';cases ho'
  exact⟨_,es',ep',hL,r'⟩) hok I.bare
theorem Inv.call {g':Array GenState} {t':Nat} {d':Drawn} {ch:List Addr} (I:Inv X pins σ H s) (u:Un (frs X.stack) ch H H' s.heap h') (hok:HOk X.prog X.w H' h') (hg:AllBare g')
  (hch : ∀b∈ch,(b∈X.ex\/X.s₀.heap.objs.size<=b)/\b≠X.env.locals/\(∀x c,X.env.cells.lookup x=some c->c≠b) /\ ∀p∈X.pn++pins,p.1≠b) :
  Inv X pins σ H' { s with heap:=h',gens:=g',drawn:=d',toks:=t' }:=by
 obtain⟨m,⟨o,es,ep,ho,r⟩,_⟩:=id I.loc
 obtain⟨sl,hL⟩:=u.any ho I.free fun z=>(hch _ z).2.1 rfl
 exact I.step (ch:=ch) hch (fun b o hL hb hc e n=>u.keep b o e n (fun z=>(List.mem_cons.mp (I.stkSub b z)).elim hL hb) hc) (fun b o _ _ hc e n=>u.any e n hc) (fun b o hc e n=>u.free b o e n hc) (fun b o hc e=>u.there b o e hc) u.tups u.frzs u.tbls (fun m' hm=>by
  obtain⟨o',es',ep',ho',r'⟩:=hm
  rw [ho] at ho';cases ho'
  exact⟨_,es',ep',hL,r'⟩) hok hg
theorem Inv.turned {t':Nat} {it:Addr} (I:Inv X pins σ H s) (k : ∀b o,b≠it->s.heap.get? b=some o->h'.get? b=some o) (hn:H it=none) (hL:it≠X.env.locals)
  (h1:it∈X.ex\/X.s₀.heap.objs.size<=it) (h2 : ∀x c,X.env.cells.lookup x=some c->c≠it) (h3 : ∀p∈X.pn++pins,p.1≠it):Inv X pins σ H { s with heap:=h',toks:=t' }:=by
 have nit : ∀b u,H b=some u->b≠it:=fun b u e z=>by rw [z,hn] at e;cases e
 refine I.step (g':=s.gens) (d':=s.drawn) (ch :=[it]) (fun b hb => ?_) (fun b o _ _ hc e _=>k b o (fun z=>hc (by simp [z])) e) (fun b o _ _ hc e _=>⟨o.slots,k b o (fun z=>hc (by simp [z])) e⟩) (fun _ _ _ _ n=>n)
  (fun b o hc e=>⟨o,k b o (fun z=>hc (by simp [z])) e⟩) (fun _ _ e=>e) (fun _ _ _ e=>e) (fun b ps e=>⟨#[],by rw [e];simp⟩) (fun m hm => ?_) (fun b u e => ?_) I.bare
 ·have e:b=it:=by simpa using hb
  subst e
  exact⟨h1,hL,h2,h3⟩
 ·obtain⟨o,es,ep,ho,r⟩:=hm
  exact⟨o,es,ep,k _ o (Ne.symm hL) ho,r⟩
 ·refine (I.hok b u e).stay (fun c v hc q=>k c v ?_ q) (fun _ q=>q) fun _ _ q=>q
  rcases hc with z | z
  ·rw [z];exact nit b u e
  ·exact nit c _ z
theorem Inv.tok (I:Inv X pins σ H s) (t:Nat):Inv X pins σ H { s with toks:=t }:=I.un (h':=s.heap) (t':=t) Un.refl I.hok
theorem Inv.kept {t':Nat} (I:Inv X pins σ H s) (k : ∀b u,s.heap.get? b=some u->h'.get? b=some u):Inv X pins σ H { s with heap:=h',toks:=t' }:=I.un (Un.kept k) (I.hok.kept k)
theorem Inv.laid {a:Addr} {o:HO} {t':Nat} (I:Inv X pins σ H s) (k : ∀b u,s.heap.get? b=some u->h'.get? b=some u) (hp:s.heap.objs.size<=a) (new:ObjOk X.prog X.w (upd H a o) h' a o) :
  Inv X pins σ (upd H a o) { s with heap:=h',toks:=t' }:=I.un (Un.laid k hp (I.hok.fresh hp)) (I.hok.laid k hp new)
theorem Inv.write {x e:Addr} {o:HO} {t':Nat} (I:Inv X pins σ H s) (mu:Mut (H x)) (he:e=x\/H e=some (.own x)) (k : ∀b u,b≠e->s.heap.get? b=some u->h'.get? b=some u) (heo : ∃u,h'.get? e=some u)
  (new:ObjOk X.prog X.w (upd H x o) h' x o):Inv X pins σ (upd H x o) { s with heap:=h',toks:=t' }:=I.un (Un.write mu he k heo) (I.hok.write mu he k heo new)
theorem Inv.pins_of {pins':List (Addr×Obj)} (I:Inv X pins σ H s) (h : ∀p∈pins',s.heap.get? p.1=some p.2/\H p.1=none/\p.1≠X.env.locals/\p.1∉X.fs /\ ∀v,p.2.data ≠ .cell v):Inv X pins' σ H s :=
 ⟨I.ok,I.os,I.bare,I.base,I.loc,I.cell,I.free,I.freeC,fun p hp=>(List.mem_append.mp hp).elim (fun z=>I.pin p (List.mem_append_left _ z)) (h p),I.hok,I.len⟩
theorem qMp {N:List Str} (hN:N.Nodup) {i j:Nat} {x:Str} (a:N[i]? = some x) (b:N[j]? = some x):i=j:=by
 obtain⟨h1,e1⟩:=List.getElem?_eq_some_iff.mp a
 obtain⟨h2,e2⟩:=List.getElem?_eq_some_iff.mp b
 exact (List.getElem_inj hN).mp (e1.trans e2.symm)
theorem qJj {M:Model} {A:Around} {E:Value->Shared->Prop} {i:Nat} {x:Str} {v:V} {u:Value} {Q:Unit->Shared->Prop} (I:Inv X pins σ H s) (hN:X.N.Nodup) (hi:X.N[i]? = some x) (hx:Loc X.env.scope x) (r:RelV v u)
  (h : ∀s',Inv X pins (σ.set i (some v)) H s'->(∃a,Heap.SameBut a s.heap s'.heap/\(a=X.env.locals\/X.env.cells.lookup x=some a))->Q () s') (hf:X.fn x=true\/X.env.scope.names.lookup x=some .local:=by first | exact .inl rfl | exact .inr rfl | assumption):wpAny M A (storeName X.env x u) Q E s:=by
 obtain⟨m,hn,hl⟩:=id I.loc
 have hcls:(X.env.scope.kind == .class||(X.env.scope.kind == .module&&X.env.locals != X.env.globals))=false:=by rw [I.ok.kind];rfl
 have hiσ : i < σ.length:=by rw [I.len];exact (List.getElem?_eq_some_iff.mp hi).1
 have cne:=I.cne
 have tracked : ∀ {a:Addr} {h':Heap},(∃o,s.heap.get? a=some o/\H a=none)->Heap.SameBut a s.heap h'->HOk X.prog X.w H h':=fun {a h'} ha hs b ob e=>by
  obtain⟨_,_,hfree⟩:=ha
  refine (I.hok b ob e).stay (fun c w' hc q=>(hs.2 c ?_).trans q) (fun _ q=>q) fun _ _ q=>q
  rintro rfl
  rcases hc with rfl | hc
  ·rw [hfree] at e;cases e
  ·rw [hfree] at hc;cases hc
 rcases hx with hk | hk
 ·refine wpAny_storeName_local hk hn (fun h' hn' hs => ?_) hcls
  obtain⟨oL,_,_,hoL,_⟩:=id hn
  refine h _ ⟨I.ok,I.os,I.bare,⟨fun b o e n hb hx => ?_,fun b o e n hb hx => ?_,I.base.free,fun b o e hx => ?_,I.base.tups,I.base.frzs,I.base.tbls⟩,⟨_,hn',fun j y v' e1 e2 e3 => ?_⟩,fun y c e => ?_,I.free,I.freeC,fun p hp => ?_,tracked ⟨oL,hoL,I.free⟩ hs,by simpa using I.len⟩ ⟨_,hs,.inl rfl⟩
  ·exact (hs.2 b (Nat.ne_of_lt (Nat.lt_of_lt_of_le (Heap.lt_size e) I.ok.above))).trans (I.base.keep b o e n hb hx)
  ·obtain⟨sl,e1⟩:=I.base.slot b o e n hb hx
   exact⟨sl,(hs.2 b (Nat.ne_of_lt (Nat.lt_of_lt_of_le (Heap.lt_size e) I.ok.above))).trans e1⟩
  ·obtain⟨o',e1⟩:=I.base.there b o e hx
   exact⟨o',(hs.2 b (Nat.ne_of_lt (Nat.lt_of_lt_of_le (Heap.lt_size e) I.ok.above))).trans e1⟩
  ·by_cases hj:j=i
   ·subst hj
    rw [hi] at e1;cases e1
    rw [List.getElem?_set_self hiσ] at e2
    cases e2
    exact⟨u,r,.inl ⟨hk,by simp⟩⟩
   ·rw [List.getElem?_set_ne (Ne.symm hj)] at e2
    obtain⟨u',r',q⟩:=hl j y v' e1 e2 e3
    refine⟨u',r',?_⟩
    rcases q with ⟨k,e⟩ | ⟨k,c,e,z⟩
    ·refine .inl ⟨k,?_⟩
     have:y≠x:=fun e=>hj (qMp hN e1 (e▸hi))
     simp [this,e]
    ·exact .inr ⟨k,c,e,z.sameBut hs (cne y c e)⟩
  ·obtain⟨w',z⟩:=I.cell y c e
   exact⟨w',z.sameBut hs (cne y c e)⟩
  ·obtain⟨e,n,ne,nf,d⟩:=I.pin p hp
   exact⟨(hs.2 p.1 ne).trans e,n,ne,nf,d⟩
 ·have hfn:X.fn x=true:=by
   rcases hf with z | z
   ·exact z
   ·rw [z] at hk;cases hk
  obtain⟨c,hc⟩:=I.ok.has x (.inl hk)
  obtain⟨w',z⟩:=I.cell x c hc
  refine wpAny_storeName_cell I.ok.kind hk hc z (fun h' hc' hs => ?_)
  obtain⟨oc,hoc,hocd⟩:=id z
  refine h { s with heap:=h' } ⟨I.ok,I.os,I.bare,⟨fun b o e n hb hx => ?_,fun b o e n hb hx => ?_,I.base.free,fun b o e hx => ?_,I.base.tups,I.base.frzs,I.base.tbls⟩,⟨m,hn.sameBut hs (Ne.symm (cne x c hc)),fun j y v' e1 e2 e3 => ?_⟩,fun y c' e => ?_,I.free,I.freeC,fun p hp => ?_,tracked ⟨oc,hoc,I.freeC x c hc⟩ hs,by simpa using I.len⟩ ⟨c,hs,.inr hc⟩
  ·exact (hs.2 b (Nat.ne_of_lt (Nat.lt_of_lt_of_le (Heap.lt_size e) (I.ok.cab x c hfn hc)))).trans (I.base.keep b o e n hb hx)
  ·obtain⟨sl,e1⟩:=I.base.slot b o e n hb hx
   exact⟨sl,(hs.2 b (Nat.ne_of_lt (Nat.lt_of_lt_of_le (Heap.lt_size e) (I.ok.cab x c hfn hc)))).trans e1⟩
  ·obtain⟨o',e1⟩:=I.base.there b o e hx
   exact⟨o',(hs.2 b (Nat.ne_of_lt (Nat.lt_of_lt_of_le (Heap.lt_size e) (I.ok.cab x c hfn hc)))).trans e1⟩
  ·by_cases hj:j=i
   ·subst hj
    rw [hi] at e1;cases e1
    rw [List.getElem?_set_self hiσ] at e2
    cases e2
    exact⟨u,r,.inr ⟨.inl hk,c,hc,hc'⟩⟩
   ·rw [List.getElem?_set_ne (Ne.symm hj)] at e2
    obtain⟨u',r',q⟩:=hl j y v' e1 e2 e3
    refine⟨u',r',?_⟩
    rcases q with q | ⟨k,c',e,z'⟩
    ·exact .inl q
    ·refine .inr ⟨k,c',e,z'.sameBut hs ?_⟩
     rintro rfl
     exact hj (qMp hN e1 (I.ok.inj _ _ _ e hc▸hi))
  ·by_cases hcc:c'=c
   ·subst hcc;exact⟨_,hc'⟩
   ·obtain⟨w2,z2⟩:=I.cell y c' e
    exact⟨w2,z2.sameBut hs hcc⟩
  ·obtain⟨e,n,ne,nf,d⟩:=I.pin p hp
   refine⟨(hs.2 p.1 ?_).trans e,n,ne,nf,d⟩
   intro q
   rw [q,hoc] at e
   have q':oc=p.2:=Option.some.inj e
   exact d w' (by rw [<-q'];exact hocd)
theorem qG0 {M:Model} {A:Around} {E:Value->Shared->Prop} {i:Nat} {x:Str} {v:V} {u:Value} {Q:Unit->Shared->Prop} (I:Inv X pins σ H s) (hN:X.N.Nodup) (hi:X.N[i]? = some x) (hx:Loc X.env.scope x) (r:RelV v u)
  (h : ∀s',Inv X pins (σ.set i (some v)) H s'->Q () s') (hf:X.fn x=true\/X.env.scope.names.lookup x=some .local:=by first | exact .inl rfl | exact .inr rfl | assumption):wpAny M A (storeName X.env x u) Q E s :=
 qJj I hN hi hx r (fun s' I' _=>h s' I') hf
theorem Inv.call' {s':Shared} {ch:List Addr} (I:Inv X pins σ H s) (ho:s'.os=s.os) (u:Un (frs X.stack) ch H H' s.heap s'.heap) (hok:HOk X.prog X.w H' s'.heap) (hg:AllBare s'.gens)
  (hch : ∀b∈ch,(b∈X.ex\/X.s₀.heap.objs.size<=b)/\b≠X.env.locals/\(∀x c,X.env.cells.lookup x=some c->c≠b) /\ ∀p∈X.pn++pins,p.1≠b):Inv X pins σ H' s':=by
 obtain⟨h',g',d',t',o'⟩:=s'
 have e:o'=s.os:=ho
 subst e
 exact I.call (g':=g') (t':=t') (d':=d') u hok hg hch
end
abbrev XK:=Value->Option Addr->Hp->Prop
abbrev St:=List (Option V)
abbrev VK:=V->Hp->Prop
abbrev TE:=St->Hp->VK->Prop
abbrev TT:=St->Hp->(Bool->Hp->Prop)->Prop
abbrev TA:=St->Hp->(List V->Hp->Prop)->Prop
structure Ends where
 nx:St->Hp->Prop
 rt:VK
 bk:St->Hp->Prop:=fun _ _=>False
 ct:St->Hp->Prop:=fun _ _=>False
abbrev TS:=Ends->St->Hp->Prop
def EP (X:Cx) (pins:List (Addr×Obj)) (σ : St) (Q:VK) (u:Value) (s':Shared):Prop := ∃v H',Inv X pins σ H' s'/\RelV v u/\Q v H'
def TP (X:Cx) (pins:List (Addr×Obj)) (σ : St) (Q:Bool->Hp->Prop) (b:Bool) (s':Shared):Prop := ∃H',Inv X pins σ H' s'/\Q b H'
def AP (X:Cx) (pins:List (Addr×Obj)) (σ : St) (Q:List V->Hp->Prop) (us:List Value) (s':Shared):Prop := ∃vs H',Inv X pins σ H' s'/\Vals vs us/\Q vs H'
def SP (X:Cx) (pins:List (Addr×Obj)) (D:Ends) (f:Flow) (s':Shared):Prop :=
 match f with
 | .next => ∃ σ' H',Inv X pins σ' H' s'/\D.nx σ' H'
 | .brk => ∃ σ' H',Inv X pins σ' H' s'/\D.bk σ' H'
 | .cont => ∃ σ' H',Inv X pins σ' H' s'/\D.ct σ' H'
 | .ret u => ∃v σ' H',Inv X pins σ' H' s'/\RelV v u/\D.rt v H'
def PE (X:Cx) (e:Expr) (t:TE):Prop :=
 ∀(pins:List (Addr×Obj)) (s:Shared) (σ : St) (H:Hp) (Q:VK),Inv X pins σ H s->t σ H Q->wpAny (model X.prog X.w) X.A (eval e X.env) (EP X pins σ Q) X.xe s
def PT (X:Cx) (e:Expr) (t:TT):Prop :=
 ∀(pins:List (Addr×Obj)) (s:Shared) (σ : St) (H:Hp) (Q:Bool->Hp->Prop),Inv X pins σ H s->t σ H Q->wpAny (model X.prog X.w) X.A (isTrue e X.env (eval e X.env)) (TP X pins σ Q) X.xe s
def PW (X:Cx) (e:Expr) (t:TT):Prop :=
 ∀(whole:Sem Value) (pins:List (Addr×Obj)) (s:Shared) (σ : St) (H:Hp) (Q:Bool->Hp->Prop),Inv X pins σ H s->t σ H Q->wpAny (model X.prog X.w) X.A (isTrue e X.env whole) (TP X pins σ Q) X.xe s
theorem PW.pt {X:Cx} {e:Expr} {t:TT} (h:PW X e t):PT X e t:=h _
def PA (X:Cx) (es:List Expr) (t:TA):Prop :=
 ∀(pos:Pos) (pins:List (Addr×Obj)) (s:Shared) (σ : St) (H:Hp) (Q:List V->Hp->Prop),Inv X pins σ H s->t σ H Q->wpAny (model X.prog X.w) X.A (spliced (backTo pos (starEach es X.env))) (AP X pins σ Q) X.xe s
def PS (X:Cx) (st:Stmt) (t:TS):Prop :=
 ∀(pins:List (Addr×Obj)) (s:Shared) (σ : St) (H:Hp) (D:Ends),Inv X pins σ H s->t D σ H->wpAny (model X.prog X.w) X.A (exec st X.env) (SP X pins D) X.xe s
def PSs (X:Cx) (st:List Stmt) (t:TS):Prop :=
 ∀(pins:List (Addr×Obj)) (s:Shared) (σ : St) (H:Hp) (D:Ends),Inv X pins σ H s->t D σ H->wpAny (model X.prog X.w) X.A (execs st X.env) (SP X pins D) X.xe s
theorem thn {α : Type} {t:Sem α} {Q Q' : α -> Shared->Prop} {M:Model} {A:Around} {E:Value->Shared->Prop} {s:Shared} (h:wpAny M A t Q E s) (hQ : ∀a s,Q a s->Q' a s):wpAny M A t Q' E s:=wpAny_mono h hQ fun _ _ x=>x
section
variable {X:Cx}
theorem bin {a b:Expr} {ta tb:TE} (ha:PE X a ta) (hb:PE X b tb) {pins:List (Addr×Obj)} {s:Shared} {σ : St} {H:Hp} {R:V->V->Hp->Prop} (I:Inv X pins σ H s) (h:ta σ H fun x H1=>tb σ H1 fun y H2=>R x y H2)
  {α : Type} {Q : α -> Shared->Prop} {f:Value->Value->Sem α}
  (hf : ∀v u s2 x y H2,Inv X pins σ H2 s2->RelV x v->RelV y u->R x y H2->wpAny (model X.prog X.w) X.A (f v u) Q X.xe s2) :
  wpAny (model X.prog X.w) X.A (eval a X.env) (fun v s₁ =>wpAny (model X.prog X.w) X.A (eval b X.env) (fun u s₂ =>wpAny (model X.prog X.w) X.A (f v u) Q X.xe s₂) X.xe s₁) X.xe s:=by
 refine thn (ha pins s σ H _ I h) fun v s1 hq_ => ?_
 obtain⟨x,H1,I1,r1,q1⟩:=hq_
 refine thn (hb pins s1 σ H1 _ I1 q1) fun u s2 hq_ => ?_
 obtain⟨y,H2,I2,r2,q2⟩:=hq_
 exact hf v u s2 x y H2 I2 r1 r2 q2
def tVar (i:Nat):TE:=fun σ H Q => ∃v,σ[i]? = some (some v)/\Q v H
def tC (v:V):TE:=fun _ H Q=>Q v H
theorem qVz {i:Nat} {x:Str} {pos:Pos} (hN:X.N[i]? = some x) (hv:Vis X.env.scope x) (hd:(x == ("__debug__" : Str))=false:=by decide) (hcd:(x == ("__classdict__" : Str))=false:=by decide):PE X (.Name x pos) (tVar i):=by
 intro pins s σ H Q I h
 obtain⟨v,e,h⟩:=h
 obtain⟨m,hn,hl⟩:=I.loc
 obtain⟨u,r,l⟩:=hl i x v hN e hv
 have fin:EP X pins σ Q u s:=⟨v,H,I,r,h⟩
 rcases l with ⟨hk,hm⟩ | ⟨hk,c,hc,hcell⟩
 ·exact wpAny_Name (wpAny_loadName_local I.ok.kind hk hn hm fin) hd
 ·rcases hk with hk | hk
  ·exact wpAny_Name (wpAny_loadName_cell I.ok.kind hk hc hcell fin) hd
  ·exact wpAny_Name (wpAny_loadName_free I.ok.kind hk hc hcell fin hcd) hd
theorem qA6 {i j pos}:PE X (.Constant (.int i) j pos) (tC (.int i)):=fun _ _ _ H _ I h=>wpAny_Constant_int ⟨.int i,H,I.tok _,⟨_,rfl⟩,h⟩
theorem qDa {b j pos}:PE X (.Constant (.bool b) j pos) (tC (.bl b)):=fun _ _ _ H _ I h=>Constant_bool ⟨.bl b,H,I,rfl,h⟩
theorem qCg {x j pos}:PE X (.Constant (.str x) j pos) (tC (.str x)):=fun _ _ _ H _ I h=>Calls.Constant_str ⟨.str x,H,I.tok _,⟨_,rfl⟩,h⟩
def Gl (X:Cx) (x:Str):Prop:=X.env.kindOf x=some .globalImplicit
theorem qPv {E:Value->Shared->Prop} {pins:List (Addr×Obj)} {s:Shared} {σ : St} {H:Hp} {x:Str} {u:Value} {pos:Pos} {Q:Value->Shared->Prop} (I:Inv X pins σ H s) (hg:Gl X x) (hm:X.mg x=some u) (h:Q u s)
  (hd:(x == ("__debug__" : Str))=false:=by decide):wpAny (model X.prog X.w) X.A (eval (.Name x pos) X.env) Q E s :=
 Calls.Name_function_global I.ok.kind hg (Calls.loadGlobal_global (by rw [I.ok.glob];exact I.mod.glob.keeps I.bk) hm h) hd
theorem qKe {E:Value->Shared->Prop} {pins:List (Addr×Obj)} {s:Shared} {σ : St} {H:Hp} {x:Str} {u:Value} {pos:Pos} {Q:Value->Shared->Prop} (I:Inv X pins σ H s) (hg:Gl X x) (hm:X.mg x=none) (hv:bootBuiltins x=some u) (h:Q u s)
  (hn:x ≠ "__name__" :=by decide) (hd:(x == ("__debug__" : Str))=false:=by decide):wpAny (model X.prog X.w) X.A (eval (.Name x pos) X.env) Q E s:=by
 obtain⟨mb,h1,h2⟩:=I.mod.blt
 exact Calls.Name_function_global I.ok.kind hg (Calls.loadGlobal_builtin (by rw [I.ok.glob];exact I.mod.glob.keeps I.bk) hm (by rw [I.ok.blt];exact h1.keeps I.bk) ((h2 x hn).trans hv) h) hd
theorem qLo {x:Str} {v:V} {u:Value} {pos:Pos} (hg:Gl X x) (hm:X.mg x=some u) (r:RelV v u) (hd:(x == ("__debug__" : Str))=false:=by decide):PE X (.Name x pos) (tC v) :=
 fun _ _ _ H _ I h=>qPv I hg hm ⟨v,H,I,r,h⟩ hd
theorem qGn {x:Str} {v:V} {u:Value} {pos:Pos} (hg:Gl X x) (hm:X.mg x=none) (hv:bootBuiltins x=some u) (r:RelV v u) (hn:x ≠ "__name__" :=by decide) (hd:(x == ("__debug__" : Str))=false:=by decide):PE X (.Name x pos) (tC v) :=
 fun _ _ _ H _ I h=>qKe I hg hm hv ⟨v,H,I,r,h⟩ hn hd
variable {a b:Expr} {ta tb:TE} {pos:Pos}
def PC (X:Cx) (op:CmpOp) (a b:Expr) (t:TE):Prop :=
 ∀(pins:List (Addr×Obj)) (s:Shared) (σ : St) (H:Hp) (Q:VK),Inv X pins σ H s->t σ H Q ->
  wpAny (model X.prog X.w) X.A (eval a X.env) (fun v s₁ =>wpAny (model X.prog X.w) X.A (eval b X.env) (fun u s₂ =>wpAny (model X.prog X.w) X.A (compareOp op v u) (EP X pins σ Q) X.xe s₂) X.xe s₁) X.xe s
theorem qS5 (b:Expr) {op:CmpOp} (h:op ≠ .In) (h2:op ≠ .NotIn):behindInMarks op b=false:=by
 have e1:(op == CmpOp.In)=false:=by cases op <;> first | rfl | exact absurd rfl h
 have e2:(op == CmpOp.NotIn)=false:=by cases op <;> first | rfl | exact absurd rfl h2
 cases b <;> simp [behindInMarks,e1,e2]
def tB (t:TE):TT:=fun σ H Q=>t σ H fun x H1 => ∃c,x = .bl c/\Q c H1
theorem qJt {op:CmpOp} {t:TE} (h:PC X op a b t) (h1:behindInMarks op b=false:=by first | exact qS5 _ (by decide) (by decide) | rfl):PT X (.Compare a [op] [b] pos) (tB t):=by
 intro pins s σ H Q I hw
 refine wpAny_isTrue_Compare1 (thn (h pins s σ H _ I hw) fun v s1 h1=>thn h1 fun u s2 h2=>thn h2 fun c s3 hq_ => ?_) h1
 obtain⟨x,H1,I1,r1,q1⟩:=hq_
 obtain⟨d,rfl,q⟩:=q1
 cases r1
 exact wpAny_truthy_bool ⟨H1,I1,q⟩
variable {tA tB':TT} {rest:List Expr}
def tAnd (t u:TT):TT:=fun σ H Q=>t σ H fun c H1=>if c=true then u σ H1 Q else Q false H1
def tOr (t u:TT):TT:=fun σ H Q=>t σ H fun c H1=>if c=true then Q true H1 else u σ H1 Q
def tNot (t:TT):TT:=fun σ H Q=>t σ H fun c H1=>Q (!c) H1
theorem qEf (ha:PT X a tA):PW X (.BoolOp .And [a] pos) tA:=by
 intro wh pins s σ H Q I h
 refine isTrue_and (thn (ha pins s σ H Q I h) fun c s1 e => ?_)
 cases c with
 | true=>exact isTrue_and_nil e
 | false=>exact e
theorem qOx (ha:PT X a tA):PW X (.BoolOp .Or [a] pos) tA:=by
 intro wh pins s σ H Q I h
 refine isTrue_or (thn (ha pins s σ H Q I h) fun c s1 e => ?_)
 cases c with
 | false=>exact isTrue_or_nil e
 | true=>exact e
theorem qGk (ha:PT X a tA) (hb:PW X (.BoolOp .And (b::rest) pos) tB'):PW X (.BoolOp .And (a::b::rest) pos) (tAnd tA tB'):=by
 intro wh pins s σ H Q I h
 refine isTrue_and (thn (ha pins s σ H _ I h) fun c s1 hq_ => ?_)
 obtain⟨H1,I1,q1⟩:=hq_
 cases c with
 | true=>exact hb wh pins s1 σ H1 Q I1 q1
 | false=>exact⟨H1,I1,q1⟩
theorem qU1 (ha:PT X a tA) (hb:PW X (.BoolOp .Or (b::rest) pos) tB'):PW X (.BoolOp .Or (a::b::rest) pos) (tOr tA tB'):=by
 intro wh pins s σ H Q I h
 refine isTrue_or (thn (ha pins s σ H _ I h) fun c s1 hq_ => ?_)
 obtain⟨H1,I1,q1⟩:=hq_
 cases c with
 | true=>exact⟨H1,I1,q1⟩
 | false=>exact hb wh pins s1 σ H1 Q I1 q1
theorem qGl (ha:PT X a tA):PT X (.UnaryOp .Not a pos) (tNot tA):=by
 intro pins s σ H Q I h
 exact isTrue_not (ha pins s σ H (fun c H1=>Q (!c) H1) I h)
def tAndV (ta tb:TE):TE:=fun σ H Q=>ta σ H fun x H1 => ∃c,x = .bl c/\if c=true then tb σ H1 Q else Q (.bl false) H1
def tOrV (ta tb:TE):TE:=fun σ H Q=>ta σ H fun x H1 => ∃c,x = .bl c/\if c=true then Q (.bl true) H1 else tb σ H1 Q
def tNotV (ta:TE):TE:=fun σ H Q=>ta σ H fun x H1 => ∃c,x = .bl c/\Q (.bl (!c)) H1
theorem qFs {op} {t:TE} (h:PE X a t):PE X (.BoolOp op [a] pos) t:=fun pins s σ H Q I hw=>BoolOp_one (h pins s σ H Q I hw)
theorem qGo (ha:PE X a ta) (hb:PE X (.BoolOp .And (b::rest) pos) tb):PE X (.BoolOp .And (a::b::rest) pos) (tAndV ta tb):=by
 intro pins s σ H Q I h
 refine BoolOp_and (thn (ha pins s σ H _ I h) fun v s1 hq_ => ?_)
 obtain⟨x,H1,I1,r1,q1⟩:=hq_
 obtain⟨c,rfl,q1⟩:=q1
 cases r1
 refine wpAny_truthy_bool ?_
 cases c with
 | true=>exact hb pins s1 σ H1 Q I1 q1
 | false=>exact⟨.bl false,H1,I1,rfl,q1⟩
theorem qX2 (ha:PE X a ta) (hb:PE X (.BoolOp .Or (b::rest) pos) tb):PE X (.BoolOp .Or (a::b::rest) pos) (tOrV ta tb):=by
 intro pins s σ H Q I h
 refine BoolOp_or (thn (ha pins s σ H _ I h) fun v s1 hq_ => ?_)
 obtain⟨x,H1,I1,r1,q1⟩:=hq_
 obtain⟨c,rfl,q1⟩:=q1
 cases r1
 refine wpAny_truthy_bool ?_
 cases c with
 | false=>exact hb pins s1 σ H1 Q I1 q1
 | true=>exact⟨.bl true,H1,I1,rfl,q1⟩
theorem qW2 (ha:PE X a ta):PE X (.UnaryOp .Not a pos) (tNotV ta):=by
 intro pins s σ H Q I h
 refine UnaryOp_ (thn (ha pins s σ H _ I h) fun v s1 hq_ => ?_)
 obtain⟨x,H1,I1,r1,q1⟩:=hq_
 obtain⟨c,rfl,q1⟩:=q1
 cases r1
 exact not_of (wpAny_truthy_bool ⟨.bl (!c),H1,I1,rfl,q1⟩)
def tIf (t:TT) (ta tb:TE):TE:=fun σ H Q=>t σ H fun c H1=>if c=true then ta σ H1 Q else tb σ H1 Q
theorem qDy {c:Expr} (hc:PT X c tA) (ha:PE X a ta) (hb:PE X b tb):PE X (.IfExp c a b pos) (tIf tA ta tb):=by
 intro pins s σ H Q I h
 refine wpAny_IfExp (thn (hc pins s σ H _ I h) fun d s1 hq_ => ?_)
 obtain⟨H1,I1,q1⟩:=hq_
 cases d with
 | true=>exact ha pins s1 σ H1 Q I1 q1
 | false=>exact hb pins s1 σ H1 Q I1 q1
end
def SqL (K:PySem.W.Frag) (H:Hp) (a:Addr) (xs:List V):Prop :=
 Rd H a (.lst xs) \/
  ∃(o:Obj) (its:Array Value) (n:Nat),K.lookup a=some o/\o.cls = .type "list" /\ o.dict=none/\o.data = .seq its n/\its.size<=sizeLine/\Vals xs its.toList
def SqT (K:PySem.W.Frag) (H:Hp) (a:Addr) (xs:List V):Prop :=
 Rd H a (.tup xs) \/
  ∃(o:Obj) (its:Array Value) (n:Nat),K.lookup a=some o/\o.cls = .type "tuple" /\ o.data = .seq its n/\its.size<=sizeLine/\Vals xs its.toList
def absV:Value->Option V
 | .none=>some .non
 | .bool b=>some (.bl b)
 | .int i _=>some (.int i)
 | .str x _=>some (.str x)
 | .bytes b _=>some (.byt b)
 | .float b _=>some (.flt b)
 | .ref a=>some (.ref a)
 | .type n=>some (.ty n)
 | _=>none
theorem RelV.abs {x:V} {u:Value} (r:RelV x u):absV u=some x:=by
 cases x with
 | non=>cases r;rfl
 | bl _=>cases r;rfl
 | int _=>obtain⟨t,rfl⟩:=r;rfl
 | str _=>obtain⟨t,rfl⟩:=r;rfl
 | byt _=>obtain⟨t,rfl⟩:=r;rfl
 | flt _=>obtain⟨t,rfl⟩:=r;rfl
 | ref _=>cases r;rfl
 | ty _=>cases r;rfl
theorem RelV.inj {x y:V} {u:Value} (r:RelV x u) (q:RelV y u):x=y:=Option.some.inj (r.abs.symm.trans q.abs)
theorem Vals.inj {xs ys:List V} {us:List Value} (h:Vals xs us) (k:Vals ys us):xs=ys:=by
 induction h generalizing ys with
 | nil=>cases k;rfl
 | cons r _ ih=>cases k with | cons r' t'=>rw [r.inj r',ih t']
section
variable {X:Cx} {pins:List (Addr×Obj)} {σ : St} {H:Hp} {s:Shared} {a:Addr} {xs ys:List V}
theorem SqL.of {K:PySem.W.Frag} (h:H a=some (.lst xs)):SqL K H a xs :=.inl (.inl h)
theorem SqT.of {K:PySem.W.Frag} (h:H a=some (.tup xs)):SqT K H a xs :=.inl (.inl h)
theorem Inv.list (I:Inv X pins σ H s) (h:SqL X.K H a xs) : ∃its:List Value,Vals xs its/\PlainL s.heap a its.toArray/\xs.length<=sizeLine:=by
 rcases h with h | ⟨o,its,n,hk,hc,hd,hs,hz,r⟩
 ·obtain⟨z,its,n,r,e⟩:=h.ok I.hok
  exact⟨its,r,⟨_,n,e,rfl,rfl,rfl⟩,z⟩
 ·refine⟨its.toList,r,⟨o,n,I.kIn a o hk,hc,hd,by simpa using hs⟩,?_⟩
  have e:=r.length
  simp only [Array.length_toList] at e
  omega
theorem Inv.tuple (I:Inv X pins σ H s) (h:SqT X.K H a xs) : ∃its:List Value,Vals xs its/\IsTup s.heap a its.toArray/\xs.length<=sizeLine:=by
 rcases h with h | ⟨o,its,n,hk,hc,hs,hz,r⟩
 ·obtain⟨z,its,r,p⟩:=h.ok I.hok
  exact⟨its,r,p,z⟩
 ·refine⟨its.toList,r,⟨o,I.kIn a o hk,hc,n,by simpa using hs⟩,?_⟩
  have e:=r.length
  simp only [Array.length_toList] at e
  omega
theorem Inv.list_inj (I:Inv X pins σ H s) (h:SqL X.K H a xs) (h':SqL X.K H a ys):xs=ys:=by
 obtain⟨its,r,⟨o,n,e,_,_,d⟩,_⟩:=I.list h
 obtain⟨its',r',⟨o',n',e',_,_,d'⟩,_⟩:=I.list h'
 rw [e] at e';cases e'
 rw [d] at d'
 injection d' with d1 _
 have:its=its':=by simpa using congrArg Array.toList d1
 subst this
 exact r.inj r'
theorem Inv.tuple_inj (I:Inv X pins σ H s) (h:SqT X.K H a xs) (h':SqT X.K H a ys):xs=ys:=by
 obtain⟨its,r,⟨o,e,_,n,d⟩,_⟩:=I.tuple h
 obtain⟨its',r',⟨o',e',_,n',d'⟩,_⟩:=I.tuple h'
 rw [e] at e';cases e'
 rw [d] at d'
 injection d' with d1 _
 have:its=its':=by simpa using congrArg Array.toList d1
 subst this
 exact r.inj r'
end
abbrev Cx.wish (X:Cx) (E:Value->Shared->Prop):Cx :={ X with xe:=E }
abbrev Cx.nox (X:Cx):Cx:=X.wish fun _ _=>False
theorem Cx.Ok.wish {X:Cx} (ok:X.Ok) (E:Value->Shared->Prop):(X.wish E).Ok :=
 ⟨ok.mod,ok.kind,ok.glob,ok.blt,ok.above,ok.inj,ok.has,ok.cab,ok.hd,ok.frames,ok.stk,ok.exf,ok.bs,ok.bsz,ok.noex,ok.exfs,ok.funs,ok.frf⟩
theorem Cx.Ok.unwish {X:Cx} {E:Value->Shared->Prop} (ok:(X.wish E).Ok):X.Ok :=
 ⟨ok.mod,ok.kind,ok.glob,ok.blt,ok.above,ok.inj,ok.has,ok.cab,ok.hd,ok.frames,ok.stk,ok.exf,ok.bs,ok.bsz,ok.noex,ok.exfs,ok.funs,ok.frf⟩
section
variable {X:Cx} {pins:List (Addr×Obj)} {σ : St} {H:Hp} {s:Shared} {E:Value->Shared->Prop}
theorem Inv.wish (I:Inv X pins σ H s) (E:Value->Shared->Prop):Inv (X.wish E) pins σ H s:=⟨I.ok.wish E,I.os,I.bare,I.base,I.loc,I.cell,I.free,I.freeC,I.pin,I.hok,I.len⟩
theorem Inv.unwish (I:Inv (X.wish E) pins σ H s):Inv X pins σ H s:=⟨I.ok.unwish,I.os,I.bare,I.base,I.loc,I.cell,I.free,I.freeC,I.pin,I.hok,I.len⟩
theorem SP.unwish {D:Ends} {f:Flow} {s':Shared} (h:SP (X.wish E) pins D f s'):SP X pins D f s':=by
 cases f with
 | next=>obtain⟨σ',H',I,q⟩:=h;exact⟨σ',H',I.unwish,q⟩
 | brk=>obtain⟨σ',H',I,q⟩:=h;exact⟨σ',H',I.unwish,q⟩
 | cont=>obtain⟨σ',H',I,q⟩:=h;exact⟨σ',H',I.unwish,q⟩
 | ret u=>obtain⟨v,σ',H',I,r,q⟩:=h;exact⟨v,σ',H',I.unwish,r,q⟩
theorem PSs.nox {st:List Stmt} {t:TS} (h:PSs X.nox st t):PSs X st t:=fun pins s σ H D I hw =>
 wpAny_mono (h pins s σ H D (I.wish _) hw) (fun _ _ q=>q.unwish) fun _ _ z=>False.elim z
end
section
variable {X:Cx} {st:Stmt} {rest:List Stmt} {t u:TS} {e:Expr} {te:TE} {pos:Pos}
def tNext:TS:=fun D σ H=>D.nx σ H
def tSeq (t u:TS):TS:=fun D σ H=>t { D with nx:=u D } σ H
theorem qB1:PSs X [] tNext:=fun _ _ σ H _ I h=>wpAny_execs_nil ⟨σ,H,I,h⟩
theorem qA5 (h1:PS X st t) (h2:PSs X rest u):PSs X (st::rest) (tSeq t u):=by
 intro pins s σ H D I h
 refine wpAny_execs_cons (thn (h1 pins s σ H { D with nx:=u D } I h) fun f s1 q => ?_)
 cases f with
 | next =>
  obtain⟨σ',H',I',q⟩:=q
  exact h2 pins s1 σ' H' D I' q
 | ret v=>exact q
 | brk=>exact q
 | cont=>exact q
theorem qA8 (h1:PS X st t):PSs X [st] t:=by
 intro pins s σ H D I h
 refine wpAny_execs_cons (thn (h1 pins s σ H D I h) fun f s1 q => ?_)
 cases f with
 | next=>exact wpAny_execs_nil q
 | ret v=>exact q
 | brk=>exact q
 | cont=>exact q
def tCont:TS:=fun D σ H=>D.ct σ H
theorem qLm:PS X (.Continue pos) tCont:=fun _ _ σ H _ I h=>wpAny_Continue ⟨σ,H,I,h⟩
theorem Inv.quiet {pins:List (Addr×Obj)} {σ : St} {H:Hp} {s:Shared} (I:Inv X pins σ H s):interactive X.env=false:=by simp [interactive,I.ok.kind]
def tDrop (te:TE):TS:=fun D σ H=>te σ H fun _ H1=>D.nx σ H1
theorem qBp (he:PE X e te) (hs:swapsWith e none pos.line X.env=pure false:=by rfl):PS X (.Expr e pos) (tDrop te):=by
 intro pins s σ H D I h
 refine wpAny_Expr_any (thn (he pins s σ H _ I h) fun v s1 hq_ => ?_) I.quiet hs
 obtain⟨x,H1,I1,r1,q1⟩:=hq_
 exact⟨σ,H1,I1,q1⟩
def tRet (te:TE):TS:=fun D σ H=>te σ H D.rt
theorem qAj (he:PE X e te):PS X (.Return (some e) pos) (tRet te):=by
 intro pins s σ H D I h
 refine wpAny_Return_some (thn (he pins s σ H _ I h) fun v s1 hq_ => ?_)
 obtain⟨x,H1,I1,r1,q1⟩:=hq_
 exact⟨x,σ,H1,I1,r1,q1⟩
def tIfS (c:TT) (t u:TS):TS:=fun D σ H=>c σ H fun b H1=>if b=true then t D σ H1 else u D σ H1
theorem qC6 {c:Expr} {a b:List Stmt} {tc:TT} (hc:PT X c tc) (ha:PSs X a t) (hb:PSs X b u):PS X (.If c a b pos) (tIfS tc t u):=by
 intro pins s σ H D I h
 refine wpAny_If (thn (hc pins s σ H _ I h) fun d s1 hq_ => ?_)
 obtain⟨H1,I1,q1⟩:=hq_
 cases d with
 | true=>exact ha pins s1 σ H1 D I1 q1
 | false=>exact hb pins s1 σ H1 D I1 q1
end
abbrev TG:=V->St->Hp->(St->Hp->Prop)->Prop
abbrev TGs:=List V->St->Hp->(St->Hp->Prop)->Prop
def PG (X:Cx) (target:Expr) (t:TG):Prop :=
 ∀(pins:List (Addr×Obj)) (s:Shared) (σ : St) (H:Hp) (v:V) (u:Value) (Q:St->Hp->Prop),Inv X pins σ H s->RelV v u->t v σ H Q ->
  wpAny (model X.prog X.w) X.A (assign target X.env u) (fun _ s' => ∃ σ' H',Inv X pins σ' H' s'/\Q σ' H') X.xe s
def PGs (X:Cx) (ts:List Expr) (t:TGs):Prop :=
 ∀(pins:List (Addr×Obj)) (s:Shared) (σ : St) (H:Hp) (vs:List V) (us:List Value) (Q:St->Hp->Prop),Inv X pins σ H s->Vals vs us->t vs σ H Q ->
  wpAny (model X.prog X.w) X.A (assignInOrder ((assignEach ts X.env).map (·.2)) us) (fun _ s' => ∃ σ' H',Inv X pins σ' H' s'/\Q σ' H') X.xe s
abbrev TSet:=V->V->V->Hp->(Hp->Prop)->Prop
def PSet (X:Cx) (t:TSet):Prop :=
 ∀(pins:List (Addr×Obj)) (s:Shared) (σ : St) (H:Hp) (o i v:V) (ov iv u:Value) (Q:Hp->Prop),Inv X pins σ H s->RelV o ov->RelV i iv->RelV v u->t o i v H Q ->
  wpAny (model X.prog X.w) X.A (setItem ov iv u) (fun _ s' => ∃H',Inv X pins σ H' s'/\Q H') X.xe s
section
variable {X:Cx} {pos:Pos}
def gName (i:Nat):TG:=fun v σ H Q=>Q (σ.set i (some v)) H
theorem qA9 {i:Nat} {x:Str} (hN:X.N.Nodup) (hi:X.N[i]? = some x) (hx:Loc X.env.scope x) (hf:X.fn x=true\/X.env.scope.names.lookup x=some .local:=by first | exact .inl rfl | exact .inr rfl | assumption):PG X (.Name x pos) (gName i):=by
 intro pins s σ H v u Q I r h
 exact wpAny_assign_Name (qG0 I hN hi hx r (fun s' I'=>⟨_,H,I',h⟩) hf)
def gNil:TGs:=fun vs σ H Q=>vs = []/\Q σ H
def gCons (t:TG) (u:TGs):TGs:=fun vs σ H Q => ∃v r,vs=v::r/\t v σ H fun σ' H'=>u r σ' H' Q
theorem qB9:PGs X [] gNil:=by
 intro pins s σ H vs us Q I r h
 obtain⟨e,h⟩:=h
 subst e
 cases r
 exact assignInOrder_nil ⟨σ,H,I,h⟩
theorem qAc {e:Expr} {es:List Expr} {t:TG} {u:TGs} (h1:PG X e t) (h2:PGs X es u)
  (hs:(assignEach (e::es) X.env).map (·.2)=assign e X.env::(assignEach es X.env).map (·.2):=by rfl):PGs X (e::es) (gCons t u):=by
 intro pins s σ H vs us Q I r h
 obtain⟨v,vr,e1,h⟩:=h
 subst e1
 cases r with
 | cons r rr =>
  rw [hs]
  refine assignInOrder_cons (thn (h1 pins s σ H _ _ _ I r h) fun _ s1 hq_ => ?_)
  obtain⟨σ1,H1,I1,q1⟩:=hq_
  exact h2 pins s1 σ1 H1 _ _ Q I1 rr q1
def gTup (K:PySem.W.Frag) (n:Nat) (t:TGs):TG:=fun v σ H Q => ∃a xs,v = .ref a/\SqT K H a xs/\xs.length=n/\t xs σ H Q
theorem qE4 {es:List Expr} {k:Nat} {t:TGs} {n:Nat} (hc:X.calm=true) (h:PGs X es t)
  (hn:(assignEach es X.env).length=n:=by rfl) (hst:(assignEach es X.env).findIdx? (·.1)=none:=by rfl):PG X (.Tuple es k pos) (gTup X.K n t):=by
 intro pins s σ H v u Q I r hw
 obtain⟨a,xs,e1,hq,hl,hw⟩:=hw
 subst e1
 cases r
 obtain⟨its,rv,ht,hz⟩:=I.tuple hq
 refine assign_Tuple_tuple (I.ok.hd hc) ht (by simp [hn,<-hl,rv.length]) hst fun h' hx => ?_
 have I1:Inv X pins σ H { s with heap:=h' }:=I.kept (t':=s.toks) fun b o e=>hx b o (Nat.ne_of_lt (Heap.lt_size e)) e
 exact h pins _ σ H xs _ Q I1 (by simpa using rv) hw
def gSub (to ti:TE) (t:TSet):TG:=fun v σ H Q=>to σ H fun o H1=>ti σ H1 fun i H2=>t o i v H2 fun H3=>Q σ H3
theorem qT3 {o i:Expr} {to ti:TE} {t:TSet} (ho:PE X o to) (hi:PE X i ti) (hs:PSet X t)
  (ha : ∀v,assign (.Subscript o i pos) X.env v=(do
   let ov <-holding [v] (eval o X.env)
   let iv <-holding [v,ov] (eval i X.env)
   standAt pos
   holding [v,ov,iv] (setItem ov iv v)
   release [v,ov,iv] []):=by intro _;rfl):PG X (.Subscript o i pos) (gSub to ti t):=by
 intro pins s σ H v u Q I r h
 rw [ha]
 refine wpAny_bind (wpAny_holding (thn (ho pins s σ H _ I h) fun ov s1 hq_ => ?_))
 obtain⟨x,H1,I1,r1,q1⟩:=hq_
 refine wpAny_bind (wpAny_holding (thn (hi pins s1 σ H1 _ I1 q1) fun iv s2 hq_ => ?_))
 obtain⟨y,H2,I2,r2,q2⟩:=hq_
 refine wpAny_bind (wpAny_standAt (wpAny_bind (wpAny_holding (thn (hs pins s2 σ H2 x y v ov iv u _ I2 r1 r2 r q2) fun _ s3 hq_ => ?_))))
 obtain⟨H3,I3,q3⟩:=hq_
 exact wpAny_release ⟨σ,H3,I3,q3⟩
def tAsg (te:TE) (g:TG):TS:=fun D σ H=>te σ H fun x H1=>g x σ H1 D.nx
theorem qJu {tg e:Expr} {te:TE} {g:TG} (he:PE X e te) (hg:PG X tg g) (hs:swapsWithSole [tg] e pos.line X.env=pure false:=by rfl) (hw:swappedStores [tg] e X.env=pure none:=by rfl)
  (h1:(assignEach [tg] X.env).map (·.2) = [assign tg X.env]:=by rfl):PS X (.Assign [tg] e pos) (tAsg te g):=by
 intro pins s σ H D I h
 refine wpAny_Assign_stores (thn (he pins s σ H _ I h) fun v s1 hq_ => ?_) hs hw
 obtain⟨x,H1,I1,r1,q1⟩:=hq_
 rw [h1]
 exact thn (hg pins s1 σ H1 x v _ I1 r1 q1) fun _ s2 q=>q
theorem qAm {i:Nat} {x:Str} {e:Expr} {te:TE} {pos':Pos} (hN:X.N.Nodup) (hi:X.N[i]? = some x) (hx:Loc X.env.scope x) (he:PE X e te) (hs:swapsWith e (some (.Name x pos')) pos.line X.env=pure false:=by rfl) (hf:X.fn x=true\/X.env.scope.names.lookup x=some .local:=by first | exact .inl rfl | exact .inr rfl | assumption) :
  PS X (.Assign [.Name x pos'] e pos) (tAsg te (gName i)):=by
 intro pins s σ H D I h
 refine wpAny_Assign_Name (thn (he pins s σ H _ I h) fun v s1 hq_ => ?_) hs
 obtain⟨y,H1,I1,r1,q1⟩:=hq_
 exact qG0 I1 hN hi hx r1 (fun s2 I2=>⟨_,H1,I2,q1⟩) hf
def tPar (i j:Nat) (ta:TA):TS:=fun D σ H=>ta σ H fun vs H1 => ∃v w,vs = [v,w]/\D.nx ((σ.set i (some v)).set j (some w)) H1
theorem qOz {i j:Nat} {x y:Str} {a b:Expr} {ta:TA} {px py pt:Pos} {kt k2 pt2} (hc:X.calm=true) (hN:X.N.Nodup) (hi:X.N[i]? = some x) (hj:X.N[j]? = some y) (hij:i≠j)
  (hx:X.env.scope.names.lookup x=some .local) (hy:X.env.scope.names.lookup y=some .local) (ha:PA X [a,b] ta)
  (hw:swappedStores [.Tuple [.Name x px,.Name y py] kt pt] (.Tuple [a,b] k2 pt2) X.env=pure (some [x,y]))
  (hs:swapsWithSole [.Tuple [.Name x px,.Name y py] kt pt] (.Tuple [a,b] k2 pt2) pos.line X.env=pure false:=by rfl) :
  PS X (.Assign [.Tuple [.Name x px,.Name y py] kt pt] (.Tuple [a,b] k2 pt2) pos) (tPar i j ta):=by
 intro pins s σ H D I h
 rw [exec_Assign_arm]
 refine wpAny_bind (wpAny_standAt ?_)
 rw [hs]
 refine wpAny_bind (wpAny_pure ?_)
 rw [if_neg (by decide)]
 refine wpAny_bind (Tuple_ (thn (ha _ pins s σ H _ I h) fun us s1 hq_ => ?_))
 obtain⟨vs,H1,I1,r1,q1⟩:=hq_
 obtain⟨v,w,e1,q1⟩:=q1
 subst e1
 obtain⟨u1,u2,rfl,rv,rw'⟩ : ∃u1 u2,us = [u1,u2]/\RelV v u1/\RelV w u2:=by
  cases r1 with
  | cons p q =>
   cases q with
   | cons p' q' =>
    cases q'
    exact⟨_,_,rfl,p,p'⟩
 refine wpAny_newObj_type ?_ (by show 2<=sizeLine;decide)
 have I2:Inv X pins σ H1 { s1 with heap:=s1.heap.push { cls :=.type "tuple",data :=.seq [u1,u2].toArray } }:=I1.kept (t':=s1.toks) fun b o e=>Heap.get?_push_of_some _ e
 rw [hw]
 refine wpAny_bind (wpAny_pure ?_)
 show wpAny (model X.prog X.w) X.A (do rule "assign.swapped-stores";let items <-unpackItems (.ref s1.heap.objs.size) 2 none;assignInOrder [fun v=>bindName X.env y v,fun v=>bindName X.env x v] items.reverse;pure Flow.next) _ _ _
 refine wpAny_bind (wpAny_rule (wpAny_bind (unpackItems_tuple (items := #[u1,u2]) (I.ok.hd hc) (IsTup.new s1.heap _) fun h' hx' => ?_)))
 have I3:=I2.kept (h':=h') (t':=s1.toks) fun b o e=>hx' b o (Nat.ne_of_lt (Heap.lt_size e)) e
 show wpAny _ _ (assignInOrder [fun v=>bindName X.env y v,fun v=>bindName X.env x v] [u2,u1] >>= fun _=>pure Flow.next) _ _ _
 refine wpAny_bind (assignInOrder_cons (wpAny_bindName (qG0 I3 hN hj (.inl hy) rw' (fun s2 I4 => ?_) (.inr hy))))
 refine assignInOrder_cons (wpAny_bindName (qG0 I4 hN hi (.inl hx) rv (fun s3 I5=>assignInOrder_nil (wpAny_pure ?_)) (.inr hx)))
 rw [List.set_comm _ _ (Ne.symm hij)] at I5
 exact⟨_,H1,I5,q1⟩
end
section
variable {X:Cx} {pos:Pos}
def qUu (c:TT) (tb:TS):TS:=fun D σ H => ∃W:Nat->St->Hp->Prop,(∃m,W m σ H) /\ ∀m σ H,W m σ H ->
 c σ H fun b H1=>if b=true then ∃N:St->Hp->Prop,(∀ σ' H',N σ' H' -> ∃m',m'<m/\W m' σ' H')/\tb { D with nx:=N,ct:=N,bk:=D.nx } σ H1 else D.nx σ H1
theorem qIq {c:Expr} {body:List Stmt} {tc:TT} {tb:TS} (hp:PassesOwn (model X.prog X.w) X.A X.env X.xe) (hc:PT X c tc) (hb:PSs X body tb):PS X (.While c body [] pos) (qUu tc tb):=by
 intro pins s σ H D I h
 obtain⟨W,⟨m0,w0⟩,turn⟩:=h
 refine wpAny_While (codeAny_whileLoop (fun n s' => ∃ σ' H',Inv X pins σ' H' s'/\W n σ' H') ?_ m0 ⟨σ,H,I,w0⟩)
 rintro n s1 ⟨σ1,H1,I1,w1⟩
 refine wpAny_passesOwn hp (thn (hc pins s1 σ1 H1 _ I1 (turn n σ1 H1 w1)) fun b s2 hq_ => ?_)
 obtain⟨H2,I2,q2⟩:=hq_
 cases b with
 | true =>
  obtain⟨N,hN,q2⟩:=q2
  rw [if_pos rfl]
  refine wpAny_passesOwn hp (thn (hb pins s2 σ1 H2 _ I2 q2) fun f s3 q3 => ?_)
  cases f with
  | next =>
   obtain⟨σ3,H3,I3,n3⟩:=q3
   obtain⟨m',hm,w3⟩:=hN σ3 H3 n3
   exact⟨m',hm,σ3,H3,I3,w3⟩
  | cont =>
   obtain⟨σ3,H3,I3,n3⟩:=q3
   obtain⟨m',hm,w3⟩:=hN σ3 H3 n3
   exact⟨m',hm,σ3,H3,I3,w3⟩
  | brk=>exact q3
  | ret v=>exact q3
 | false =>
  rw [if_neg Bool.false_ne_true]
  exact wpAny_execs_nil ⟨σ1,H2,I2,q2⟩
end
structure It where
 go:Nat->Hp->Prop
 yld:Nat->Hp->V->Hp->Prop
 stop:Nat->Hp->Prop
def FpOk (X:Cx) (pins:List (Addr×Obj)) (H:Hp) (b:Addr):Prop :=
 H b=none/\b≠X.env.locals/\b∉X.fs/\(b∈X.ex\/X.s₀.heap.objs.size<=b)/\(∀x c,X.env.cells.lookup x=some c->c≠b) /\ ∀p∈X.pn++pins,p.1≠b
theorem Inv.fpOk {X:Cx} {pins:List (Addr×Obj)} {σ : St} {H H':Hp} {s:Shared} {b:Addr} (I:Inv X pins σ H s) (hb:s.heap.objs.size<=b) (hn:H' b=none):FpOk X pins H' b:=by
 refine⟨hn,Nat.ne_of_gt (Nat.lt_of_lt_of_le I.lt hb),I.nofs hb,.inr (Nat.le_trans I.sz hb),fun x c e z => ?_,fun p hp z => ?_⟩
 ·obtain⟨v,q⟩:=I.cell x c e
  exact absurd (Nat.lt_of_lt_of_le q.lt (by rw [z];exact hb)) (Nat.lt_irrefl _)
 ·exact absurd (Nat.lt_of_lt_of_le (Heap.lt_size (I.pin p hp).1) (by rw [z];exact hb)) (Nat.lt_irrefl _)
structure Turn (P:Program) (w:World) (K:PySem.W.Frag) (tg:Expr) (J:It) (fp:List Addr) (it:Addr) (tn:Nat->Heap->Prop):Prop where
 mem:it∈fp
 obj : ∀i h,tn i h -> ∀b∈fp,∃o,h.get? b=some o /\ ∀v,o.data ≠ .cell v
 keep : ∀i h h',tn i h->(∀b∈fp,∀o,h.get? b=some o->h'.get? b=some o)->tn i h'
 item : ∀(X:Cx),X.prog=P->X.w=w->X.K=K->X.calm=true -> ∀(i:Nat) (pins:List (Addr×Obj)) (s:Shared) (σ : St) (H:Hp) (E:Value->Shared->Prop),Inv X pins σ H s->(∀b∈fp,FpOk X pins H b)->tn i s.heap->J.go i H ->
  wpAny (model P w) X.A (pyNext (.ref it)) (fun r s1 => ∃u,r=some u /\
   wpAny (model P w) X.A (letOwnedTupleGo tg (.ref it) u) (fun _ s2 => ∃x H',Inv X pins σ H' s2/\RelV x u/\J.yld i H x H'/\tn (i+1) s2.heap /\ ∀b∈fp,H' b=none) E s1) E s
 done : ∀(X:Cx),X.prog=P->X.w=w->X.K=K->X.calm=true -> ∀(i:Nat) (pins:List (Addr×Obj)) (s:Shared) (σ : St) (H:Hp) (E:Value->Shared->Prop),Inv X pins σ H s->(∀b∈fp,FpOk X pins H b)->tn i s.heap->J.stop i H ->
  wpAny (model P w) X.A (pyNext (.ref it)) (fun r s1=>r=none/\Inv X pins σ H s1) E s
 self : ∀(A:Around) (i:Nat) (s:Shared) (Q:Value->Shared->Prop) (E:Value->Shared->Prop),tn i s.heap->Q (.ref it) s->wpAny (model P w) A (pyIter (.ref it)) Q E s
abbrev TI:=St->Hp->(It->Hp->Prop)->Prop
def PIE (X:Cx) (pins:List (Addr×Obj)) (σ : St) (tg:Expr) (R:It->Hp->Prop) (itv:Value) (s2:Shared):Prop :=
 ∃(it:Addr) (fp:List Addr) (tn:Nat->Heap->Prop) (J:It) (H':Hp),itv = .ref it/\Inv X pins σ H' s2/\Turn X.prog X.w X.K tg J fp it tn/\tn 0 s2.heap/\(∀b∈fp,FpOk X pins H' b)/\R J H'
def PI (X:Cx) (tg iter:Expr) (wi:TI):Prop :=
 ∀(pins:List (Addr×Obj)) (s:Shared) (σ : St) (H:Hp) (R:It->Hp->Prop),Inv X pins σ H s->wi σ H R ->
  wpAny (model X.prog X.w) X.A (eval iter X.env) (fun v s1=>wpAny (model X.prog X.w) X.A (pyIter v) (PIE X pins σ tg R) X.xe s1) X.xe s
theorem qSc {M:Model} {A:Around} {E:Value->Shared->Prop} {s:Shared} {tg:Expr} {it:Addr} {u:Value} {o:Obj} {n:String} {vs:Array Value} {Q:Unit->Shared->Prop} (ho:s.heap.get? it=some o) (hc:o.cls = .type n) (hd:o.data = .fields vs)
  (hn : ["enumerate","zip","dict_itemiterator","dict_reverseitemiterator","odict_iterator","itertools.zip_longest","itertools.pairwise"].contains n=false) (hQ:Q () s):wpAny M A (letOwnedTupleGo tg (.ref it) u) Q E s:=by
 unfold letOwnedTupleGo
 cases tg <;> first
  | exact wpAny_pure hQ
  | (cases u <;> first
    | exact wpAny_pure hQ
    | (refine wpAny_bind (wpAny_load ho ?_)
       rw [hc,hd]
       show wpAny M A (if (["enumerate","zip","dict_itemiterator","dict_reverseitemiterator","odict_iterator","itertools.zip_longest","itertools.pairwise"].contains n&&vs[0]? == some (rawInt _))=true then _ else _) Q E s
       rw [if_neg (by intro h;rw [hn,Bool.false_and] at h;cases h)]
       exact wpAny_pure hQ))
def Itl (K:PySem.W.Frag) (a:Addr):It :=
 ⟨fun i H => ∃xs x,SqL K H a xs/\xs[i]? = some x,fun i H x H'=>H'=H /\ ∀xs,SqL K H a xs->xs[i]? = some x,fun i H => ∃xs,SqL K H a xs/\xs.length<=i⟩
def Itt (K:PySem.W.Frag) (a:Addr):It :=
 ⟨fun i H => ∃xs x,SqT K H a xs/\xs[i]? = some x,fun i H x H'=>H'=H /\ ∀xs,SqT K H a xs->xs[i]? = some x,fun i H => ∃xs,SqT K H a xs/\xs.length<=i⟩
def Itr (lo:Int) (n:Nat):It:=⟨fun i _=>i<n,fun i H x H'=>H'=H/\x = .int (lo+i),fun i _=>n<=i⟩
theorem qOa {P:Program} {w:World} {K:PySem.W.Frag} {tg:Expr} (a it:Addr):Turn P w K tg (Itl K a) [it] it (fun i h=>h.IsListIter it a i) where
 mem:=by simp
 obj:=fun i h st b hb=>by
  have e:b=it:=by simpa using hb
  subst e
  obtain⟨o,e,c,d⟩:=st
  exact⟨o,e,fun v z=>by rw [d] at z;cases z⟩
 keep:=fun i h h' st k=>st.at fun o e=>k it (by simp) o e
 item:=by
  intro X hP hw hK hc i pins s σ H E I hf st hg
  subst hP hw hK
  obtain⟨xs,x,hq,hx⟩:=hg
  obtain⟨its,rv,p,hz⟩:=I.list hq
  obtain⟨u,hu,ru⟩:=rv.get hx
  obtain⟨f0,f1,f2,f3,f4,f5⟩:=hf it (by simp)
  refine wpAny_pyNext_list_item st p.isList (x:=u) (by simpa using hu) fun h' st' sb => ?_
  have I1:Inv X pins σ H { s with heap:=h' }:=I.turned (t':=s.toks) (fun b o hb e=>(sb.2 b hb).trans e) f0 f1 f3 f4 f5
  obtain⟨o,e,c,d⟩:=id st'
  exact⟨u,rfl,qSc (s :={ s with heap:=h' }) e c d (by decide) ⟨x,H,I1,ru,⟨rfl,fun ys hy=>by rw [I.list_inj hy hq];exact hx⟩,st',fun b hb=>(hf b hb).1⟩⟩
 done:=by
  intro X hP hw hK hc i pins s σ H E I hf st hg
  subst hP hw hK
  obtain⟨xs,hq,hx⟩:=hg
  obtain⟨its,rv,p,hz⟩:=I.list hq
  obtain⟨f0,f1,f2,f3,f4,f5⟩:=hf it (by simp)
  have hl:=rv.length
  exact wpAny_pyNext_list_end (I.ok.hd hc) st p.isList (by simp;omega) fun h' eb=>⟨rfl,I.turned (t':=s.toks) (fun b o hb e=>eb b o hb e) f0 f1 f3 f4 f5⟩
 self:=fun _ _ _ _ _ st h=>wpAny_pyIter_listiter st h
theorem qNf {P:Program} {w:World} {K:PySem.W.Frag} {tg:Expr} (a it:Addr):Turn P w K tg (Itt K a) [it] it (fun i h=>h.IsTupleIter it a i) where
 mem:=by simp
 obj:=fun i h st b hb=>by
  have e:b=it:=by simpa using hb
  subst e
  obtain⟨o,e,c,d⟩:=st
  exact⟨o,e,fun v z=>by rw [d] at z;cases z⟩
 keep:=fun i h h' st k=>st.at fun o e=>k it (by simp) o e
 item:=by
  intro X hP hw hK hc i pins s σ H E I hf st hg
  subst hP hw hK
  obtain⟨xs,x,hq,hx⟩:=hg
  obtain⟨its,rv,p,hz⟩:=I.tuple hq
  obtain⟨u,hu,ru⟩:=rv.get hx
  obtain⟨f0,f1,f2,f3,f4,f5⟩:=hf it (by simp)
  refine wpAny_pyNext_tuple_item st (show s.heap.IsTuple a its.toArray from p) (x:=u) (by simpa using hu) fun h' st' sb => ?_
  have I1:Inv X pins σ H { s with heap:=h' }:=I.turned (t':=s.toks) (fun b o hb e=>(sb.2 b hb).trans e) f0 f1 f3 f4 f5
  obtain⟨o,e,c,d⟩:=id st'
  exact⟨u,rfl,qSc (s :={ s with heap:=h' }) e c d (by decide) ⟨x,H,I1,ru,⟨rfl,fun ys hy=>by rw [I.tuple_inj hy hq];exact hx⟩,st',fun b hb=>(hf b hb).1⟩⟩
 done:=by
  intro X hP hw hK hc i pins s σ H E I hf st hg
  subst hP hw hK
  obtain⟨xs,hq,hx⟩:=hg
  obtain⟨its,rv,p,hz⟩:=I.tuple hq
  obtain⟨f0,f1,f2,f3,f4,f5⟩:=hf it (by simp)
  have hl:=rv.length
  exact wpAny_pyNext_tuple_end (I.ok.hd hc) st (show s.heap.IsTuple a its.toArray from p) (by simp;omega) fun h' eb=>⟨rfl,I.turned (t':=s.toks) (fun b o hb e=>eb b o hb e) f0 f1 f3 f4 f5⟩
 self:=fun _ _ _ _ _ st h=>wpAny_pyIter_tupleiter st h
theorem qNg {P:Program} {w:World} {K:PySem.W.Frag} {tg:Expr} (it:Addr) (lo:Int) (n:Nat):Turn P w K tg (Itr lo n) [it] it (fun i h=>IsRangeIter h it (lo+(i:Nat)*1) ((n:Int) - (i:Nat)) 1) where
 mem:=by simp
 obj:=fun i h st b hb=>by
  have e:b=it:=by simpa using hb
  subst e
  exact⟨_,st,fun v z=>by
   have z':Data.fields _=Data.cell v:=z
   cases z'⟩
 keep:=fun i h h' st k=>k it (by simp) _ st
 item:=by
  intro X hP hw hK hc i pins s σ H E I hf st hg
  subst hP hw hK
  obtain⟨f0,f1,f2,f3,f4,f5⟩:=hf it (by simp)
  have W:=Walks.range (prog:=X.prog) (w:=X.w) (I.ok.hd hc) it lo 1 n
  refine W.item i s _ _ hg st fun v h' tk hv st' kk => ?_
  obtain⟨t,rfl⟩:=hv
  have I1:Inv X pins σ H { s with heap:=h',toks:=tk }:=I.turned (fun b o hb e=>kk b o (by simpa using hb) e) f0 f1 f3 f4 f5
  refine⟨_,rfl,qSc (s :={ s with heap:=h',toks:=tk }) (n := "range_iterator") st' rfl rfl (by decide) ⟨.int (lo+i),H,I1,⟨t,?_⟩,⟨rfl,rfl⟩,st',fun b hb=>(hf b hb).1⟩⟩
  rw [Int.mul_one]
 done:=by
  intro X hP hw hK hc i pins s σ H E I hf st hg
  subst hP hw hK
  obtain⟨f0,f1,f2,f3,f4,f5⟩:=hf it (by simp)
  exact wpAny_pyNext_range_end (I.ok.hd hc) st (by have:n<=i:=hg;omega) fun h' eb=>⟨rfl,I.turned (t':=s.toks) (fun b o hb e=>eb b o hb e) f0 f1 f3 f4 f5⟩
 self:=fun _ _ _ _ _ st h=>wpAny_pyIter_rangeiter st h
section
variable {X:Cx} {tg:Expr}
def iList (K:PySem.W.Frag) (tl:TE):TI:=fun σ H R=>tl σ H fun x H1 => ∃a,x = .ref a/\(∃xs,SqL K H1 a xs)/\R (Itl K a) H1
def iTup (K:PySem.W.Frag) (tl:TE):TI:=fun σ H R=>tl σ H fun x H1 => ∃a,x = .ref a/\(∃xs,SqT K H1 a xs)/\R (Itt K a) H1
theorem qAo {l:Expr} {tl:TE} (hl:PE X l tl):PI X tg l (iList X.K tl):=by
 intro pins s σ H R I h
 refine thn (hl pins s σ H _ I h) fun v s1 hq_ => ?_
 obtain⟨x,H1,I1,r1,q1⟩:=hq_
 obtain⟨a,e,⟨xs,hq⟩,q⟩:=q1
 subst e
 cases r1
 obtain⟨its,rv,p,hz⟩:=I1.list hq
 refine wpAny_pyIter_list p.isList ?_
 refine⟨s1.heap.objs.size,[s1.heap.objs.size],_,_,H1,rfl,I1.kept (t':=s1.toks) fun b o e=>Heap.get?_push_of_some _ e,qOa a _,⟨_,Heap.get?_push_size _ rfl,rfl,rfl⟩,fun b hb => ?_,q⟩
 have e:b=s1.heap.objs.size:=by simpa using hb
 subst e
 exact I1.fpOk (Nat.le_refl _) (I1.hok.fresh (Nat.le_refl _))
theorem qT2 {l:Expr} {tl:TE} (hl:PE X l tl):PI X tg l (iTup X.K tl):=by
 intro pins s σ H R I h
 refine thn (hl pins s σ H _ I h) fun v s1 hq_ => ?_
 obtain⟨x,H1,I1,r1,q1⟩:=hq_
 obtain⟨a,e,⟨xs,hq⟩,q⟩:=q1
 subst e
 cases r1
 obtain⟨its,rv,p,hz⟩:=I1.tuple hq
 refine wpAny_pyIter_tuple (show s1.heap.IsTuple a its.toArray from p) ?_
 refine⟨s1.heap.objs.size,[s1.heap.objs.size],_,_,H1,rfl,I1.kept (t':=s1.toks) fun b o e=>Heap.get?_push_of_some _ e,qNf a _,⟨_,Heap.get?_push_size _ rfl,rfl,rfl⟩,fun b hb => ?_,q⟩
 have e:b=s1.heap.objs.size:=by simpa using hb
 subst e
 exact I1.fpOk (Nat.le_refl _) (I1.hok.fresh (Nat.le_refl _))
theorem qRh {pins:List (Addr×Obj)} {σ : St} {H:Hp} {s:Shared} {R:It->Hp->Prop} {E:Value->Shared->Prop} {lo hi:Int} {t u v:Tok} {tk:Nat} (I:Inv X pins σ H s) (h1 : -(2^62)<=lo) (h2:lo<2^62) (h3 : -(2^62)<=hi) (h4:hi<2^62)
  (q:R (Itr lo (hi - lo).toNat) H):wpAny (model X.prog X.w) X.A (pyIter (.ref s.heap.objs.size)) (PIE X pins σ tg R) E { s with heap:=s.heap.push { cls :=.type "range",data :=.fields #[.int lo t,.int hi u,.int 1 v] },toks:=tk }:=by
 refine wpAny_pyIter_range (IsRange.new ..) (small_one h1 h2 h3 h4) ?_
 have I1:Inv X pins σ H { s with heap:=s.heap.push { cls :=.type "range",data :=.fields #[.int lo t,.int hi u,.int 1 v] },toks:=tk }:=I.kept fun b o e=>Heap.get?_push_of_some _ e
 refine⟨(s.heap.push { cls :=.type "range",data :=.fields #[.int lo t,.int hi u,.int 1 v] }).objs.size,[(s.heap.push { cls :=.type "range",data :=.fields #[.int lo t,.int hi u,.int 1 v] }).objs.size],_,_,H,rfl,
  I1.kept (t':=tk) fun b o e=>Heap.get?_push_of_some _ e,qNg _ lo (hi - lo).toNat,?_,fun b hb => ?_,q⟩
 ·have e1:lo+((0:Nat):Int)*1=lo:=by simp
  have e2:(((hi - lo).toNat:Nat):Int) - ((0:Nat):Int)=Builtin.Range.rangeSize lo hi 1:=by rw [rangeSize_one];split <;> omega
  show IsRangeIter _ _ (lo+((0:Nat):Int)*1) ((((hi - lo).toNat:Nat):Int) - ((0:Nat):Int)) 1
  rw [e1,e2]
  exact Heap.get?_push_size _ rfl
 ·have e:b=(s.heap.push { cls :=.type "range",data :=.fields #[.int lo t,.int hi u,.int 1 v] }).objs.size:=by simpa using hb
  subst e
  exact I1.fpOk (Nat.le_refl _) (I1.hok.fresh (Nat.le_refl _))
def iRng1 (ta:TA):TI:=fun σ H R=>ta σ H fun vs H1 => ∃j:Int,vs = [.int j] /\ -(2^62)<=j/\j<2^62/\R (Itr 0 j.toNat) H1
theorem qBd {a:Expr} {ta:TA} {p pos:Pos} (hg:Gl X "range") (hm:X.mg "range" = none) (ha:PA X [a] ta) (hs:starEach [a] X.env = [(false,eval a X.env)]:=by rfl):PI X tg (.Call (.Name "range" p) [a] [] pos) (iRng1 ta):=by
 intro pins s σ H R I h
 refine Call_ (qKe I hg hm boot_range (PyProof.Rows.callWith_type1 (thn (ha pos pins s σ H _ I h) fun us s1 hq_ => ?_) hs rfl))
 obtain⟨vs,H1,I1,r1,q1⟩:=hq_
 obtain⟨j,e,q1,q2,q⟩:=q1
 subst e
 cases r1 with
 | cons r rr =>
  cases rr
  obtain⟨t,rfl⟩:=r
  exact call_range_1 (qRh I1 (by omega) (by omega) q1 q2 (by simpa using q))
def tFor (wi:TI) (g:TG) (tb:TS):TS:=fun D σ H=>wi σ H fun J H1 => ∃W:Nat->Nat->St->Hp->Prop,(∃m,W 0 m σ H1) /\ ∀i m σ H,W i m σ H ->
 (J.stop i H/\D.nx σ H)\/(J.go i H /\ ∃N:St->Hp->Prop,(∀ σ' H',N σ' H' -> ∃m',m'<m/\W (i+1) m' σ' H') /\ ∀x H',J.yld i H x H'->g x σ H' fun σ2 H2=>tb { D with nx:=N,ct:=N,bk:=D.nx } σ2 H2)
def qJv (fp:List Addr) (h:Heap):List (Addr×Obj):=fp.filterMap fun b=>(h.get? b).map fun o=>(b,o)
theorem qDz {fp:List Addr} {h:Heap} {b:Addr} {o:Obj} (hb:b∈fp) (e:h.get? b=some o):(b,o)∈qJv fp h:=List.mem_filterMap.mpr ⟨b,hb,by rw [e];rfl⟩
theorem qPi {fp:List Addr} {h:Heap} {p:Addr×Obj} (hp:p∈qJv fp h):p.1∈fp/\h.get? p.1=some p.2:=by
 obtain⟨b,hb,e⟩:=List.mem_filterMap.mp hp
 cases q:h.get? b with
 | none=>rw [q] at e;cases e
 | some o =>
  rw [q] at e
  have e':(b,o)=p:=Option.some.inj e
  subst e'
  exact⟨hb,q⟩
theorem Inv.pinned {pins:List (Addr×Obj)} {σ : St} {H:Hp} {s:Shared} {fp:List Addr} (I:Inv X pins σ H s) (hf : ∀b∈fp,FpOk X pins H b) (ho : ∀b∈fp,∃o,s.heap.get? b=some o /\ ∀v,o.data ≠ .cell v):Inv X (pins++qJv fp s.heap) σ H s :=
 I.pins_of fun p hp=>(List.mem_append.mp hp).elim (fun z=>I.pin p (List.mem_append_right _ z)) fun z=>by
  obtain⟨hb,e⟩:=qPi z
  obtain⟨f0,f1,f2,_⟩:=hf p.1 hb
  obtain⟨o,e',d⟩:=ho p.1 hb
  rw [e] at e';cases e'
  exact⟨e,f0,f1,f2,d⟩
theorem Inv.unpinned {pins pl:List (Addr×Obj)} {σ : St} {H:Hp} {s:Shared} (I:Inv X (pins++pl) σ H s):Inv X pins σ H s:=I.pins_of fun p hp=>I.pin p (List.mem_append_right _ (List.mem_append_left _ hp))
theorem qC1 {iter:Expr} {body:List Stmt} {wi:TI} {g:TG} {tb:TS} {pos:Pos} (hp:PassesOwn (model X.prog X.w) X.A X.env X.xe) (hc:X.calm=true) (hi:PI X tg iter wi) (hg:PG X tg g) (hb:PSs X body tb)
  (hs : ∀x,foldedSetIterable iter X.env x=pure x:=by intro _;rfl):PS X (.For tg iter body [] pos) (tFor wi g tb):=by
 intro pins s σ H D I h
 refine wpAny_For (thn (hi pins s σ H _ I h) fun v s1 h1=>thn h1 fun itv s2 h2 => ?_) hs
 obtain⟨it,fp,tn,J,H2,e,I2,T,st2,f2,W,⟨m0,w0⟩,turn⟩:=h2
 subst e
 have stat : ∀ {H':Hp},(∀b∈fp,H' b=none) -> ∀b∈fp,FpOk X pins H' b:=fun hn b hb=>⟨hn b hb,(f2 b hb).2⟩
 refine codeAny_forLoop_any (fun n s' => ∃i σ' H',Inv X pins σ' H' s'/\tn i s'.heap/\(∀b∈fp,H' b=none)/\W i n σ' H') ?_ m0 ⟨0,σ,H2,I2,st2,fun b hb=>(f2 b hb).1,w0⟩
 rintro n s3 ⟨i,σ3,H3,I3,st3,fr3,w3⟩
 rcases turn i n σ3 H3 w3 with ⟨stop,qn⟩ | ⟨go,N,hN,step⟩
 ·refine wpAny_passesOwn hp (thn (T.done X rfl rfl rfl hc i pins s3 σ3 H3 X.xe I3 (stat fr3) st3 stop) fun r s4 hq_ => ?_)
  obtain⟨hr,I4⟩:=hq_
  subst hr
  exact wpAny_execs_nil ⟨σ3,H3,I4,qn⟩
 ·refine wpAny_passesOwn hp (thn (T.item X rfl rfl rfl hc i pins s3 σ3 H3 X.xe I3 (stat fr3) st3 go) fun r s4 hq_ => ?_)
  obtain⟨u,hr,h4⟩:=hq_
  subst hr
  refine wpAny_passesOwn hp (thn h4 fun _ s5 hq_ => ?_)
  obtain⟨x,H5,I5,r5,y5,st5,fr5⟩:=hq_
  have I5':=I5.pinned (stat fr5) (T.obj _ _ st5)
  refine wpAny_passesOwn hp (thn (hg _ s5 σ3 H5 x u _ I5' r5 (step x H5 y5)) fun _ s6 hq_ => ?_)
  obtain⟨σ6,H6,I6,q6⟩:=hq_
  refine wpAny_passesOwn hp (thn (hb _ s6 σ6 H6 _ I6 q6) fun f s7 q7 => ?_)
  have again : ∀ {σ7:St} {H7:Hp},Inv X (pins++qJv fp s5.heap) σ7 H7 s7->N σ7 H7 -> ∃m,m<n /\ ∃i σ' H',Inv X pins σ' H' s7/\tn i s7.heap/\(∀b∈fp,H' b=none)/\W i m σ' H':=fun {σ7 H7} I7 n7=>by
   obtain⟨m',hm,w7⟩:=hN σ7 H7 n7
   refine⟨m',hm,i+1,σ7,H7,I7.unpinned,T.keep _ _ _ st5 fun b hb o e=>(I7.pin (b,o) (List.mem_append_right _ (List.mem_append_right _ (qDz hb e)))).1,fun b hb => ?_,w7⟩
   obtain⟨o,e,d⟩:=T.obj _ _ st5 b hb
   exact (I7.pin (b,o) (List.mem_append_right _ (List.mem_append_right _ (qDz hb e)))).2.1
  cases f with
  | next=>obtain⟨σ7,H7,I7,n7⟩:=q7;exact again I7 n7
  | cont=>obtain⟨σ7,H7,I7,n7⟩:=q7;exact again I7 n7
  | brk=>obtain⟨σ7,H7,I7,q7⟩:=q7;exact⟨σ7,H7,I7.unpinned,q7⟩
  | ret v=>obtain⟨x7,σ7,H7,I7,r7,q7⟩:=q7;exact⟨x7,σ7,H7,I7.unpinned,r7,q7⟩
end
theorem qSd {K:PySem.W.Frag} {a:Addr} {xs:List V} {g:TG} {tb:TS} {D:Ends} {σ : St} {H:Hp} (Pv:Nat->St->Hp->Prop) (h0:Pv 0 σ H) (hl : ∀i σ H,i<=xs.length->Pv i σ H->SqL K H a xs)
  (hs : ∀i x σ H,xs[i]? = some x->Pv i σ H->g x σ H fun σ2 H2=>tb { D with nx:=Pv (i+1),ct:=Pv (i+1),bk:=D.nx } σ2 H2) (hd : ∀ σ H,Pv xs.length σ H->D.nx σ H) :
  ∃W:Nat->Nat->St->Hp->Prop,(∃m,W 0 m σ H) /\ ∀i m σ H,W i m σ H ->
   ((Itl K a).stop i H/\D.nx σ H)\/((Itl K a).go i H /\ ∃N:St->Hp->Prop,(∀ σ' H',N σ' H' -> ∃m',m'<m/\W (i+1) m' σ' H') /\ ∀x H',(Itl K a).yld i H x H'->g x σ H' fun σ2 H2=>tb { D with nx:=N,ct:=N,bk:=D.nx } σ2 H2):=by
 refine⟨fun i m σ H=>m=xs.length - i/\i<=xs.length/\Pv i σ H,⟨xs.length,by simp,Nat.zero_le _,h0⟩,?_⟩
 rintro i m σ H ⟨rfl,hi,p⟩
 have q:=hl i σ H hi p
 by_cases hlt:i<xs.length
 ·refine .inr ⟨⟨xs,xs[i],q,by simp [hlt]⟩,Pv (i+1),fun σ' H' p'=>⟨xs.length - (i+1),by omega,rfl,hlt,p'⟩,fun x H' y => ?_⟩
  obtain⟨e,y⟩:=y
  subst e
  exact hs i x σ _ (y xs q) p
 ·have e:i=xs.length:=by omega
  subst e
  exact .inl ⟨⟨xs,q,Nat.le_refl _⟩,hd σ H p⟩
theorem qQ9 {lo:Int} {n:Nat} {g:TG} {tb:TS} {D:Ends} {σ : St} {H:Hp} (Pv:Nat->St->Hp->Prop) (h0:Pv 0 σ H)
  (hs : ∀i σ H,i<n->Pv i σ H->g (.int (lo+i)) σ H fun σ2 H2=>tb { D with nx:=Pv (i+1),ct:=Pv (i+1),bk:=D.nx } σ2 H2) (hd : ∀ σ H,Pv n σ H->D.nx σ H) :
  ∃W:Nat->Nat->St->Hp->Prop,(∃m,W 0 m σ H) /\ ∀i m σ H,W i m σ H ->
   ((Itr lo n).stop i H/\D.nx σ H)\/((Itr lo n).go i H /\ ∃N:St->Hp->Prop,(∀ σ' H',N σ' H' -> ∃m',m'<m/\W (i+1) m' σ' H') /\ ∀x H',(Itr lo n).yld i H x H'->g x σ H' fun σ2 H2=>tb { D with nx:=N,ct:=N,bk:=D.nx } σ2 H2):=by
 refine⟨fun i m σ H=>m=n - i/\i<=n/\Pv i σ H,⟨n,by simp,Nat.zero_le _,h0⟩,?_⟩
 rintro i m σ H ⟨rfl,hi,p⟩
 by_cases hlt:i<n
 ·refine .inr ⟨hlt,Pv (i+1),fun σ' H' p'=>⟨n - (i+1),by omega,rfl,hlt,p'⟩,fun x H' y => ?_⟩
  obtain⟨e,y⟩:=y
  subst e y
  exact hs i σ _ hlt p
 ·have e:i=n:=by omega
  subst e
  exact .inl ⟨Nat.le_refl _,hd σ H p⟩
abbrev R2:=V->V->Hp->VK->Prop
def OpR (X:Cx) (f:Value->Value->Sem Value) (r:R2):Prop :=
 ∀(pins:List (Addr×Obj)) (s:Shared) (σ : St) (H:Hp) (x y:V) (v u:Value) (Q:VK),Inv X pins σ H s->RelV x v->RelV y u->r x y H Q ->
  wpAny (model X.prog X.w) X.A (f v u) (EP X pins σ Q) X.xe s
def UnR (X:Cx) (f:Value->Sem Value) (r:V->Hp->VK->Prop):Prop :=
 ∀(pins:List (Addr×Obj)) (s:Shared) (σ : St) (H:Hp) (x:V) (v:Value) (Q:VK),Inv X pins σ H s->RelV x v->r x H Q ->
  wpAny (model X.prog X.w) X.A (f v) (EP X pins σ Q) X.xe s
def CallR (X:Cx) (f:Value) (r:List V->Hp->VK->Prop):Prop :=
 ∀(pins:List (Addr×Obj)) (s:Shared) (σ : St) (H:Hp) (xs:List V) (us:List Value) (Q:VK),Inv X pins σ H s->Vals xs us->r xs H Q ->
  wpAny (model X.prog X.w) X.A (call f us) (EP X pins σ Q) X.xe s
def TruR (X:Cx) (r:V->Hp->(Bool->Hp->Prop)->Prop):Prop :=
 ∀(pins:List (Addr×Obj)) (s:Shared) (σ : St) (H:Hp) (x:V) (v:Value) (Q:Bool->Hp->Prop),Inv X pins σ H s->RelV x v->r x H Q ->
  wpAny (model X.prog X.w) X.A (truthy v) (TP X pins σ Q) X.xe s
def tOp (r:R2) (ta tb:TE):TE:=fun σ H Q=>ta σ H fun x H1=>tb σ H1 fun y H2=>r x y H2 Q
def tUn (r:V->Hp->VK->Prop) (ta:TE):TE:=fun σ H Q=>ta σ H fun x H1=>r x H1 Q
def rI (C:Int->Int->Prop) (g:Int->Int->V):R2:=fun x y H Q => ∃i j,x = .int i/\y = .int j/\C i j/\Q (g i j) H
def rI0 (g:Int->Int->V):R2:=fun x y H Q => ∃i j,x = .int i/\y = .int j/\Q (g i j) H
def rU (g:Int->V):V->Hp->VK->Prop:=fun x H Q => ∃i,x = .int i/\Q (g i) H
section
variable {X:Cx} {a b c:Expr} {ta tb tc:TE} {pos:Pos}
theorem binT (ha:PE X a ta) (hb:PE X b tb) {pins:List (Addr×Obj)} {s:Shared} {σ : St} {H:Hp} {R:V->V->Hp->Prop} (I:Inv X pins σ H s)
  (h:ta σ H fun x H1=>tb σ H1 fun y H2=>R x y H2) {Q:Value->Shared->Prop} {f:Value->Value->Sem Value}
  (hf : ∀v u s2 x y H2,Inv X pins σ H2 s2->RelV x v->RelV y u->R x y H2->wpAny (model X.prog X.w) X.A (f v u) Q X.xe s2) :
  wpAny (model X.prog X.w) X.A (eval a X.env) (fun v s₁ =>wpAny (model X.prog X.w) X.A (eval b X.env) (fun u s₂ =>wpAny (model X.prog X.w) X.A (f v u) Q X.xe s₂) X.xe s₁) X.xe s:=by
 refine thn (ha pins s σ H _ I h) fun v s1 hq_ => ?_
 obtain⟨x,H1,I1,r1,q1⟩:=hq_
 refine thn (hb pins s1 σ H1 _ I1 q1) fun u s2 hq_ => ?_
 obtain⟨y,H2,I2,r2,q2⟩:=hq_
 exact hf v u s2 x y H2 I2 r1 r2 q2
theorem qAs {op:Operator} {r:R2} (ho:OpR X (binaryOp op) r) (ha:PE X a ta) (hb:PE X b tb):PE X (.BinOp a op b pos) (tOp r ta tb):=by
 intro pins s σ H Q I h
 exact wpAny_BinOp (binT ha hb I h fun v u s2 x y H2 I2 rx ry q=>ho pins s2 σ H2 x y v u Q I2 rx ry q)
theorem qW0 {op:UnaryOp} {r:V->Hp->VK->Prop} (ho:UnR X (unaryOp op) r) (ha:PE X a ta):PE X (.UnaryOp op a pos) (tUn r ta):=by
 intro pins s σ H Q I h
 refine UnaryOp_ (thn (ha pins s σ H _ I h) fun v s1 hq_ => ?_)
 obtain⟨x,H1,I1,r1,q1⟩:=hq_
 exact ho pins s1 σ H1 x v Q I1 r1 q1
theorem opI {f:Value->Value->Sem Value} {C:Int->Int->Prop} {g:Int->Int->Int}
  (rule : ∀(i j:Int) (t u:Tok) (s:Shared) (Q:Value->Shared->Prop) (E:Value->Shared->Prop),C i j->Q (.int (g i j) s.toks) { s with toks:=s.toks+1 }->wpAny (model X.prog X.w) X.A (f (.int i t) (.int j u)) Q E s) :
  OpR X f (rI C fun i j =>.int (g i j)):=by
 intro pins s σ H x y v u Q I rx ry h
 obtain⟨i,j,rfl,rfl,hc,q⟩:=h
 obtain⟨t,rfl⟩:=rx
 obtain⟨t',rfl⟩:=ry
 exact rule i j t t' s _ _ hc ⟨.int (g i j),H,I.tok _,⟨_,rfl⟩,q⟩
theorem opI0 {f:Value->Value->Sem Value} {g:Int->Int->Int}
  (rule : ∀(i j:Int) (t u:Tok) (s:Shared) (Q:Value->Shared->Prop) (E:Value->Shared->Prop),Q (.int (g i j) s.toks) { s with toks:=s.toks+1 }->wpAny (model X.prog X.w) X.A (f (.int i t) (.int j u)) Q E s) :
  OpR X f (rI0 fun i j =>.int (g i j)):=by
 intro pins s σ H x y v u Q I rx ry h
 obtain⟨i,j,rfl,rfl,q⟩:=h
 obtain⟨t,rfl⟩:=rx
 obtain⟨t',rfl⟩:=ry
 exact rule i j t t' s _ _ ⟨.int (g i j),H,I.tok _,⟨_,rfl⟩,q⟩
theorem opB0 {f:Value->Value->Sem Value} {g:Int->Int->Bool}
  (rule : ∀(i j:Int) (t u:Tok) (s:Shared) (Q:Value->Shared->Prop) (E:Value->Shared->Prop),Q (.bool (g i j)) s->wpAny (model X.prog X.w) X.A (f (.int i t) (.int j u)) Q E s) :
  OpR X f (rI0 fun i j =>.bl (g i j)):=by
 intro pins s σ H x y v u Q I rx ry h
 obtain⟨i,j,rfl,rfl,q⟩:=h
 obtain⟨t,rfl⟩:=rx
 obtain⟨t',rfl⟩:=ry
 exact rule i j t t' s _ _ ⟨.bl (g i j),H,I,rfl,q⟩
def CDiv (i j:Int):Prop:=0<j/\j<1073741824
def CPow (i j:Int):Prop:=0<=j/\j<=1000000/\i.natAbs<2^64
def CMul (i j:Int):Prop:=(-(2^64)<i/\i<2^64)\/(-(2^64)<j/\j<2^64)
theorem CMul.ok {i j:Int} (h:CMul i j):IntMulOk i j:=by
 rcases h with ⟨h1,h2⟩ | ⟨h1,h2⟩
 ·exact .of_left (intBits_le_64 h1 h2)
 ·exact .of_right (intBits_le_64 h1 h2)
theorem qB5:OpR X (binaryOp .Add) (rI0 fun i j =>.int (i+j)):=opI0 fun _ _ _ _ _ _ _ q=>add_int q
theorem qP5:OpR X (binaryOp .Sub) (rI0 fun i j =>.int (i - j)):=opI0 fun _ _ _ _ _ _ _ q=>sub_int q
theorem qK3:OpR X (binaryOp .Mult) (rI CMul fun i j =>.int (i*j)):=opI fun _ _ _ _ _ _ _ hc q=>mul_int q hc.ok
theorem qP6:OpR X (binaryOp .FloorDiv) (rI CDiv fun i j =>.int (i / j)):=opI fun i j _ _ _ _ _ hc q=>by
 have h1:(0:Int)<j:=hc.1
 have h2:j<1073741824:=hc.2
 exact floordiv_int (by omega) (by rw [Int.fdiv_eq_ediv_of_nonneg i (by omega)];exact q) (.inl (PyProof.noPylong_small (by omega)))
theorem qEs:OpR X (binaryOp .Mod) (rI (fun _ j=>0<j) fun i j =>.int (i%j)):=opI fun i j _ _ _ _ _ hc q=>by
 have h1:(0:Int)<j:=hc
 exact mod_int' (by omega) (by rw [Int.fmod_eq_emod_of_nonneg i (by omega)];exact q)
theorem qK0:OpR X (binaryOp .Pow) (rI CPow fun i j =>.int (i^j.toNat)):=opI fun _ _ _ _ _ _ _ hc q=>pow_int_small hc.1 hc.2.1 hc.2.2 q
theorem unI {f:Value->Sem Value} {g:Int->Int}
  (rule : ∀(i:Int) (t:Tok) (s:Shared) (Q:Value->Shared->Prop) (E:Value->Shared->Prop),Q (.int (g i) s.toks) { s with toks:=s.toks+1 }->wpAny (model X.prog X.w) X.A (f (.int i t)) Q E s) :
  UnR X f (rU fun i =>.int (g i)):=by
 intro pins s σ H x v Q I rx h
 obtain⟨i,rfl,q⟩:=h
 obtain⟨t,rfl⟩:=rx
 exact rule i t s _ _ ⟨.int (g i),H,I.tok _,⟨_,rfl⟩,q⟩
theorem qSq:UnR X (unaryOp .USub) (rU fun i =>.int (-i)):=unI fun _ _ _ _ _ q=>neg_int q
end
def scal:V->V->Bool
 | .non,.non=>true | .non,.int _=>true | .int _,.non=>true | .non,.bl _=>true | .bl _,.non=>true | .non,.str _=>true | .str _,.non=>true
 | .int _,.int _=>true | .bl _,.bl _=>true | .str _,.str _=>true | .byt _,.byt _=>true
 | .int _,.str _=>true | .str _,.int _=>true | .bl _,.str _=>true | .str _,.bl _=>true
 | _,_=>false
def rEq:R2:=fun x y H Q=>scal x y=true/\Q (.bl (decide (x=y))) H
def rNe:R2:=fun x y H Q=>scal x y=true/\Q (.bl (!decide (x=y))) H
theorem qQe {i j:Int}:decide (V.int i=V.int j)=(i == j):=by
 rw [Bool.eq_iff_iff]
 simp
theorem qTd {i j:Bool}:decide (V.bl i=V.bl j)=(i == j):=by
 rw [Bool.eq_iff_iff]
 simp
theorem qQd {i j:Str}:decide (V.str i=V.str j)=(i == j):=by
 rw [Bool.eq_iff_iff]
 simp
theorem qQf {i j:Array UInt8}:decide (V.byt i=V.byt j)=(i.toList == j.toList):=by
 rw [Bool.eq_iff_iff]
 cases i
 cases j
 simp
section
variable {X:Cx} {a b c:Expr} {ta tb tc:TE} {pos:Pos}
theorem qB0 {pins:List (Addr×Obj)} {σ : St} {H:Hp} {s:Shared} {Q:VK} {k k':Bool} (I:Inv X pins σ H s) (q:Q (.bl k) H) (e:k=k'):EP X pins σ Q (.bool k') s:=by
 subst e
 exact⟨.bl k,H,I,rfl,q⟩
theorem qDb:OpR X (compareOp .Eq) rEq:=by
 intro pins s σ H x y v u Q I rx ry h
 obtain⟨hs,q⟩:=h
 cases x with
 | non =>
  cases rx
  cases y with
  | non=>cases ry;exact PySem.EqNone.eq_none_none (qB0 I q (by simp))
  | bl j=>cases ry;exact PySem.EqNone.eq_none_bool (qB0 I q (by simp))
  | int j=>obtain⟨t',rfl⟩:=ry;exact PySem.EqNone.eq_none_int (qB0 I q (by simp))
  | str j=>obtain⟨t',rfl⟩:=ry;exact PySem.EqNone.eq_none_str (qB0 I q (by simp))
  | _=>exact absurd (show false=true from hs) Bool.false_ne_true
 | bl i =>
  cases rx
  cases y with
  | non=>cases ry;exact PySem.EqNone.eq_bool_none (qB0 I q (by simp))
  | bl j=>cases ry;exact eq_bool (qB0 I q qTd)
  | str j=>obtain⟨t',rfl⟩:=ry;exact PySem.EqMixed.eq_bool_str (qB0 I q (by simp))
  | _=>exact absurd (show false=true from hs) Bool.false_ne_true
 | int i =>
  obtain⟨t,rfl⟩:=rx
  cases y with
  | non=>cases ry;exact PySem.EqNone.eq_int_none (qB0 I q (by simp))
  | int j=>obtain⟨t',rfl⟩:=ry;exact eq_int (qB0 I q qQe)
  | str j=>obtain⟨t',rfl⟩:=ry;exact PySem.EqMixed.eq_int_str (qB0 I q (by simp))
  | _=>exact absurd (show false=true from hs) Bool.false_ne_true
 | str i =>
  obtain⟨t,rfl⟩:=rx
  cases y with
  | non=>cases ry;exact PySem.EqNone.eq_str_none (qB0 I q (by simp))
  | bl j=>cases ry;exact PySem.EqMixed.eq_str_bool (qB0 I q (by simp))
  | int j=>obtain⟨t',rfl⟩:=ry;exact PySem.EqMixed.eq_str_int (qB0 I q (by simp))
  | str j=>obtain⟨t',rfl⟩:=ry;exact eq_str (qB0 I q qQd)
  | _=>exact absurd (show false=true from hs) Bool.false_ne_true
 | byt i =>
  obtain⟨t,rfl⟩:=rx
  cases y with
  | byt j=>obtain⟨t',rfl⟩:=ry;exact PySem.W.eq_bytes (qB0 I q qQf)
  | _=>exact absurd (show false=true from hs) Bool.false_ne_true
 | _=>cases y <;> exact absurd (show false=true from hs) Bool.false_ne_true
theorem qX3:OpR X (compareOp .NotEq) rNe:=by
 intro pins s σ H x y v u Q I rx ry h
 obtain⟨hs,q⟩:=h
 cases x with
 | non =>
  cases rx
  cases y with
  | non=>cases ry;exact PySem.EqNone.ne_none_none (qB0 I q (by simp))
  | bl j=>cases ry;exact PySem.EqNone.ne_none_bool (qB0 I q (by simp))
  | int j=>obtain⟨t',rfl⟩:=ry;exact PySem.EqNone.ne_none_int (qB0 I q (by simp))
  | str j=>obtain⟨t',rfl⟩:=ry;exact PySem.EqNone.ne_none_str (qB0 I q (by simp))
  | _=>exact absurd (show false=true from hs) Bool.false_ne_true
 | bl i =>
  cases rx
  cases y with
  | non=>cases ry;exact PySem.EqNone.ne_bool_none (qB0 I q (by simp))
  | bl j=>cases ry;exact ne_bool (qB0 I q (congrArg not qTd))
  | str j=>obtain⟨t',rfl⟩:=ry;exact PySem.EqMixed.ne_bool_str (qB0 I q (by simp))
  | _=>exact absurd (show false=true from hs) Bool.false_ne_true
 | int i =>
  obtain⟨t,rfl⟩:=rx
  cases y with
  | non=>cases ry;exact PySem.EqNone.ne_int_none (qB0 I q (by simp))
  | int j=>obtain⟨t',rfl⟩:=ry;exact ne_int (qB0 I q (congrArg not qQe))
  | str j=>obtain⟨t',rfl⟩:=ry;exact PySem.EqMixed.ne_int_str (qB0 I q (by simp))
  | _=>exact absurd (show false=true from hs) Bool.false_ne_true
 | str i =>
  obtain⟨t,rfl⟩:=rx
  cases y with
  | non=>cases ry;exact PySem.EqNone.ne_str_none (qB0 I q (by simp))
  | bl j=>cases ry;exact PySem.EqMixed.ne_str_bool (qB0 I q (by simp))
  | int j=>obtain⟨t',rfl⟩:=ry;exact PySem.EqMixed.ne_str_int (qB0 I q (by simp))
  | str j=>obtain⟨t',rfl⟩:=ry;exact ne_str (qB0 I q (congrArg not qQd))
  | _=>exact absurd (show false=true from hs) Bool.false_ne_true
 | byt i =>
  obtain⟨t,rfl⟩:=rx
  cases y with
  | byt j=>obtain⟨t',rfl⟩:=ry;exact PySem.W.ne_bytes (qB0 I q (congrArg not qQf))
  | _=>exact absurd (show false=true from hs) Bool.false_ne_true
 | _=>cases y <;> exact absurd (show false=true from hs) Bool.false_ne_true
theorem qNo:OpR X (compareOp .Lt) (rI0 fun i j =>.bl (decide (i<j))):=opB0 fun _ _ _ _ _ _ _ q=>lt_int q
theorem qW6:OpR X (compareOp .LtE) (rI0 fun i j =>.bl (decide (i<=j))):=opB0 fun _ _ _ _ _ _ _ q=>le_int q
theorem qRt:OpR X (compareOp .Gt) (rI0 fun i j =>.bl (decide (j<i))):=opB0 fun _ _ _ _ _ _ _ q=>gt_int q
theorem qX4:OpR X (compareOp .GtE) (rI0 fun i j =>.bl (decide (j<=i))):=opB0 fun _ _ _ _ _ _ _ q=>ge_int q
theorem qAt (b:Expr) {op:CmpOp} (h:op ≠ .In:=by decide) (h2:op ≠ .NotIn:=by decide):behindInMarks op b=false:=by
 have e1:(op == CmpOp.In)=false:=by cases op <;> first | rfl | exact absurd rfl h
 have e2:(op == CmpOp.NotIn)=false:=by cases op <;> first | rfl | exact absurd rfl h2
 cases b <;> simp [behindInMarks,e1,e2]
theorem qBf {op:CmpOp} {r:R2} (ho:OpR X (compareOp op) r) (ha:PE X a ta) (hb:PE X b tb) (hm:behindInMarks op b=false):PE X (.Compare a [op] [b] pos) (tOp r ta tb):=by
 intro pins s σ H Q I h
 exact wpAny_Compare1 (binT ha hb I h fun v u s2 x y H2 I2 rx ry q=>ho pins s2 σ H2 x y v u Q I2 rx ry q) hm
def tTest (t:TE):TT:=fun σ H Q=>t σ H fun x H' => ∃k,x = .bl k/\Q k H'
theorem qAn {op:CmpOp} {r:R2} (ho:OpR X (compareOp op) r) (ha:PE X a ta) (hb:PE X b tb) (hm:behindInMarks op b=false):PT X (.Compare a [op] [b] pos) (tTest (tOp r ta tb)):=by
 intro pins s σ H Q I h
 refine wpAny_isTrue_Compare1 (thn (ha pins s σ H _ I h) fun v s1 hq_ => ?_) hm
 obtain⟨x,H1,I1,r1,q1⟩:=hq_
 refine thn (hb pins s1 σ H1 _ I1 q1) fun u s2 hq_ => ?_
 obtain⟨y,H2,I2,r2,q2⟩:=hq_
 refine thn (ho pins s2 σ H2 x y v u _ I2 r1 r2 q2) fun c s3 hq_ => ?_
 obtain⟨z,H3,I3,r3,k,e,q3⟩:=hq_
 subst e
 cases r3
 exact wpAny_truthy_bool ⟨H3,I3,q3⟩
def qSv (r r':R2) (ta tb tc:TE):TE:=fun σ H Q=>ta σ H fun x H1=>tb σ H1 fun y H2=>r x y H2 fun z H3 => ∃k,z = .bl k /\
 (if k=true then tc σ H3 fun w' H4=>r' y w' H4 Q else Q (.bl false) H3)
theorem qRr {op op':CmpOp} {r r':R2} (ho:OpR X (compareOp op) r) (ho':OpR X (compareOp op') r') (ha:PE X a ta) (hb:PE X b tb) (hc:PE X c tc)
  (hm:lastMarks [op,op'] [b,c]=false:=by with_unfolding_all rfl):PE X (.Compare a [op,op'] [b,c] pos) (qSv r r' ta tb tc):=by
 intro pins s σ H Q I h
 refine Compare_chain (thn (ha pins s σ H _ I h) fun v s1 hq_ => ?_) hm
 obtain⟨x,H1,I1,r1,q1⟩:=hq_
 refine chain_link (thn (hb pins s1 σ H1 _ I1 q1) fun u s2 hq_ => ?_)
 obtain⟨y,H2,I2,r2,q2⟩:=hq_
 refine thn (ho pins s2 σ H2 x y v u _ I2 r1 r2 q2) fun d s3 hq_ => ?_
 obtain⟨z,H3,I3,r3,k,e,q3⟩:=hq_
 subst e
 cases r3
 refine wpAny_truthy_bool ?_
 cases k with
 | false=>exact ite_ff ⟨.bl false,H3,I3,rfl,q3⟩
 | true=>exact ite_tt (chain_last (thn (hc pins s3 σ H3 _ I3 q3) fun w' s4 ⟨z',H4,I4,r4,q4⟩=>ho' pins s4 σ H4 y z' u w' Q I4 r2 r4 q4))
def TruV (K:PySem.W.Frag) (x:V) (H:Hp) (k:Bool):Prop :=
 match x with
 | .non=>k=false
 | .bl b=>k=b
 | .int i=>k=(i != 0)
 | .str y=>y.length<=sizeLine/\k=((y.length:Int) != 0)
 | .byt y=>y.size<=sizeLine/\k=((y.size:Int) != 0)
 | .ref p=>(∃xs,SqL K H p xs/\k = !xs.isEmpty)\/(∃xs,SqT K H p xs/\k = !xs.isEmpty) \/ ∃kvs,H p=some (.dK kvs)/\k = !kvs.isEmpty
 | _=>False
theorem qNy {κ : Type} {kvs:List (κ × V)} {vs:List (κ × Value)} (r:KV kvs vs):(!vs.isEmpty) = !kvs.isEmpty:=by
 cases r <;> rfl
theorem qHy {xs:List V} {its:List Value} (r:Vals xs its):(!its.toArray.isEmpty) = !xs.isEmpty:=by
 cases r <;> simp
theorem qKc:(sizeLine:Nat)<2^63:=by rw [sizeLine_eq];decide
theorem qUt:TruR X (fun x H Q => ∃k,TruV X.K x H k/\Q k H):=by
 intro pins s σ H x v Q I rx h
 obtain⟨k,e,q⟩:=h
 have hl:=qKc
 have hs:sizeLine=16777216:=sizeLine_eq
 cases x with
 | non =>
  cases rx
  have e':k=false:=e
  subst e'
  exact truthy_none ⟨H,I,q⟩
 | bl b =>
  cases rx
  have e':k=b:=e
  subst e'
  exact wpAny_truthy_bool ⟨H,I,q⟩
 | int i =>
  obtain⟨t,rfl⟩:=rx
  have e':k=(i != 0):=e
  subst e'
  exact PySem.P.truthy_int ⟨H,I,q⟩
 | str y =>
  obtain⟨t,rfl⟩:=rx
  obtain⟨hy,e'⟩:y.length<=sizeLine/\k=((y.length:Int) != 0):=e
  subst e'
  exact PySem.P.truthy_str (by omega) ⟨H,I.tok _,q⟩
 | byt y =>
  obtain⟨t,rfl⟩:=rx
  obtain⟨hy,e'⟩:y.size<=sizeLine/\k=((y.size:Int) != 0):=e
  subst e'
  exact PySem.W.truthy_bytes (by omega) ⟨H,I.tok _,q⟩
 | ref p =>
  cases rx
  have e':(∃xs,SqL X.K H p xs/\k = !xs.isEmpty)\/(∃xs,SqT X.K H p xs/\k = !xs.isEmpty) \/ ∃kvs,H p=some (.dK kvs)/\k = !kvs.isEmpty:=e
  rcases e' with ⟨xs,hx,e'⟩ | ⟨xs,hx,e'⟩ | ⟨kvs,hx,e'⟩
  ·subst e'
   obtain⟨its,r,pl,hz⟩:=I.list hx
   have hlen:=r.length
   exact wpAny_truthy_list pl.isList (by simp only [List.size_toArray];omega) ⟨H,I.tok _,by rw [qHy r];exact q⟩
  ·subst e'
   obtain⟨its,r,pl,hz⟩:=I.tuple hx
   have hlen:=r.length
   exact truthy_tuple pl (by simp only [List.size_toArray];omega) ⟨H,I.tok _,by rw [qHy r];exact q⟩
  ·subst e'
   obtain⟨hz,hS,vs,r,m⟩:kvs.length<=sizeLine/\(p == sysModules)=false /\ ∃vs,KV kvs vs/\s.heap.DictOf (qAp X.prog X.w) p vs:=I.hok p _ hx
   have hlen:kvs.length=vs.length:=Paired.length r
   exact wpAny_truthy_dict hS m (by omega) ⟨H,I.tok _,by rw [qNy r];exact q⟩
 | _=>exact (show False from e).elim
theorem qIp (ha:PE X a ta) (he : ∀whole,isTrue a X.env whole=(do let v <-whole;standAt a.pos;holding [v] (truthy v))) :
  PT X a (fun σ H Q=>ta σ H fun x H' => ∃k,TruV X.K x H' k/\Q k H'):=by
 intro pins s σ H Q I h
 refine isTrue_plain (thn (ha pins s σ H _ I h) fun v s1 hq_ => ?_) (he _)
 obtain⟨x,H1,I1,r1,q1⟩:=hq_
 exact qUt pins s1 σ H1 x v Q I1 r1 q1
theorem vals1 {x:V} {us:List Value} (r:Vals [x] us) : ∃u,us = [u]/\RelV x u:=by
 cases r with
 | cons r1 r2=>cases r2;exact⟨_,rfl,r1⟩
theorem vals2 {x y:V} {us:List Value} (r:Vals [x,y] us) : ∃u w',us = [u,w']/\RelV x u/\RelV y w':=by
 cases r with
 | cons r1 r2 =>
  cases r2 with
  | cons r3 r4=>cases r4;exact⟨_,_,rfl,r1,r3⟩
theorem qN8:CallR X (.builtin "abs") (fun xs H Q => ∃i,xs = [.int i]/\Q (.int (if i<0 then -i else i)) H):=by
 intro pins s σ H xs us Q I r h
 obtain⟨i,rfl,q⟩:=h
 obtain⟨u,rfl,t,rfl⟩:=vals1 r
 exact call_abs_int fun u tk=>⟨.int (if i<0 then -i else i),H,I.tok _,⟨_,rfl⟩,q⟩
theorem qKz (hc:X.calm=true):CallR X (.builtin "max") (fun xs H Q => ∃i j,xs = [.int i,.int j]/\Q (.int (if j>i then j else i)) H):=by
 intro pins s σ H xs us Q I r h
 obtain⟨i,j,rfl,q⟩:=h
 obtain⟨u,w',rfl,⟨t,rfl⟩,⟨t',rfl⟩⟩:=vals2 r
 refine max_two_ints (I.ok.hd hc) fun h' tk k=>⟨_,H,I.kept k,?_,q⟩
 by_cases hj:j>i
 ·rw [if_pos hj,if_pos hj];exact⟨_,rfl⟩
 ·rw [if_neg hj,if_neg hj];exact⟨_,rfl⟩
theorem qQl (hc:X.calm=true):CallR X (.builtin "min") (fun xs H Q => ∃i j,xs = [.int i,.int j]/\Q (.int (if j<i then j else i)) H):=by
 intro pins s σ H xs us Q I r h
 obtain⟨i,j,rfl,q⟩:=h
 obtain⟨u,w',rfl,⟨t,rfl⟩,⟨t',rfl⟩⟩:=vals2 r
 refine min_two_ints (I.ok.hd hc) fun h' tk k=>⟨_,H,I.kept k,?_,q⟩
 by_cases hj:j<i
 ·rw [if_pos hj,if_pos hj];exact⟨_,rfl⟩
 ·rw [if_neg hj,if_neg hj];exact⟨_,rfl⟩
theorem qDk:CallR X (.type "int") (fun xs H Q=>(∃i,xs = [.int i]/\Q (.int i) H) \/ ∃k,xs = [.bl k]/\Q (.int (if k then 1 else 0)) H):=by
 intro pins s σ H xs us Q I r h
 rcases h with ⟨i,rfl,q⟩ | ⟨k,rfl,q⟩
 ·obtain⟨u,rfl,t,rfl⟩:=vals1 r
  exact call_int_int ⟨.int i,H,I,⟨_,rfl⟩,q⟩
 ·obtain⟨u,rfl,r1⟩:=vals1 r
  cases r1
  exact call_int_bool ⟨.int (if k then 1 else 0),H,I.tok _,⟨_,rfl⟩,q⟩
end
structure ObjM (h:Heap) (x dx C:Addr) (mA:Str->Option Value):Prop where
 obj:h.get? x=some (PySem.W.instObj C dx)
 ns:h.Ns1 dx mA
 ne:dx≠x
theorem qPs {h:Heap} {dx:Addr} {mA:Str->Option Value} (n:h.Ns1 dx mA) : ∃od,h.get? dx=some od /\ ∀name,PySem.W.lookIn name od=some (mA name):=by
 obtain⟨o,es,ep,ho,hd,hk,_,hm⟩:=n
 refine⟨o,ho,fun name => ?_⟩
 have e:=hm name
 unfold nsFind findBy at e
 rw [<-Array.find?_toList] at e
 unfold PySem.W.lookIn
 rw [hd]
 dsimp only
 split
 ·rename_i y q
  rw [q] at e
  exact congrArg some e
 ·rename_i q
  rw [q] at e
  have a:es.toList.any (·.refKey)=false:=by
   rw [List.any_eq_false]
   intro y hy
   obtain⟨z,t,hkey⟩:=hk y (Array.mem_toList_iff.mp hy)
   simp [DictEntry.refKey,hkey]
  have a' : ¬es.toList.any (·.refKey)=true:=by rw [a];exact Bool.false_ne_true
  rw [if_neg a']
  exact congrArg some e
theorem ObjM.look {h:Heap} {x dx C:Addr} {mA:Str->Option Value} (I:ObjM h x dx C mA) : ∃od,PySem.W.InstAt h x (PySem.W.instObj C dx) C (some od) /\ ∀name,PySem.W.lookIn name od=some (mA name) :=
 let ⟨od,ho,hl⟩:=qPs I.ns
 ⟨od,⟨I.obj,rfl,rfl,ho⟩,hl⟩
theorem RelO.some_of {v:V} {o:Option Value} (r:RelO (some v) o) : ∃u,o=some u/\RelV v u:=by
 cases o with
 | none=>exact (show False from r).elim
 | some u=>exact⟨u,rfl,r⟩
section
variable {P:Program} {w:World} {H H':Hp} {h h':Heap} {a C dx:Addr} {fs fs':List (Str×V)}
theorem qUm (hok:HOk P w H h) (e:H a=some (.ins C dx fs)) : ∃mA,ObjM h a dx C mA/\(∀f,RelO (fs.lookup f) (mA f))/\PySem.Within mA (fs.map (·.1))/\fs.length<=1000/\H dx=some (.own a):=by
 obtain⟨d,z,ne,ob,mA,n,r,q⟩:=(show ObjOk P w H h a (.ins C dx fs) from hok a _ e)
 exact⟨mA,⟨ob,n,ne⟩,r,q,z,d⟩
end
structure Cls (K:PySem.W.Frag) (C:Addr):Prop where
 pg:PySem.W.plainGet K C Str.empty=true
 hd:PySem.W.hasDictIn K C=true
 po:PySem.W.plainOver K C=true
 sa:PySem.W.findIn K (.ref C) "__setattr__" = some (some (.builtin "object.__setattr__"))
theorem Cls.get {K:PySem.W.Frag} {C:Addr} (c:Cls K C) (f:Str):PySem.W.plainGet K C f=true:=c.pg
section
variable {X:Cx} {pins:List (Addr×Obj)} {σ : St} {H:Hp} {s:Shared} {A:Around} {E:Value->Shared->Prop} {Q:Value->Shared->Prop} {c:Value} {b:Bool}
inductive TyOf (K:PySem.W.Frag) (H:Hp):V->Value->Prop where
 | non:TyOf K H .non (.type "NoneType")
 | bl (x:Bool):TyOf K H (.bl x) (.type "bool")
 | int (i:Int):TyOf K H (.int i) (.type "int")
 | str (x:Str):TyOf K H (.str x) (.type "str")
 | flt (x:UInt64):TyOf K H (.flt x) (.type "float")
 | lst {a:Addr} {xs:List V} (e:H a=some (.lst xs)):TyOf K H (.ref a) (.type "list")
 | frz {a:Addr} {o:Obj} {xs:List V} (e:H a=some (.frz o (.lst xs))):TyOf K H (.ref a) (.type "list")
 | tup {a:Addr} {xs:List V} (e:H a=some (.tup xs)):TyOf K H (.ref a) (.type "tuple")
 | dK {a:Addr} {kvs:List (Key×V)} (e:H a=some (.dK kvs)):TyOf K H (.ref a) (.type "dict")
 | dT {a:Addr} {kvs:List (List Key×V)} (e:H a=some (.dT kvs)):TyOf K H (.ref a) (.type "dict")
 | ins {a C dx:Addr} {fs:List (Str×V)} (e:H a=some (.ins C dx fs)) (cl:Cls K C) (ha:PySem.W.findIn K (.ref C) "__class__" = some (some (.builtin "object.__class__")))
   (hn:PySem.W.specialIn K (.builtin "object.__class__") "__get__" = some (some (.builtin "getset_descriptor.__get__"))) (htk:PySem.W.takesIn K (.builtin "object.__class__")=some true)
   (hm:PySem.W.mroIn K C (.type "object")=some true):TyOf K H (.ref a) (.ref C)
theorem qQ3 {x:V} {u t:Value} (I:Inv X pins σ H s) (rx:RelV x u) (ty:TyOf X.K H x t) (e:PySem.W.kitOne X.K t c=some b) (h : ∀tk,Q (.bool b) { s with toks:=tk }) :
  wpAny (model X.prog X.w) A (call (.builtin "isinstance") [u,c]) Q E s:=by
 cases ty with
 | non=>cases (show u=Value.none from rx);exact PySem.W.kia_one PySem.W.kitx_none I.kIn True.intro e (fun z=>nomatch z) h
 | bl y=>cases (show u=Value.bool y from rx);exact PySem.W.kia_one PySem.W.kitx_bool I.kIn True.intro e (fun z=>nomatch z) h
 | int i=>obtain⟨t,q⟩:=(show ∃t,u=Value.int i t from rx);cases q;exact PySem.W.kia_one PySem.W.kitx_int I.kIn True.intro e (fun z=>nomatch z) h
 | str y=>obtain⟨t,q⟩:=(show ∃t,u=Value.str y t from rx);cases q;exact PySem.W.kia_one PySem.W.kitx_str I.kIn True.intro e (fun z=>nomatch z) h
 | flt y=>obtain⟨t,q⟩:=(show ∃t,u=Value.float y t from rx);cases q;exact PySem.W.kia_one PySem.W.kitx_float I.kIn True.intro e (fun z=>nomatch z) h
 | @lst a xs ea =>
  cases (show u=Value.ref a from rx)
  obtain⟨_,_,n,_,h1⟩:=(show ObjOk X.prog X.w H s.heap a (.lst xs) from I.hok a _ ea)
  exact PySem.W.kia_one PySem.W.kitx_list I.kIn ⟨_,h1,rfl⟩ e (fun z=>nomatch z) h
 | @frz a ob xs ea =>
  cases (show u=Value.ref a from rx)
  obtain⟨_,_,_,n,_,h1⟩:=(show ObjOk X.prog X.w H s.heap a (.frz ob (.lst xs)) from I.hok a _ ea)
  exact PySem.W.kia_one PySem.W.kitx_list I.kIn ⟨_,h1,rfl⟩ e (fun z=>nomatch z) h
 | @tup a xs ea =>
  cases (show u=Value.ref a from rx)
  obtain⟨_,_,_,p⟩:=(show ObjOk X.prog X.w H s.heap a (.tup xs) from I.hok a _ ea)
  obtain⟨o,h1,h2,_⟩:=p
  exact PySem.W.kia_one PySem.W.kitx_tuple I.kIn ⟨o,h1,h2⟩ e (fun z=>nomatch z) h
 | @dK a kvs ea =>
  cases (show u=Value.ref a from rx)
  obtain⟨_,_,vs,_,p⟩:=(show ObjOk X.prog X.w H s.heap a (.dK kvs) from I.hok a _ ea)
  obtain⟨o,es,ep,h1,h2,_⟩:=p
  exact PySem.W.kia_one PySem.W.kitx_dict I.kIn ⟨o,h1,h2.1⟩ e (fun z=>nomatch z) h
 | @dT a kvs ea =>
  cases (show u=Value.ref a from rx)
  obtain⟨_,_,xs,_,o,es,ep,h1,h2,_⟩:=(show ObjOk X.prog X.w H s.heap a (.dT kvs) from I.hok a _ ea)
  exact PySem.W.kia_one PySem.W.kitx_dict I.kIn ⟨o,h1,h2.1⟩ e (fun z=>nomatch z) h
 | @ins a C dx fs ea cl ha hn htk hm =>
  cases (show u=Value.ref a from rx)
  obtain⟨mA,O,_⟩:=qUm I.hok ea
  obtain⟨od,J,_⟩:=O.look
  exact PySem.W.kia_one (PySem.W.kitx_own (cl.get _) cl.hd ha hn htk hm) I.kIn J e (fun z=>nomatch z) h
end
structure Room (k:Nat) (A:Around):Prop where
 hd:A.handled=none
 dp:A.depth+3*k+5<recursionLimit
 un:A.units+16*k+200<cLine
 gd:A.guards=some []:=by rfl
theorem Room.mono {j k:Nat} {A:Around} (r:Room k A) (h:j<=k):Room j A:=⟨r.hd,by have:=r.dp;omega,by have:=r.un;omega,r.gd⟩
theorem Room.deeper {k:Nat} {A:Around} (r:Room (k+1) A) (env:Env):Room k (A.deeper env) :=
 ⟨r.hd,by have:=r.dp;show A.depth+1+3*k+5<_;omega,by have:=r.un;show A.units+3+16*k+200<_;omega,r.gd⟩
theorem Room.depth {k:Nat} {A:Around} (r:Room k A):A.depth<recursionLimit:=by have:=r.dp;omega
theorem Room.units {k:Nat} {A:Around} (r:Room k A):A.units+64<cLine:=by have:=r.un;omega
def tNil:TA:=fun _ H Q=>Q [] H
def tCons (ta:TE) (tr:TA):TA:=fun σ H Q=>ta σ H fun x H1=>tr σ H1 fun xs H2=>Q (x::xs) H2
section
variable {X:Cx} {e:Expr} {es:List Expr} {te:TE} {t:TA} {pos:Pos}
theorem qA3:PA X [] tNil:=fun _ _ _ _ H Q I h=>Calls.spliced_nil ⟨[],H,I,.nil,h⟩
theorem qA0 (ha:PE X e te) (hr:PA X es t) (hs:starEach (e::es) X.env=(false,eval e X.env)::starEach es X.env:=by rfl):PA X (e::es) (tCons te t):=by
 intro pos pins s σ H Q I h
 rw [hs]
 show wpAny _ _ (spliced ((false,eval e X.env)::backTo pos (starEach es X.env))) _ _ s
 refine Calls.spliced_cons (thn (ha pins s σ H _ I h) fun u s1 hq_ => ?_)
 obtain⟨x,H1,I1,r1,q1⟩:=hq_
 refine thn (hr pos pins s1 σ H1 _ I1 q1) fun us s2 hq_ => ?_
 obtain⟨xs,H2,I2,r2,q2⟩:=hq_
 exact⟨x::xs,H2,I2,.cons r1 r2,q2⟩
def tTup (t:TA):TE:=fun σ H Q=>t σ H fun xs H1=>xs.length<=sizeLine /\ ∀p,H1 p=none->Q (.ref p) (upd H1 p (.tup xs))
def tLst (t:TA):TE:=fun σ H Q=>t σ H fun xs H1=>xs.length<=sizeLine /\ ∀p,H1 p=none->Q (.ref p) (upd H1 p (.lst xs))
theorem qBe {x1} (h:PA X es t):PE X (.Tuple es x1 pos) (tTup t):=by
 intro pins s σ H Q I hq
 refine wpAny_Tuple_spliced (thn (h pos pins s σ H _ I hq) fun us s1 hq_ => ?_)
 obtain⟨xs,H1,I1,r,z,q⟩:=hq_
 refine⟨by rw [<-r.length];exact z,?_⟩
 have hf:H1 s1.heap.objs.size=none:=I1.hok.fresh (Nat.le_refl _)
 refine⟨.ref s1.heap.objs.size,upd H1 s1.heap.objs.size (.tup xs),I1.laid (t':=s1.toks) (fun b u e=>Heap.get?_push_of_some _ e) (Nat.le_refl _) ?_,rfl,q _ hf⟩
 exact⟨z,us,r,⟨_,Heap.get?_push_size _ rfl,rfl,_,rfl⟩⟩
theorem qAy (h:PA X es t):PE X (.List es pos) (tLst t):=by
 intro pins s σ H Q I hq
 refine wpAny_List_spliced (thn (h pos pins s σ H _ I hq) fun us s1 hq_ => ?_)
 obtain⟨xs,H1,I1,r,z,q⟩:=hq_
 refine⟨by rw [<-r.length];exact z,?_⟩
 have hf:H1 s1.heap.objs.size=none:=I1.hok.fresh (Nat.le_refl _)
 refine⟨.ref s1.heap.objs.size,upd H1 s1.heap.objs.size (.lst xs),I1.laid (t':=s1.toks) (fun b u e=>Heap.get?_push_of_some _ e) (Nat.le_refl _) ?_,rfl,q _ hf⟩
 exact⟨z,us,0,r,Heap.get?_push_size _ rfl⟩
end
abbrev Sp:=List V->Hp->VK->XK->Prop
abbrev CXT:=List Env->Hp->Shared->XK->Value->Shared->Prop
structure Env0 (P:Program) (w:World) (K:PySem.W.Frag) (mg:Str->Option Value) (base:Heap) (A:Around) (outer:List Env) (s:Shared) (H:Hp):Prop where
 frames:A.frames=some outer
 mod:Mod K mg base
 bs : ∀b o,base.get? b=some o->s.heap.get? b=some o/\H b=none
 bsz:base.objs.size<=s.heap.objs.size
 funs:s.heap.FunFrames base outer
 frf : ∀b∈frs outer,H b=none
 hok:HOk P w H s.heap
 bare:AllBare s.gens
def CE (outer:List Env) (P:Program) (w:World) (H:Hp) (s:Shared) (Q:VK) (u:Value) (s':Shared):Prop :=
 ∃v H',s'.os=s.os/\AllBare s'.gens/\Un (frs outer) [] H H' s.heap s'.heap/\HOk P w H' s'.heap/\RelV v u/\Q v H'
def CR (CX:CXT) (outer:List Env) (P:Program) (w:World) (H:Hp) (s:Shared) (Q:VK) (E:XK) (r:Result) (s':Shared):Prop :=
 match r with
 | .ok (.ret u)=>CE outer P w H s Q u s'
 | .ok _=>False
 | .error e=>CX outer H s E e s'
structure FnOk (P:Program) (w:World) (K:PySem.W.Frag) (mg:Str->Option Value) (base:Heap) (CX:CXT) (k:Nat) (f:Addr) (fd:FuncData) (ps:List Str) (sp:Sp):Prop where
 len : ∀vs H Q E,sp vs H Q E->vs.length=ps.length
 run : ∀(A:Around) (outer:List Env) (s:Shared) (H:Hp) (args:Args) (us:List Value) (vs:List V) (Q:VK) (E:XK),Room k A->Env0 P w K mg base A outer s H->BindsTo s fd args (ps.zip us)->Vals vs us->sp vs H Q E ->
  codeAny (model P w) A (.call (.ref f) args) (CR CX outer P w H s Q E) s
section
variable {X:Cx} {pins:List (Addr×Obj)} {σ : St} {H:Hp} {s s':Shared}
theorem Inv.env0 (I:Inv X pins σ H s):Env0 X.prog X.w X.K X.mg X.base X.A X.stack s H :=
 ⟨I.ok.frames,I.ok.mod,I.bs,Nat.le_trans I.ok.bsz I.sz,I.stack,I.stkFree,I.hok,I.bare⟩
theorem Inv.after {Q:VK} {u:Value} (I:Inv X pins σ H s) (h:CE X.stack X.prog X.w H s Q u s'):EP X pins σ Q u s':=by
 obtain⟨v,H',os,bare,un,hok,r,q⟩:=h
 obtain⟨hh,g,d,t,os'⟩:=s'
 obtain rfl:os'=s.os:=os
 exact⟨v,H',I.call (h':=hh) (g':=g) (d':=d) (t':=t) (ch :=[]) un hok bare (fun b z=>absurd z (by simp)),r,q⟩
end
def tCall (sp:Sp) (dvs:List V) (E:XK) (t:TA):TE:=fun σ H Q=>t σ H fun vs H1=>sp (vs++dvs) H1 Q E
def Binds (K:PySem.W.Frag) (fd:FuncData) (ps:List Str) (ds:List Value):Prop :=
 ∀(s:Shared) (us:List Value),K.In s.heap->(us++ds).length=ps.length->BindsTo s fd ⟨us,[]⟩ (ps.zip (us++ds))
theorem Binds.all {K:PySem.W.Frag} {fd:FuncData} {ps:List Str} (h : ∀us:List Value,us.length=ps.length->bindArgs fd ⟨us,[]⟩=pure (ps.zip us)):Binds K fd ps []:=fun s us _ hl=>by
 rw [List.append_nil] at hl ⊢
 exact .of_eq (h us hl)
def qQy (CX:CXT) (X:Cx) (E:XK):Prop := ∀(pins:List (Addr×Obj)) (σ : St) (H:Hp) (s:Shared) (e:Value) (s':Shared),Inv X pins σ H s->CX X.stack H s E e s'->X.xe e s'
section
variable {X:Cx} {CX:CXT} {k:Nat} {f C:Addr} {fd:FuncData} {ps:List Str} {sp:Sp} {dvs:List V} {ds:List Value} {E:XK} {x m:Str} {p pos apos:Pos} {e o:Expr} {es:List Expr} {ta:TE} {t:TA}
theorem qV2 {pins:List (Addr×Obj)} {σ : St} {H:Hp} {s:Shared} {Q:VK} {us:List Value} {vs:List V} (F:FnOk X.prog X.w X.K X.mg X.base CX k f fd ps sp) (hr:Room k X.A) (hb:Binds X.K fd ps ds) (hd:Vals dvs ds) (hx:qQy CX X E)
  (I:Inv X pins σ H s) (r:Vals vs us) (h:sp (vs++dvs) H Q E):wpAny (model X.prog X.w) X.A (call (.ref f) us) (EP X pins σ Q) X.xe s:=by
 have r2:Vals (vs++dvs) (us++ds):=r.append hd
 have hl:(us++ds).length=ps.length:=by rw [<-r2.length];exact F.len _ _ _ _ h
 refine wpAny_call (codeAny_mono (F.run X.A X.stack s H ⟨us,[]⟩ (us++ds) (vs++dvs) Q E hr I.env0 (hb s us I.kIn hl) r2 h) fun r s' hq => ?_)
 cases r with
 | error e=>exact hx pins σ H s e s' I hq
 | ok fl =>
  cases fl with
  | ret u=>exact I.after hq
  | next=>exact False.elim hq
  | brk=>exact False.elim hq
  | cont=>exact False.elim hq
theorem qU5 (F:FnOk X.prog X.w X.K X.mg X.base CX k f fd ps sp) (hr:Room k X.A) (hg:Gl X x) (hm:X.mg x=some (.ref f)) (hk:PySem.W.keepIn X.K (.ref f)=true) (hb:Binds X.K fd ps ds) (hd:Vals dvs ds) (hx:qQy CX X E)
  (ha:PA X (e::es) t) (hdb:(x == ("__debug__" : Str))=false:=by decide) (he:starEach (e::es) X.env=(false,eval e X.env)::starEach es X.env:=by rfl) (hpl:(backTo pos (starEach es X.env)).any (·.1)=false:=by rfl) :
  PE X (.Call (.Name x p) (e::es) [] pos) (tCall sp dvs E t):=by
 intro pins s σ H Q I h
 refine wpAny_Call_Name_kw (qPv I hg hm ?_ hdb)
 refine PySem.W.callWith_K (h₀ :=X.base) I.ok.mod.kin hk (thn (ha pos pins s σ H _ I h) fun us s1 hq_ => ?_) he hpl
 obtain⟨vs,H1,I1,r,q⟩:=hq_
 refine⟨I1.kIn,?_⟩
 exact qV2 F hr hb hd hx I1 r q
end
section
variable {X:Cx} {CX:CXT} {k:Nat} {f C:Addr} {fd:FuncData} {ps ks:List Str} {sp:Sp} {E:XK} {x m:Str} {p pos apos kpos:Pos} {e o:Expr} {es:List Expr} {kws:List Keyword} {te ta:TE} {t tk:TA} {nm:Option Str}
variable {g:List Value->List Value->List Value} {gV:List V->List V->List V}
end
structure FnScope (N P:List Str) (sc:Scope):Prop where
 kind:sc.kind = .function
 co:sc.isCoroutine=false
 gen:sc.isGenerator=false
 nd:N.Nodup
 pre:N.take P.length=P
 par : ∀x∈P,sc.names.lookup x=some .local\/sc.names.lookup x=some .cell
 nofree : ∀y∈sc.names,y.2 ≠ .free
theorem qL0 {kindOf:Str->Option NameKind} {x:Str} : ∀ {binds:List (Str×Value)} {m:Str->Option Value},(∀v,(x,v)∉binds)->bindL kindOf binds m x=m x
 | [],_,_=>rfl
 | (n,v)::r,m,h=>by
  unfold bindL
  rw [qL0 fun w hw=>h w (List.mem_cons_of_mem _ hw)]
  split
  ·have:x≠n:=by rintro rfl;exact h v List.mem_cons_self
   simp [this]
  ·rfl
theorem qL2 {kindOf:Str->Option NameKind} {x:Str} : ∀ {binds:List (Str×Value)} {m:Str->Option Value},(∀v,(x,v)∉binds)->bindC kindOf binds m x=m x
 | [],_,_=>rfl
 | (n,v)::r,m,h=>by
  unfold bindC
  rw [qL2 fun w hw=>h w (List.mem_cons_of_mem _ hw)]
  split
  ·rfl
  ·have:x≠n:=by rintro rfl;exact h v List.mem_cons_self
   simp [this]
theorem qL1 {kindOf:Str->Option NameKind} {x:Str} {v:Value} : ∀ {P:List Str} {vs:List Value} {i:Nat} {m:Str->Option Value},P.Nodup->P[i]? = some x->vs[i]? = some v->kindOf x=some .local ->
  bindL kindOf (P.zip vs) m x=some v
 | [],_,_,_,_,h,_,_=>by simp at h
 | _::_,[],_,_,_,_,h,_=>by simp at h
 | p::P,w::vs,0,m,nd,h1,h2,hk=>by
  simp at h1 h2;subst h1;subst h2
  show bindL kindOf ((p,w)::P.zip vs) m p=_
  unfold bindL
  rw [qL0 fun v hv=>(List.nodup_cons.mp nd).1 (List.of_mem_zip hv).1,if_pos hk]
  simp
 | p::P,w::vs,i+1,m,nd,h1,h2,hk=>by
  show bindL kindOf ((p,w)::P.zip vs) m x=_
  unfold bindL
  exact qL1 (i:=i) (List.nodup_cons.mp nd).2 (by simpa using h1) (by simpa using h2) hk
theorem qL3 {kindOf:Str->Option NameKind} {x:Str} {v:Value} : ∀ {P:List Str} {vs:List Value} {i:Nat} {m:Str->Option Value},P.Nodup->P[i]? = some x->vs[i]? = some v->kindOf x≠some .local ->
  bindC kindOf (P.zip vs) m x=some v
 | [],_,_,_,_,h,_,_=>by simp at h
 | _::_,[],_,_,_,_,h,_=>by simp at h
 | p::P,w::vs,0,m,nd,h1,h2,hk=>by
  simp at h1 h2;subst h1;subst h2
  show bindC kindOf ((p,w)::P.zip vs) m p=_
  unfold bindC
  rw [qL2 fun v hv=>(List.nodup_cons.mp nd).1 (List.of_mem_zip hv).1,if_neg hk]
  simp
 | p::P,w::vs,i+1,m,nd,h1,h2,hk=>by
  show bindC kindOf ((p,w)::P.zip vs) m x=_
  unfold bindC
  exact qL3 (i:=i) (List.nodup_cons.mp nd).2 (by simpa using h1) (by simpa using h2) hk
def start (N:List Str) (vs:List V):St:=vs.map some++List.replicate (N.length - vs.length) none
def cxOf (CX:CXT) (P:Program) (w:World) (K:PySem.W.Frag) (mg:Str->Option Value) (base:Heap) (N:List Str) (qual:Str) (scope:Scope) (f:Addr) (cd:Value) (A:Around) (outer:List Env) (s:Shared) (H:Hp) (E:XK):Cx where
 prog:=P
 w:=w
 K:=K
 mg:=mg
 base:=base
 A:=A.deeper (envOfC qual scope s.heap.objs.size f cd)
 N:=N
 s₀ :=s
 H₀ :=H
 env:=envOfC qual scope s.heap.objs.size f cd
 outer:=outer
 stack:=envOfC qual scope s.heap.objs.size f cd::outer
 ex :=[]
 calm:=true
 fn:=fun _=>true
 pn :=[]
 xe:=fun e s'=>wpAny (model P w) (A.deeper (envOfC qual scope s.heap.objs.size f cd)) (leaving (envOfC qual scope s.heap.objs.size f cd) e) (fun _ s''=>CX outer H s E e s'') (fun e' s''=>CX outer H s E e' s'') s'
theorem qN7 {sc:Scope} {n:Nat} {x:Str} (h:sc.names.lookup x=some .cell) : ∃c,(cellsFrom n sc.names []).lookup x=some c:=by
 have q:=PySem.W.cellsFrom_some sc.names n [] (.inl h)
 exact Option.isSome_iff_exists.mp q
theorem qQ5 {CX:CXT} {P:Program} {w:World} {K:PySem.W.Frag} {mg:Str->Option Value} {base:Heap} {N ps:List Str} {qual:Str} {scope:Scope} {f:Addr} {cd:Value} {A:Around} {outer:List Env} {s s1:Shared} {H:Hp} {E:XK} {us:List Value} {vs:List V}
  (S:FnScope N ps scope) (hd:A.handled=none) (e0:Env0 P w K mg base A outer s H) (hl:vs.length=ps.length) (r:Vals vs us)
  (x:InCallC s s.heap.objs.size (bindL (envOfC qual scope s.heap.objs.size f cd).kindOf (ps.zip us) fun _=>none) (cellsFrom (s.heap.objs.size+1) scope.names []) (bindC (envOfC qual scope s.heap.objs.size f cd).kindOf (ps.zip us) fun _=>none) s1) :
  Inv (cxOf CX P w K mg base N qual scope f cd A outer s H E) [] (start N vs) H s1:=by
 have hpl:ps.length<=N.length:=by have:=congrArg List.length S.pre;rw [List.length_take] at this;omega
 obtain⟨h1,tk,rfl,hk⟩:=x.done
 have noA : ∀b:Addr,b∉(cxOf CX P w K mg base N qual scope f cd A outer s H E).ex:=fun b z=>absurd (show b∈([]:List Addr) from z) (by simp)
 refine⟨⟨e0.mod,S.kind,rfl,rfl,Nat.le_refl _,fun y z c h1 h2 => ?_,fun y hy => ?_,fun y c _ h => ?_,fun _=>hd,Around.frames_deeper e0.frames,.inr ⟨rfl,rfl⟩,fun b z=>absurd z (noA b),e0.bs,e0.bsz,fun b _ _=>noA b,fun b z=>absurd z (noA b),e0.funs,e0.frf⟩,
  rfl,e0.bare,Un.kept hk,⟨_,x.toInCall.ns,fun i y v h1 h2 h3 => ?_⟩,fun y c h=>⟨_,x.cell y c h⟩,e0.hok.fresh (Nat.le_refl _),fun y c h => ?_,fun p hp=>absurd (show p∈([]:List (Addr×Obj)) from hp) (by simp),e0.hok.kept hk,?_⟩
 ·exact name_of_addr x.apart (PySem.mem_of_lookup h1) (PySem.mem_of_lookup h2)
 ·have hy:scope.names.lookup y=some .cell\/scope.names.lookup y=some .free:=hy
  rcases hy with hy | hy
  ·exact qN7 hy
  ·exact absurd rfl (S.nofree _ (PySem.mem_of_lookup hy))
 ·exact Nat.le_of_lt (x.above y c (PySem.mem_of_lookup h))
 ·have hi:i<vs.length:=by
   unfold start at h2
   by_cases hi:i<vs.length
   ·exact hi
   ·rw [List.getElem?_append_right (by simpa using hi)] at h2
    rw [List.getElem?_replicate] at h2
    split at h2 <;> cases h2
  have ha:vs[i]? = some v:=by
   unfold start at h2
   rw [List.getElem?_append_left (by simpa using hi),List.getElem?_map] at h2
   cases e:vs[i]? with
   | none=>rw [e] at h2;cases h2
   | some a=>rw [e] at h2;cases h2;rfl
  obtain⟨u,hu,rv⟩:=r.get ha
  have hp:ps[i]? = some y:=by
   rw [<-S.pre,List.getElem?_take_of_lt (by omega)];exact h1
  have ndP:ps.Nodup:=by rw [<-S.pre];exact S.nd.sublist (List.take_sublist _ _)
  refine⟨u,rv,?_⟩
  rcases S.par y (List.mem_of_getElem? hp) with k | k
  ·exact .inl ⟨k,qL1 ndP hp hu k⟩
  ·obtain⟨c,e⟩:=qN7 (n:=s.heap.objs.size+1) k
   refine .inr ⟨.inl k,c,e,?_⟩
   have q:=x.cell y c e
   rw [qL3 ndP hp hu (by show scope.names.lookup y≠_;rw [k];decide)] at q
   exact q
 ·exact e0.hok.fresh (Nat.le_of_lt (x.above y c (PySem.mem_of_lookup h)))
 ·unfold start
  show _=N.length
  rw [List.length_append,List.length_map,List.length_replicate]
  omega
theorem qX7 {CX:CXT} {P:Program} {w:World} {K:PySem.W.Frag} {mg:Str->Option Value} {base:Heap} {k:Nat} {f:Addr} {name qual:Str} {params:Arguments} {body:List Stmt} {scope:Scope} {dV kV doc pm cdv ct oc:Value} {an od:Option Addr}
  {osl:Array (Option Value)} {N ps:List Str} {sp:Sp} (lk:K.lookup f=some ⟨oc,od,.func (PySem.W.fnOf name qual params body scope dV kV doc pm an cdv ct),osl⟩) (hcd:PySem.W.codeIn K cdv qual=true) (S:FnScope N ps scope)
  (len : ∀vs H Q E,sp vs H Q E->vs.length=ps.length)
  (hbody : ∀(A:Around) (outer:List Env) (s:Shared) (H:Hp) (vs:List V) (Q:VK) (E:XK),Room k (A.deeper (envOfC qual scope s.heap.objs.size f cdv))->sp vs H Q E ->
   ∃t,PSs (cxOf CX P w K mg base N qual scope f cdv A outer s H E) body t/\t { nx:=fun _ H'=>Q .non H',rt:=Q } (start N vs) H) :
  FnOk P w K mg base CX (k+1) f (PySem.W.fnOf name qual params body scope dV kV doc pm an cdv ct) ps sp:=by
 refine⟨len,fun A outer s H args us vs Q E hr e0 hb r hsp => ?_⟩
 have hl:=len _ _ _ _ hsp
 have KX:K.In s.heap:=e0.mod.kin.keeps fun b o e=>(e0.bs b o e).1
 have lim:s.heap.NoLimit:=e0.mod.nolimit.keeps fun b o e=>(e0.bs b o e).1
 have hkind : ∀y∈ps.zip us,scope.names.lookup y.1=some .local\/(scope.names.lookup y.1=some .cell/\((cellsFrom (s.heap.objs.size+1) scope.names []).lookup y.1).isSome=true):=fun ⟨n,v⟩ hy=>by
  rcases S.par n (List.of_mem_zip hy).1 with q | q
  ·exact .inl q
  ·exact .inr ⟨q,PySem.W.cellsFrom_some _ _ _ (.inl q)⟩
 refine codeAny_call_function hr.depth (KX _ _ lk) rfl S.co S.gen rfl (PySem.W.codeRec_of KX hcd) (hb _ _ _ _ ?_)
 refine wpAny_newFunctionEnv_cells S.kind hkind fun env he s1 x => ?_
 subst he
 refine⟨lim.keeps x.toInCall.keep,codeAny_func ?_⟩
 obtain⟨t,ht,hq⟩:=hbody A outer s H vs Q E (hr.deeper _) hsp
 have I:Inv (cxOf CX P w K mg base N qual scope f cdv A outer s H E) [] (start N vs) H s1:=qQ5 S hr.hd e0 hl r x
 refine wpAny_mono (ht [] s1 (start N vs) H _ I hq) (fun fl s' hs => ?_) fun e s' hs=>hs
 have fin : ∀ {σ':St} {H':Hp} {v:V} {u:Value},Inv (cxOf CX P w K mg base N qual scope f cdv A outer s H E) [] σ' H' s'->RelV v u->Q v H'->CE outer P w H s Q u s' :=
  fun {σ' H' v u} J rv q=>⟨v,H',J.os,J.bare,J.base,J.hok,rv,q⟩
 cases fl with
 | ret u =>
  obtain⟨v,σ',H',J,rv,q⟩:=hs
  exact fin J rv q
 | next =>
  obtain⟨σ',H',J,q⟩:=hs
  exact fin (v:=V.non) (u:=Value.none) J rfl q
 | brk =>
  obtain⟨_,_,_,q⟩:=hs
  exact False.elim q
 | cont =>
  obtain⟨_,_,_,q⟩:=hs
  exact False.elim q
section
variable {X:Cx} {x:Str} {p pos:Pos} {e:Expr} {es:List Expr} {t:TA} {id T:String} {r:List V->Hp->VK->Prop}
def tCB (r:List V->Hp->VK->Prop) (t:TA):TE:=fun σ H Q=>t σ H fun vs H1=>r vs H1 Q
theorem qAb (hc:CallR X (.builtin id) r) (hg:Gl X x) (hm:X.mg x=none) (hv:bootBuiltins x=some (.builtin id)) (ha:PA X (e::es) t) (hn:x ≠ "__name__" :=by decide) (hdb:(x == ("__debug__" : Str))=false:=by decide)
  (he:starEach (e::es) X.env=(false,eval e X.env)::starEach es X.env:=by rfl) (hpl:(backTo pos (starEach es X.env)).any (·.1)=false:=by rfl):PE X (.Call (.Name x p) (e::es) [] pos) (tCB r t):=by
 intro pins s σ H Q I h
 refine wpAny_Call_Name_kw (qKe I hg hm hv ?_ hn hdb)
 refine PyProof.Rows.callWith_builtin1 (thn (ha pos pins s σ H _ I h) fun us s1 hq_ => ?_) he hpl
 obtain⟨vs,H1,I1,r1,q1⟩:=hq_
 exact hc pins s1 σ H1 vs us Q I1 r1 q1
theorem qAl (hc:CallR X (.type T) r) (hg:Gl X x) (hm:X.mg x=none) (hv:bootBuiltins x=some (.type T)) (ha:PA X (e::es) t) (hn:x ≠ "__name__" :=by decide) (hdb:(x == ("__debug__" : Str))=false:=by decide)
  (he:starEach (e::es) X.env=(false,eval e X.env)::starEach es X.env:=by rfl) (hpl:(backTo pos (starEach es X.env)).any (·.1)=false:=by rfl):PE X (.Call (.Name x p) (e::es) [] pos) (tCB r t):=by
 intro pins s σ H Q I h
 refine wpAny_Call_Name_kw (qKe I hg hm hv ?_ hn hdb)
 refine PyProof.Rows.callWith_type1 (thn (ha pos pins s σ H _ I h) fun us s1 hq_ => ?_) he hpl
 obtain⟨vs,H1,I1,r1,q1⟩:=hq_
 exact hc pins s1 σ H1 vs us Q I1 r1 q1
end
end L2
namespace HT
open PySem PyProof.Rows
section
open PySem.SeqAt
open PySem.AutoSeq1 (wpAny_loadPart')
open PySem.MeetsSeq PySem.MeetsSeq2 PySem.MeetsSeq3
end
section
variable {prog:Program} {w:World} {A:Around} {E:Value->Shared->Prop} {s:Shared}
def sIx (n d:Nat):Option Int->Nat
 | none=>d
 | some v=>if v<0 then (v+(n:Int)).toNat else min v.toNat n
theorem sIx_none (n d:Nat):sIx n d none=d:=rfl
theorem sIx_nat (n d k:Nat):sIx n d (some (k:Int))=min k n:=by
 show (if (k:Int)<0 then ((k:Int)+(n:Int)).toNat else min (k:Int).toNat n)=min k n
 rw [if_neg (by omega),Int.toNat_natCast]
theorem qV1 (n d:Nat) (hd:d<=n) (o:Option Int):sIx n d o<=n:=by
 cases o with
 | none=>exact hd
 | some v =>
  show (if v<0 then (v+(n:Int)).toNat else min v.toNat n)<=n
  by_cases hv:v<0
  ·rw [if_pos hv];omega
  ·rw [if_neg hv];exact Nat.min_le_right _ _
theorem qQj (v:Int) (n d:Nat):(if v<0 then max (v+(n:Int)) 0 else min v (n:Int))=((sIx n d (some v):Nat):Int):=by
 show (if v<0 then max (v+(n:Int)) 0 else min v (n:Int))=(((if v<0 then (v+(n:Int)).toNat else min v.toNat n):Nat):Int)
 by_cases hv:v<0
 ·simp only [if_pos hv];omega
 ·simp only [if_neg hv];omega
theorem qO6 (lo hi:Option Int) (n:Nat):Builtin.Slice.sliceAdjust lo hi 1 (n:Int)=(((sIx n 0 lo:Nat):Int),((sIx n n hi:Nat):Int)):=by
 have h1 : ¬((1:Int)<0):=by omega
 unfold Builtin.Slice.sliceAdjust
 simp only [h1,if_false]
 refine Prod.ext ?_ ?_
 ·cases lo with
  | none=>rfl
  | some v=>exact qQj v n 0
 ·cases hi with
  | none=>rfl
  | some v=>exact qQj v n n
theorem qNn (i j:Nat):Builtin.Slice.slicePlaces (i:Int) (j:Int) 1=j - i:=by
 unfold Builtin.Slice.slicePlaces
 have h1:(1:Int)>0:=by omega
 simp only [h1,if_true,Int.ediv_one]
 split <;> omega
theorem qHd {v:Value} {o:Option Int} {Q:Option Int->Shared->Prop} (p:IsPart v o) (h:Q o s):wpAny (model prog w) A (Builtin.Slice.slicePartIndex v) Q E s:=by
 cases p with
 | none=>exact slicePart_none h
 | int i t=>exact slicePart_int h
theorem qFx {sl:Addr} {vl vu:Value} {lo hi:Option Int} {n:Nat} {Q:Int×Int×Nat->Shared->Prop} (hs:s.heap.IsSliceOf sl vl vu .none) (pl:IsPart vl lo) (pu:IsPart vu hi)
  (h:Q (((sIx n 0 lo:Nat):Int),1,sIx n n hi - sIx n 0 lo) s):wpAny (model prog w) A (Builtin.Slice.sliceApplied (.ref sl) (pure (n:Int))) Q E s:=by
 obtain⟨os,hos,hcs,hds⟩:=id hs
 unfold Builtin.Slice.sliceApplied Builtin.Slice.sliceFields
 refine wpAny_bind (wpAny_bind (wpAny_field hos hds (x:=vl) rfl (wpAny_bind (wpAny_field hos hds (x:=vu) rfl (wpAny_bind (wpAny_field hos hds (x :=.none) rfl (wpAny_pure ?_)))))))
 refine wpAny_bind (slicePart_none ?_)
 show wpAny _ _ (if ((1:Int) == 0)=true then _ else _) _ _ s
 rw [if_neg (by decide)]
 refine wpAny_bind (qHd pl (wpAny_bind (qHd pu (wpAny_bind (wpAny_pure ?_)))))
 show wpAny _ _ (match Builtin.Slice.sliceAdjust lo hi 1 (n:Int) with | (lo,hi)=>pure (lo,(1:Int),Builtin.Slice.slicePlaces lo hi 1)) _ _ s
 rw [qO6 lo hi n]
 show wpAny _ _ (pure (((sIx n 0 lo:Nat):Int),(1:Int),Builtin.Slice.slicePlaces ((sIx n 0 lo:Nat):Int) ((sIx n n hi:Nat):Int) 1)) _ _ s
 rw [qNn]
 exact wpAny_pure h
theorem qRp (xs:Array Value) (i k:Nat):((List.range k).filterMap fun (m:Nat)=>xs[((i:Int)+(m:Int)*1).toNat]?).toArray=((xs.toList.drop i).take k).toArray:=by
 have e:(fun (m:Nat)=>xs[((i:Int)+(m:Int)*1).toNat]?)=fun m=>xs[i+m]? :=by
  funext m
  have:((i:Int)+(m:Int)*1).toNat=i+m:=by omega
  rw [this]
 rw [e]
 have:=pick_run xs i k
 rw [List.filterMap_map] at this
 have e2:((fun x=>xs[x]?)∘fun x=>i+x)=fun m=>xs[i+m]? :=rfl
 rw [e2] at this
 rw [this]
theorem getItem_tuple_cut {t sl:Addr} {items:Array Value} {vl vu:Value} {lo hi:Option Int} {Q:Value->Shared->Prop} (ht:IsTup s.heap t items) (hs:s.heap.IsSliceOf sl vl vu .none) (pl:IsPart vl lo) (pu:IsPart vu hi)
  (hw : ¬(sIx items.size 0 lo=0/\sIx items.size items.size hi=items.size))
  (h:Q (.ref s.heap.objs.size) { s with heap:=s.heap.push { cls :=.type "tuple",data :=.seq ((items.toList.drop (sIx items.size 0 lo)).take (sIx items.size items.size hi - sIx items.size 0 lo)).toArray } })
  (hsz:items.size<=sizeLine):wpAny (model prog w) A (getItem (.ref t) (.ref sl)) Q E s:=by
 have htake:sizeOk (.seq ((items.toList.drop (sIx items.size 0 lo)).take (sIx items.size items.size hi - sIx items.size 0 lo)).toArray):=by
  show ((items.toList.drop (sIx items.size 0 lo)).take (sIx items.size items.size hi - sIx items.size 0 lo)).toArray.size<=sizeLine
  rw [List.size_toArray,List.length_take,List.length_drop,Array.length_toList]
  omega
 have hj:sIx items.size items.size hi<=items.size:=qV1 _ _ (Nat.le_refl _) hi
 obtain⟨os,hos,hcs,hds⟩:=id hs
 have hTs:s.TypeIs (.ref sl) "slice" :=⟨os,hos,hcs⟩
 unfold getItem
 try with_reducible refine wpAny_holding ?_
 first | refine wpAny_bind (wpAny_pure ?_) | skip
 refine wpAny_bind (wpAny_sequenceKey ht.typeIs (by decide) ?_)
 refine wpAny_bind (wpAny_callSpecial?_slot (name:=Str.ofString "__getitem__") ht.typeIs PyProof.Rows.slot_tuple_getitem
  (wpAny_call_entry PyProof.Rows.slot_tuple_getitem ht.typeIs entry_tuple_getitem ?_ (args_tuple_getitem _ _)))
 show wpAny _ _ (Builtin.Tuple.tupleItemsOf (.ref t) >>= _) _ _ s
 refine wpAny_bind (tupleItemsOf_ ht ?_)
 refine wpAny_bind (wpAny_typeOf hTs ?_)
 rw [if_pos (by decide)]
 refine wpAny_bind (qFx hs pl pu ?_)
 have hno : ¬((((sIx items.size 0 lo:Nat):Int) == 0&&(1:Int) == 1&&(sIx items.size items.size hi - sIx items.size 0 lo) == items.size)=true):=by
  intro q
  rw [Bool.and_eq_true,Bool.and_eq_true] at q
  have q1:((sIx items.size 0 lo:Nat):Int)=0:=eq_of_beq q.1.1
  have q2:sIx items.size items.size hi - sIx items.size 0 lo=items.size:=eq_of_beq q.2
  exact hw ⟨by omega,by omega⟩
 show wpAny _ _ (if (((sIx items.size 0 lo:Nat):Int) == 0&&(1:Int) == 1&&(sIx items.size items.size hi - sIx items.size 0 lo) == items.size)=true then _ else _) _ _ s
 rw [if_neg hno,qRp]
 first
  | exact wpAny_bind (m:=Builtin.Tuple.tupleExact _) (wpAny_newObj_type (wpAny_pure ⟨_,rfl,wpAny_pure h⟩) htake)
  | exact wpAny_bind (m:=Builtin.Tuple.tupleExact _) (wpAny_newObj_type (wpAny_bind (wpAny_pure (wpAny_pure ⟨_,rfl,wpAny_pure h⟩))) htake)
  | exact wpAny_bind (wpAny_bind (m:=Builtin.Tuple.tupleExact _) (wpAny_newObj_type (wpAny_pure (wpAny_pure ⟨_,rfl,wpAny_pure h⟩)) htake))
  | exact wpAny_bind (wpAny_bind (m:=Builtin.Tuple.tupleExact _) (wpAny_newObj_type (wpAny_pure ⟨_,rfl,wpAny_pure h⟩) htake))
end
end HT
namespace L2
open PySem PySem.Spec PyProof.Rows
abbrev TO:=St->Hp->(Option Int->Hp->Prop)->Prop
def PO (X:Cx) (e:Option Expr) (t:TO):Prop :=
 ∀(pins:List (Addr×Obj)) (s:Shared) (σ : St) (H:Hp) (Q:Option Int->Hp->Prop),Inv X pins σ H s->t σ H Q ->
  wpAny (model X.prog X.w) X.A (evalPart e X.env) (fun u s' => ∃o H',Inv X pins σ H' s'/\IsPart u o/\Q o H') X.xe s
def qOd:TO:=fun _ H Q=>Q none H
def tPart (t:TE):TO:=fun σ H Q=>t σ H fun x H1 => ∃i,x = .int i/\Q (some i) H1
theorem qI0 {ns:List Int} : ∀ {us:List Value},Vals (ns.map V.int) us->IntsAre us ns:=by
 induction ns with
 | nil=>intro us r;rw [List.map_nil] at r;cases r;exact .nil
 | cons n ns ih =>
  intro us r
  rw [List.map_cons] at r
  cases r with
  | cons r1 r2 =>
   obtain⟨t,e⟩:=r1
   subst e
   exact .cons n t (ih r2)
section
variable {X:Cx} {e:Expr} {te:TE} {lo hi:Option Expr} {tl th:TO} {pos p2:Pos}
theorem qCr:PO X none qOd:=by
 intro pins s σ H Q I h
 rw [evalPart_none]
 exact wpAny_pure ⟨none,H,I,.none,h⟩
theorem qCq (h:PE X e te):PO X (some e) (tPart te):=by
 intro pins s σ H Q I hw
 rw [evalPart_some]
 refine thn (h pins s σ H _ I hw) fun u s1 hq_ => ?_
 obtain⟨x,H1,I1,r1,q1⟩:=hq_
 obtain⟨i,rfl,q⟩:=q1
 obtain⟨t,rfl⟩:=r1
 exact⟨some i,H1,I1,.int i t,q⟩
def SlR (X:Cx) (r:V->Option Int->Option Int->Hp->VK->Prop):Prop :=
 ∀(pins:List (Addr×Obj)) (s:Shared) (σ : St) (H:Hp) (x:V) (v vl vu:Value) (lo hi:Option Int) (sl:Addr) (Q:VK),Inv X pins σ H s->RelV x v->s.heap.IsSliceOf sl vl vu .none->IsPart vl lo->IsPart vu hi->r x lo hi H Q ->
  ∃T id,typeLookup (.type T) "__getitem__" = pure (some (.builtin id))/\s.TypeIs v T/\wpAny (model X.prog X.w) X.A (getItem v (.ref sl)) (EP X pins σ Q) X.xe s
def tSl (r:V->Option Int->Option Int->Hp->VK->Prop) (te:TE) (tl th:TO):TE:=fun σ H Q=>te σ H fun x H1=>tl σ H1 fun l H2=>th σ H2 fun u H3=>r x l u H3 Q
theorem qC0 {r:V->Option Int->Option Int->Hp->VK->Prop} (hr:SlR X r) (he:PE X e te) (hl:PO X lo tl) (hu:PO X hi th):PE X (.Subscript e (.Slice lo hi none p2) pos) (tSl r te tl th):=by
 intro pins s σ H Q I h
 refine Subscript_ (thn (he pins s σ H _ I h) fun v s1 hq_ => ?_)
 obtain⟨x,H1,I1,r1,q1⟩:=hq_
 refine wpAny_Slice (thn (hl pins s1 σ H1 _ I1 q1) fun vl s2 hq_ => ?_)
 obtain⟨l,H2,I2,pl,q2⟩:=hq_
 refine thn (hu pins s2 σ H2 _ I2 q2) fun vu s3 hq_ => ?_
 obtain⟨u,H3,I3,pu,q3⟩:=hq_
 rw [evalPart_none]
 refine wpAny_pure ?_
 have I4:Inv X pins σ H3 { s3 with heap:=s3.heap.push { cls :=.type "slice",data :=.fields #[vl,vu,.none] } }:=I3.kept (t':=s3.toks) fun b ob q=>Heap.get?_push_of_some _ q
 obtain⟨T,id,hT,ht,hg⟩:=hr pins { s3 with heap:=s3.heap.push { cls :=.type "slice",data :=.fields #[vl,vu,.none] } } σ H3 x v vl vu l u s3.heap.objs.size Q I4 r1 (Heap.IsSliceOf.new ..) pl pu q3
 show wpAny (model X.prog X.w) X.A (subscriptTail e (.Slice lo hi none p2) v (.ref s3.heap.objs.size)) (EP X pins σ Q) X.xe { s3 with heap:=s3.heap.push { cls :=.type "slice",data :=.fields #[vl,vu,.none] } }
 exact tail_any (ops :=[.ref s3.heap.objs.size,v]) ht hT hg (by with_unfolding_all rfl)
def cutV (xs:List V) (lo hi:Option Int):List V:=(xs.drop (HT.sIx xs.length 0 lo)).take (HT.sIx xs.length xs.length hi - HT.sIx xs.length 0 lo)
theorem qGz (xs:List V) (lo hi:Option Int):(cutV xs lo hi).length<=xs.length:=by
 unfold cutV
 rw [List.length_take,List.length_drop]
 omega
def rSlT (K:PySem.W.Frag):V->Option Int->Option Int->Hp->VK->Prop:=fun x lo hi H Q => ∃a xs,x = .ref a/\SqT K H a xs /\
 ¬(HT.sIx xs.length 0 lo=0/\HT.sIx xs.length xs.length hi=xs.length) /\ ∀p,H p=none->Q (.ref p) (upd H p (.tup (cutV xs lo hi)))
theorem qJr:SlR X (rSlT X.K):=by
 intro pins s σ H x v vl vu lo hi sl Q I rx hs pl pu h
 obtain⟨a,xs,rfl,hx,hw,q⟩:=h
 cases rx
 obtain⟨its,r,ht,hz⟩:=I.tuple hx
 have hlen:its.toArray.size=xs.length:=by rw [List.size_toArray];exact r.length.symm
 refine⟨"tuple",_,PyProof.Rows.slot_tuple_getitem.lookup,ht.typeIs,?_⟩
 refine HT.getItem_tuple_cut ht hs pl pu (by rw [hlen];exact hw) ?_ (by rw [hlen];exact hz)
 rw [hlen]
 refine⟨.ref s.heap.objs.size,_,I.laid (t':=s.toks) (o :=.tup (cutV xs lo hi)) (fun b ob q=>Heap.get?_push_of_some _ q) (Nat.le_refl _) ?_,rfl,q _ (I.hok.fresh (Nat.le_refl _))⟩
 exact⟨Nat.le_trans (qGz xs lo hi) hz,_,(r.drop (HT.sIx xs.length 0 lo)).take (HT.sIx xs.length xs.length hi - HT.sIx xs.length 0 lo),IsTup.new _ _⟩
end
def ixN (n:Nat) (i:Int):Option Nat:=if 0<=i then (if i<n then some i.toNat else none) else if -(n:Int)<=i then some (i+n).toNat else none
def atI {α : Type} (xs:List α) (i:Int):Option α :=(ixN xs.length i).bind fun j=>xs[j]?
theorem qQ1 {n:Nat} {i:Int} {j:Nat} (h:ixN n i=some j):seqIndex? i n=some j/\j<n /\ -(n:Int)<=i/\i<n:=by
 unfold ixN at h
 by_cases h0:0<=i
 ·rw [if_pos h0] at h
  by_cases h1:i<n
  ·rw [if_pos h1] at h
   have e:i.toNat=j:=Option.some.inj h
   exact⟨by rw [seqIndex_of h0 h1,e],by omega,by omega,h1⟩
  ·rw [if_neg h1] at h;cases h
 ·rw [if_neg h0] at h
  by_cases h1 : -(n:Int)<=i
  ·rw [if_pos h1] at h
   have e:(i+n).toNat=j:=Option.some.inj h
   exact⟨by rw [seqIndex_neg (by omega) h1,e],by omega,h1,by omega⟩
  ·rw [if_neg h1] at h;cases h
theorem qQs {α : Type} {xs:List α} {i:Int} {v : α} (h:atI xs i=some v) : ∃j,seqIndex? i xs.length=some j/\xs[j]? = some v/\j<xs.length /\ -(xs.length:Int)<=i/\i<xs.length:=by
 unfold atI at h
 cases e:ixN xs.length i with
 | none=>rw [e] at h;cases h
 | some j =>
  rw [e] at h
  obtain⟨h1,h2,h3,h4⟩:=qQ1 e
  exact⟨j,h1,h,h2,h3,h4⟩
theorem qAq {α : Type} {xs:List α} {j:Nat} {v : α} (h:xs[j]? = some v):atI xs (j:Int)=some v:=by
 have hj:j<xs.length:=(List.getElem?_eq_some_iff.mp h).1
 have e:ixN xs.length (j:Int)=some j:=by
  unfold ixN
  rw [if_pos (by omega),if_pos (by omega)];simp
 unfold atI;rw [e];exact h
theorem qSl {α : Type} (xs:List α) (v : α):atI (xs ++ [v]) (-1)=some v:=by
 have hl:(xs ++ [v]).length=xs.length+1:=by simp
 have e:ixN (xs ++ [v]).length (-1)=some xs.length:=by
  unfold ixN
  rw [hl,if_neg (by decide),if_pos (by omega)]
  congr 1
  omega
 unfold atI
 rw [e]
 show (xs ++ [v])[xs.length]? = some v
 simp
def qUs (b:Expr):Prop := ∀o i,subscripted b false o i=operate [o,i] (getItem o i)
def IxR (X:Cx) (r:R2):Prop :=
 ∀(value slice:Expr) (pins:List (Addr×Obj)) (s:Shared) (σ : St) (H:Hp) (x y:V) (v u:Value) (Q:VK),Inv X pins σ H s->RelV x v->RelV y u->r x y H Q ->
  subscripted slice false v u=operate [v,u] (getItem v u)->wpAny (model X.prog X.w) X.A (subscriptTail value slice v u) (EP X pins σ Q) X.xe s
def MtR (X:Cx) (id:String) (r:V->List V->Hp->VK->Prop):Prop :=
 ∀(pins:List (Addr×Obj)) (s:Shared) (σ : St) (H:Hp) (x:V) (xs:List V) (v:Value) (us:List Value) (Q:VK),Inv X pins σ H s->RelV x v->Vals xs us->r x xs H Q ->
  wpAny (model X.prog X.w) X.A (call (.builtin id) (v::us)) (EP X pins σ Q) X.xe s
section
variable {X:Cx} {a b:Expr} {ta tb:TE} {pos:Pos}
theorem qAr {r:R2} (hr:IxR X r) (ha:PE X a ta) (hb:PE X b tb) (hs:qUs b):PE X (.Subscript a b pos) (tOp r ta tb):=by
 intro pins s σ H Q I h
 exact Subscript_ (binT ha hb I h fun v u s2 x y H2 I2 rx ry q=>hr a b pins s2 σ H2 x y v u Q I2 rx ry q (hs _ _))
def rIxL (K:PySem.W.Frag):R2:=fun x y H Q => ∃p xs i v,x = .ref p/\y = .int i/\SqL K H p xs/\atI xs i=some v/\Q v H
def rIxT (K:PySem.W.Frag):R2:=fun x y H Q => ∃p xs i v,x = .ref p/\y = .int i/\SqT K H p xs/\atI xs i=some v/\Q v H
theorem qAi:IxR X (rIxL X.K):=by
 intro value slice pins s σ H x y v u Q I rx ry h hs
 obtain⟨p,xs,i,z,rfl,rfl,hq,he,q⟩:=h
 cases rx
 obtain⟨t,rfl⟩:=ry
 obtain⟨its,r,pl,hz⟩:=I.list hq
 obtain⟨j,h1,h2,h3,h4,h5⟩:=qQs he
 obtain⟨w,ew,rw'⟩:=r.get h2
 have hl:=r.length
 have hn:=qKc
 have fin:EP X pins σ Q w s:=⟨z,H,I,rw',q⟩
 by_cases h0:0<=i
 ·have hj:i.toNat=j:=by
   rw [seqIndex_of h0 h5] at h1
   exact Option.some.inj h1
  exact item_listR pl.isList h0 (by omega) (by rw [hj];simpa using ew) fin hs
 ·have hj:(i+(its.toArray.size:Int)).toNat=j:=by
   rw [seqIndex_neg (by omega) h4] at h1
   rw [List.size_toArray,<-hl]
   exact Option.some.inj h1
  exact subscriptTail_builtinR (x:=w) pl.isList.typeIs slot_list_getitem.lookup
   (wpAny_getItem_list_neg (Q:=fun r s'=>r=w/\EP X pins σ Q r s') pl.isList (by omega) (by rw [List.size_toArray] <;> omega) (by omega) (by rw [hj];simpa using ew) ⟨rfl,fin⟩) hs
theorem qCw:IxR X (rIxT X.K):=by
 intro value slice pins s σ H x y v u Q I rx ry h hs
 obtain⟨p,xs,i,z,rfl,rfl,hq,he,q⟩:=h
 cases rx
 obtain⟨t,rfl⟩:=ry
 obtain⟨its,r,pl,hz⟩:=I.tuple hq
 obtain⟨j,h1,h2,h3,h4,h5⟩:=qQs he
 obtain⟨w,ew,rw'⟩:=r.get h2
 have hl:=r.length
 have hn:=qKc
 have fin:EP X pins σ Q w s:=⟨z,H,I,rw',q⟩
 exact subscriptTail_builtinR (x:=w) pl.typeIs slot_tuple_getitem.lookup
  (getItem_tuple (j:=j) (Q:=fun r s'=>r=w/\EP X pins σ Q r s') pl (by omega) (by omega) (by rw [List.size_toArray,<-hl];exact h1) (by simpa using ew) ⟨rfl,fin⟩) hs
theorem qNv (its:List Value) (n j:Nat) (u:Value):Obj.mapSeq (·.setIfInBounds j u) { cls :=.type "list",data :=.seq its.toArray n } = { cls :=.type "list",data :=.seq (its.set j u).toArray n }:=by
 simp [Obj.mapSeq]
theorem Inv.lst {pins:List (Addr×Obj)} {σ : St} {H:Hp} {s:Shared} {p:Addr} {xs:List V} (I:Inv X pins σ H s) (h:H p=some (.lst xs)) :
  ∃(its:List Value) (n:Nat),Vals xs its/\s.heap.get? p=some { cls :=.type "list",data :=.seq its.toArray n }/\xs.length<=sizeLine:=by
 obtain⟨z,its,n,r,e⟩:=I.hok p _ h
 exact⟨its,n,r,e,z⟩
theorem Inv.lstUpd {pins:List (Addr×Obj)} {σ : St} {H:Hp} {s:Shared} {p:Addr} {xs ys:List V} {its its':List Value} {n n':Nat} {f:Obj->Obj} (I:Inv X pins σ H s) (h:H p=some (.lst xs))
  (ho:s.heap.get? p=some { cls :=.type "list",data :=.seq its.toArray n }) (hf:f { cls :=.type "list",data :=.seq its.toArray n } = { cls :=.type "list",data :=.seq its'.toArray n' }) (r:Vals ys its') (hz:ys.length<=sizeLine) (t:Nat) :
  Inv X pins σ (upd H p (.lst ys)) { s with heap:=s.heap.update p f,toks:=t }:=by
 have e:(s.heap.update p f).get? p=some { cls :=.type "list",data :=.seq its'.toArray n' }:=by
  rw [Heap.get?_update_self f ho (by rw [hf] <;> rfl),hf]
 refine I.write (x:=p) (e:=p) (by rw [h];trivial) (.inl rfl) (fun b u hb q=>(Heap.get?_update_other _ _ (Ne.symm hb)).trans q) ⟨_,e⟩ ?_
 exact⟨hz,its',n',r,e⟩
def rSetL:V->V->V->Hp->(Hp->Prop)->Prop:=fun o i v H Q => ∃p xs k j,o = .ref p/\i = .int k/\H p=some (.lst xs)/\ixN xs.length k=some j/\Q (upd H p (.lst (xs.set j v)))
theorem qMi:PSet X rSetL:=by
 intro pins s σ H o i v ov iv u Q I ro ri rv h
 obtain⟨p,xs,k,j,rfl,rfl,hp,hj,q⟩:=h
 cases ro
 obtain⟨t,rfl⟩:=ri
 obtain⟨its,n,r,ho,hz⟩:=I.lst hp
 obtain⟨h1,h2,h3,h4⟩:=qQ1 hj
 have hl:=r.length
 have hn:=qKc
 have I':Inv X pins σ (upd H p (.lst (xs.set j v))) { s with heap:=s.heap.update p (Obj.mapSeq (·.setIfInBounds j u)) } :=
  I.lstUpd hp ho (qNv its n j u) (r.set rv j) (by rw [List.length_set];exact hz) s.toks
 by_cases h0:0<=k
 ·have hk:k.toNat=j:=by
   rw [seqIndex_of h0 h4] at h1
   exact Option.some.inj h1
  exact PySem.W.ki_setAt ho h0 (by omega) (by rw [List.size_toArray,<-hl];exact h4) (by rw [hk];exact⟨_,I',q⟩)
 ·have hk:(k+(its.toArray.size:Int)).toNat=j:=by
   rw [seqIndex_neg (by omega) h3] at h1
   rw [List.size_toArray,<-hl]
   exact Option.some.inj h1
  exact PySem.W.ki_setBack ho (by omega) (by rw [List.size_toArray,<-hl];exact h3) (by omega) (by rw [hk];exact⟨_,I',q⟩)
theorem qJq (lo hi:Option Int) (n:Nat):(sliceBounds lo hi none n).1=((HT.sIx n 0 lo:Nat):Int)/\(sliceBounds lo hi none n).2.1=((HT.sIx n n hi:Nat):Int)/\(sliceBounds lo hi none n).2.2=1:=by
 refine⟨?_,?_,rfl⟩
 ·cases lo with
  | none=>simp [sliceBounds,HT.sIx]
  | some i =>
   simp only [sliceBounds,HT.sIx,Option.getD_none,show (1:Int)>0 by decide,if_true]
   by_cases h:i<0
   ·simp only [h,if_true] <;> omega
   ·simp only [h,if_false] <;> omega
 ·cases hi with
  | none=>simp [sliceBounds,HT.sIx]
  | some i =>
   simp only [sliceBounds,HT.sIx,Option.getD_none,show (1:Int)>0 by decide,if_true]
   by_cases h:i<0
   ·simp only [h,if_true] <;> omega
   ·simp only [h,if_false] <;> omega
theorem qIj (its:List Value) (lo hi:Option Int):slicePick its.toArray lo hi none=((its.drop (HT.sIx its.length 0 lo)).take (HT.sIx its.length its.length hi - HT.sIx its.length 0 lo)).toArray:=by
 obtain⟨h1,h2,h3⟩:=qJq lo hi its.toArray.size
 unfold slicePick
 rw [h1,h2,h3]
 simp only [sliceRange_one,pick_run,List.size_toArray] <;> rfl
def rSlL (K:PySem.W.Frag):V->Option Int->Option Int->Hp->VK->Prop:=fun x lo hi H Q => ∃a xs,x = .ref a/\SqL K H a xs /\ ∀p,H p=none->Q (.ref p) (upd H p (.lst (cutV xs lo hi)))
theorem qIk:SlR X (rSlL X.K):=by
 intro pins s σ H x v vl vu lo hi sl Q I rx hs pl pu h
 obtain⟨a,xs,rfl,hx,q⟩:=h
 cases rx
 obtain⟨its,r,ht,hz⟩:=I.list hx
 have hlen:=r.length
 refine⟨"list",_,slot_list_getitem.lookup,ht.isList.typeIs,?_⟩
 refine wpAny_getItem_list_slice ht.isList hs pl pu .none (by simp) ?_ (by rw [List.size_toArray] <;> omega)
 rw [qIj,<-hlen]
 refine⟨.ref s.heap.objs.size,_,I.laid (t':=s.toks) (o :=.lst (cutV xs lo hi)) (fun b ob q=>Heap.get?_push_of_some _ q) (Nat.le_refl _) ?_,rfl,q _ (I.hok.fresh (Nat.le_refl _))⟩
 exact⟨Nat.le_trans (qGz xs lo hi) hz,_,0,(r.drop (HT.sIx xs.length 0 lo)).take (HT.sIx xs.length xs.length hi - HT.sIx xs.length 0 lo),Heap.get?_push_size _ rfl⟩
def flatV:V->Bool
 | .non=>true
 | .bl _=>true
 | .int _=>true
 | .str _=>true
 | _=>false
def eqV:V->V->Bool
 | .non,.non=>true
 | .bl a,.bl b=>a == b
 | .bl a,.int b=>(if a then 1 else 0) == b
 | .int a,.bl b=>a == (if b then 1 else 0)
 | .int a,.int b=>a == b
 | .str a,.str b=>a == b
 | _,_=>false
theorem qWg {A:Around} {s:Shared} {y x:V} {u v:Value} (ry:RelV y u) (rx:RelV x v) (fy:flatV y=true) (fx:flatV x=true):SeqAt.EqAt A s u v (eqV y x):=by
 cases y with
 | non =>
  cases ry
  cases x with
  | non=>cases rx;exact SeqAt.EqAt.same _
  | bl b=>cases rx;exact SeqAt.EqAt.none_bool b
  | int b=>obtain⟨t,rfl⟩:=rx;exact SeqAt.EqAt.none_int b t
  | str b=>obtain⟨t,rfl⟩:=rx;exact SeqAt.EqAt.none_str b t
  | _=>exact absurd (show false=true from fx) Bool.false_ne_true
 | bl a =>
  cases ry
  cases x with
  | non=>cases rx;exact SeqAt.EqAt.bool_none a
  | bl b=>cases rx;exact SeqAt.EqAt.bool_bool a b
  | int b=>obtain⟨t,rfl⟩:=rx;exact SeqAt.EqAt.bool_int a b t
  | str b=>obtain⟨t,rfl⟩:=rx;exact SeqAt.EqAt.bool_str a b t
  | _=>exact absurd (show false=true from fx) Bool.false_ne_true
 | int a =>
  obtain⟨t',rfl⟩:=ry
  cases x with
  | non=>cases rx;exact SeqAt.EqAt.int_none a t'
  | bl b=>cases rx;exact SeqAt.EqAt.int_bool a t' b
  | int b=>obtain⟨t,rfl⟩:=rx;exact SeqAt.EqAt.int_int a t' b t
  | str b=>obtain⟨t,rfl⟩:=rx;exact SeqAt.EqAt.int_str a t' b t
  | _=>exact absurd (show false=true from fx) Bool.false_ne_true
 | str a =>
  obtain⟨t',rfl⟩:=ry
  cases x with
  | non=>cases rx;exact SeqAt.EqAt.str_none a t'
  | bl b=>cases rx;exact SeqAt.EqAt.str_bool a t' b
  | int b=>obtain⟨t,rfl⟩:=rx;exact SeqAt.EqAt.str_int a t' b t
  | str b=>obtain⟨t,rfl⟩:=rx;exact SeqAt.EqAt.str_str a t' b t
  | _=>exact absurd (show false=true from fx) Bool.false_ne_true
 | _=>exact absurd (show false=true from fy) Bool.false_ne_true
def eqU (x:V) (u:Value):Bool:=match u with
 | .none=>eqV .non x
 | .bool b=>eqV (.bl b) x
 | .int i _=>eqV (.int i) x
 | .str z _=>eqV (.str z) x
 | _=>false
theorem qTc {x y:V} {u:Value} (r:RelV y u) (f:flatV y=true):eqU x u=eqV y x:=by
 cases y with
 | non=>cases r;rfl
 | bl b=>cases r;rfl
 | int i=>obtain⟨t,rfl⟩:=r;rfl
 | str z=>obtain⟨t,rfl⟩:=r;rfl
 | _=>exact absurd (show false=true from f) Bool.false_ne_true
theorem qJb {x:V} {xs:List V} {us:List Value} (h:Vals xs us) (f:xs.all flatV=true):us.any (eqU x)=xs.any fun y=>eqV y x:=by
 induction h with
 | nil=>rfl
 | cons r t ih =>
  rw [List.all_cons,Bool.and_eq_true] at f
  rw [List.any_cons,List.any_cons,qTc r f.1,ih f.2]
theorem qG5 {A:Around} {s:Shared} {x:V} {v:Value} (rx:RelV x v) (fx:flatV x=true) {xs:List V} {us:List Value} (h:Vals xs us) (f:xs.all flatV=true) : ∀u∈us,SeqAt.EqAt A s u v (eqU x u):=by
 induction h with
 | nil=>intro u hu;cases hu
 | cons r t ih =>
  intro u' hu
  rw [List.all_cons,Bool.and_eq_true] at f
  rcases List.mem_cons.mp hu with rfl | hu
  ·rw [qTc r f.1];exact qWg r rx f.1 fx
  ·exact ih f.2 u' hu
def inV (x:V) (xs:List V):Bool:=xs.any fun y=>eqV y x
def rIn (K:PySem.W.Frag) (neg:Bool):R2:=fun x y H Q => ∃p xs,y = .ref p/\(SqL K H p xs\/SqT K H p xs)/\flatV x=true/\xs.all flatV=true/\Q (.bl (if neg then !inV x xs else inV x xs)) H
theorem qCh:OpR X (compareOp .In) (rIn X.K false):=by
 intro pins s σ H x y v u Q I rx ry h
 obtain⟨p,xs,rfl,hq,fx,fs,q⟩:=h
 cases ry
 rcases hq with hq | hq
 ·obtain⟨its,r,pl,hz⟩:=I.list hq
  refine SeqAt.in_listAt (eqU x) pl.isList (fun w hw=>qG5 rx fx r fs w (by simpa using hw)) ⟨.bl _,H,I,rfl,?_⟩
  rw [show its.toArray.any (eqU x)=its.any (eqU x) by simp,qJb r fs]
  exact q
 ·obtain⟨its,r,pl,hz⟩:=I.tuple hq
  refine SeqAt.in_tupleAt (eqU x) pl (fun w hw=>qG5 rx fx r fs w (by simpa using hw)) ⟨.bl _,H,I,rfl,?_⟩
  rw [show its.toArray.any (eqU x)=its.any (eqU x) by simp,qJb r fs]
  exact q
theorem qK1:OpR X (compareOp .NotIn) (rIn X.K true):=by
 intro pins s σ H x y v u Q I rx ry h
 obtain⟨p,xs,rfl,hq,fx,fs,q⟩:=h
 cases ry
 rcases hq with hq | hq
 ·obtain⟨its,r,pl,hz⟩:=I.list hq
  refine SeqAt.notIn_listAt (eqU x) pl.isList (fun w hw=>qG5 rx fx r fs w (by simpa using hw)) ⟨.bl _,H,I,rfl,?_⟩
  rw [show its.toArray.any (eqU x)=its.any (eqU x) by simp,qJb r fs]
  exact q
 ·obtain⟨its,r,pl,hz⟩:=I.tuple hq
  refine SeqAt.notIn_tupleAt (eqU x) pl (fun w hw=>qG5 rx fx r fs w (by simpa using hw)) ⟨.bl _,H,I,rfl,?_⟩
  rw [show its.toArray.any (eqU x)=its.any (eqU x) by simp,qJb r fs]
  exact q
theorem qAw:CallR X (.builtin "len") (fun xs H Q => ∃p ys,xs = [.ref p]/\(SqL X.K H p ys\/SqT X.K H p ys)/\Q (.int ys.length) H):=by
 intro pins s σ H xs us Q I r h
 obtain⟨p,ys,rfl,hq,q⟩:=h
 obtain⟨u,rfl,rx⟩:=vals1 r
 cases rx
 have hn:=qKc
 rcases hq with hq | hq
 ·obtain⟨its,r',pl,hz⟩:=I.list hq
  have hlen:=r'.length
  exact Calls.call_len_list pl.isList (by simp only [List.size_toArray] <;> omega) ⟨.int ys.length,H,I.tok _,⟨s.toks+1,by rw [List.size_toArray,hlen]⟩,q⟩
 ·obtain⟨its,r',pl,hz⟩:=I.tuple hq
  have hlen:=r'.length
  exact len_tuple pl (by simp only [List.size_toArray] <;> omega) ⟨.int ys.length,H,I.tok _,⟨s.toks+1,by rw [List.size_toArray,hlen]⟩,q⟩
theorem qC4:CallR X (.type "list") (fun xs H Q => ∃p ys,xs = [.ref p]/\(SqL X.K H p ys\/SqT X.K H p ys) /\ ∀l,H l=none->Q (.ref l) (upd H l (.lst ys))):=by
 intro pins s σ H xs us Q I r h
 obtain⟨p,ys,rfl,hq,q⟩:=h
 obtain⟨u,rfl,rx⟩:=vals1 r
 cases rx
 have fin : ∀(its:List Value),Vals ys its->ys.length<=sizeLine -> ∀(h':Heap) (c':Nat),(∀b o',s.heap.get? b=some o'->h'.get? b=some o') ->
   h'.get? s.heap.objs.size=some { cls :=.type "list",dict:=none,data :=.seq its.toArray c',slots := #[] }->EP X pins σ Q (.ref s.heap.objs.size) { s with heap:=h' }:=fun its r' hz h' c' kp e =>
  ⟨.ref s.heap.objs.size,_,I.laid (t':=s.toks) kp (Nat.le_refl _) (show ObjOk X.prog X.w _ h' _ (.lst ys) from⟨hz,its,c',r',e⟩),rfl,q _ (I.hok.fresh (Nat.le_refl _))⟩
 rcases hq with hq | hq
 ·obtain⟨its,r',pl,hz⟩:=I.list hq
  have hlen:=r'.length
  obtain⟨o,ho,hc,n,hd⟩:=pl.isList
  exact call_list_seq p (.inl rfl) ho hc hd (fun h' c' kp e=>fin its r' hz h' c' kp e) (by simp only [List.size_toArray] <;> omega)
 ·obtain⟨its,r',pl,hz⟩:=I.tuple hq
  have hlen:=r'.length
  obtain⟨o,ho,hc,n,hd⟩:=pl
  exact call_list_seq p (.inr rfl) ho hc hd (fun h' c' kp e=>fin its r' hz h' c' kp e) (by simp only [List.size_toArray] <;> omega)
def tyV (K:PySem.W.Frag) (T:String) (x:V) (H:Hp):Prop:=match x with
 | .str _=>T = "str"
 | .int _=>T = "int"
 | .ref p=>(T = "list" /\ ∃xs,SqL K H p xs)\/(T = "tuple" /\ ∃o,K.lookup p=some o/\o.cls = .type "tuple" /\ o.dict=none) \/
   (T = "dict" /\ ((∃kvs,H p=some (.dK kvs)) \/ ∃kvs,H p=some (.dT kvs)))\/(T = "set" /\ ∃S n,H p=some (.set S n))
 | _=>False
theorem qSr {pins:List (Addr×Obj)} {σ : St} {H:Hp} {s:Shared} {T:String} {x:V} {v:Value} (I:Inv X pins σ H s) (r:RelV x v) (ty:tyV X.K T x H) :
  s.TypeIs v T /\ ∀a,v = .ref a -> ∃ob,s.heap.get? a=some ob/\ob.dict=none:=by
 cases x with
 | str z =>
  obtain⟨t,rfl⟩:=r
  cases (show T = "str" from ty)
  exact⟨typeIs_str s z t,fun _ e=>nomatch e⟩
 | int i =>
  obtain⟨t,rfl⟩:=r
  cases (show T = "int" from ty)
  exact⟨typeIs_int s i t,fun _ e=>nomatch e⟩
 | ref p =>
  cases r
  rcases ty with ⟨rfl,xs,hq⟩ | ⟨rfl,o,hk,hc,hd⟩ | ⟨rfl,hk⟩ | ⟨rfl,S,n,hk⟩
  ·obtain⟨its,_,pl,_⟩:=I.list hq
   refine⟨pl.isList.typeIs,fun a e => ?_⟩
   cases e
   obtain⟨o,n,e,c,hd,_⟩:=pl
   exact⟨o,e,hd⟩
  ·refine⟨⟨o,I.kIn p o hk,hc⟩,fun a e => ?_⟩
   cases e
   exact⟨o,I.kIn _ o hk,hd⟩
  ·have z : ∃o,s.heap.get? p=some o/\o.ExactDict:=by
    rcases hk with ⟨kvs,hk⟩ | ⟨kvs,hk⟩
    ·obtain⟨_,_,_,_,o,_,_,e,ex,_⟩:=I.hok p _ hk
     exact⟨o,e,ex⟩
    ·obtain⟨_,_,_,_,o,_,_,e,ex,_⟩:=I.hok p _ hk
     exact⟨o,e,ex⟩
   obtain⟨o,e,ex⟩:=z
   refine⟨⟨o,e,ex.1⟩,fun a e2 => ?_⟩
   cases e2
   exact⟨o,e,ex.2.1⟩
  ·obtain⟨o,_,_,_,e,ex,_⟩:=I.hok p _ hk
   refine⟨⟨o,e,ex.1⟩,fun a e2 => ?_⟩
   cases e2
   exact⟨o,e,ex.2.1⟩
 | _=>exact False.elim ty
def tBM0 (K:PySem.W.Frag) (T:String) (r:V->List V->Hp->VK->Prop) (to:TE):TE:=fun σ H Q=>to σ H fun x H1=>tyV K T x H1/\r x [] H1 Q
def tBM (K:PySem.W.Frag) (T:String) (r:V->List V->Hp->VK->Prop) (to:TE) (t:TA):TE:=fun σ H Q=>to σ H fun x H1=>tyV K T x H1/\t σ H1 fun xs H2=>r x xs H2 Q
variable {o e:Expr} {es:List Expr} {to:TE} {t:TA} {name:Str} {apos cpos:Pos} {T id:String} {r:V->List V->Hp->VK->Prop}
theorem qHr (pa:PlainAttrs T) (slot:Slot T name id) (hty:typeOf (.builtin id)=pure (.type "method_descriptor")) (hm:MtR X id r) (ho:PE X o to)
  (hbase:attributeBase o name X.env (eval o X.env)=eval o X.env:=by rfl) (hline:(apos.endLine == cpos.line)=true:=by rfl):PE X (.Call (.Attribute o name apos) [] [] cpos) (tBM0 X.K T r to):=by
 intro pins s σ H Q I h
 refine wpAny_Call_method0_late hbase hline (thn (ho pins s σ H _ I h) fun v s1 hq_ => ?_)
 obtain⟨x,H1,I1,r1,ty,q1⟩:=hq_
 obtain⟨h1,h2⟩:=qSr I1 r1 ty
 exact⟨T,id,pa,slot,hty,h1,h2,Calls.callWith_builtin rfl (PySem.evalArgs_none (hm pins s1 σ H1 x [] v [] Q I1 r1 .nil q1))⟩
theorem qE3 (pa:PlainAttrs T) (slot:Slot T name id) (hty:typeOf (.builtin id)=pure (.type "method_descriptor")) (hm:MtR X id r) (ho:PE X o to) (ha:PA X (e::es) t)
  (hbase:attributeBase o name X.env (eval o X.env)=eval o X.env:=by rfl)
  (hfew:((backTo cpos (starEach (e::es) X.env)).all (fun x => !x.1)&&(backToKw cpos (keywordEach [] X.env)).all (fun x=>x.1.isSome)
   && decide ((e::es).length+([]:List Keyword).length+(if ([]:List Keyword).isEmpty then 0 else 1)<30))=true:=by rfl)
  (hline:(apos.endLine == cpos.line)=true:=by rfl) (hs:starEach (e::es) X.env=(false,eval e X.env)::starEach es X.env:=by rfl) (hplain:(backTo cpos (starEach es X.env)).any (·.1)=false:=by rfl) :
  PE X (.Call (.Attribute o name apos) (e::es) [] cpos) (tBM X.K T r to t):=by
 intro pins s σ H Q I h
 refine wpAny_Call_method_late hbase hfew hline rfl (thn (ho pins s σ H _ I h) fun v s1 hq_ => ?_)
 obtain⟨x,H1,I1,r1,ty,q1⟩:=hq_
 obtain⟨h1,h2⟩:=qSr I1 r1 ty
 refine⟨T,id,pa,slot,hty,h1,h2,?_⟩
 have hA:=ha cpos pins s1 σ H1 _ I1 q1
 rw [hs] at hA ⊢
 refine Calls.callWith_builtin (by show (false||(backTo cpos (starEach es X.env)).any (·.1))=false;rw [hplain] <;> rfl) (Calls.evalArgs_plain ?_)
 refine thn hA fun us s2 hq_ => ?_
 obtain⟨vs,H2,I2,r2,q2⟩:=hq_
 exact hm pins s2 σ H2 x vs v us Q I2 r1 r2 q2
end
def MtM (X:Cx) (id:String) (r:V->List V->Hp->VK->Prop):Prop :=
 ∀(pins:List (Addr×Obj)) (s:Shared) (σ : St) (H:Hp) (x:V) (xs:List V) (v:Value) (us:List Value) (Q:VK),Inv X pins σ H s->RelV x v->Vals xs us->r x xs H Q ->
  wpAny (model X.prog X.w) X.A (call (.builtin id) (v::us)) (EP X pins σ Q) X.xe s
theorem Vals.one {x:V} {us:List Value} (h:Vals [x] us) : ∃u,us = [u]/\RelV x u:=by
 cases h with | cons r t=>cases t;exact⟨_,rfl,r⟩
theorem Vals.zero : ∀ {us:List Value},Vals [] us->us = []
 | _,.nil=>rfl
theorem Vals.dropLast {xs:List V} {us:List Value} (h:Vals xs us):Vals xs.dropLast us.dropLast:=by
 induction h with
 | nil=>exact .nil
 | cons r t ih =>
  cases t with
  | nil=>exact .nil
  | cons q t'=>exact .cons r ih
theorem Vals.eraseIdx : ∀ {xs:List V} {us:List Value} (i:Nat),Vals xs us->Vals (xs.eraseIdx i) (us.eraseIdx i)
 | _,_,_,.nil =>.nil
 | _,_,0,.cons _ t=>t
 | _,_,i+1,.cons r t =>.cons r (Vals.eraseIdx i t)
theorem qO0 {α : Type} (l:List α):l.eraseIdx (l.length - 1)=l.dropLast:=by
 induction l with
 | nil=>rfl
 | cons a r ih =>
  cases r with
  | nil=>rfl
  | cons b r =>
   have e:(a::b::r).length - 1=((b::r).length - 1)+1:=by
    have h1:(a::b::r).length=r.length+2:=rfl
    have h2:(b::r).length=r.length+1:=rfl
    omega
   rw [e,List.eraseIdx_cons_succ,ih]
   all_goals rfl
theorem qKd {α : Type} : ∀(l:List α) (i:Nat),(l.eraseIdx i).length<=l.length
 | [],_=>Nat.le_refl _
 | _::_,0=>Nat.le_succ _
 | _::r,i+1=>Nat.succ_le_succ (qKd r i)
section
variable {X:Cx} {pins:List (Addr×Obj)} {σ : St} {H:Hp} {s:Shared} {l b:Addr} {xs ys zs:List V}
theorem Inv.lset {its its':List Value} {n:Nat} {f:Array Value->Array Value} {t':Nat} (I:Inv X pins σ H s) (hH:H l=some (.lst xs))
  (e:s.heap.get? l=some { cls :=.type "list",data :=.seq its.toArray n }) (hf:f its.toArray=its'.toArray) (hv:Vals ys its') (hz:ys.length<=sizeLine) :
  Inv X pins σ (upd H l (.lst ys)) { s with heap:=s.heap.update l (Obj.mapSeq f),toks:=t' }:=by
 have q:=PySem.IsL.update e f
 rw [hf] at q
 refine I.write (x:=l) (e:=l) (by rw [hH];exact trivial) (.inl rfl) (fun b' u hb hu=>(Heap.get?_update_other s.heap (Obj.mapSeq f) (Ne.symm hb)).trans hu) ⟨_,q⟩ ?_
 exact⟨hz,its',_,hv,q⟩
theorem Inv.lnew {its:List Value} {t':Nat} (I:Inv X pins σ H s) (hv:Vals ys its) (hz:ys.length<=sizeLine) :
  Inv X pins σ (upd H s.heap.objs.size (.lst ys)) { s with heap:=s.heap.push { cls :=.type "list",data :=.seq its.toArray },toks:=t' } :=
 I.laid (fun _ _ q=>Heap.get?_push_of_some _ q) (Nat.le_refl _) ⟨hz,its,0,hv,Heap.get?_push_size _ rfl⟩
theorem Inv.fresh (I:Inv X pins σ H s):H s.heap.objs.size=none:=I.hok.fresh (Nat.le_refl _)
theorem Inv.lstM (I:Inv X pins σ H s) (hH:H l=some (.lst xs)):xs.length<=sizeLine /\ ∃(its:List Value) (n:Nat),Vals xs its/\xs.length=its.length/\s.heap.get? l=some { cls :=.type "list",data :=.seq its.toArray n }:=by
 obtain⟨z,its,n,r,e⟩:=I.hok l _ hH
 exact⟨z,its,n,r,r.length,e⟩
theorem qS4 {n:Nat} (h:n<=sizeLine):Builtin.List.listTooLong n=false:=by
 unfold Builtin.List.listTooLong
 exact decide_eq_false (by omega)
end
section
variable {X:Cx}
def qIn:V->List V->Hp->VK->Prop:=fun x vs H Q => ∃l xs y,x = .ref l/\vs = [y]/\H l=some (.lst xs)/\xs.length<sizeLine/\Q .non (upd H l (.lst (xs ++ [y])))
theorem qBg:MtM X "list.append" qIn:=by
 intro pins s σ H x vs v us Q I rx rv h
 obtain⟨l,xs,y,rfl,rfl,hH,hz,q⟩:=h
 cases rx
 obtain⟨u,rfl,ru⟩:=rv.one
 obtain⟨z,its,n,r,hl,e⟩:=I.lstM hH
 refine call_meets F.slot_list_append ⟨_,e,rfl⟩ F.entry_list_append (F.args_list_append_2 _ _) (PySem.list_append l its.toArray n u (by rw [List.size_toArray];omega)) ⟨e,?_⟩
 refine⟨.non,_,I.lset (its':=its ++ [u]) hH e (by simp) (r.append (.cons ru .nil)) ?_,rfl,q⟩
 rw [List.length_append,List.length_singleton]
 omega
def qOw:V->List V->Hp->VK->Prop:=fun x vs H Q => ∃l b xs zs,x = .ref l/\vs = [.ref b]/\H l=some (.lst xs)/\H b=some (.lst zs)/\xs.length+zs.length<=sizeLine/\Q .non (upd H l (.lst (xs++zs)))
theorem qEt:MtM X "list.extend" qOw:=by
 intro pins s σ H x vs v us Q I rx rv h
 obtain⟨l,b,xs,zs,rfl,rfl,hH,hB,hz,q⟩:=h
 cases rx
 obtain⟨u,rfl,ru⟩:=rv.one
 cases ru
 obtain⟨z,its,n,r,hl,e⟩:=I.lstM hH
 obtain⟨z2,its2,n2,r2,hl2,e2⟩:=I.lstM hB
 have hsz:its.toArray.size+its2.toArray.size<=sizeLine:=by rw [List.size_toArray,List.size_toArray];omega
 have hlong : ¬(!its.toArray.isEmpty&&Builtin.List.listTooLong (its.toArray.size+its2.toArray.size))=true:=by
  rw [qS4 hsz,Bool.and_false]
  exact Bool.false_ne_true
 refine call_meets F.slot_list_extend ⟨_,e,rfl⟩ F.entry_list_extend (F.args_list_extend_2 _ _)
  (AutoSeq1.list_extend_list_list_0 l its.toArray n b its2.toArray n2 hlong (by rw [List.size_toArray];omega) (by omega)) ⟨e,e2,?_⟩
 refine⟨.non,_,I.lset (its':=its++its2) hH e (by simp) (r.append r2) ?_,rfl,q⟩
 rw [List.length_append]
 omega
def rPop:V->List V->Hp->VK->Prop:=fun x vs H Q => ∃l xs y,x = .ref l/\vs = []/\H l=some (.lst xs)/\xs[xs.length - 1]? = some y/\Q y (upd H l (.lst xs.dropLast))
theorem qPm:MtM X "list.pop" rPop:=by
 intro pins s σ H x vs v us Q I rx rv h
 obtain⟨l,xs,y,rfl,rfl,hH,hy,q⟩:=h
 cases rx
 have hus:=rv.zero
 subst hus
 obtain⟨z,its,n,r,hl,e⟩:=I.lstM hH
 obtain⟨u,hu,ru⟩:=r.get hy
 have hy':its.toArray[its.toArray.size - 1]? = some u:=by
  show its.toArray[its.length - 1]? = some u
  rw [<-Array.getElem?_toList,<-hl]
  exact hu
 refine call_meets F.slot_list_pop ⟨_,e,rfl⟩ F.entry_list_pop (F.args_list_pop_1 _) (MeetsSeq.list_pop_last l its.toArray n u hy' (by rw [List.size_toArray];omega)) ⟨e,?_⟩
 refine⟨y,_,I.lset (its':=its.dropLast) hH e ?_ r.dropLast ?_,ru,q⟩
 ·show its.toArray.eraseIdxIfInBounds (its.toArray.size - 1)=its.dropLast.toArray
  rw [List.size_toArray,List.eraseIdxIfInBounds_toArray,qO0]
 ·rw [List.length_dropLast]
  omega
def qVv:V->List V->Hp->VK->Prop:=fun x vs H Q => ∃l xs i k y,x = .ref l/\vs = [.int i]/\H l=some (.lst xs) /\ -(2^63)<=i/\i<2^63/\seqIndex? i xs.length=some k/\xs[k]? = some y/\Q y (upd H l (.lst (xs.eraseIdx k)))
theorem qS6:MtM X "list.pop" qVv:=by
 intro pins s σ H x vs v us Q I rx rv h
 obtain⟨l,xs,i,k,y,rfl,rfl,hH,h1,h2,hk,hy,q⟩:=h
 cases rx
 obtain⟨u,rfl,ru⟩:=rv.one
 obtain⟨t,rfl⟩:=ru
 obtain⟨z,its,n,r,hl,e⟩:=I.lstM hH
 obtain⟨w,hw,rw'⟩:=r.get hy
 refine call_meets F.slot_list_pop ⟨_,e,rfl⟩ F.entry_list_pop (F.args_list_pop_2 _ _)
  (MeetsSeq.list_pop_at l its.toArray n i t k w (fitsIndex_both h1 h2) (by rw [List.size_toArray,<-hl];exact hk) (by rw [<-Array.getElem?_toList];exact hw) (by rw [List.size_toArray];omega)) ⟨e,?_⟩
 refine⟨y,_,I.lset (its':=its.eraseIdx k) hH e ?_ (r.eraseIdx k) ?_,rw',q⟩
 ·show its.toArray.eraseIdxIfInBounds k=(its.eraseIdx k).toArray
  rw [List.eraseIdxIfInBounds_toArray]
 ·have:=qKd xs k
  omega
def rCat:R2:=fun x y H Q => ∃l b xs zs,x = .ref l/\y = .ref b/\H l=some (.lst xs)/\H b=some (.lst zs)/\xs.length+zs.length<=sizeLine /\ ∀p,H p=none->Q (.ref p) (upd H p (.lst (xs++zs)))
theorem qMo:OpR X (binaryOp .Add) rCat:=by
 intro pins s σ H x y v u Q I rx ry h
 obtain⟨l,b,xs,zs,rfl,rfl,hH,hB,hz,q⟩:=h
 cases rx
 cases ry
 obtain⟨z,its,n,r,hl,e⟩:=I.lstM hH
 obtain⟨z2,its2,n2,r2,hl2,e2⟩:=I.lstM hB
 refine PySem.P.add_list e e2 ?_ (by rw [List.size_toArray,List.size_toArray];omega)
 have ea:its.toArray++its2.toArray=(its++its2).toArray:=by simp
 rw [ea]
 exact⟨.ref _,_,I.lnew (t':=s.toks) (r.append r2) (by rw [List.length_append];omega),rfl,q _ I.fresh⟩
end
section
variable {κ : Type} [DecidableEq κ]
def valV (kvs:List (κ × V)) (k : κ):Option V:=(kvs.find? fun kv=>decide (kv.1=k)).map (·.2)
def putK (kvs:List (κ × V)) (k : κ) (v:V):List (κ × V) :=
 if (kvs.any fun kv=>decide (kv.1=k))=true then kvs.map (fun kv=>if kv.1=k then (kv.1,v) else kv) else kvs ++ [(k,v)]
theorem qBi {p : κ × V} {r:List (κ × V)} {k : κ} (e:p.1=k):valV (p::r) k=some p.2:=by simp [valV,List.find?_cons,e]
theorem qBj {p : κ × V} {r:List (κ × V)} {k : κ} (e : ¬p.1=k):valV (p::r) k=valV r k:=by simp [valV,List.find?_cons,e]
theorem qEo (k : κ) : ∀kvs:List (κ × V),(kvs.any fun kv=>decide (kv.1=k))=(valV kvs k).isSome
 | []=>rfl
 | p::r=>by
  rw [List.any_cons]
  by_cases e:p.1=k
  ·simp only [qBi e,decide_eq_true e,Bool.true_or,Option.isSome_some]
  ·rw [qBj e,decide_eq_false e,Bool.false_or];exact qEo k r
theorem qMa (k j : κ) (y:V) : ∀kvs:List (κ × V),valV (kvs.map fun kv=>if kv.1=k then (kv.1,y) else kv) j=(valV kvs j).map fun x=>if j=k then y else x
 | []=>rfl
 | p::r=>by
  have ih:=qMa k j y r
  rw [List.map_cons]
  by_cases h:p.1=k
  ·rw [if_pos h]
   by_cases e:p.1=j
   ·rw [qBi (p:=(p.1,y)) e,qBi e,Option.map_some,if_pos (e.symm.trans h)]
   ·rw [qBj (p:=(p.1,y)) e,qBj e,ih]
  ·rw [if_neg h]
   by_cases e:p.1=j
   ·rw [qBi (p:=p) e,qBi e,Option.map_some,if_neg (fun z=>h (e.trans z))]
   ·rw [qBj (p:=p) e,qBj e,ih]
theorem qJg (k j : κ) (y:V) : ∀kvs:List (κ × V),valV kvs k=none->valV (kvs ++ [(k,y)]) j=if j=k then some y else valV kvs j
 | [],_=>by
  by_cases e:k=j
  ·rw [if_pos e.symm];exact qBi (p:=(k,y)) e
  ·rw [if_neg (fun z=>e z.symm)];exact qBj (p:=(k,y)) e
 | p::r,hn=>by
  rw [List.cons_append]
  have hk : ¬p.1=k:=fun z=>by rw [qBi z] at hn;cases hn
  rw [qBj hk] at hn
  have ih:=qJg k j y r hn
  by_cases e:p.1=j
  ·rw [qBi e,qBi e,if_neg (fun z=>hk (e.trans z))]
  ·rw [qBj e,qBj e,ih]
theorem qEn (kvs:List (κ × V)) (k j : κ) (y:V):valV (putK kvs k y) j=if j=k then some y else valV kvs j:=by
 unfold putK
 by_cases a:(kvs.any fun kv=>decide (kv.1=k))=true
 ·rw [if_pos a,qMa]
  rw [qEo] at a
  by_cases e:j=k
  ·obtain⟨x,hx⟩:=Option.isSome_iff_exists.mp a
   rw [if_pos e,e,hx,Option.map_some,if_pos rfl]
  ·rw [if_neg e]
   cases valV kvs j with
   | none=>rfl
   | some x=>rw [Option.map_some,if_neg e]
 ·rw [if_neg a]
  refine qJg k j y kvs ?_
  rw [qEo] at a
  cases q:valV kvs k with
  | none=>rfl
  | some x=>rw [q] at a;exact (a rfl).elim
theorem qBh (kvs:List (κ × V)) (k : κ) (v:V):(putK kvs k v).length<=kvs.length+1:=by
 unfold putK
 split
 ·rw [List.length_map];omega
 ·rw [List.length_append,List.length_cons,List.length_nil];omega
theorem qIo {kvs:List (κ × V)} {k : κ} (v:V) (h:valV kvs k=none):putK kvs k v=kvs ++ [(k,v)]:=by
 unfold putK
 rw [qEo,h]
 exact if_neg (by decide)
theorem RelO.isSome_eq {o:Option V} {u:Option Value} (r:RelO o u):o.isSome=u.isSome:=by
 cases o with
 | none=>cases u with
  | none=>rfl
  | some _=>exact (show False from r).elim
 | some _=>cases u with
  | none=>exact (show False from r).elim
  | some _=>rfl
theorem RelO.getD {o:Option V} {u:Option Value} {d:V} {d':Value} (r:RelO o u) (rd:RelV d d'):RelV (o.getD d) (u.getD d'):=by
 cases o with
 | none=>cases u with
  | none=>exact rd
  | some _=>exact (show False from r).elim
 | some _=>cases u with
  | none=>exact (show False from r).elim
  | some _=>exact r
theorem KV.val {kvs:List (κ × V)} {vs:List (κ × Value)} (r:KV kvs vs) (k : κ):RelO (valV kvs k) (valueAt vs k):=by
 unfold KV at r
 induction r with
 | nil=>exact True.intro
 | @cons p q ps qs h t ih =>
  obtain⟨h1,h2⟩:=h
  by_cases e:p.1=k
  ·have e':q.1=k:=h1.symm.trans e
   have b:valueAt (q::qs) k=some q.2:=by simp [valueAt,List.find?_cons,e']
   rw [qBi e,b];exact h2
  ·have e' : ¬q.1=k:=fun z=>e (h1.trans z)
   have b:valueAt (q::qs) k=valueAt qs k:=by simp [valueAt,List.find?_cons,e']
   rw [qBj e,b];exact ih
theorem KV.any {kvs:List (κ × V)} {vs:List (κ × Value)} (r:KV kvs vs) (k : κ):(kvs.any fun kv=>decide (kv.1=k))=vs.any fun kv=>decide (kv.1=k):=by
 unfold KV at r
 induction r with
 | nil=>rfl
 | cons h t ih=>rw [List.any_cons,List.any_cons,ih,h.1]
theorem KV.repl {kvs:List (κ × V)} {vs:List (κ × Value)} (r:KV kvs vs) (k : κ) {y:V} {u:Value} (ry:RelV y u) :
  KV (kvs.map fun kv=>if kv.1=k then (kv.1,y) else kv) (vs.map fun kv=>if kv.1=k then (kv.1,u) else kv):=by
 unfold KV at r ⊢
 induction r with
 | nil=>exact .nil
 | @cons p q ps qs h t ih =>
  rw [List.map_cons,List.map_cons]
  refine .cons ?_ ih
  obtain⟨h1,h2⟩:=h
  by_cases e:p.1=k
  ·rw [if_pos e,if_pos (h1.symm.trans e)];exact⟨h1,ry⟩
  ·rw [if_neg e,if_neg (fun z=>e (h1.trans z))];exact⟨h1,h2⟩
theorem KV.put {kvs:List (κ × V)} {vs:List (κ × Value)} (r:KV kvs vs) (k : κ) {y:V} {u:Value} (ry:RelV y u):KV (putK kvs k y) (stored vs k u):=by
 unfold putK stored
 rw [r.any k]
 by_cases e:(vs.any fun kv=>decide (kv.1=k))=true
 ·rw [if_pos e,if_pos e];exact r.repl k ry
 ·rw [if_neg e,if_neg e];exact Paired.snoc r ⟨rfl,ry⟩
theorem KV.keys {kvs:List (κ × V)} {vs:List (κ × Value)} (r:KV kvs vs):kvs.map (·.1)=vs.map (·.1):=by
 unfold KV at r
 induction r with
 | nil=>rfl
 | cons h t ih=>rw [List.map_cons,List.map_cons,ih,h.1]
theorem KV.length {kvs:List (κ × V)} {vs:List (κ × Value)} (r:KV kvs vs):kvs.length=vs.length:=Paired.length r
end
theorem qKi {P:Program} {w:World} {k:Key} {u:Value} (r:RelV (kV k) u):(qAp P w).is k u=true:=by
 cases k with
 | inl i=>obtain⟨t,e⟩:=(show ∃t,u=Value.int i t from r);subst e;exact qLt P w i t
 | inr x=>obtain⟨t,e⟩:=(show ∃t,u=Value.str x t from r);subst e;exact qLs P w x t
theorem qKj {P:Program} {w:World} : ∀ {ks:List Key} {us:List Value},Vals (ks.map kV) us->ItemsAre (qAp P w) ks us
 | [],_,r=>by rw [List.map_nil] at r;cases r;exact .nil
 | k::ks,_,r=>by
  rw [List.map_cons] at r
  cases r with
  | cons h t=>exact .cons (qKi h) (qKj t)
abbrev KT (H:Hp):List (List Key×V)->List (List Key×Addr×Value)->Prop:=Paired fun p q=>p.1=q.1/\H q.2.1=some (.tup (p.1.map kV))/\RelV p.2 q.2.2
theorem KT.val {H:Hp} {kvs:List (List Key×V)} {xs:List (List Key×Addr×Value)} (r:KT H kvs xs) (k:List Key):RelO (valV kvs k) ((atKey xs k).map (·.2)):=by
 induction r with
 | nil=>exact True.intro
 | @cons p q ps qs h t ih =>
  obtain⟨h1,_,h2⟩:=h
  by_cases e:p.1=k
  ·have e':q.1=k:=h1.symm.trans e
   have b:atKey (q::qs) k=some q.2:=by simp [atKey,List.find?_cons,e']
   rw [qBi e,b];exact h2
  ·have e' : ¬q.1=k:=fun z=>e (h1.trans z)
   have b:atKey (q::qs) k=atKey qs k:=by simp [atKey,List.find?_cons,e']
   rw [qBj e,b];exact ih
theorem KT.repl {H:Hp} {kvs:List (List Key×V)} {xs:List (List Key×Addr×Value)} (r:KT H kvs xs) (k:List Key) {y:V} {u:Value} (ry:RelV y u) :
  KT H (kvs.map fun kv=>if kv.1=k then (kv.1,y) else kv) (xs.map (putAt k u)):=by
 induction r with
 | nil=>exact .nil
 | @cons p q ps qs h t ih =>
  rw [List.map_cons,List.map_cons]
  refine .cons ?_ ih
  obtain⟨h1,h2,h3⟩:=h
  unfold putAt
  by_cases e:p.1=k
  ·rw [if_pos e,if_pos (h1.symm.trans e)];exact⟨h1,h2,ry⟩
  ·rw [if_neg e,if_neg (fun z=>e (h1.trans z))];exact⟨h1,h2,h3⟩
theorem KT.put {H:Hp} {kvs:List (List Key×V)} {xs:List (List Key×Addr×Value)} (r:KT H kvs xs) (k:List Key) {b:Addr} {y:V} {u:Value} (hb:H b=some (.tup (k.map kV))) (ry:RelV y u) :
  KT H (putK kvs k y) (storedH xs k b u):=by
 have e:(kvs.any fun kv=>decide (kv.1=k))=(atKey xs k).isSome:=by
  rw [qEo,(r.val k).isSome_eq,Option.isSome_map]
 unfold putK storedH
 rw [e]
 by_cases q:(atKey xs k).isSome=true
 ·rw [if_pos q,if_pos q];exact r.repl k ry
 ·rw [if_neg q,if_neg q];exact Paired.snoc r ⟨rfl,hb,ry⟩
theorem KT.keeps {H H':Hp} {kvs:List (List Key×V)} {xs:List (List Key×Addr×Value)} (r:KT H kvs xs) (ht : ∀b ys,H b=some (.tup ys)->H' b=some (.tup ys)):KT H' kvs xs :=
 Paired.mapP r fun _ _ z=>⟨z.1,ht _ _ z.2.1,z.2.2⟩
section
variable {P:Program} {w:World} {H:Hp} {h:Heap} {a:Addr}
theorem qV4 {u:HO} (ok:HOk P w H h) (e:Rd H a u):ObjOk P w H h a u:=e.ok ok
theorem qM1 {kvs:List (Key×V)} (ok:HOk P w H h) (e:Rd H a (.dK kvs)):kvs.length<=sizeLine/\(a == sysModules)=false /\ ∃vs,KV kvs vs/\h.DictOf (qAp P w) a vs :=
 show ObjOk P w H h a (.dK kvs) from qV4 ok e
theorem qH7 {kvs:List (Key×V)} (ok:HOk P w H h) (e:H a=some (.dK kvs)):kvs.length<=sizeLine/\(a == sysModules)=false /\ ∃vs,KV kvs vs/\h.DictOf (qAp P w) a vs:=qM1 ok (.inl e)
theorem qGv {ks:List Key} (ok:HOk P w H h) (e:H a=some (.tup (ks.map kV))):(tupleKind (qAp P w)).is h ks a:=by
 obtain⟨_,its,r,o,h1,h2,n,h3⟩:=(show ObjOk P w H h a (.tup (ks.map kV)) from ok a _ e)
 exact⟨o,its.toArray,n,h1,h2,h3,by simpa using qKj r⟩
theorem qM0 {kvs:List (List Key×V)} (ok:HOk P w H h) (e:Rd H a (.dT kvs)):kvs.length<=sizeLine/\(a == sysModules)=false /\
  ∃xs,KT H kvs xs/\h.DictOfH (tupleKind (qAp P w)) a xs:=by
 obtain⟨z,y,xs,r,o,es,ep,h1,h2,h3,h4,h5⟩:=(show ObjOk P w H h a (.dT kvs) from qV4 ok e)
 refine⟨z,y,xs,r,o,es,ep,h1,h2,h3,h4,fun x hx => ?_,h5⟩
 have all : ∀ {l:List (List Key×V)} {m:List (List Key×Addr×Value)},KT H l m -> ∀x∈m,(tupleKind (qAp P w)).is h x.1 x.2.1:=by
  intro l m q
  induction q with
  | nil=>intro x hx;exact nomatch hx
  | @cons p q ps qs hq t ih =>
   intro x hx
   rcases List.mem_cons.mp hx with e | hx
   ·subst e
    exact qGv ok (by rw [<-hq.1];exact hq.2.1)
   ·exact ih x hx
 exact all r x hx
theorem qWh {kvs:List (List Key×V)} (ok:HOk P w H h) (e:H a=some (.dT kvs)):kvs.length<=sizeLine/\(a == sysModules)=false /\
  ∃xs,KT H kvs xs/\h.DictOfH (tupleKind (qAp P w)) a xs:=qM0 ok (.inl e)
end
def DGet (H:Hp) (a:Addr) (y:V) (r:Option V):Prop :=
 (∃kvs k,Rd H a (.dK kvs)/\y=kV k/\r=valV kvs k) \/ ∃kvs k b,Rd H a (.dT kvs)/\y = .ref b/\H b=some (.tup (k.map kV))/\r=valV kvs k
def DPut (H:Hp) (a:Addr) (y v:V) (H':Hp):Prop :=
 (∃kvs k,H a=some (.dK kvs)/\y=kV k/\kvs.length<sizeLine/\H'=upd H a (.dK (putK kvs k v))) \/
 ∃kvs k b,H a=some (.dT kvs)/\y = .ref b/\H b=some (.tup (k.map kV))/\kvs.length<sizeLine/\H'=upd H a (.dT (putK kvs k v))
theorem DGet.k {H:Hp} {a:Addr} {kvs:List (Key×V)} {k:Key} (e:H a=some (.dK kvs)):DGet H a (kV k) (valV kvs k) :=.inl ⟨kvs,k,.inl e,rfl,rfl⟩
theorem DGet.t {H:Hp} {a b:Addr} {kvs:List (List Key×V)} {k:List Key} (e:H a=some (.dT kvs)) (eb:H b=some (.tup (k.map kV))):DGet H a (.ref b) (valV kvs k) :=.inr ⟨kvs,k,b,.inl e,rfl,eb,rfl⟩
theorem DPut.k {H:Hp} {a:Addr} {kvs:List (Key×V)} {k:Key} {v:V} (e:H a=some (.dK kvs)) (hl:kvs.length<sizeLine):DPut H a (kV k) v (upd H a (.dK (putK kvs k v))) :=.inl ⟨kvs,k,e,rfl,hl,rfl⟩
theorem DPut.t {H:Hp} {a b:Addr} {kvs:List (List Key×V)} {k:List Key} {v:V} (e:H a=some (.dT kvs)) (eb:H b=some (.tup (k.map kV))) (hl:kvs.length<sizeLine) :
  DPut H a (.ref b) v (upd H a (.dT (putK kvs k v))) :=.inr ⟨kvs,k,b,e,rfl,eb,hl,rfl⟩
section
variable {X:Cx} {pins:List (Addr×Obj)} {σ : St} {H:Hp} {s:Shared} {a:Addr} {y v:V} {u r:Value} {o:Option V} {A:Around} {E:Value->Shared->Prop}
theorem Inv.big (I:Inv X pins σ H s):sysModules<s.heap.objs.size:=by
 have h:mainGlobals<s.heap.objs.size:=(I.mod.glob.keeps I.bk).lt
 exact Nat.lt_trans (by decide) h
theorem qQh {Q:Value->Shared->Prop} (hu:A.units+1<cLine) (I:Inv X pins σ H s) (g:DGet H a y (some v)) (ry:RelV y u) (h : ∀w' s',Inv X pins σ H s'->RelV v w'->Q w' s') :
  wpAny (model X.prog X.w) A (getItem (.ref a) u) Q E s:=by
 rcases g with ⟨kvs,k,e,ey,l⟩ | ⟨kvs,k,b,e,ey,eb,l⟩
 ·subst ey
  obtain⟨z,hd,vs,rel,dd⟩:=qM1 I.hok e
  obtain⟨w',hw,rw'⟩:=RelO.some_of (v:=v) (o:=valueAt vs k) (by rw [l];exact rel.val k)
  exact wpAny_getItem_of (qKi ry) dd.mapOf hw (h w' _ (I.tok _) rw')
 ·subst ey
  cases (show u=Value.ref b from ry)
  obtain⟨z,hd,xs,rel,dd⟩:=qM0 I.hok e
  obtain⟨w',hw,rw'⟩:=RelO.some_of (v:=v) (o:=(atKey xs k).map (·.2)) (by rw [l];exact rel.val k)
  obtain⟨p,hp,hp2⟩:=Option.map_eq_some_iff.mp hw
  refine wpAny_getItem_heap (tupleKind_room_in1 hu) (qGv I.hok eb) dd hp ?_
  rw [hp2]
  exact h w' _ (I.tok _) rw'
theorem d_in {Q:Value->Shared->Prop} (hu:A.units+1<cLine) (I:Inv X pins σ H s) (g:DGet H a y o) (ry:RelV y u) (h : ∀s',Inv X pins σ H s'->Q (.bool o.isSome) s') :
  wpAny (model X.prog X.w) A (compareOp .In u (.ref a)) Q E s:=by
 rcases g with ⟨kvs,k,e,ey,l⟩ | ⟨kvs,k,b,e,ey,eb,l⟩
 ·subst ey
  obtain⟨z,hd,vs,rel,dd⟩:=qM1 I.hok e
  refine wpAny_in_of (qKi ry) hd dd.mapOf ?_
  rw [<-(rel.val k).isSome_eq,<-l]
  exact h _ (I.tok _)
 ·subst ey
  cases (show u=Value.ref b from ry)
  obtain⟨z,hd,xs,rel,dd⟩:=qM0 I.hok e
  refine wpAny_in_heap (tupleKind_room_in1 hu) (qGv I.hok eb) hd dd ?_
  have q:=(rel.val k).isSome_eq
  rw [Option.isSome_map] at q
  rw [<-q,<-l]
  exact h _ (I.tok _)
theorem qUo {Q:Value->Shared->Prop} (hu:A.units+1<cLine) (I:Inv X pins σ H s) (g:DGet H a y o) (ry:RelV y u) (h : ∀s',Inv X pins σ H s'->Q (.bool (!o.isSome)) s') :
  wpAny (model X.prog X.w) A (compareOp .NotIn u (.ref a)) Q E s:=by
 rcases g with ⟨kvs,k,e,ey,l⟩ | ⟨kvs,k,b,e,ey,eb,l⟩
 ·subst ey
  obtain⟨z,hd,vs,rel,dd⟩:=qM1 I.hok e
  refine wpAny_notIn_of (qKi ry) hd dd.mapOf ?_
  rw [<-(rel.val k).isSome_eq,<-l]
  exact h _ (I.tok _)
 ·subst ey
  cases (show u=Value.ref b from ry)
  obtain⟨z,hd,xs,rel,dd⟩:=qM0 I.hok e
  refine wpAny_notIn_heap (tupleKind_room_in1 hu) (qGv I.hok eb) hd dd ?_
  have q:=(rel.val k).isSome_eq
  rw [Option.isSome_map] at q
  rw [<-q,<-l]
  exact h _ (I.tok _)
theorem qEk {h':Heap} {t':Nat} {ob:HO} (I:Inv X pins σ H s) (mu:Mut (H a)) (hs:Heap.SameBut a s.heap h') (he : ∃q,h'.get? a=some q) (new:ObjOk X.prog X.w (upd H a ob) h' a ob) :
  Inv X pins σ (upd H a ob) { s with heap:=h',toks:=t' } :=
 I.write (x:=a) (e:=a) mu (.inl rfl) (fun b q hb z=>(hs.2 b hb).trans z) he new
theorem qN2 {P:Program} {w:World} {H':Hp} {h':Heap} {kvs:List (Key×V)} {vs:List (Key×Value)} (z:kvs.length<=sizeLine) (hd:(a == sysModules)=false) (rel:KV kvs vs) (dd:h'.DictOf (qAp P w) a vs) :
  ObjOk P w H' h' a (.dK kvs):=⟨z,hd,vs,rel,dd⟩
theorem qQg {H':Hp} {Q:Unit->Shared->Prop} (hu:A.units+1<cLine) (I:Inv X pins σ H s) (g:DPut H a y v H') (ry:RelV y u) (rv:RelV v r) (h : ∀s',Inv X pins σ H' s'->Q () s') :
  wpAny (model X.prog X.w) A (setItem (.ref a) u r) Q E s:=by
 rcases g with ⟨kvs,k,e,ey,l,eH⟩ | ⟨kvs,k,b,e,ey,eb,l,eH⟩
 ·subst ey eH
  obtain⟨z,hd,vs,rel,dd⟩:=qH7 I.hok e
  have hz:vs.length<=sizeLine:=by rw [<-rel.length];exact z
  have hl:(putK kvs k v).length<=sizeLine:=by have:=qBh kvs k v;omega
  refine wpAny_setItem_pairs (hsz:=hz) (qKi ry) dd fun h' dd' hs=>h _ ?_
  have he : ∃q,h'.get? a=some q:=let ⟨q,_,_,hq,_⟩:=dd';⟨q,hq⟩
  exact qEk I (by rw [e];exact True.intro) hs he (qN2 hl hd (rel.put k rv) dd')
 ·subst ey eH
  cases (show u=Value.ref b from ry)
  obtain⟨z,hd,xs,rel,dd⟩:=qWh I.hok e
  have hz:xs.length<=sizeLine:=by rw [<-Paired.length rel];exact z
  have hl:(putK kvs k v).length<=sizeLine:=by have:=qBh kvs k v;omega
  refine wpAny_setItem_heap (hsz:=hz) (tupleKind_room_in1 hu) (qGv I.hok eb) dd fun h' dd' hs=>h _ ?_
  obtain⟨q,es,ep,hq,h2,h3,h4,_,h5⟩:=dd'
  refine qEk I (by rw [e];exact True.intro) hs ⟨q,hq⟩ ⟨hl,hd,_,(rel.put k eb rv).keeps fun c ys ec => ?_,q,es,ep,hq,h2,h3,h4,h5⟩
  rw [qA4 (qFy ec e (fun z=>nomatch z))]
  exact ec
end
section
variable {X:Cx} {pins:List (Addr×Obj)} {σ : St} {H:Hp} {s:Shared} {a:Addr} {kvs:List (Key×V)} {k:Key} {u:Value} {A:Around} {E:Value->Shared->Prop}
theorem qUp {Q:Value->Shared->Prop} (I:Inv X pins σ H s) (e:H a=some (.dK kvs)) (h : ∀s',Inv X pins σ (upd H a (.dK [])) s'->Q .none s'):wpAny (model X.prog X.w) A (call (.builtin "dict.clear") [.ref a]) Q E s:=by
 obtain⟨z,hd,vs,rel,dd⟩:=qH7 I.hok e
 refine call_meetsIn PySem.F.slot_dict_clear dd.typeIs PySem.F.entry_dict_clear (PySem.F.args_dict_clear_1 _) (meets_dict_clear (qAp X.prog X.w) a) ⟨vs,dd,by rw [<-rel.length];exact z,fun h' dd' hs=>h _ ?_⟩
 have he : ∃q,h'.get? a=some q:=let ⟨q,_,_,hq,_⟩:=dd';⟨q,hq⟩
 exact qEk (t':=s.toks) I (by rw [e];exact True.intro) hs he (qN2 (Nat.zero_le _) hd .nil dd')
end
def NoSl (i:Expr):Prop := ∀ov iv,subscripted i false ov iv=operate [ov,iv] (getItem ov iv)
theorem qTm {prog:Program} {w:World} {A:Around} {E:Value->Shared->Prop} {s:Shared} {env:Env} {value slice:Expr} {pos:Pos} {T id:String} {Q:Value->Shared->Prop}
  (hl:typeLookup (.type T) "__getitem__" = pure (some (.builtin id))) (hs:NoSl slice)
  (h:wpAny (model prog w) A (eval value env) (fun o s₁ =>wpAny (model prog w) A (eval slice env) (fun i s₂ =>s₂.TypeIs o T/\wpAny (model prog w) A (getItem o i) Q E s₂) E s₁) E s) :
  wpAny (model prog w) A (eval (.Subscript value slice pos) env) Q E s:=by
 refine Subscript_ (wpAny_mono h (fun o s₁ h₁ =>wpAny_mono h₁ (fun i s₂ h₂ => ?_) fun _ _ x=>x) fun _ _ x=>x)
 obtain⟨hT,h₂⟩:=h₂
 unfold subscriptTail
 refine wpAny_bind ?_
 rw [getitemInPython_of_ne hT.not_modules]
 refine wpAny_bind (wpAny_specialOf hT hl ?_)
 have fin:wpAny (model prog w) A (subscripted slice false o i) (fun r s₃ =>wpAny (model prog w) A (letTemporaryGo value o r >>= fun _=>pure r) Q E s₃) E s₂ :=by
  rw [hs o i]
  exact wpAny_operating (wpAny_mono h₂ (fun r s₃ h₃ =>wpAny_bind (wpAny_letTemporaryGo (wpAny_pure h₃))) fun _ _ x=>x)
 first
  | exact wpAny_pure (wpAny_bind fin)
  | exact wpAny_bind (wpAny_pure (wpAny_bind fin))
  | exact wpAny_bind fin
theorem qM2 {X:Cx} {pins:List (Addr×Obj)} {σ : St} {H:Hp} {s:Shared} {a:Addr} {y:V} {o:Option V} (I:Inv X pins σ H s) (g:DGet H a y o):s.TypeIs (.ref a) "dict" :=by
 rcases g with ⟨kvs,k,e,_,_⟩ | ⟨kvs,k,b,e,_,_,_⟩
 ·obtain⟨_,_,vs,_,dd⟩:=qM1 I.hok e
  exact dd.typeIs
 ·obtain⟨_,_,xs,_,dd⟩:=qM0 I.hok e
  exact dd.typeIs
def tDGet (td ty:TE):TE:=fun σ H Q=>td σ H fun x H1=>ty σ H1 fun y H2 => ∃a v,x = .ref a/\DGet H2 a y (some v)/\Q v H2
def tDIn (ty td:TE):TE:=fun σ H Q=>ty σ H fun y H1=>td σ H1 fun x H2 => ∃a o,x = .ref a/\DGet H2 a y o/\Q (.bl o.isSome) H2
def qOe (ty td:TE):TE:=fun σ H Q=>ty σ H fun y H1=>td σ H1 fun x H2 => ∃a o,x = .ref a/\DGet H2 a y o/\Q (.bl (!o.isSome)) H2
def sDPut (td ty tv:TE):TS:=fun D σ H=>tv σ H fun v H1=>td σ H1 fun x H2=>ty σ H2 fun y H3 => ∃a H4,x = .ref a/\DPut H3 a y v H4/\D.nx σ H4
section
variable {X:Cx} {o i e value:Expr} {pos pos' tpos:Pos} {td ty tv:TE}
theorem qLp (hu:X.A.units+1<cLine) (ho:PE X o td) (hi:PE X i ty) (hs:NoSl i):PE X (.Subscript o i pos) (tDGet td ty):=by
 intro pins s σ H Q I h
 refine qTm PySem.F.slot_dict_getitem.lookup hs (thn (ho pins s σ H _ I h) fun u s1 hq_ => ?_)
 obtain⟨x,H1,I1,rx,q1⟩:=hq_
 refine thn (hi pins s1 σ H1 _ I1 q1) fun iv s2 hq_ => ?_
 obtain⟨y,H2,I2,ry,a,v,ex,g,q2⟩:=hq_
 subst ex
 obtain rfl:u=Value.ref a:=rx
 exact⟨qM2 I2 g,qQh hu I2 g ry fun w' s3 I3 rw'=>⟨v,H2,I3,rw',q2⟩⟩
theorem qT4 (hu:X.A.units+1<cLine) (hi:PE X i ty) (ho:PE X o td):PC X .In i o (tDIn ty td):=by
 intro pins s σ H Q I h
 refine thn (hi pins s σ H _ I h) fun iv s1 hq_ => ?_
 obtain⟨y,H1,I1,ry,q1⟩:=hq_
 refine thn (ho pins s1 σ H1 _ I1 q1) fun u s2 hq_ => ?_
 obtain⟨x,H2,I2,rx,a,ov,ex,g,q2⟩:=hq_
 subst ex
 obtain rfl:u=Value.ref a:=rx
 exact d_in hu I2 g ry fun s3 I3=>⟨.bl ov.isSome,H2,I3,rfl,q2⟩
theorem qGp (hu:X.A.units+1<cLine) (hi:PE X i ty) (ho:PE X o td):PC X .NotIn i o (qOe ty td):=by
 intro pins s σ H Q I h
 refine thn (hi pins s σ H _ I h) fun iv s1 hq_ => ?_
 obtain⟨y,H1,I1,ry,q1⟩:=hq_
 refine thn (ho pins s1 σ H1 _ I1 q1) fun u s2 hq_ => ?_
 obtain⟨x,H2,I2,rx,a,ov,ex,g,q2⟩:=hq_
 subst ex
 obtain rfl:u=Value.ref a:=rx
 exact qUo hu I2 g ry fun s3 I3=>⟨.bl (!ov.isSome),H2,I3,rfl,q2⟩
theorem qLl (hu:X.A.units+1<cLine) (ho:PE X o td) (hi:PE X i ty) (hv:PE X value tv) (hs:swapsWith value (some (.Subscript o i pos')) pos.line X.env=pure false) :
  PS X (.Assign [.Subscript o i pos'] value pos) (sDPut td ty tv):=by
 intro pins s σ H D I h
 refine wpAny_Assign_Subscript (thn (hv pins s σ H _ I h) fun r s1 hq_ => ?_) hs
 obtain⟨v,H1,I1,rv,q1⟩:=hq_
 refine thn (ho pins s1 σ H1 _ I1 q1) fun u s2 hq_ => ?_
 obtain⟨x,H2,I2,rx,q2⟩:=hq_
 refine thn (hi pins s2 σ H2 _ I2 q2) fun iv s3 hq_ => ?_
 obtain⟨y,H3,I3,ry,a,H4,ex,g,q3⟩:=hq_
 subst ex
 obtain rfl:u=Value.ref a:=rx
 exact qQg hu I3 g ry rv fun s4 I4=>⟨σ,H4,I4,q3⟩
end
theorem qN3 {P:Program} {w:World} {H:Hp} (h:Heap) (hb:sysModules<h.objs.size):ObjOk P w H (h.push { cls :=.type "dict",data :=.dict #[] }) h.objs.size (.dK []) :=
 ⟨Nat.zero_le _,beq_eq_false_iff_ne.mpr (Ne.symm (Nat.ne_of_lt hb)),[],.nil,Heap.DictOf.new h⟩
theorem qSe {P:Program} {w:World} {H:Hp} (h:Heap) (hb:sysModules<h.objs.size):ObjOk P w H (h.push { cls :=.type "dict",data :=.dict #[] }) h.objs.size (.dT []) :=
 ⟨Nat.zero_le _,beq_eq_false_iff_ne.mpr (Ne.symm (Nat.ne_of_lt hb)),[],.nil,_,#[],0,Heap.get?_push_size _ rfl,⟨rfl,rfl,rfl⟩,rfl,rfl,List.nodup_nil⟩
def qSt:TE:=fun _ H Q => ∀p,H p=none->Q (.ref p) (upd H p (.dK []))
def qUv:TE:=fun _ H Q => ∀p,H p=none->Q (.ref p) (upd H p (.dT []))
section
variable {X:Cx} {pos:Pos}
theorem qMk:PE X (.Dict [] [] pos) qSt:=fun pins s σ H Q I h =>
 wpAny_Dict_empty ⟨.ref s.heap.objs.size,_,I.laid (a:=s.heap.objs.size) (o :=.dK []) (t':=s.toks) (fun _ _ q=>Heap.get?_push_of_some _ q) (Nat.le_refl _) (qN3 s.heap I.big),rfl,h _ (I.hok.fresh (Nat.le_refl _))⟩
theorem qIu:PE X (.Dict [] [] pos) qUv:=fun pins s σ H Q I h =>
 wpAny_Dict_empty ⟨.ref s.heap.objs.size,_,I.laid (a:=s.heap.objs.size) (o :=.dT []) (t':=s.toks) (fun _ _ q=>Heap.get?_push_of_some _ q) (Nat.le_refl _) (qSe s.heap I.big),rfl,h _ (I.hok.fresh (Nat.le_refl _))⟩
end
def qK8 (kvs more:List (Key×V)):List (Key×V):=more.foldl (fun acc kv=>putK acc kv.1 kv.2) kvs
theorem qEu : ∀(more kvs:List (Key×V)),(qK8 kvs more).length<=kvs.length+more.length
 | [],kvs=>by show kvs.length<=kvs.length+0;omega
 | p::r,kvs=>by
  have h1:=qEu r (putK kvs p.1 p.2)
  have h2:=qBh kvs p.1 p.2
  show (qK8 (putK kvs p.1 p.2) r).length<=_
  rw [List.length_cons];omega
structure M2 (X:Cx) (o:Expr) (m:Str) (apos:Pos) (e f:Expr) (cpos:Pos):Prop where
 base:attributeBase o m X.env (eval o X.env)=eval o X.env
 few:((backTo cpos (starEach [e,f] X.env)).all (fun x => !x.1)&&(backToKw cpos (keywordEach [] X.env)).all (fun x=>x.1.isSome)
  && decide (([e,f]:List Expr).length+([]:List Keyword).length+(if ([]:List Keyword).isEmpty then 0 else 1)<30))=true
 line:(apos.endLine == cpos.line)=true
 trees:backTo cpos (starEach [e,f] X.env) = [(false,eval e X.env),(false,eval f X.env)]
def IsD (H:Hp) (a:Addr):Prop:=(∃kvs,Rd H a (.dK kvs)) \/ ∃kvs,Rd H a (.dT kvs)
theorem qTa {X:Cx} {pins:List (Addr×Obj)} {σ : St} {H:Hp} {s:Shared} {a:Addr} (I:Inv X pins σ H s) (d:IsD H a) :
  s.TypeIs (.ref a) "dict" /\ (∀b,Value.ref a = .ref b -> ∃ob,s.heap.get? b=some ob/\ob.dict=none)/\(a == sysModules)=false:=by
 rcases d with ⟨kvs,e⟩ | ⟨kvs,e⟩
 ·obtain⟨_,hd,vs,_,dd⟩:=qM1 I.hok e
  refine⟨dd.typeIs,fun b q => ?_,hd⟩
  cases q
  obtain⟨ob,_,_,h1,h2,_⟩:=dd
  exact⟨ob,h1,h2.2.1⟩
 ·obtain⟨_,hd,xs,_,dd⟩:=qM0 I.hok e
  refine⟨dd.typeIs,fun b q => ?_,hd⟩
  cases q
  obtain⟨ob,_,_,h1,h2,_⟩:=dd
  exact⟨ob,h1,h2.2.1⟩
section
variable {X:Cx} {pins:List (Addr×Obj)} {σ : St} {H:Hp} {s:Shared} {a:Addr} {y d:V} {u r:Value} {o:Option V} {A:Around} {E:Value->Shared->Prop}
theorem qWi {Q:Value->Shared->Prop} (hu:A.units+1<cLine) (I:Inv X pins σ H s) (g:DGet H a y o) (ry:RelV y u) (rd:RelV d r) (h : ∀w' s',Inv X pins σ H s'->RelV (o.getD d) w'->Q w' s') :
  wpAny (model X.prog X.w) A (call (.builtin "dict.get") [.ref a,u,r]) Q E s:=by
 rcases g with ⟨kvs,k,e,ey,l⟩ | ⟨kvs,k,b,e,ey,eb,l⟩
 ·subst ey
  obtain⟨z,hd,vs,rel,dd⟩:=qM1 I.hok e
  refine call_meetsIn PySem.F.slot_dict_get dd.typeIs PySem.F.entry_dict_get (PySem.F.args_dict_get_3 _ _ _) (meets_dict_get_default (qAp X.prog X.w) a (qKi ry) hd r) ⟨_,dd.mapOf,h _ _ (I.tok _) ?_⟩
  rw [l]
  exact (rel.val k).getD rd
 ·subst ey
  cases (show u=Value.ref b from ry)
  obtain⟨z,hd,xs,rel,dd⟩:=qM0 I.hok e
  refine call_meetsIn PySem.F.slot_dict_get dd.typeIs PySem.F.entry_dict_get (PySem.F.args_dict_get_3 _ _ _) (meetsH_dict_get_default (tupleKind (qAp X.prog X.w)) a b hd r) ⟨tupleKind_room_in1 hu,k,xs,qGv I.hok eb,dd,h _ _ (I.tok _) ?_⟩
  rw [l]
  exact (rel.val k).getD rd
end
def qSu (td ty tx:TE):TE:=fun σ H Q=>td σ H fun x H1 => ∃a,x = .ref a/\IsD H1 a/\ty σ H1 fun y H2=>tx σ H2 fun z H3 => ∃o,DGet H3 a y o/\Q (o.getD z) H3
section
variable {X:Cx} {o e f:Expr} {apos cpos:Pos} {td ty tx:TE}
theorem qMl (hu:X.A.units+1<cLine) (ho:PE X o td) (he:PE X e ty) (hf:PE X f tx) (m:M2 X o "get" apos e f cpos):PE X (.Call (.Attribute o "get" apos) [e,f] [] cpos) (qSu td ty tx):=by
 intro pins s σ H Q I h
 refine wpAny_Call_method m.base m.few m.line PySem.F.plainAttrs_dict PySem.F.slot_dict_get PySem.F.type_dict_get (thn (ho pins s σ H _ I h) fun u s1 hq_ => ?_)
 obtain⟨x,H1,I1,rx,a,ex,d,q1⟩:=hq_
 subst ex
 obtain rfl:u=Value.ref a:=rx
 obtain⟨t1,t2,_⟩:=qTa I1 d
 refine⟨t1,t2,?_⟩
 rw [m.trees]
 refine Calls.callWith_builtin rfl (Calls.evalArgs_plain (Calls.spliced_cons (thn (he pins s1 σ H1 _ I1 q1) fun iv s2 hq_ => ?_)))
 obtain⟨y,H2,I2,ry,q2⟩:=hq_
 refine Calls.spliced_cons (thn (hf pins s2 σ H2 _ I2 q2) fun fv s3 hq_ => ?_)
 obtain⟨z,H3,I3,rz,ov,g,q3⟩:=hq_
 refine Calls.spliced_nil ?_
 exact qWi hu I3 g ry rz fun w' s4 I4 rw'=>⟨_,H3,I4,rw',q3⟩
end
end L2
namespace Att
open PySem PySem.W PySem.Calls PyProof.Rows
theorem qGw {P:Params} {h:Heap} : ∀(ns:List Int) (vs:List Value),WellAll P h vs (ns.map WData.int)->IntsAre vs ns:=by
 intro ns
 induction ns with
 | nil =>
  intro vs w
  rw [List.map_nil] at w
  cases w
  exact .nil
 | cons n ns ih =>
  intro vs w
  rw [List.map_cons] at w
  cases w with
  | cons a b =>
   cases a
   exact .cons _ _ (ih _ b)
theorem qOj {l:OpenLaw} {n:Nat} (hn:l.most=some n) {P:Params} {h:Heap} {args:List WData} {vals:List Value}
  (hpre:l.row.toRowW.claim.pre args=true) (hwl:WellAll P h vals args) :
  ∃a vs ns,vals = [Value.ref a]/\args = [WData.list (ns.map WData.int)]/\h.get? a=some { cls :=.type "list",data :=.seq vs.toArray }/\IntsAre vs ns/\ns.length<=n:=by
 have hsh:WShape.hasAll [] args [.list .int]=true:=(pre_splitW hpre).1
 have hc:l.pre.holds [] { args:=args }=true:=(pre_splitW hpre).2
 obtain⟨d,r,rfl,h1,h2⟩:=hasAllW_cons hsh
 obtain rfl:=hasAllW_nil h2
 obtain⟨xs,rfl,h3⟩:=hasW_list h1
 obtain⟨ns,rfl⟩:=items_int h3
 have hlen:ns.length<=n:=by
  unfold OpenLaw.pre at hc
  have h4:(WTm.not (.lt (.lit (.int (n:Int))) (.len (.arg 0)))).holds [] { args :=[.list (ns.map .int)] }=true:=by
   have h4:=(holds_andW hc).1
   rw [hn] at h4
   exact h4
  have h5:=condW_of h4 (w_not (w_lt w_lit (w_len_list (w_arg rfl))))
  rw [List.length_map] at h5
  refine Nat.le_of_not_lt fun q => ?_
  have q':(n:Int)<((ns.length:Nat):Int):=by omega
  first
   | (rw [decide_eq_true q'] at h5;exact absurd h5 (by decide))
   | (simp at h5;omega)
 cases hwl with
 | cons w1 w2 =>
  cases w2
  cases w1 with
  | list ho hall=>exact⟨_,_,ns,rfl,rfl,ho,qGw ns _ hall,hlen⟩
theorem qP0 (l:OpenLaw) (args:List WData):l.row.toRowW.claim.post args (.bool true) args=true :=
 postW_of (r:=l.row.toRowW) (X:=(true == true))
  (show WShape.has [] (.bool true) .bool=true by first | rfl | decide | simp [WShape.has,WShape.arms,WShape.armsAll])
  (show (WTm.eq .res (.lit (.bool true))).value [] { args:=args,res:=some (.bool true),after:=args }=some (.bool (true == true)) from w_eq_bool (w_res rfl) w_lit) rfl
theorem attach_call {l:OpenLaw} {n:Nat} {q:Program} {loose:List Str} {XP:(Str->Option Value)->Heap->Prop} {YP:World->Heap->Prop} {d:DefRec}
  (hn:l.most=some n) (hdf:d.params.defaults = [])
  (call : ∀(w:World) (s₀ s₁ : Shared) (mg mb:Str->Option Value) (fa:Addr) (o:Obj) (pm cd doc:Value) (a:Addr) (vs:List Value) (ns:List Int),
   Ground q loose [] XP w s₀ mg mb s₁.heap->YP w s₁.heap ->
   s₁.heap.get? fa=some o->o.data = .func (docDef d.name d.params d.body d.scope pm cd doc)->s₁.heap.CodeRec cd d.name->mg d.name=some (.ref fa) ->
   s₁.heap.get? a=some { cls :=.type "list",data :=.seq vs.toArray }->IntsAre vs ns->ns.length<=n->s₁.gens = #[] ->
   codeAny (model l.prog w) callerA (.call (.ref fa) ⟨[.ref a],[]⟩) (fun r s'=>r = .ok (.ret (.bool true))/\OldK s₁.heap s'.heap/\s'.os=s₁.os/\AllBare s'.gens) s₁) :
  WalkO q loose XP YP l.row.toRowW d [] (fun f vs=>PySem.call f vs):=by
 intro w s₀ s₁ mg mb G Y fa o pm cd doc dV kV ho hd hcd hD hmg hg args vals as hpre hlay hrd hwl hlo
 obtain rfl:dV = .none:=Dflts.none hD hdf
 obtain rfl:kV = .none:=Dflts.noKw hD
 obtain⟨a,vs,ns,rfl,rfl,hobj,hints,hlen⟩:=qOj hn hpre hwl
 refine enter_call (codeAny_mono (call w s₀ s₁ mg mb fa o pm cd doc a vs ns G Y ho (fd_plain hd) hcd hmg hobj hints hlen hg) fun r s' hq => ?_)
 obtain⟨rfl,h2,h3,h4⟩:=hq
 exact⟨.inl ⟨.bool true,.bool true,[],rfl,fun _=>rfl,.bool true,qP0 l _,fun _=>⟨List.Pairwise.nil,fun _ hm=>(nomatch hm)⟩⟩,h2,h3,h4⟩
end Att
namespace L2
open PySem PySem.Spec PyProof.Rows
theorem qGc {vs:List Value} {ns:List Int} (h:IntsAre vs ns):Vals (ns.map V.int) vs:=by
 induction h with
 | nil=>exact .nil
 | cons n t _ ih=>exact .cons ⟨t,rfl⟩ ih
def Only (H:Hp):Prop := ∀b,H b=none \/ ∃o xs,H b=some (.frz o (.lst xs))
theorem qS8 {P:Program} {w:World} {K:PySem.W.Frag} {mg mb:Str->Option Value} {CX:CXT} {k:Nat} {fa a:Addr} {fd:FuncData} {x:Str} {sp:Sp} {s₁ : Shared} {vs:List Value} {ns:List Int}
  (KX:K.In s₁.heap) (hns:s₁.heap.Ns mainGlobals mg) (hb:s₁.heap.Ns builtinsNs mb) (hbb : ∀x:Str,x ≠ "__name__" -> mb x=bootBuiltins x) (hlim:s₁.heap.NoLimit) (hg:s₁.gens = #[])
  (ha:s₁.heap.get? a=some { cls :=.type "list",data :=.seq vs.toArray }) (hi:IntsAre vs ns) (hl:ns.length<=sizeLine) (hr:Room k callerA)
  (F : ∀base:Heap,K.In base->base.Ns mainGlobals mg->FnOk P w K mg base CX k fa fd [x] sp) (hbind : ∀(s:Shared) (u:Value),BindsTo s fd ⟨[u],[]⟩ [(x,u)])
  (hsp : ∀H:Hp,Only H->SqL K H a (ns.map V.int)->sp [.ref a] H (fun v _=>v = .bl true) fun _ _ _=>False)
  (hCX : ∀H e s',CX [] H s₁ (fun _ _ _=>False) e s'->False) :
  codeAny (model P w) callerA (.call (.ref fa) ⟨[.ref a],[]⟩) (fun r s'=>r = .ok (.ret (.bool true))/\OldK s₁.heap s'.heap/\s'.os=s₁.os/\AllBare s'.gens) s₁ :=by
 have rv:=qGc hi
 have lenV:=hi.length
 have core : ∀H:Hp,Only H->SqL K H a (ns.map V.int)->HOk P w H s₁.heap->(∀b,H b≠none->b=a)->(H a≠none->K.lookup a=none) ->
   codeAny (model P w) callerA (.call (.ref fa) ⟨[.ref a],[]⟩) (fun r s'=>r = .ok (.ret (.bool true))/\OldK s₁.heap s'.heap/\s'.os=s₁.os/\AllBare s'.gens) s₁ :=by
  intro H hO hS hok hA hK
  have base_of : ∀ {b:Addr} {o:Obj},s₁.heap.get? b=some o->H b=none->(hidT s₁.heap H).get? b=some o:=fun e n=>qSb e n
  have noA : ∀ {b:Addr} {o:Obj} {es:Array DictEntry} {ep:Nat},s₁.heap.get? b=some o->o.data = .dict es ep->H b=none:=fun {b o es ep} e d=>by
   cases q:H b with
   | none=>rfl
   | some u =>
    have e':b=a:=hA b (by rw [q];simp)
    subst e'
    rw [ha] at e;cases e
    have d':Data.seq vs.toArray _=Data.dict es ep:=d
    cases d'
  have nsK : ∀ {b:Addr} {m:Str->Option Value},s₁.heap.Ns b m->(hidT s₁.heap H).Ns b m:=fun {b m} ⟨o,es,ep,e,d,r⟩=>⟨o,es,ep,base_of e (noA e d),d,r⟩
  have hKb:K.In (hidT s₁.heap H):=fun b o e=>base_of (KX b o e) (by
   cases q:H b with
   | none=>rfl
   | some u =>
    have e':b=a:=hA b (by rw [q];simp)
    subst e'
    rw [hK (by rw [q];simp)] at e;cases e)
  have hM:Mod K mg (hidT s₁.heap H):=⟨hKb,nsK hns,⟨mb,nsK hb,hbb⟩,let ⟨mc,h1,h2⟩:=hlim;⟨mc,nsK h1,h2⟩⟩
  have e0:Env0 P w K mg (hidT s₁.heap H) callerA [] s₁ H:=⟨rfl,hM,fun b o e=>qUj e,Nat.le_of_eq (qQ7 _ _),trivial,fun b hb=>absurd (show b∈([]:List Addr) from hb) (by simp),hok,.of_eq hg⟩
  refine codeAny_mono ((F _ hKb (nsK hns)).run callerA [] s₁ H ⟨[.ref a],[]⟩ [.ref a] [.ref a] _ _ hr e0 (hbind s₁ (.ref a)) (.cons rfl .nil) (hsp H hO hS)) fun r s' h => ?_
  cases r with
  | error e=>exact (hCX H e s' h).elim
  | ok fl =>
   cases fl with
   | next=>exact False.elim h
   | brk=>exact False.elim h
   | cont=>exact False.elim h
   | ret u =>
    obtain⟨v,H',os,bare,un,hok',r',q⟩:=h
    have q':v = .bl true:=q
    subst q'
    obtain rfl:u=Value.bool true:=r'
    refine⟨rfl,OldK.of_keep fun b o e => ?_,os,bare⟩
    cases q:H b with
    | none=>exact un.keep b o e q (by intro z;exact absurd (show b∈([]:List Addr) from z) (by simp)) (by simp)
    | some u =>
     rcases hO b with z | ⟨ob,xs,z⟩
     ·rw [q] at z;cases z
     ·have z2:=un.frzs b ob _ z
      obtain⟨e1,_⟩:=hok b _ z
      obtain⟨e2,_⟩:=hok' b _ z2
      rw [e] at e1;cases e1
      exact e2
 cases hk:K.lookup a with
 | some o =>
  have e:=KX a o hk
  rw [ha] at e
  cases e
  refine core (fun _=>none) (fun _ =>.inl rfl) (.inr ⟨_,vs.toArray,_,hk,rfl,rfl,rfl,by rw [List.size_toArray,lenV];exact hl,by simpa using rv⟩) (fun b u z=>by have z':(none:Option HO)=some u:=z;cases z') (fun b z=>absurd rfl z) fun z=>absurd rfl z
 | none =>
  refine core (fun b=>if b=a then some (.frz { cls :=.type "list",data :=.seq vs.toArray } (.lst (ns.map V.int))) else none) (fun b => ?_) (.inl (.inr ⟨{ cls :=.type "list",data :=.seq vs.toArray },if_pos rfl⟩)) (fun b u z => ?_) (fun b z => ?_) fun _=>hk
  ·by_cases hb:b=a
   ·exact .inr ⟨_,_,if_pos hb⟩
   ·exact .inl (if_neg hb)
  ·by_cases hb:b=a
   ·have z':=(if_pos hb).symm.trans z
    cases z'
    subst hb
    exact⟨ha,by rw [List.length_map];exact hl,vs,_,rv,ha⟩
   ·have z':=(if_neg hb).symm.trans z
    cases z'
  ·by_cases hb:b=a
   ·exact hb
   ·exact absurd (if_neg hb) z
theorem qTh {l:PySem.W.OpenLaw} {n k:Nat} {q:Program} {loose:List Str} {XP:(Str->Option Value)->Heap->Prop} {YP:World->Heap->Prop} {d:DefRec} {K:Params->PySem.W.Frag} {CX:World->CXT} {sp:World->Sp} {x:Str}
  (hn:l.most=some n) (hn2:n<=sizeLine) (hdf:d.params.defaults = []) (hr:Room k callerA)
  (hY : ∀(w:World) (h:Heap),YP w h->(K w.params).In h)
  (F : ∀(w:World) (mg:Str->Option Value) (fa:Addr) (h:Heap),(K w.params).In h->h.Ns mainGlobals mg->mg d.name=some (.ref fa) ->
   ∃fd:FuncData,(∀(s:Shared) (u:Value),BindsTo s fd ⟨[u],[]⟩ [(x,u)]) /\
    ∀base:Heap,(K w.params).In base->base.Ns mainGlobals mg->FnOk l.prog w (K w.params) mg base (CX w) k fa fd [x] (sp w))
  (hsp : ∀(w:World) (H:Hp) (a:Addr) (ns:List Int),ns.length<=n->Only H->SqL (K w.params) H a (ns.map V.int)->sp w [.ref a] H (fun v _=>v = .bl true) fun _ _ _=>False)
  (hCX : ∀(w:World) (H:Hp) (s:Shared) (e:Value) (s':Shared),CX w [] H s (fun _ _ _=>False) e s'->False) :
  PySem.W.WalkO q loose XP YP l.row.toRowW d [] (fun f vs=>PySem.call f vs):=by
 refine Att.attach_call hn hdf fun w s₀ s₁ mg mb fa o pm cd doc a vs ns G Y ho hd hcd hmg hobj hints hlen hg => ?_
 have KX:=hY w _ Y
 obtain⟨fd,hb,hF⟩:=F w mg fa _ KX G.T.g hmg
 exact qS8 KX G.T.g G.T.b G.T.builtins G.T.nolimit hg hobj hints (Nat.le_trans hlen hn2) hr hF hb (fun H hO hS=>hsp w H a ns hlen hO hS) fun H e s'=>hCX w H s₁ e s'
def qAe (s:Stmt):Arguments:=match s with
 | .FunctionDef _ a _ _ _ _ _ _ _ _=>a
 | _ =>{ posonlyargs :=[],args :=[],vararg:=none,kwonlyargs :=[],kw_defaults :=[],kwarg:=none,defaults :=[] }
def qAd (s:Stmt):List Stmt:=match s with
 | .FunctionDef _ _ b _ _ _ _ _ _ _=>b
 | _ =>[]
def qA7 (s:Stmt):Scope:=match s with
 | .FunctionDef _ _ _ _ _ _ sc _ _ _=>sc
 | _ =>{ kind :=.function,names :=[],isGenerator:=false,isCoroutine:=false }
abbrev CX0:CXT:=fun _ _ _ _ _ _=>False
abbrev E0:XK:=fun _ _ _=>False
theorem pass0 {X:Cx}:qQy CX0 X E0:=fun _ _ _ _ _ _ _ h=>h.elim
structure Fun (K:PySem.W.Frag) (x qual:Str) (st:Stmt) (f:Addr) (fd:FuncData):Prop where
 ex : ∃(oc:Value) (od:Option Addr) (kV doc pm:Value) (an:Option Addr) (cdv ct:Value) (osl:Array (Option Value)),
  fd=PySem.W.fnOf x qual (qAe st) (qAd st) (qA7 st) .none kV doc pm an cdv ct/\K.lookup f=some ⟨oc,od,.func fd,osl⟩/\PySem.W.codeIn K cdv qual=true
 kp:PySem.W.keepIn K (.ref f)=true
section
variable {P:Program} {w:World} {K:PySem.W.Frag} {mg:Str->Option Value} {base:Heap}
theorem Fun.ok {x qual:Str} {st:Stmt} {f:Addr} {fd:FuncData} {N ps:List Str} {k:Nat} {sp:Sp} (F:Fun K x qual st f fd) (S:FnScope N ps (qA7 st)) (len : ∀vs H Q E,sp vs H Q E->vs.length=ps.length)
  (hbody : ∀(cdv:Value) (A:Around) (outer:List Env) (s:Shared) (H:Hp) (vs:List V) (Q:VK) (E:XK),Room k (A.deeper (envOfC qual (qA7 st) s.heap.objs.size f cdv))->sp vs H Q E ->
   ∃t,PSs (cxOf CX0 P w K mg base N qual (qA7 st) f cdv A outer s H E).nox (qAd st) t/\t { nx:=fun _ H'=>Q .non H',rt:=Q } (start N vs) H):FnOk P w K mg base CX0 (k+1) f fd ps sp:=by
 obtain⟨oc,od,kV,doc,pm,an,cdv,ct,osl,rfl,lk,hcd⟩:=F.ex
 refine qX7 lk hcd S len fun A outer s H vs Q E hr hsp => ?_
 obtain⟨t,h,q⟩:=hbody cdv A outer s H vs Q E hr hsp
 exact⟨t,h.nox,q⟩
theorem Fun.binds {x qual:Str} {st:Stmt} {f:Addr} {fd:FuncData} {ps:List Str} (F:Fun K x qual st f fd)
  (h : ∀(kV doc pm:Value) (an:Option Addr) (cdv ct:Value) (us:List Value),us.length=ps.length->bindArgs (PySem.W.fnOf x qual (qAe st) (qAd st) (qA7 st) .none kV doc pm an cdv ct) ⟨us,[]⟩=pure (ps.zip us)):Binds K fd ps []:=by
 obtain⟨oc,od,kV,doc,pm,an,cdv,ct,osl,rfl,lk,hcd⟩:=F.ex
 exact .all (h kV doc pm an cdv ct)
theorem qTb {x qual:Str} {st:Stmt} {f:Addr} {oc:Value} {od an:Option Addr} {osl:Array (Option Value)} {kV doc pm cdv ct:Value} (l:K.lookup f=some ⟨oc,od,.func (PySem.W.fnOf x qual (qAe st) (qAd st) (qA7 st) .none kV doc pm an cdv ct),osl⟩)
  (c:PySem.W.codeIn K cdv qual=true) (k:PySem.W.keepIn K (.ref f)=true):Fun K x qual st f (PySem.W.fnOf x qual (qAe st) (qAd st) (qA7 st) .none kV doc pm an cdv ct):=⟨⟨oc,od,kV,doc,pm,an,cdv,ct,osl,rfl,l,c⟩,k⟩
end
theorem qKl {A:Around} {k:Nat} (hr:Room k A):A.units+1<cLine:=Nat.lt_of_le_of_lt (Nat.add_le_add_left (by decide:1<=64) _) hr.units
theorem qAa {n:Nat} (h:n<=1000):n<sizeLine:=Nat.lt_of_le_of_lt h (by decide)
section
variable {X:Cx}
theorem pv (i:Nat) {x:Str} {pos:Pos} (hN:X.N[i]? = some x:=by rfl) (hv:Vis X.env.scope x:=by first | exact Or.inl rfl | exact Or.inr (Or.inl rfl) | exact Or.inr (Or.inr rfl)) (hd:(x == ("__debug__" : Str))=false:=by decide)
  (hcd:(x == ("__classdict__" : Str))=false:=by decide):PE X (.Name x pos) (tVar i):=qVz hN hv hd hcd
end
theorem iteF {A B:Prop} (h:B):if false=true then A else B:=by
 rw [if_neg Bool.false_ne_true]
 exact h
theorem iteT {A B:Prop} (h:A):if true=true then A else B:=by
 rw [if_pos rfl]
 exact h
theorem ite2 {c A B:Prop} [Decidable c] (h1:c->A) (h2 : ¬c->B):if c then A else B:=by
 by_cases h:c
 ·rw [if_pos h]
  exact h1 h
 ·rw [if_neg h]
  exact h2 h
def Same (H H':Hp):Prop := ∀b o,H b=some o->H' b=some o
theorem Same.seq {K:PySem.W.Frag} {H H':Hp} {a:Addr} {xs:List V} (e:Same H H') (h:SqL K H a xs):SqL K H' a xs:=by
 rcases h with (h | ⟨o,h⟩) | h
 ·exact .inl (.inl (e _ _ h))
 ·exact .inl (.inr ⟨o,e _ _ h⟩)
 ·exact .inr h
end L2
set_option maxHeartbeats 4000000
namespace L2
open PySem PySem.Spec PyProof.Rows
abbrev TB:=St->Hp->(St->Hp->Prop)->Prop
def PB (X:Cx) (m:Sem Unit) (B:TB):Prop :=
 ∀(pins:List (Addr×Obj)) (s:Shared) (σ : St) (H:Hp) (Q:St->Hp->Prop),Inv X pins σ H s->B σ H Q ->
  wpAny (model X.prog X.w) X.A m (fun _ s' => ∃ σ' H',Inv X pins σ' H' s'/\Q σ' H') X.xe s
def tAll:List TT->TT
 | []=>fun _ H Q=>Q true H
 | t::r=>fun σ H Q=>t σ H fun b H1=>if b=true then tAll r σ H1 Q else Q false H1
inductive PTs (X:Cx):List Expr->List TT->Prop
 | nil:PTs X [] []
 | cons {e es t ts}:PT X e t->PTs X es ts->PTs X (e::es) (t::ts)
def qEb (ifs:List Expr) (env:Env) (b:Bool):Sem Bool:=forIn ifs b fun c r=>if r=true then do let ok <-isTrue c env (eval c env);pure (ForInStep.yield ok) else pure (ForInStep.yield r)
theorem qGd {M:Model} {A:Around} {E:Value->Shared->Prop} {env:Env} {Q:Bool->Shared->Prop} {s:Shared} (h:Q false s) : ∀ifs:List Expr,wpAny M A (qEb ifs env false) Q E s
 | []=>wpAny_pure h
 | c::r=>by
  unfold qEb
  simp only [List.forIn_cons,Bool.false_eq_true,if_false]
  exact wpAny_bind (wpAny_pure (qGd h r))
theorem qMc {X:Cx} : ∀ {ifs:List Expr} {ts:List TT},PTs X ifs ts -> ∀(pins:List (Addr×Obj)) (s:Shared) (σ : St) (H:Hp) (Q:Bool->Hp->Prop),Inv X pins σ H s->tAll ts σ H Q ->
  wpAny (model X.prog X.w) X.A (qEb ifs X.env true) (TP X pins σ Q) X.xe s
 | _,_,.nil,pins,s,σ,H,Q,I,h=>wpAny_pure ⟨H,I,h⟩
 | _,_,.cons (es:=es) h1 h2,pins,s,σ,H,Q,I,h=>by
  unfold qEb
  simp only [List.forIn_cons,if_true]
  refine wpAny_bind (wpAny_bind (thn (h1 pins s σ H _ I h) fun b s1 hq_ => ?_))
  obtain⟨H1,I1,q1⟩:=hq_
  refine wpAny_pure ?_
  cases b with
  | true=>exact qMc h2 pins s1 σ H1 Q I1 q1
  | false=>exact qGd (show TP X pins σ Q false s1 from⟨H1,I1,q1⟩) es
def LoopT (J:It) (g:TG) (tt:TT) (B:TB):TB:=fun σ H Q => ∃W:Nat->Nat->St->Hp->Prop,(∃m,W 0 m σ H) /\ ∀i m σ H,W i m σ H ->
 (J.stop i H/\Q σ H)\/(J.go i H /\ ∀x H',J.yld i H x H'->g x σ H' fun σ2 H2=>tt σ2 H2 fun b H3 =>
  if b=true then B σ2 H3 (fun σ3 H4 => ∃m',m'<m/\W (i+1) m' σ3 H4) else ∃m',m'<m/\W (i+1) m' σ2 H3)
def CompR (X:Cx) (pins:List (Addr×Obj)) (Q:St->Hp->Prop):Result->Shared->Prop
 | .ok _,s' => ∃ σ' H',Inv X pins σ' H' s'/\Q σ' H'
 | .error _,_=>False
structure ClauseAt (X:Cx) (e:Expr) (d:Nat) (acc:Value) (tg iter:Expr) (ifs:List Expr) (beh:Sem Unit):Prop where
 quiet : ∀it,(Code.compLoop e d it acc X.env).quiet=true
 under : ∀it,X.A.under (Code.compLoop e d it acc X.env)=X.A
 den : ∀it,(model X.prog X.w).den (.compLoop e d it acc X.env)=(compTurn e d it acc X.env).onRaise (fun x=>do noteFrame x X.env;theTreesLotGoes x)
 turn : ∀it,compTurn e d it acc X.env=(do
   standAt iter.pos
   match <-pyNext it with
   | none=>pure (.done .next)
   | some v =>
    letOwnedTupleGo tg it v
    assign tg X.env v
    let ok <-qEb ifs X.env true
    if ok then beh
    again (.compLoop e d it acc X.env))
 start : ∀(it:Value) (R:Result->Shared->Prop) (s:Shared),codeAny (model X.prog X.w) X.A (.compLoop e d it acc X.env) R s ->
  wpAny (model X.prog X.w) X.A (pyIter it) (fun it' s'=>codeAny (model X.prog X.w) X.A (.compLoop e d it' acc X.env) R s') (fun _ _=>False) s->codeAny (model X.prog X.w) X.A (.compStart e d it acc X.env) R s
theorem qKr {X:Cx} {e:Expr} {d:Nat} {acc:Value} {tg iter:Expr} {ifs:List Expr} {beh:Sem Unit} {J:It} {fp:List Addr} {it:Addr} {tn:Nat->Heap->Prop} {g:TG} {tts:List TT} {B:TB}
  (hxe:X.xe=fun _ _=>False) (hc:X.calm=true) (C:ClauseAt X e d acc tg iter ifs beh) (T:Turn X.prog X.w X.K tg J fp it tn) (hg:PG X tg g) (ht:PTs X ifs tts) (hb:PB X beh B)
  {pins:List (Addr×Obj)} {σ : St} {H:Hp} {s:Shared} {Q:St->Hp->Prop} (I:Inv X pins σ H s) (st:tn 0 s.heap) (f : ∀b∈fp,FpOk X pins H b) (q:LoopT J g (tAll tts) B σ H Q) :
  codeAny (model X.prog X.w) X.A (.compLoop e d (.ref it) acc X.env) (CompR X pins Q) s:=by
 obtain⟨W,⟨m0,w0⟩,turn⟩:=q
 have stat : ∀ {H':Hp},(∀b∈fp,H' b=none) -> ∀b∈fp,FpOk X pins H' b:=fun hn b hb=>⟨hn b hb,(f b hb).2⟩
 refine codeAny_loop (C.quiet _) (fun n s' => ∃i σ' H',Inv X pins σ' H' s'/\tn i s'.heap/\(∀b∈fp,H' b=none)/\W i n σ' H') ?_ m0 ⟨0,σ,H,I,st,fun b hb=>(f b hb).1,w0⟩
 rintro n s3 ⟨i,σ3,H3,I3,st3,fr3,w3⟩
 rw [C.under,C.den]
 refine wpAny_noted ?_
 rw [C.turn]
 refine wpAny_bind (wpAny_standAt ?_)
 have lift : ∀ {α : Type} {t:Sem α} {R : α -> Shared->Prop} {s:Shared},wpAny (model X.prog X.w) X.A t R X.xe s->wpAny (model X.prog X.w) X.A t R (notedBy (model X.prog X.w) X.A X.env fun x s'=>CompR X pins Q (.error x) s') s:=by
  intro α t R s h
  rw [hxe] at h
  exact wpAny_mono h (fun _ _ z=>z) fun _ _ z=>z.elim
 rcases turn i n σ3 H3 w3 with ⟨stop,qn⟩ | ⟨go,step⟩
 ·refine wpAny_bind (lift (thn (T.done X rfl rfl rfl hc i pins s3 σ3 H3 X.xe I3 (stat fr3) st3 stop) fun r s4 hq_ => ?_))
  obtain⟨hr,I4⟩:=hq_
  subst hr
  exact wpAny_pure ⟨σ3,H3,I4,qn⟩
 ·refine wpAny_bind (lift (thn (T.item X rfl rfl rfl hc i pins s3 σ3 H3 X.xe I3 (stat fr3) st3 go) fun r s4 hq_ => ?_))
  obtain⟨u,hr,h4⟩:=hq_
  subst hr
  refine wpAny_bind (lift (thn h4 fun _ s5 hq_ => ?_))
  obtain⟨x,H5,I5,r5,y5,st5,fr5⟩:=hq_
  have I5':=I5.pinned (stat fr5) (T.obj _ _ st5)
  refine wpAny_bind (lift (thn (hg _ s5 σ3 H5 x u _ I5' r5 (step x H5 y5)) fun _ s6 hq_ => ?_))
  obtain⟨σ6,H6,I6,q6⟩:=hq_
  have again : ∀ {σ7:St} {H7:Hp} {s7:Shared},Inv X (pins++qJv fp s5.heap) σ7 H7 s7->(∃m',m'<n/\W (i+1) m' σ7 H7) -> ∃m,m<n /\ ∃i σ' H',Inv X pins σ' H' s7/\tn i s7.heap/\(∀b∈fp,H' b=none)/\W i m σ' H':=fun {σ7 H7 s7} I7 ⟨m',hm,w7⟩=>by
   refine⟨m',hm,i+1,σ7,H7,I7.unpinned,T.keep _ _ _ st5 fun b hb o e=>(I7.pin (b,o) (List.mem_append_right _ (List.mem_append_right _ (qDz hb e)))).1,fun b hb => ?_,w7⟩
   obtain⟨o,e,_⟩:=T.obj _ _ st5 b hb
   exact (I7.pin (b,o) (List.mem_append_right _ (List.mem_append_right _ (qDz hb e)))).2.1
  refine wpAny_bind (lift (thn (qMc ht _ s6 σ6 H6 _ I6 q6) fun ok s7 hq_ => ?_))
  obtain⟨H7,I7,q7⟩:=hq_
  cases ok with
  | false =>
   exact wpAny_pure ⟨rfl,again I7 q7⟩
  | true =>
   refine wpAny_bind (lift (thn (hb _ s7 σ6 H7 _ I7 q7) fun _ s8 hq_ => ?_))
   obtain⟨σ8,H8,I8,q8⟩:=hq_
   exact wpAny_pure ⟨rfl,again I8 q8⟩
theorem qFo (env:Env) : ∀(names:List (Str×NameKind)) (cs:List (Str×Addr)),(∀x∈names,x.2 = .free -> ∃c,env.cells.lookup x.1=some c) ->
  (∀x c,cs.lookup x=some c->env.cells.lookup x=some c) ->
  ∃cl,(forIn names cs fun (x:Str×NameKind) (r:List (Str×Addr))=>(if (x.2 == NameKind.free)=true then do let c <-cellOf env x.1;pure (ForInStep.yield ((x.1,c)::r)) else pure (ForInStep.yield r):Sem (ForInStep (List (Str×Addr)))))=pure cl /\
   (∀x c,cl.lookup x=some c->env.cells.lookup x=some c)/\(∀x,(x,NameKind.free)∈names\/(∃c,cs.lookup x=some c) -> ∃c,cl.lookup x=some c)
 | [],cs,_,h2=>⟨cs,rfl,h2,fun x h=>h.elim (fun z=>nomatch z) id⟩
 | (n,k)::r,cs,h1,h2=>by
  rw [List.forIn_cons]
  have hr : ∀x∈r,x.2 = .free -> ∃c,env.cells.lookup x.1=some c:=fun x hx=>h1 x (List.mem_cons_of_mem _ hx)
  by_cases hk:k = .free
  ·subst hk
   obtain⟨c,hc⟩:=h1 (n,.free) List.mem_cons_self rfl
   have hcell:cellOf env n=pure c:=by unfold cellOf;rw [hc]
   obtain⟨cl,e,a,b⟩:=qFo env r ((n,c)::cs) hr (fun x d hx=>by
    rw [List.lookup_cons] at hx
    cases hxn:x == n with
    | true =>
     rw [hxn] at hx
     have:x=n:=eq_of_beq hxn
     cases hx;rw [this];exact hc
    | false=>rw [hxn] at hx;exact h2 x d hx)
   refine⟨cl,?_,a,fun x hx=>b x ?_⟩
   ·rw [hcell]
    exact e
   ·by_cases hxn:x=n
    ·exact .inr ⟨c,by rw [List.lookup_cons,hxn,beq_self_eq_true]⟩
    ·rcases hx with hx | ⟨d,hx⟩
     ·rcases List.mem_cons.mp hx with z | z
      ·exact absurd (congrArg Prod.fst z) hxn
      ·exact .inl z
     ·refine .inr ⟨d,?_⟩
      have:(x == n)=false:=by simpa using hxn
      rw [List.lookup_cons,this];exact hx
  ·have hb:(k == NameKind.free)=false:=by simpa using hk
   obtain⟨cl,e,a,b⟩:=qFo env r cs hr h2
   refine⟨cl,?_,a,fun x hx=>b x ?_⟩
   ·show (if (k == NameKind.free)=true then _ else _) >>= _=_
    rw [hb]
    exact e
   ·rcases hx with hx | hx
    ·rcases List.mem_cons.mp hx with z | z
     ·exact absurd (congrArg Prod.snd z).symm hk
     ·exact .inl z
    ·exact .inr hx
theorem qI2 {scope:Scope} {env:Env} (h : ∀x∈scope.names,x.2 = .free -> ∃c,env.cells.lookup x.1=some c) :
  ∃cl,closureFor scope env=pure cl/\(∀x c,cl.lookup x=some c->env.cells.lookup x=some c) /\ ∀x,(x,NameKind.free)∈scope.names -> ∃c,cl.lookup x=some c:=by
 obtain⟨cl,e,a,b⟩:=qFo env scope.names [] h (fun x c hx=>nomatch hx)
 refine⟨cl,?_,a,fun x hx=>b x (.inl hx)⟩
 unfold closureFor
 show (forIn scope.names ([]:List (Str×Addr)) _) >>= _=_
 have e2:(forIn scope.names ([]:List (Str×Addr)) fun (x:Str×NameKind) (r:List (Str×Addr))=>(match x with | (name,kind)=>if (kind == NameKind.free)=true then do let c <-cellOf env name;pure (ForInStep.yield ((name,c)::r)) else pure (ForInStep.yield r):Sem (ForInStep (List (Str×Addr)))))=pure cl:=e
 rw [e2]
 rfl
def relK (env:Env) (x:Str) (k:NameKind):NameKind:=if (k == .free&&env.scope.kind == .function&&env.kindOf x == some .cell)=true then .cell else k
theorem qE6 (env:Env) (x:Str) : ∀names:List (Str×NameKind),
  (names.map fun (n,k)=>if (k == NameKind.free&&env.scope.kind == .function&&env.kindOf n == some .cell) then (n,NameKind.cell) else (n,k)).lookup x=(names.lookup x).map (relK env x)
 | []=>rfl
 | (n,k)::r=>by
  have ih:=qE6 env x r
  show List.lookup x ((if (k == NameKind.free&&env.scope.kind == .function&&env.kindOf n == some .cell)=true then (n,NameKind.cell) else (n,k))::_)=_
  have e:(if (k == NameKind.free&&env.scope.kind == .function&&env.kindOf n == some .cell)=true then (n,NameKind.cell) else (n,k))=(n,relK env n k):=by
   unfold relK;split <;> rfl
  rw [e,List.lookup_cons,List.lookup_cons]
  cases hx:x == n with
  | true=>have:=eq_of_beq hx;subst this;rfl
  | false=>exact ih
theorem qFt (scope:Scope) (env:Env) (x:Str):(relabel scope env).names.lookup x=(scope.names.lookup x).map (relK env x):=qE6 env x scope.names
def qAh (X:Cx) (own:List Str) (cap:List Nat) (scope:Scope) (cl:List (Str×Addr)) (s:Shared) (H:Hp) (ex:List Addr):Cx :=
 { X with N:=own++cap.map (fun j=>X.N.getD j ""),env:=compEnvC scope cl s.heap.objs.size X.env,s₀ :=s,H₀ :=H,outer:=X.stack,ex:=ex,fn:=fun _=>false,pn :=[],xe:=fun _ _=>False }
def qKt (own:List Str) (cap:List Nat) (σ : St):St:=own.map (fun _=>none)++cap.map (fun j=>(σ[j]?).join)
structure CompScope (X:Cx) (own:List Str) (cap:List Nat) (scope:Scope):Prop where
 kind:scope.kind = .function
 nocell : ∀x∈scope.names,x.2 ≠ .cell
 names : ∀x∈scope.names,x.2 = .local->scope.names.lookup x.1=some .local
 free : ∀x∈scope.names,x.2 = .free->X.env.kindOf x.1=some .cell\/X.env.kindOf x.1=some .free
 own : ∀x∈own,scope.names.lookup x=some .local
 caps : ∀j∈cap,scope.names.lookup (X.N.getD j "")=some .free/\j<X.N.length
theorem qSk {X:Cx} {own:List Str} {cap:List Nat} {scope:Scope} {cl:List (Str×Addr)} {pins:List (Addr×Obj)} {σ : St} {H:Hp} {s:Shared} {fp:List Addr} {h':Heap} {tk:Nat} (S:CompScope X own cap scope)
  (I:Inv X pins σ H s) (hcl : ∀x c,cl.lookup x=some c->X.env.cells.lookup x=some c) (hfr : ∀x,(x,NameKind.free)∈scope.names -> ∃c,cl.lookup x=some c)
  (hf : ∀b∈fp,FpOk X pins H b) (hlt : ∀b∈fp,b<s.heap.objs.size) (hns:h'.Ns s.heap.objs.size (fun x=>([]:List (Str×Value)).reverse.lookup x)) (hk : ∀b u,s.heap.get? b=some u->h'.get? b=some u) :
  Inv (qAh X own cap scope cl s H fp) [] (qKt own cap σ) H { s with heap:=h',toks:=tk }:=by
 have kc : ∀x k,(relabel scope X.env).names.lookup x=some k->(k = .cell\/k = .free)->(x,NameKind.free)∈scope.names:=by
  intro x k e hk
  rw [qFt] at e
  cases q:scope.names.lookup x with
  | none=>rw [q] at e;cases e
  | some k0 =>
   rw [q] at e
   have e':relK X.env x k0=k:=Option.some.inj e
   have hm:=PySem.mem_of_lookup q
   have h0:k0 ≠ .cell:=S.nocell _ hm
   have:k0 = .free:=by
    unfold relK at e'
    by_cases hb:(k0 == NameKind.free&&X.env.scope.kind == .function&&X.env.kindOf x == some .cell)=true
    ·simp only [Bool.and_eq_true,beq_iff_eq] at hb
     exact hb.1.1
    ·rw [if_neg hb] at e'
     rcases hk with z | z
     ·exact absurd (e'.trans z) h0
     ·exact e'.trans z
   rw [this] at hm
   exact hm
 have ok:(qAh X own cap scope cl s H fp).Ok :={
  mod:=I.ok.mod
  kind:=S.kind
  glob:=I.ok.glob
  blt:=I.ok.blt
  above:=Nat.le_refl _
  inj:=fun x y c e1 e2=>I.ok.inj x y c (hcl x c e1) (hcl y c e2)
  has:=fun x hx=>by
   rcases hx with hx | hx
   ·exact hfr x (kc x _ hx (.inl rfl))
   ·exact hfr x (kc x _ hx (.inr rfl))
  cab:=fun x c h=>absurd h (show ¬(false=true) from Bool.false_ne_true)
  hd:=I.ok.hd
  frames:=I.ok.frames
  stk :=.inl rfl
  exf:=fun b hb=>⟨Nat.ne_of_lt (hlt b hb),fun x c e=>(hf b hb).2.2.2.2.1 x c (hcl x c e)⟩
  bs:=I.bs
  bsz:=Nat.le_trans I.ok.bsz I.sz
  noex:=fun b o e hb=>by
   rcases (hf b hb).2.2.2.1 with z | z
   ·exact I.ok.noex b o e z
   ·exact absurd (Nat.lt_of_lt_of_le (Heap.lt_size e) (Nat.le_trans I.ok.bsz z)) (Nat.lt_irrefl _)
  exfs:=fun b hb hm=>by
   rcases List.mem_cons.mp (I.stkSub b hm) with z | z
   ·exact (hf b hb).2.1 z
   ·exact (hf b hb).2.2.1 z
  funs:=I.stack
  frf:=I.stkFree }
 refine⟨ok,rfl,I.bare,Un.kept hk,⟨_,hns,fun i x v e1 e2 e3 => ?_⟩,fun x c e => ?_,I.hok.fresh (Nat.le_refl _),fun x c e=>I.freeC x c (hcl x c e),fun p hp=>absurd (show p∈([]:List (Addr×Obj)) from hp) (by simp),I.hok.kept hk,?_⟩
 ·have e1:(own++cap.map (fun j=>X.N.getD j ""))[i]? = some x:=e1
  have e2:(own.map (fun _=>(none:Option V))++cap.map (fun j=>(σ[j]?).join))[i]? = some (some v):=e2
  by_cases hi:i<own.length
  ·rw [List.getElem?_append_left (by simpa using hi),List.getElem?_map] at e2
   cases q:own[i]? with
   | none=>rw [q] at e2;cases e2
   | some y=>rw [q] at e2;cases e2
  ·rw [List.getElem?_append_right (by simpa using hi),List.getElem?_map] at e1
   rw [List.getElem?_append_right (by simpa using hi),List.getElem?_map,List.length_map] at e2
   cases q:cap[i - own.length]? with
   | none=>rw [q] at e2;cases e2
   | some j =>
    rw [q] at e1 e2
    have e1':X.N.getD j "" = x:=Option.some.inj e1
    have e2':(σ[j]?).join=some v:=Option.some.inj e2
    obtain⟨hj,hlj⟩:=S.caps j (List.mem_of_getElem? q)
    rw [e1'] at hj
    have hNj:X.N[j]? = some x:=by
     rw [List.getElem?_eq_getElem hlj,<-e1',List.getD_eq_getElem?_getD,List.getElem?_eq_getElem hlj];rfl
    have hσ : σ[j]? = some (some v):=by
     cases z : σ[j]? with
     | none=>rw [z] at e2';cases e2'
     | some o=>rw [z] at e2';rw [show o=some v from e2']
    obtain⟨m,hn,hl⟩:=I.loc
    have hm:=PySem.mem_of_lookup hj
    have hkx:=S.free _ hm rfl
    have vis:Vis X.env.scope x:=by
     rcases hkx with z | z
     ·exact .inr (.inl z)
     ·exact .inr (.inr z)
    obtain⟨u,r,l⟩:=hl j x v hNj hσ vis
    refine⟨u,r,.inr ?_⟩
    rcases l with ⟨kl,_⟩ | ⟨_,c,hc,z⟩
    ·rcases hkx with z | z
     ·rw [kl] at z;cases z
     ·rw [kl] at z;cases z
    ·obtain⟨c',hc'⟩:=hfr x hm
     have:=hcl x c' hc'
     rw [hc] at this;cases this
     refine⟨?_,c,hc',?_⟩
     ·have q:(relabel scope X.env).names.lookup x=some (relK X.env x .free):=by rw [qFt,hj];rfl
      show (relabel scope X.env).names.lookup x=some .cell\/(relabel scope X.env).names.lookup x=some .free
      rw [q]
      unfold relK
      split
      ·exact .inl rfl
      ·exact .inr rfl
     ·obtain⟨o,ho,hd⟩:=z
      exact⟨o,hk c o ho,hd⟩
 ·obtain⟨v,o,ho,hd⟩:=I.cell x c (hcl x c e)
  exact⟨v,o,hk c o ho,hd⟩
 ·show (own.map (fun _=>(none:Option V))++cap.map (fun j=>(σ[j]?).join)).length=(own++cap.map (fun j=>X.N.getD j "")).length
  simp only [List.length_append,List.length_map]
def qI7 (X:Cx) (m:Sem Value) (o:HO):Prop :=
 ∀(pins:List (Addr×Obj)) (s:Shared) (σ : St) (H:Hp) (E:Value->Shared->Prop) (Q:Value->Shared->Prop),Inv X pins σ H s ->
  (∀l s',s.heap.objs.size<=l->H l=none->Inv X pins σ (upd H l o) s'->(∀b u,s.heap.get? b=some u->s'.heap.get? b=some u)->Q (.ref l) s')->wpAny (model X.prog X.w) X.A m Q E s
theorem qJc {X:Cx}:qI7 X (newList []) (.lst []):=by
 intro pins s σ H E Q I h
 exact wpAny_newList (h _ _ (Nat.le_refl _) I.fresh (I.lnew (its :=[]) (t':=s.toks) .nil (Nat.zero_le _)) fun b u e=>Heap.get?_push_of_some _ e)
theorem qKs {X:Cx} {e:Expr} {tg iter:Expr} {ifs:List Expr} {scope:Scope} {own:List Str} {cap:List Nat} {newAcc:Sem Value} {o:HO} {cl:List (Str×Addr)} {behOf:Value->Env->Sem Unit} {g:TG} {tts:List TT} {Bof:Addr->TB}
  (hc:X.calm=true) (S:CompScope X own cap scope) (hcl : ∀x c,cl.lookup x=some c->X.env.cells.lookup x=some c) (hfr : ∀x,(x,NameKind.free)∈scope.names -> ∃c,cl.lookup x=some c)
  (hacc:qI7 X newAcc o)
  (hC : ∀s H ex l,ClauseAt (qAh X own cap scope cl s H ex) e 0 (.ref l) tg iter ifs (behOf (.ref l) (qAh X own cap scope cl s H ex).env))
  (hg : ∀s H ex,PG (qAh X own cap scope cl s H ex) tg g) (ht : ∀s H ex,PTs (qAh X own cap scope cl s H ex) ifs tts)
  (hb : ∀s H ex l,PB (qAh X own cap scope cl s H ex) (behOf (.ref l) (qAh X own cap scope cl s H ex).env) (Bof l))
  {pins:List (Addr×Obj)} {σ : St} {s2:Shared} {itv:Value} {Q:Addr->Hp->Prop} {E:Value->Shared->Prop} {R:Value->Addr->Result->Shared->Prop}
  (h:PIE X pins σ tg (fun J H1 => ∀l,H1 l=none->LoopT J g (tAll tts) (Bof l) (qKt own cap σ) (upd H1 l o) fun _ H2=>Q l H2) itv s2)
  (hR : ∀l C s' H',Inv X pins σ H' s'->FpOk X pins H' C->(∃m,s'.heap.Ns C m)->Q l H'->R (.ref l) C (.ok .next) s')
  (hok : ∀acc C f s',R acc C (.ok .next) s'->R acc C (.ok f) s') :
  wpAny (model X.prog X.w) X.A newAcc (fun acc s₃ =>wpAny (model X.prog X.w) X.A (newFunctionEnv scope X.env.globals cl [] X.env.qual none .none (some X.env)) (fun cenv s₄ =>
   codeAny (model X.prog X.w) X.A (.compStart e 0 itv acc { cenv with scope:=relabel scope X.env }) (R acc cenv.locals) s₄) E s₃) E s2:=by
 obtain⟨it,fp,tn,J,H2,rfl,I2,T,st2,f2,q⟩:=h
 have lt2 : ∀b∈fp,b<s2.heap.objs.size:=fun b hb=>by
  obtain⟨ob,e,_⟩:=T.obj _ _ st2 b hb
  exact Heap.lt_size e
 refine hacc pins s2 σ H2 E _ I2 fun l s3 hl hn I3 k3 => ?_
 have q':=q l hn
 have f3 : ∀b∈fp,FpOk X pins (upd H2 l o) b:=fun b hb=>by
  obtain⟨a1,a2⟩:=f2 b hb
  refine⟨?_,a2⟩
  rw [qA4 (Nat.ne_of_lt (Nat.lt_of_lt_of_le (lt2 b hb) hl))];exact a1
 have lt3 : ∀b∈fp,b<s3.heap.objs.size:=fun b hb=>by
  obtain⟨ob,e,_⟩:=T.obj _ _ st2 b hb
  exact Heap.lt_size (k3 b ob e)
 refine wpAny_newFunctionEnv S.nocell (by intro y hy;simp at hy) (fun h1 hns hsb => ?_) S.kind
 have k4 : ∀b u,s3.heap.get? b=some u->h1.get? b=some u:=fun b u e=>by
  exact hsb.extBut b u (Nat.ne_of_lt (Heap.lt_size e)) (Heap.get?_push_of_some _ e)
 have I4:Inv (qAh X own cap scope cl s3 (upd H2 l o) fp) [] (qKt own cap σ) (upd H2 l o) { s3 with heap:=h1,toks:=s3.toks+([]:List (Str×Value)).length }:=qSk S I3 hcl hfr f3 lt3 hns k4
 have st4:tn 0 h1:=T.keep _ _ _ st2 fun b hb ob e=>k4 b ob (k3 b ob e)
 have f4 : ∀b∈fp,FpOk (qAh X own cap scope cl s3 (upd H2 l o) fp) [] (upd H2 l o) b:=fun b hb=>by
  obtain⟨a0,a1,a2,a3,a4,a5⟩:=f3 b hb
  refine⟨a0,Nat.ne_of_lt (lt3 b hb),fun hm => ?_,.inl hb,fun x c ex=>a4 x c (hcl x c ex),fun p hp=>absurd (show p∈([]:List (Addr×Obj)) from hp) (by simp)⟩
  rcases List.mem_cons.mp (I3.stkSub b hm) with z | z
  ·exact a1 z
  ·exact a2 z
 have fin : ∀(r:Result) (s':Shared),CompR (qAh X own cap scope cl s3 (upd H2 l o) fp) [] (fun _ H2=>Q l H2) r s'->R (.ref l) s3.heap.objs.size r s':=by
  intro r s' hr
  cases r with
  | error x=>exact (show False from hr).elim
  | ok f =>
   obtain⟨σ5,H5,I5,q5⟩:=(show ∃ σ' H',Inv (qAh X own cap scope cl s3 (upd H2 l o) fp) [] σ' H' s'/\Q l H' from hr)
   have I6:Inv X pins σ H5 s':=I3.call' (ch:=fp) I5.os I5.base I5.hok I5.bare fun b hb=>(f3 b hb).2.2.2 |> fun ⟨z1,z2,z3⟩=>⟨z1,(f3 b hb).2.1,z2,z3⟩
   refine hok _ _ _ _ (hR l _ s' H5 I6 (I3.fpOk (Nat.le_refl _) I5.free) ?_ q5)
   obtain⟨m,hm,_⟩:=I5.loc
   exact⟨m,hm⟩
 have loop : ∀s4:Shared,s4 = { s3 with heap:=h1,toks:=s3.toks+([]:List (Str×Value)).length } ->
   codeAny (model X.prog X.w) X.A (.compLoop e 0 (.ref it) (.ref l) (qAh X own cap scope cl s3 (upd H2 l o) fp).env) (R (.ref l) s3.heap.objs.size) s4:=by
  rintro s4 rfl
  exact codeAny_mono (qKr (X:=qAh X own cap scope cl s3 (upd H2 l o) fp) rfl hc (hC _ _ _ _) T (hg _ _ _) (ht _ _ _) (hb _ _ _ l) I4 st4 f4 q') fin
 exact (hC s3 (upd H2 l o) fp l).start (.ref it) _ _ (loop _ rfl) (T.self _ 0 _ _ _ st4 (loop _ rfl))
section
variable {X:Cx} {e:Expr} {tg iter:Expr} {ifs:List Expr} {gs:List Comprehension} {scope:Scope} {own:List Str} {cap:List Nat} {newAcc:Sem Value} {o:HO} {behOf:Value->Env->Sem Unit} {wi:TI} {g:TG} {tts:List TT} {Bof:Addr->TB} {cpos:Pos}
def tComp (own:List Str) (cap:List Nat) (o:HO) (wi:TI) (g:TG) (tts:List TT) (Bof:Addr->TB):TE:=fun σ H Q=>wi σ H fun J H1 => ∀l,H1 l=none->LoopT J g (tAll tts) (Bof l) (qKt own cap σ) (upd H1 l o) fun _ H2=>Q (.ref l) H2
theorem qJ2 (hc:X.calm=true) (S:CompScope X own cap scope) (hcl:clausesOf e=⟨tg,iter,ifs,0⟩::gs) (hi:PI X tg iter wi) (hacc:qI7 X newAcc o)
  (hC : ∀cl s H ex l,ClauseAt (qAh X own cap scope cl s H ex) e 0 (.ref l) tg iter ifs (behOf (.ref l) (qAh X own cap scope cl s H ex).env))
  (hg : ∀cl s H ex,PG (qAh X own cap scope cl s H ex) tg g) (ht : ∀cl s H ex,PTs (qAh X own cap scope cl s H ex) ifs tts)
  (hb : ∀cl s H ex l,PB (qAh X own cap scope cl s H ex) (behOf (.ref l) (qAh X own cap scope cl s H ex).env) (Bof l)) (hs : ∀x,foldedSetIterable iter X.env x=pure x) :
  ∀(pins:List (Addr×Obj)) (s:Shared) (σ : St) (H:Hp) (Q:VK),Inv X pins σ H s->tComp own cap o wi g tts Bof σ H Q ->
   wpAny (model X.prog X.w) X.A (comprehension e scope X.env cpos newAcc false (eval iter X.env)) (EP X pins σ Q) X.xe s:=by
 intro pins s σ H Q I h
 obtain⟨cl,hclos,h1,h2⟩:=qI2 (scope:=scope) (env:=X.env) fun x hx hf=>I.ok.has x.1 (S.free x hx hf)
 refine wpAny_comprehension_free (use:=none) hcl hs hclos S.kind S.names (thn (hi pins s σ H _ I h) fun v s1 q1=>thn q1 fun itv s2 q2 => ?_)
 refine qKs (R:=fun acc C=>compPost (model X.prog X.w) X.A X.xe none (EP X pins σ Q) acc C) hc S h1 h2 hacc (hC cl) (hg cl) (ht cl) (hb cl) q2 (fun l C s' H' I' fC hm q => ?_) (fun acc C f s' z=>z)
 obtain⟨m,hm⟩:=hm
 refine⟨m,hm,fun h' sb=>⟨.ref l,H',I'.turned (t':=s'.toks) (fun b o hb e=>(sb.2 b hb).trans e) fC.1 fC.2.1 fC.2.2.2.1 fC.2.2.2.2.1 fC.2.2.2.2.2,rfl,q⟩⟩
theorem qN4 {i:Nat} {x:Str} {px:Pos} (hc:X.calm=true) (S:CompScope X own cap scope) (hcl:clausesOf e=⟨tg,iter,ifs,0⟩::gs) (hi:PI X tg iter wi) (hacc:qI7 X newAcc o)
  (hC : ∀cl s H ex l,ClauseAt (qAh X own cap scope cl s H ex) e 0 (.ref l) tg iter ifs (behOf (.ref l) (qAh X own cap scope cl s H ex).env))
  (hg : ∀cl s H ex,PG (qAh X own cap scope cl s H ex) tg g) (ht : ∀cl s H ex,PTs (qAh X own cap scope cl s H ex) ifs tts)
  (hb : ∀cl s H ex l,PB (qAh X own cap scope cl s H ex) (behOf (.ref l) (qAh X own cap scope cl s H ex).env) (Bof l)) (hs : ∀x,foldedSetIterable iter X.env x=pure x)
  (hN:X.N.Nodup) (hix:X.N[i]? = some x) (hx:Loc X.env.scope x) (hf:X.fn x=true\/X.env.scope.names.lookup x=some .local) :
  ∀(pins:List (Addr×Obj)) (s:Shared) (σ : St) (H:Hp) (D:Ends),Inv X pins σ H s->tComp own cap o wi g tts Bof σ H (fun v H1=>D.nx (σ.set i (some v)) H1) ->
   wpAny (model X.prog X.w) X.A (comprehension e scope X.env cpos newAcc false (eval iter X.env) (some (assign (.Name x px) X.env))) (fun _ s'=>SP X pins D .next s') X.xe s:=by
 intro pins s σ H D I h
 obtain⟨cl,hclos,h1,h2⟩:=qI2 (scope:=scope) (env:=X.env) fun x hx hf=>I.ok.has x.1 (S.free x hx hf)
 refine wpAny_comprehension_free (use:=some (assign (.Name x px) X.env)) hcl hs hclos S.kind S.names (thn (hi pins s σ H _ I h) fun v s1 q1=>thn q1 fun itv s2 q2 => ?_)
 refine qKs (R:=fun acc C=>compPost (model X.prog X.w) X.A X.xe (some (assign (.Name x px) X.env)) (fun _ s'=>SP X pins D .next s') acc C) hc S h1 h2 hacc (hC cl) (hg cl) (ht cl) (hb cl) q2 (fun l C s' H' I' fC hm q => ?_) (fun acc C f s' z=>z)
 obtain⟨m,hm⟩:=hm
 show wpAny (model X.prog X.w) X.A (assign (.Name x px) X.env (.ref l)) _ X.xe s'
 refine wpAny_assign_Name (qJj (v :=.ref l) I' hN hix hx rfl (fun s'' I'' hq_ => ?_) hf)
 obtain⟨a,sa,ha⟩:=hq_
 have hCa:C≠a:=by
  rcases ha with z | z
  ·rw [z];exact fC.2.1
  ·exact Ne.symm (fC.2.2.2.2.1 x a z)
 refine⟨m,hm.sameBut sa hCa,fun h' sb=>⟨_,H',I''.turned (t':=s''.toks) (fun b o hb e=>(sb.2 b hb).trans e) fC.1 fC.2.1 fC.2.2.2.1 fC.2.2.2.2.1 fC.2.2.2.2.2,q⟩⟩
end
def eApp (te:TE) (l:Addr):TB:=fun σ H Q=>te σ H fun v H1 => ∃vs,H1 l=some (.lst vs)/\vs.length<sizeLine/\Q σ (upd H1 l (.lst (vs ++ [v])))
def qH4 (elt:Expr) (acc:Value) (env:Env):Sem Unit:=do let _ <-call (.builtin "list.append") [acc,<-eval elt env]
theorem qLq {X:Cx} {elt:Expr} {te:TE} {l:Addr} (he:PE X elt te):PB X (qH4 elt (.ref l) X.env) (eApp te l):=by
 intro pins s σ H Q I h
 refine wpAny_bind (thn (he pins s σ H _ I h) fun v s1 hq_ => ?_)
 obtain⟨x,H1,I1,r1,vs,e,hz,q⟩:=hq_
 refine wpAny_bind (thn (qBg pins s1 σ H1 (.ref l) [x] (.ref l) [v] (fun _ H2=>Q σ H2) I1 rfl (.cons r1 .nil) ⟨l,vs,x,rfl,rfl,e,hz,q⟩) fun u s2 hq_ => ?_)
 obtain⟨z,H2,I2,_,q2⟩:=hq_
 exact wpAny_pure ⟨σ,H2,I2,q2⟩
theorem qH1 {X:Cx} {elt tg iter:Expr} {ifs:List Expr} {scope:Scope} {pos:Pos} {acc:Value}:ClauseAt X (.ListComp elt [⟨tg,iter,ifs,0⟩] scope pos) 0 acc tg iter ifs (qH4 elt acc X.env) where
 quiet:=fun _=>rfl
 under:=fun _=>rfl
 den:=fun _=>rfl
 turn:=fun _=>rfl
 start:=fun it R s h0 h=>codeAny_compStart_list h0 (wpAny_mono h (fun _ _ z=>z) fun _ _ z=>z.elim)
theorem Inv.turnLaid {X:Cx} {pins:List (Addr×Obj)} {σ : St} {H:Hp} {s:Shared} {h':Heap} {t':Nat} {ch:List Addr} {p:Addr} {o:HO} (I:Inv X pins σ H s) (k : ∀b u,b∉ch->s.heap.get? b=some u->h'.get? b=some u)
  (hth : ∀b∈ch,∃u,h'.get? b=some u) (hf : ∀b∈ch,FpOk X pins H b) (hp:s.heap.objs.size<=p) (new:ObjOk X.prog X.w (upd H p o) h' p o):Inv X pins σ (upd H p o) { s with heap:=h',toks:=t' }:=by
 have hn:H p=none:=I.hok.fresh hp
 have nch : ∀b u,H b=some u->b∉ch:=fun b u e hb=>by rw [(hf b hb).1] at e;cases e
 refine I.step (g':=s.gens) (d':=s.drawn) (ch:=ch) (fun b hb => ?_) (fun b u _ _ hc e _=>k b u hc e) (fun b u _ _ hc e _=>⟨u.slots,k b u hc e⟩) (fun b u _ e n => ?_)
  (fun b u hc e=>⟨u,k b u hc e⟩) (fun b xs e => ?_) (fun b ob xs e => ?_) (fun b ps e => ?_) (fun m hm => ?_) (fun b u e => ?_) I.bare
 ·obtain⟨_,a1,_,a3,a4,a5⟩:=hf b hb
  exact⟨a3,a1,a4,a5⟩
 ·rw [qA4 (Nat.ne_of_lt (Nat.lt_of_lt_of_le (Heap.lt_size e) hp))];exact n
 ·rw [qA4 (qA2 e hn)];exact e
 ·rw [qA4 (qA2 e hn)];exact e
 ·exact⟨#[],by rw [qA4 (qA2 e hn),e];simp⟩
 ·obtain⟨ob,es,ep,ho,r⟩:=hm
  exact⟨ob,es,ep,k _ ob (fun hb=>(hf _ hb).2.1 rfl) ho,r⟩
 ·by_cases hb:b=p
  ·subst hb;rw [qA1] at e;cases e;exact new
  ·rw [qA4 hb] at e
   refine (I.hok b u e).stay (fun c v hc q=>k c v ?_ q) (fun c q=>by rw [qA4 (qA2 q hn)];exact q) fun c xs q=>by rw [qA4 (qA2 q hn)];exact q
   rcases hc with z | z
   ·rw [z];exact nch b u e
   ·exact nch c _ z
def Ite (K:PySem.W.Frag) (a:Addr):It :=
 ⟨fun i H => ∃xs x,SqL K H a xs/\xs[i]? = some x,fun i H x H' => ∃p y,x = .ref p/\H p=none/\(∀ys,SqL K H a ys->ys[i]? = some y)/\H'=upd H p (.tup [.int (i:Int),y]),fun i H => ∃xs,SqL K H a xs/\xs.length<=i⟩
theorem qOb {P:Program} {w:World} {K:PySem.W.Frag} {elts:List Expr} {k:Nat} {pos:Pos} (a e it:Addr) (hne:e≠it) :
  Turn P w K (.Tuple elts k pos) (Ite K a) [e,it] e (fun i h=>(∃old,IsEnum h e it (i:Nat) old)/\h.IsListIter it a i) where
 mem:=by simp
 obj:=fun i h st b hb=>by
  obtain⟨⟨old,he⟩,⟨o,h1,h2,h3⟩⟩:=st
  rcases List.mem_cons.mp hb with z | z
  ·subst z
   exact⟨_,he,fun v z=>by
    have z':Data.fields _=Data.cell v:=z
    cases z'⟩
  ·have z:b=it:=by simpa using z
   subst z
   exact⟨o,h1,fun v z=>by rw [h3] at z;cases z⟩
 keep:=fun i h h' st kk=>by
  obtain⟨⟨old,he⟩,hi⟩:=st
  exact⟨⟨old,kk e (by simp) _ he⟩,hi.at fun o q=>kk it (by simp) o q⟩
 item:=by
  intro X hP hw hK hc i pins s σ H E I hf st hg
  subst hP hw hK
  obtain⟨xs,x,hq,hx⟩:=hg
  obtain⟨⟨old,he⟩,hi⟩:=st
  obtain⟨its,rv,p,hz⟩:=I.list hq
  obtain⟨u,hu,ru⟩:=rv.get hx
  refine wpAny_pyNext_enum_item he hi p.isList (x:=u) (by simpa using hu) hne fun h1 heo hi1 ht hsz hk => ?_
  refine⟨_,rfl,wpAny_letOwnedTupleGo_enum heo fun h2 he2 hs2 => ?_⟩
  have helt:e<s.heap.objs.size:=Heap.lt_size he
  have hs2':Heap.SameBut e h1 h2:=hs2
  have I1:Inv X pins σ (upd H s.heap.objs.size (.tup [.int (i:Int),x])) { s with heap:=h2,toks:=s.toks+1 }:=by
   refine I.turnLaid (ch :=[e,it]) (fun b o hb q => ?_) (fun b hb => ?_) hf (Nat.le_refl _) ?_
   ·have h1':b≠e:=fun z=>hb (by simp [z])
    have h2':b≠it:=fun z=>hb (by simp [z])
    exact (hs2'.2 b h1').trans (hk b o h1' h2' q)
   ·rcases List.mem_cons.mp hb with z | z
    ·subst z;exact⟨_,he2⟩
    ·have z:b=it:=by simpa using z
     subst z
     obtain⟨o,q,_⟩:=hi1
     exact⟨o,(hs2'.2 _ (Ne.symm hne)).trans q⟩
   ·refine⟨by show 2<=sizeLine;decide,[.int (i:Int) s.toks,u],.cons ⟨_,rfl⟩ (.cons ru .nil),⟨_,(hs2'.2 _ (Nat.ne_of_gt helt)).trans ht,rfl,_,rfl⟩⟩
  refine⟨.ref s.heap.objs.size,_,I1,rfl,⟨s.heap.objs.size,x,rfl,I.fresh,fun ys hy=>by rw [I.list_inj hy hq];exact hx,rfl⟩,⟨⟨_,by
   have:((i+1:Nat):Int)=(i:Int)+1:=by omega
   rw [this];exact he2⟩,hi1.extBut hs2'.extBut (Ne.symm hne)⟩,fun b hb => ?_⟩
  have hlt:b<s.heap.objs.size:=by
   rcases List.mem_cons.mp hb with z | z
   ·rw [z];exact helt
   ·have z:b=it:=by simpa using z
    rw [z];obtain⟨o,q,_⟩:=hi;exact Heap.lt_size q
  rw [qA4 (Nat.ne_of_lt hlt)];exact (hf b hb).1
 done:=by
  intro X hP hw hK hc i pins s σ H E I hf st hg
  subst hP hw hK
  obtain⟨xs,hq,hx⟩:=hg
  obtain⟨⟨old,he⟩,hi⟩:=st
  obtain⟨its,rv,p,hz⟩:=I.list hq
  obtain⟨f0,f1,f2,f3,f4,f5⟩:=hf it (by simp)
  have hl:=rv.length
  exact wpAny_pyNext_enum_end (I.ok.hd hc) he hi p.isList (by simp;omega) fun h' eb=>⟨rfl,I.turned (t':=s.toks) (fun b o hb q=>eb b o hb q) f0 f1 f3 f4 f5⟩
 self:=fun _ _ _ _ _ st h=>by
  obtain⟨⟨old,he⟩,_⟩:=st
  exact wpAny_pyIter_enum he h
section
variable {X:Cx} {elts:List Expr} {k:Nat} {tpos:Pos}
def iEnum (K:PySem.W.Frag) (ta:TA):TI:=fun σ H R=>ta σ H fun vs H1 => ∃a,vs = [.ref a]/\(∃xs,SqL K H1 a xs)/\R (Ite K a) H1
theorem qEh {a:Expr} {ta:TA} {p pos:Pos} (hg:Gl X "enumerate") (hm:X.mg "enumerate" = none) (ha:PA X [a] ta) (hs:starEach [a] X.env = [(false,eval a X.env)]:=by rfl):PI X (.Tuple elts k tpos) (.Call (.Name "enumerate" p) [a] [] pos) (iEnum X.K ta):=by
 intro pins s σ H R I h
 refine Call_ (qKe I hg hm boot_enumerate (PyProof.Rows.callWith_type1 (thn (ha pos pins s σ H _ I h) fun us s1 hq_ => ?_) hs rfl))
 obtain⟨vs,H1,I1,r1,q1⟩:=hq_
 obtain⟨l,e,⟨xs,hq⟩,q⟩:=q1
 subst e
 obtain⟨u,rfl,ru⟩:=vals1 r1
 cases ru
 obtain⟨its,rv,pl,hz⟩:=I1.list hq
 refine call_enumerate_list pl.isList fun h' he hi hsz hk => ?_
 refine wpAny_pyIter_enum he ?_
 have I2:Inv X pins σ H1 { s1 with heap:=h' }:=I1.kept (t':=s1.toks) hk
 refine⟨s1.heap.objs.size+1,[s1.heap.objs.size+1,s1.heap.objs.size],_,_,H1,rfl,I2,qOb l (s1.heap.objs.size+1) s1.heap.objs.size (Nat.ne_of_gt (Nat.lt_succ_self _)),⟨⟨_,he⟩,hi⟩,fun b hb => ?_,q⟩
 have hge:s1.heap.objs.size<=b:=by
  rcases List.mem_cons.mp hb with z | z
  ·rw [z];exact Nat.le_succ _
  ·have z:b=s1.heap.objs.size:=by simpa using z
   rw [z];exact Nat.le_refl _
 exact I1.fpOk hge (I1.hok.fresh hge)
end
section
variable {X:Cx} {elt tg iter tg2 iter2:Expr} {ifs ifs2:List Expr} {scope:Scope} {own:List Str} {cap:List Nat} {wi wi2:TI} {g g2:TG} {tts tts2:List TT} {te:TE} {pos:Pos}
theorem qBx (own:List Str) (cap:List Nat) (hc:X.calm=true) (S:CompScope X own cap scope) (hi:PI X tg iter wi) (hg : ∀cl s H ex,PG (qAh X own cap scope cl s H ex) tg g)
  (ht : ∀cl s H ex,PTs (qAh X own cap scope cl s H ex) ifs tts) (he : ∀cl s H ex,PE (qAh X own cap scope cl s H ex) elt te) (hs : ∀x,foldedSetIterable iter X.env x=pure x:=by intro _;rfl) :
  PE X (.ListComp elt [⟨tg,iter,ifs,0⟩] scope pos) (tComp own cap (.lst []) wi g tts (eApp te)):=by
 intro pins s σ H Q I h
 exact qJ2 (behOf:=qH4 elt) hc S rfl hi qJc (fun _ _ _ _ _=>qH1) hg ht (fun cl s H ex l=>qLq (he cl s H ex)) hs pins s σ H Q I h
theorem qRn {i:Nat} {x:Str} {px spos:Pos} (own:List Str) (cap:List Nat) (hc:X.calm=true) (S:CompScope X own cap scope) (hN:X.N.Nodup) (hix:X.N[i]? = some x) (hx:Loc X.env.scope x)
  (hi:PI X tg iter wi) (hg : ∀cl s H ex,PG (qAh X own cap scope cl s H ex) tg g)
  (ht : ∀cl s H ex,PTs (qAh X own cap scope cl s H ex) ifs tts) (he : ∀cl s H ex,PE (qAh X own cap scope cl s H ex) elt te)
  (hsw:swapsWith (.ListComp elt [⟨tg,iter,ifs,0⟩] scope pos) (some (.Name x px)) spos.line X.env=pure true:=by rfl) (hs : ∀x,foldedSetIterable iter X.env x=pure x:=by intro _;rfl)
  (hf:X.fn x=true\/X.env.scope.names.lookup x=some .local:=by first | exact .inl rfl | exact .inr rfl | assumption) :
  PS X (.Assign [.Name x px] (.ListComp elt [⟨tg,iter,ifs,0⟩] scope pos) spos) (tAsg (tComp own cap (.lst []) wi g tts (eApp te)) (gName i)):=by
 intro pins s σ H D I h
 rw [exec_Assign_Name_used _ _ _ _ hsw]
 refine wpAny_bind (wpAny_standAt (wpAny_bind ?_))
 show wpAny _ X.A (do let _ <-comprehension (.ListComp elt [⟨tg,iter,ifs,0⟩] scope pos) scope X.env _ (newList []) false (eval iter X.env) (some (assign (.Name x px) X.env))) _ _ s
 refine wpAny_bind (thn (qN4 (behOf:=qH4 elt) hc S rfl hi qJc (fun _ _ _ _ _=>qH1) hg ht (fun cl s H ex l=>qLq (he cl s H ex)) hs hN hix hx hf pins s σ H D I h) fun _ s' hq => ?_)
 exact wpAny_pure (wpAny_pure hq)
def qEm (e iter2:Expr) (d:Nat) (acc:Value) (env:Env):Sem Unit:=do
 let x <-eval iter2 env
 standAt iter2.pos
 let x <-foldedSetIterable iter2 env x
 let _ <-runOwn (.compStart e d (<-holding [x] (pyIter x)) acc env) env
def bNext (wi2:TI) (g2:TG) (tts2:List TT) (B:TB):TB:=fun σ H Q=>wi2 σ H fun J H1=>LoopT J g2 (tAll tts2) B σ H1 Q
theorem qP4 {e:Expr} {d:Nat} {acc:Value} {beh:Sem Unit} {B:TB} (hxe:X.xe=fun _ _=>False) (hc:X.calm=true) (C:ClauseAt X e d acc tg2 iter2 ifs2 beh) (hi:PI X tg2 iter2 wi2) (hg:PG X tg2 g2) (ht:PTs X ifs2 tts2) (hb:PB X beh B)
  (hs : ∀x,foldedSetIterable iter2 X.env x=pure x):PB X (qEm e iter2 d acc X.env) (bNext wi2 g2 tts2 B):=by
 intro pins s σ H Q I h
 refine wpAny_bind (thn (hi pins s σ H _ I h) fun v s1 q1=>wpAny_bind (wpAny_standAt (wpAny_bind (wpAny_of_eq (hs v) (wpAny_bind (wpAny_holding (thn q1 fun itv s2 q2 => ?_)))))))
 obtain⟨it,fp,tn,J,H2,rfl,I2,T,st2,f2,q⟩:=q2
 have L:=qKr hxe hc C T hg ht hb I2 st2 f2 q
 refine wpAny_bind (wpAny_runOwn ?_)
 refine codeAny_mono (C.start (.ref it) (CompR X pins Q) s2 L (T.self _ 0 _ _ _ st2 L)) fun r s' hr => ?_
 cases r with
 | error x=>exact (show False from hr).elim
 | ok f=>exact wpAny_pure hr
theorem qHb {elt:Expr} {gens:List Comprehension} {scope:Scope} {pos:Pos} {acc:Value} {d:Nat} {tg iter:Expr} {ifs:List Expr} (hd:gens[d]? = some ⟨tg,iter,ifs,0⟩) (it:Value) (R:Result->Shared->Prop) (s:Shared)
  (h0:codeAny (model X.prog X.w) X.A (.compLoop (.ListComp elt gens scope pos) d it acc X.env) R s)
  (h:wpAny (model X.prog X.w) X.A (pyIter it) (fun it' s'=>codeAny (model X.prog X.w) X.A (.compLoop (.ListComp elt gens scope pos) d it' acc X.env) R s') (fun _ _=>False) s) :
  codeAny (model X.prog X.w) X.A (.compStart (.ListComp elt gens scope pos) d it acc X.env) R s:=by
 refine codeAny_of_tree ?_
 show wpAny _ X.A ((compStart (.ListComp elt gens scope pos) d it acc X.env).onRaise (fun x=>do noteFrame x X.env;standAt theWindowsPlace)) _ _ s
 refine wpAny_notedAt ?_
 unfold compStart
 have e1:(clausesOf (.ListComp elt gens scope pos))[d]? = some ⟨tg,iter,ifs,0⟩:=hd
 rw [e1]
 show wpAny _ _ (ask >>= _) _ _ s
 refine wpAny_bind (wpAny_askSetting (wpAny_ite ?_))
 have h':wpAny (model X.prog X.w) X.A (pyIter it) (fun it' s'=>codeAny (model X.prog X.w) X.A (.compLoop (.ListComp elt gens scope pos) d it' acc X.env) R s') (notedBy (model X.prog X.w) X.A X.env fun x s'=>R (.error x) s') s:=wpAny_mono h (fun _ _ z=>z) fun _ _ z=>z.elim
 split
 ·first
   | exact wpAny_bind (wpAny_pure (wpAny_pure (And.intro rfl h0)))
   | exact wpAny_pure (And.intro rfl h0)
 ·first
   | exact wpAny_bind (wpAny_rule (wpAny_bind (wpAny_standAt (wpAny_bind (wpAny_mono h' (fun it' s' h'=>wpAny_pure (And.intro rfl h')) fun _ _ x=>x)))))
   | (refine wpAny_bind (wpAny_rule ?_);show wpAny _ _ (standAt iter.pos >>= _) _ _ s;exact wpAny_bind (wpAny_standAt (wpAny_bind (wpAny_mono h' (fun it' s' h'=>wpAny_pure (And.intro rfl h')) fun _ _ x=>x))))
theorem qJ5 {acc:Value}:ClauseAt X (.ListComp elt [⟨tg,iter,ifs,0⟩,⟨tg2,iter2,ifs2,0⟩] scope pos) 0 acc tg iter ifs (qEm (.ListComp elt [⟨tg,iter,ifs,0⟩,⟨tg2,iter2,ifs2,0⟩] scope pos) iter2 1 acc X.env) where
 quiet:=fun _=>rfl
 under:=fun _=>rfl
 den:=fun _=>rfl
 turn:=fun it=>by
  have e:compTurn (.ListComp elt [⟨tg,iter,ifs,0⟩,⟨tg2,iter2,ifs2,0⟩] scope pos) 0 it acc X.env=(do
   standAt iter.pos
   match <-pyNext it with
   | none=>pure (.done .next)
   | some v =>
    letOwnedTupleGo tg it v
    assign tg X.env v
    let ok <-qEb ifs X.env true
    if ok then
     let x <-eval iter2 X.env
     standAt iter2.pos
     let x <-foldedSetIterable iter2 X.env x
     let _ <-runOwn (.compStart (.ListComp elt [⟨tg,iter,ifs,0⟩,⟨tg2,iter2,ifs2,0⟩] scope pos) 1 (<-holding [x] (pyIter x)) acc X.env) X.env
    again (.compLoop (.ListComp elt [⟨tg,iter,ifs,0⟩,⟨tg2,iter2,ifs2,0⟩] scope pos) 0 it acc X.env)):=rfl
  rw [e]
  unfold qEm
  simp only [bind_assoc,pure_bind]
  first
   | done
   | rfl
   | (congr 1;funext _;congr 1;funext r;cases r <;> rfl)
 start:=fun it R s=>qHb rfl it R s
theorem qJ4 {acc:Value}:ClauseAt X (.ListComp elt [⟨tg,iter,ifs,0⟩,⟨tg2,iter2,ifs2,0⟩] scope pos) 1 acc tg2 iter2 ifs2 (qH4 elt acc X.env) where
 quiet:=fun _=>rfl
 under:=fun _=>rfl
 den:=fun _=>rfl
 turn:=fun _=>rfl
 start:=fun it R s=>qHb rfl it R s
end
end L2
namespace Srt
open PySem PySem.W PyProof.Rows
def run {α : Type} (lt:Nat->Nat->Bool):KasT α -> α
 | .ret a=>a
 | .ask i j k=>run lt (k (lt i j))
theorem qDv {α β : Type} (lt:Nat->Nat->Bool) (f : α -> KasT β) : ∀t:KasT α,run lt (t.bind f)=run lt (f (run lt t))
 | .ret _=>rfl
 | .ask i j k=>qDv lt f (k (lt i j))
section
variable (lt:Nat->Nat->Bool)
structure Ord:Prop where
 asym : ∀a b,lt a b=true->lt b a=false
 trans : ∀a b c,lt b a=false->lt c b=false->lt c a=false
abbrev at' (p:Array Nat) (i:Nat):Nat:=p.getD i 0
def Up (p:Array Nat) (k:Nat):Prop := ∀i j,i<=j->j<k->lt (at' p j) (at' p i)=false
def Dn (p:Array Nat) (k:Nat):Prop := ∀i j,i<=j->j<k->lt (at' p i) (at' p j)=false
def Eqs (p:Array Nat) (a b:Nat):Prop := ∀i j,a<=i->i<b->a<=j->j<b->lt (at' p i) (at' p j)=false
end
variable {lt:Nat->Nat->Bool}
theorem Ord.irr (O:Ord lt) (a:Nat):lt a a=false:=by
 cases h:lt a a with
 | false=>rfl
 | true=>rw [<-h];exact (O.asym a a h)
theorem qQr {p q:Array Nat} {i j:Nat} (h:p[i]? = q[j]?):at' p i=at' q j:=by
 unfold at'
 rw [Array.getD_eq_getD_getElem?,Array.getD_eq_getD_getElem?,h]
theorem qFv {p:Array Nat} {i j:Nat} (hj:j<=p.size) (k:Nat):at' (kas_rev p i j) k=if i<=k/\k<j then at' p (i+j - 1 - k) else at' p k:=by
 have h:=getElem?_mirror_all (i:=i) hj k
 by_cases c:i<=k/\k<j
 ·rw [if_pos c] at h ⊢;exact qQr h
 ·rw [if_neg c] at h ⊢;exact qQr h
theorem qTg {p:Array Nat} {k l:Nat} (hk:k<p.size) (hl:l<=k) (i:Nat):at' (bubble p k (k - l)) i=if i=l then at' p k else if l<i/\i<=k then at' p (i - 1) else at' p i:=by
 have h:=getElem?_bubble hk (k - l) (by omega) i
 have e:k - (k - l)=l:=by omega
 rw [e] at h
 by_cases c:i=l
 ·rw [if_pos c] at h ⊢;exact qQr h
 ·rw [if_neg c] at h ⊢
  by_cases d:l<i/\i<=k
  ·rw [if_pos d] at h ⊢;exact qQr h
  ·rw [if_neg d] at h ⊢;exact qQr h
theorem Up.snoc (O:Ord lt) {p:Array Nat} {n:Nat} (h1:1<=n) (u:Up lt p n) (h:lt (at' p n) (at' p (n - 1))=false):Up lt p (n+1):=by
 intro i j hij hj
 by_cases e:j=n
 ·subst e
  by_cases e2:i=j
  ·subst e2;exact O.irr _
  ·exact O.trans _ (at' p (j - 1)) _ (u i (j - 1) (by omega) (by omega)) h
 ·exact u i j hij (by omega)
theorem Dn.snoc (O:Ord lt) {p:Array Nat} {n:Nat} (h1:1<=n) (u:Dn lt p n) (h:lt (at' p (n - 1)) (at' p n)=false):Dn lt p (n+1):=by
 intro i j hij hj
 by_cases e:j=n
 ·subst e
  by_cases e2:i=j
  ·subst e2;exact O.irr _
  ·exact O.trans _ (at' p (j - 1)) _ h (u i (j - 1) (by omega) (by omega))
 ·exact u i j hij (by omega)
theorem qQu (O:Ord lt) (p:Array Nat) : ∀(f n:Nat),1<=n->Up lt p n->n<=run lt (kas_asc p f n)/\run lt (kas_asc p f n)<=n+f/\Up lt p (run lt (kas_asc p f n)) /\
  (run lt (kas_asc p f n)<n+f->lt (at' p (run lt (kas_asc p f n))) (at' p (run lt (kas_asc p f n) - 1))=true)
 | 0,n,h1,u=>⟨Nat.le_refl _,Nat.le_refl _,u,fun h=>absurd h (Nat.lt_irrefl _)⟩
 | f+1,n,h1,u=>by
  have e0:run lt (kas_asc p (f+1) n)=if lt (at' p n) (at' p (n - 1))=true then n else run lt (kas_asc p f (n+1)):=by
   show run lt (if lt (at' p n) (at' p (n - 1))=true then KasT.ret n else kas_asc p f (n+1))=_
   cases lt (at' p n) (at' p (n - 1)) <;> rfl
  rw [e0]
  cases c:lt (at' p n) (at' p (n - 1)) with
  | true =>
   simp only [if_true]
   exact⟨Nat.le_refl _,by omega,u,fun _=>c⟩
  | false =>
   simp only [Bool.false_eq_true,if_false]
   obtain⟨a,b,d,e⟩:=qQu O p f (n+1) (by omega) (u.snoc O h1 c)
   exact⟨by omega,by omega,d,fun h=>e (by omega)⟩
theorem qCa (p:Array Nat) (i j:Nat):(kas_rev p i j).Perm p:=mirror_perm _ _ _ _
theorem qD6 (p:Array Nat) (i j:Nat):(kas_rev p i j).size=p.size:=mirror_size _ _ _ _
theorem Dn.revEq (O:Ord lt) {p:Array Nat} {a n:Nat} (hn:n<=p.size) (ha:a<=n) (u:Dn lt p n) (e:Eqs lt p a n):Dn lt (kas_rev p a n) n:=by
 intro i j hij hj
 rw [qFv hn,qFv hn]
 by_cases ci:a<=i/\i<n
 ·by_cases cj:a<=j/\j<n
  ·rw [if_pos ci,if_pos cj];exact e _ _ (by omega) (by omega) (by omega) (by omega)
  ·omega
 ·by_cases cj:a<=j/\j<n
  ·rw [if_neg ci,if_pos cj];exact u _ _ (by omega) (by omega)
  ·rw [if_neg ci,if_neg cj];exact u _ _ hij hj
theorem qJ1 (O:Ord lt) : ∀(f:Nat) (p:Array Nat) (n q:Nat),q+1<=n->n+f<=p.size->Dn lt p n->Eqs lt p (n - (q+1)) n ->
  ∃p' n' q',run lt (kas_desc f p n q)=(p',n',q')/\p'.Perm p/\p'.size=p.size/\n<=n'/\n'<=n+f/\q'+1<=n'/\Dn lt p' n'/\Eqs lt p' (n' - (q'+1)) n'
 | 0,p,n,q,h1,h2,u,e=>⟨p,n,q,rfl,Array.Perm.refl _,rfl,Nat.le_refl _,Nat.le_refl _,h1,u,e⟩
 | f+1,p,n,q,h1,h2,u,e=>by
  unfold kas_desc
  show ∃p' n' q',run lt (if lt (at' p n) (at' p (n - 1))=true then _ else _)=_/\_
  cases c:lt (at' p n) (at' p (n - 1)) with
  | true =>
   simp only [if_true]
   by_cases hq:q>0
   ·rw [if_pos hq]
    have u1:Dn lt (kas_rev p (n - (q+1)) n) n:=u.revEq O (by omega) (by omega) e
    have ez:at' (kas_rev p (n - (q+1)) n) n=at' p n:=by rw [qFv (by omega),if_neg (by omega)]
    have ey:at' (kas_rev p (n - (q+1)) n) (n - 1)=at' p (n - (q+1)):=by
     rw [qFv (by omega),if_pos (by omega)];congr 1;omega
    have u2:Dn lt (kas_rev p (n - (q+1)) n) (n+1):=u1.snoc O (by omega) (by
     rw [ez,ey]
     exact O.trans _ (at' p (n - 1)) _ (O.asym _ _ c) (e _ _ (by omega) (by omega) (by omega) (by omega)))
    obtain⟨p',n',q',r,a1,a2,a3,a4,a5,a6,a7⟩:=qJ1 O f (kas_rev p (n - (q+1)) n) (n+1) 0 (by omega) (by rw [qD6];omega) u2 (fun i j _ _ _ _=>by
     have:i=j:=by omega
     subst this;exact O.irr _)
    exact⟨p',n',q',r,a1.trans (qCa _ _ _),a2.trans (qD6 _ _ _),by omega,by omega,a5,a6,a7⟩
   ·rw [if_neg hq]
    obtain⟨p',n',q',r,a1,a2,a3,a4,a5,a6,a7⟩:=qJ1 O f p (n+1) 0 (by omega) (by omega) (u.snoc O (by omega) (O.asym _ _ c)) (fun i j _ _ _ _=>by
     have:i=j:=by omega
     subst this;exact O.irr _)
    exact⟨p',n',q',r,a1,a2,by omega,by omega,a5,a6,a7⟩
  | false =>
   simp only [Bool.false_eq_true,if_false]
   show ∃p' n' q',run lt (if lt (at' p (n - 1)) (at' p n)=true then _ else _)=_/\_
   cases d:lt (at' p (n - 1)) (at' p n) with
   | true =>
    simp only [if_true]
    exact⟨p,n,q,rfl,Array.Perm.refl _,rfl,Nat.le_refl _,by omega,h1,u,e⟩
   | false =>
    simp only [Bool.false_eq_true,if_false]
    obtain⟨p',n',q',r,a1,a2,a3,a4,a5,a6,a7⟩:=qJ1 O f p (n+1) (q+1) (by omega) (by omega) (u.snoc O (by omega) d) (fun i j hi hi2 hj hj2=>by
     have key : ∀k,n+1 - (q+1+1)<=k->k<n+1->lt (at' p k) (at' p (n - 1))=false/\lt (at' p (n - 1)) (at' p k)=false:=by
      intro k k1 k2
      by_cases ek:k=n
      ·subst ek;exact⟨c,d⟩
      ·exact⟨e _ _ (by omega) (by omega) (by omega) (by omega),e _ _ (by omega) (by omega) (by omega) (by omega)⟩
     exact O.trans _ (at' p (n - 1)) _ (key j hj hj2).2 (key i hi hi2).1)
    exact⟨p',n',q',r,a1,a2,by omega,by omega,a5,a6,a7⟩
theorem Dn.rev {p:Array Nat} {n:Nat} (hn:n<=p.size) (u:Dn lt p n):Up lt (kas_rev p 0 n) n:=by
 intro i j hij hj
 rw [qFv hn,qFv hn,if_pos (by omega),if_pos (by omega)]
 exact u _ _ (by omega) (by omega)
theorem qMd (O:Ord lt) {p:Array Nat} {n nrem:Nat} (h1:1<=n) (hn:n<=nrem) (hz:nrem<=p.size) (u:Dn lt p n) :
  ∃m p',run lt (kas_tail3 n nrem p)=(m,p')/\p'.Perm p/\p'.size=p.size/\1<=m/\m<=nrem/\Up lt p' m:=by
 obtain⟨a,b,d,_⟩:=qQu O (kas_rev p 0 n) (nrem - n) n h1 (u.rev (by omega))
 refine⟨_,_,qDv lt _ _,qCa _ _ _,qD6 _ _ _,by omega,by omega,d⟩
theorem qGy (O:Ord lt) {p:Array Nat} {n nrem:Nat} (h1:1<=n) (hn:n+1<=nrem) (hz:nrem<=p.size) (u:Dn lt p (n+1)) :
  ∃m p',run lt (kas_descPart n nrem p)=(m,p')/\p'.Perm p/\p'.size=p.size/\1<=m/\m<=nrem/\Up lt p' m:=by
 obtain⟨p',n',q',r,a1,a2,a3,a4,a5,a6,a7⟩:=qJ1 O (nrem - (n+1)) p (n+1) 0 (by omega) (by omega) u (fun i j _ _ _ _=>by
  have:i=j:=by omega
  subst this;exact O.irr _)
 unfold kas_descPart
 rw [qDv,r]
 dsimp only
 by_cases hq:q'>0
 ·rw [if_pos hq]
  obtain⟨m,p2,e,b1,b2,b3,b4,b5⟩:=qMd O (p:=kas_rev p' (n' - (q'+1)) n') (n:=n') (nrem:=nrem) (by omega) (by omega) (by rw [qD6];omega) (a6.revEq O (by omega) (by omega) a7)
  exact⟨m,p2,e,(b1.trans (qCa _ _ _)).trans a1,by rw [b2,qD6];omega,b3,b4,b5⟩
 ·rw [if_neg hq]
  obtain⟨m,p2,e,b1,b2,b3,b4,b5⟩:=qMd O (p:=p') (n:=n') (nrem:=nrem) (by omega) (by omega) (by omega) a6
  exact⟨m,p2,e,b1.trans a1,by rw [b2];omega,b3,b4,b5⟩
theorem qSj (O:Ord lt) {p:Array Nat} {nrem:Nat} (h1:1<=nrem) (hz:nrem<=p.size) :
  ∃m p',run lt (kas_count nrem p)=(m,p')/\p'.Perm p/\p'.size=p.size/\1<=m/\m<=nrem/\Up lt p' m:=by
 obtain⟨a,b,d,e⟩:=qQu O p (nrem - 1) 1 (by omega) (fun i j hij hj=>by
  have:i=j:=by omega
  subst this;exact O.irr _)
 unfold kas_count
 rw [qDv]
 generalize hn:run lt (kas_asc p (nrem - 1) 1)=n at a b d e
 by_cases c:n=nrem
 ·rw [if_pos (by simp [c])]
  exact⟨n,p,rfl,Array.Perm.refl _,rfl,a,by omega,d⟩
 ·rw [if_neg (by simp [c])]
  have hlt:=e (by omega)
  by_cases c2:n>1
  ·rw [if_pos c2]
   show ∃m p',run lt (if lt (at' p 0) (at' p (n - 1))=true then _ else _)=_/\_
   cases f:lt (at' p 0) (at' p (n - 1)) with
   | true =>
    simp only [if_true]
    exact⟨n,p,rfl,Array.Perm.refl _,rfl,a,by omega,d⟩
   | false =>
    simp only [Bool.false_eq_true,if_false]
    have all : ∀i j,i<n->j<n->lt (at' p i) (at' p j)=false:=by
     intro i j hi hj
     have x1:lt (at' p (n - 1)) (at' p j)=false:=d j (n - 1) (by omega) (by omega)
     have x2:lt (at' p i) (at' p 0)=false:=d 0 i (by omega) hi
     exact O.trans _ (at' p 0) _ (O.trans _ (at' p (n - 1)) _ x1 f) x2
    have u:Dn lt (kas_rev p 0 n) (n+1):=by
     intro i j hij hj
     rw [qFv (by omega),qFv (by omega)]
     by_cases ej:j=n
     ·subst ej
      rw [if_neg (show ¬(0<=j/\j<j) by omega)]
      by_cases ei:i=j
      ·subst ei;rw [if_neg (by omega)];exact O.irr _
      ·rw [if_pos (by omega)]
       exact O.trans _ (at' p (j - 1)) _ (O.asym _ _ hlt) (all _ _ (by omega) (by omega))
     ·rw [if_pos (by omega),if_pos (by omega)]
      exact all _ _ (by omega) (by omega)
    obtain⟨m,p2,e2,b1,b2,b3,b4,b5⟩:=qGy O (p:=kas_rev p 0 n) (n:=n) (nrem:=nrem) a (by omega) (by rw [qD6];omega) u
    exact⟨m,p2,e2,b1.trans (qCa _ _ _),by rw [b2,qD6],b3,b4,b5⟩
  ·rw [if_neg c2]
   have en:n=1:=by omega
   subst en
   have u:Dn lt p (1+1):=by
    intro i j hij hj
    by_cases ei:i=j
    ·subst ei;exact O.irr _
    ·have e1:i=0:=by omega
     have e2:j=1:=by omega
     subst e1;subst e2
     exact O.asym _ _ hlt
   exact qGy O (by omega) (by omega) hz u
theorem qIt (O:Ord lt) {p:Array Nat} {k:Nat} (u:Up lt p k) : ∀(f l r:Nat),l<=r->r<=k->r - l<=f->(∀i,i<l->lt (at' p k) (at' p i)=false)->(∀i,r<=i->i<k->lt (at' p k) (at' p i)=true) ->
  ∃m,run lt (kas_place p k f l r)=m/\m<=k/\(∀i,i<m->lt (at' p k) (at' p i)=false) /\ ∀i,m<=i->i<k->lt (at' p k) (at' p i)=true
 | 0,l,r,h1,h2,h3,a,b=>⟨l,rfl,by omega,a,fun i hi=>b i (by omega)⟩
 | f+1,l,r,h1,h2,h3,a,b=>by
  unfold kas_place
  by_cases c:l>=r
  ·rw [if_pos c]
   exact⟨l,rfl,by omega,a,fun i hi=>b i (by omega)⟩
  ·rw [if_neg c]
   show ∃m,run lt (if lt (at' p k) (at' p ((l+r) / 2))=true then _ else _)=m/\_
   cases d:lt (at' p k) (at' p ((l+r) / 2)) with
   | true =>
    simp only [if_true]
    refine qIt O u f l ((l+r) / 2) (by omega) (by omega) (by omega) a fun i hi hk => ?_
    by_cases hr:r<=i
    ·exact b i hr hk
    ·cases z:lt (at' p k) (at' p i) with
     | true=>rfl
     | false =>
      have x:=u ((l+r) / 2) i hi hk
      have:=O.trans _ _ _ x z
      rw [d] at this;cases this
   | false =>
    simp only [Bool.false_eq_true,if_false]
    refine qIt O u f ((l+r) / 2+1) r (by omega) (by omega) (by omega) (fun i hi => ?_) b
    by_cases hl:i<l
    ·exact a i hl
    ·exact O.trans _ _ _ (u i ((l+r) / 2) (by omega) (by omega)) d
theorem qWj (O:Ord lt) {p:Array Nat} {k l:Nat} (hk:k<p.size) (hl:l<=k) (u:Up lt p k) (a : ∀i,i<l->lt (at' p k) (at' p i)=false) (b : ∀i,l<=i->i<k->lt (at' p k) (at' p i)=true):Up lt (bubble p k (k - l)) (k+1):=by
 intro i j hij hj
 rw [qTg hk hl,qTg hk hl]
 by_cases ei:i=l
 ·rw [if_pos ei]
  by_cases ej:j=l
  ·rw [if_pos ej];exact O.irr _
  ·rw [if_neg ej,if_pos (by omega)]
   exact O.asym _ _ (b _ (by omega) (by omega))
 ·rw [if_neg ei]
  by_cases ej:j=l
  ·rw [if_pos ej,if_neg (by omega)];exact a i (by omega)
  ·rw [if_neg ej]
   by_cases ci:l<i/\i<=k
   ·rw [if_pos ci,if_pos (by omega)];exact u _ _ (by omega) (by omega)
   ·rw [if_neg ci]
    by_cases cj:l<j/\j<=k
    ·rw [if_pos cj];exact u _ _ (by omega) (by omega)
    ·rw [if_neg cj];exact u _ _ hij (by omega)
theorem qTf (O:Ord lt) : ∀(f:Nat) (p:Array Nat) (k:Nat),k+f=p.size->Up lt p k -> ∃p',run lt (kas_bin f p k)=p'/\p'.Perm p/\p'.size=p.size/\Up lt p' p.size
 | 0,p,k,h,u=>⟨p,rfl,Array.Perm.refl _,rfl,by rw [<-h];exact u⟩
 | f+1,p,k,h,u=>by
  unfold kas_bin
  rw [qDv]
  obtain⟨m,e,h1,a,b⟩:=qIt O u k 0 k (by omega) (by omega) (by omega) (fun i hi=>absurd hi (by omega)) (fun i hi hk=>absurd hk (by omega))
  rw [e]
  obtain⟨p',e',b1,b2,b3⟩:=qTf O f (bubble p k (k - m)) (k+1) (by rw [bubble_size];omega) (qWj O (by omega) h1 u a b)
  exact⟨p',e',b1.trans (bubble_perm _ _ _),by rw [b2,bubble_size],by rw [bubble_size] at b3;exact b3⟩
theorem sort_ok (O:Ord lt) {n:Nat} (h1:1<=n) : ∃p,run lt (kas_sort n)=p/\p.Perm (List.toArray (List.range n))/\p.size=n/\Up lt p n:=by
 obtain⟨m,p,e,a1,a2,a3,a4,a5⟩:=qSj O (p:=List.toArray (List.range n)) (nrem:=n) h1 (by simp)
 have hz:p.size=n:=by rw [a2];simp
 unfold kas_sort
 rw [qDv,e]
 dsimp only
 by_cases c:m<n
 ·rw [if_pos c]
  have em:max m 1=m:=by omega
  rw [em]
  obtain⟨p',e',b1,b2,b3⟩:=qTf O (n - m) p m (by omega) a5
  exact⟨p',e',b1.trans a1,by omega,by rw [hz] at b3;exact b3⟩
 ·rw [if_neg c]
  have:m=n:=by omega
  subst this
  exact⟨p,rfl,a1,hz,a5⟩
def Asks {α : Type} (n:Nat):KasT α -> Prop
 | .ret _=>True
 | .ask i j k=>i<n/\j<n /\ ∀b,Asks n (k b)
def Ends' {α : Type} (n:Nat) (P : α -> Prop):KasT α -> Prop
 | .ret a=>P a
 | .ask i j k=>i<n/\j<n /\ ∀b,Ends' n P (k b)
theorem qCz {α β : Type} {n:Nat} {P : α -> Prop} {R : β -> Prop} {f : α -> KasT β} (hf : ∀a,P a->Ends' n R (f a)) : ∀ {t:KasT α},Ends' n P t->Ends' n R (t.bind f)
 | .ret a,h=>hf a h
 | .ask _ _ k,⟨h1,h2,h3⟩=>⟨h1,h2,fun b=>qCz hf (h3 b)⟩
def Bd (n:Nat) (p:Array Nat):Prop := ∀i,at' p i<n
theorem Bd.of {n:Nat} {p q:Array Nat} (h0:0<n) (h:q.Perm p) (hb : ∀x∈p,x<n):Bd n q /\ ∀x∈q,x<n:=by
 have hq : ∀x∈q,x<n:=fun x hx=>hb x ((Array.Perm.mem_iff h).mp hx)
 refine⟨fun i => ?_,hq⟩
 unfold at'
 rw [Array.getD_eq_getD_getElem?]
 cases e:q[i]? with
 | none=>exact h0
 | some x=>exact hq x (Array.mem_of_getElem? e)
section
variable {n:Nat} (h0:0<n)
abbrev Ok (n:Nat) (p:Array Nat):Prop:=Bd n p /\ ∀x∈p,x<n
include h0
theorem Ok.perm {p q:Array Nat} (h:Ok n p) (hp:q.Perm p):Ok n q:=Bd.of h0 hp h.2
theorem qJa {p:Array Nat} (hp:Ok n p) : ∀(f k:Nat),Ends' n (fun _=>True) (kas_asc p f k)
 | 0,_=>trivial
 | f+1,k=>⟨hp.1 _,hp.1 _,fun b=>by
  cases b with
  | true=>exact trivial
  | false=>exact qJa hp f (k+1)⟩
theorem qEz : ∀(f:Nat) (p:Array Nat) (k q:Nat),Ok n p->Ends' n (fun r=>Ok n r.1) (kas_desc f p k q)
 | 0,p,_,_,hp=>hp
 | f+1,p,k,q,hp=>⟨hp.1 _,hp.1 _,fun b=>by
  cases b with
  | true =>
   show Ends' n _ (if q>0 then _ else _)
   by_cases c:q>0
   ·rw [if_pos c];exact qEz f _ _ _ (hp.perm h0 (qCa _ _ _))
   ·rw [if_neg c];exact qEz f _ _ _ hp
  | false =>
   refine⟨hp.1 _,hp.1 _,fun d => ?_⟩
   cases d with
   | true=>exact hp
   | false=>exact qEz f _ _ _ hp⟩
theorem qHa {p:Array Nat} (hp:Ok n p) (k m:Nat):Ends' n (fun r=>Ok n r.2) (kas_tail3 k m p):=by
 unfold kas_tail3
 refine qCz (P:=fun _=>True) (fun a _ => ?_) (qJa h0 (hp.perm h0 (qCa _ _ _)) _ _)
 exact hp.perm h0 (qCa _ _ _)
theorem qF0 {p:Array Nat} (hp:Ok n p) (k m:Nat):Ends' n (fun r=>Ok n r.2) (kas_descPart k m p):=by
 unfold kas_descPart
 exact qCz (P:=fun r=>Ok n r.1) (fun a ha=>by
  by_cases c:a.2.2>0
  ·rw [if_pos c];exact qHa h0 (ha.perm h0 (qCa _ _ _)) _ _
  ·rw [if_neg c];exact qHa h0 ha _ _) (qEz h0 _ _ _ _ hp)
theorem qO2 {p:Array Nat} (hp:Ok n p) (m:Nat):Ends' n (fun r=>Ok n r.2) (kas_count m p):=by
 unfold kas_count
 exact qCz (P:=fun _=>True) (fun a _=>by
  by_cases c:(a == m)=true
  ·rw [if_pos c];exact hp
  ·rw [if_neg c]
   by_cases c2:a>1
   ·rw [if_pos c2]
    refine⟨hp.1 _,hp.1 _,fun b => ?_⟩
    cases b with
    | true=>exact hp
    | false=>exact qF0 h0 (hp.perm h0 (qCa _ _ _)) _ _
   ·rw [if_neg c2];exact qF0 h0 hp _ _) (qJa h0 hp _ _)
theorem qFi {p:Array Nat} (hp:Ok n p) (k:Nat) : ∀(f l r:Nat),Ends' n (fun _=>True) (kas_place p k f l r)
 | 0,_,_=>trivial
 | f+1,l,r=>by
  unfold kas_place
  by_cases c:l>=r
  ·rw [if_pos c];exact trivial
  ·rw [if_neg c]
   refine⟨hp.1 _,hp.1 _,fun b => ?_⟩
   cases b with
   | true=>exact qFi hp k f _ _
   | false=>exact qFi hp k f _ _
theorem qNa : ∀(f:Nat) (p:Array Nat) (k:Nat),Ok n p->Ends' n (fun _=>True) (kas_bin f p k)
 | 0,_,_,_=>trivial
 | f+1,p,k,hp=>qCz (P:=fun _=>True) (fun l _=>qNa f _ _ (hp.perm h0 (bubble_perm _ _ _))) (qFi h0 hp k _ _ _)
theorem sort_ends:Ends' n (fun _=>True) (kas_sort n):=by
 have hp:Ok n (List.toArray (List.range n)):=Bd.of h0 (Array.Perm.refl _) (fun x hx=>by simpa using hx)
 refine qCz (P:=fun r=>Ok n r.2) (fun a ha => ?_) (qO2 h0 hp n)
 by_cases c:a.1<n
 ·rw [if_pos c];exact qNa h0 _ _ _ ha
 ·rw [if_neg c];exact trivial
end
theorem wp_run_in {α : Type} {n:Nat} {lt:Nat->Nat->Bool} {cmp:Nat->Nat->(Bool->Shared->Prop)->Shared->Prop} {s:Shared} {Q : α -> Shared->Prop} {P : α -> Prop} (h : ∀i j C,i<n->j<n->C (lt i j) s->cmp i j C s) :
  ∀t:KasT α,Ends' n P t->Q (run lt t) s->t.kasWp cmp Q s
 | .ret _,_,q=>q
 | .ask i j k,e,q=>h i j _ e.1 e.2.1 (wp_run_in h (k (lt i j)) (e.2.2 _) q)
end Srt
namespace L2
open PySem PySem.Spec PyProof.Rows
theorem HOk.gone {P:Program} {w:World} {H:Hp} {h:Heap} {D:Addr} (x:HOk P w H h) (hD:h.get? D=none):H D=none:=by
 cases q:H D with
 | none=>rfl
 | some u =>
  have z : ∃ob,h.get? D=some ob:=by
   have:=x D u q
   cases u with
   | lst xs=>obtain⟨_,_,_,_,e⟩:=this;exact⟨_,e⟩
   | tup xs=>obtain⟨_,_,_,ob,e,_⟩:=this;exact⟨_,e⟩
   | dK kvs=>obtain⟨_,_,_,_,o,_,_,e,_⟩:=this;exact⟨_,e⟩
   | dT kvs=>obtain⟨_,_,_,_,o,_,_,e,_⟩:=this;exact⟨_,e⟩
   | set S n=>obtain⟨o,_,_,_,e,_⟩:=this;exact⟨_,e⟩
   | ins C dx fs=>obtain⟨_,_,_,e,_⟩:=this;exact⟨_,e⟩
   | own y=>obtain⟨_,e⟩:=this;exact⟨_,e⟩
   | xd fs=>obtain⟨_,⟨_,_,_,e,_⟩,_⟩:=this;exact⟨_,e⟩
   | rng lo hi=>obtain⟨_,_,_,e⟩:=this;exact⟨_,e⟩
   | frz ob u=>obtain⟨e,_⟩:=this;exact⟨_,e⟩
   | tbl ps=>exact⟨_,this⟩
   | met f y=>exact⟨_,this⟩
   | ext φ =>obtain⟨_,⟨_,e⟩,_⟩:=this;exact⟨_,e⟩
  obtain⟨ob,z⟩:=z
  rw [hD] at z;cases z
theorem Inv.ledgerLaid {X:Cx} {pins:List (Addr×Obj)} {σ : St} {H:Hp} {s:Shared} {h':Heap} {t':Nat} {D:Addr} {o:HO} {m:Str->Option Value} (I:Inv X pins σ H s) (F:Fr X.base X.env.locals s.heap m) (F':Fr X.base X.env.locals h' m)
  (N:News X.base X.env.locals h' (qDl X.base s.heap X.env.locals)) (hD:s.heap.get? D=none) (hDL:D≠X.env.locals) (new:ObjOk X.prog X.w (upd H D o) h' D o):Inv X pins σ (upd H D o) { s with heap:=h',toks:=t' }:=by
 have k : ∀b u,b≠X.env.locals->s.heap.get? b=some u->h'.get? b=some u:=fun b u hb e=>by
  cases q:X.base.get? b with
  | some v =>
   have:=I.bk b v q
   rw [e] at this;cases this
   exact F'.keep b _ q
  | none=>exact (N (b,u) (qGs hb q e)).1
 have hn:H D=none:=I.hok.gone hD
 have neD : ∀b u,s.heap.get? b=some u->b≠D:=fun b u e z=>by rw [z,hD] at e;cases e
 refine I.step (g':=s.gens) (d':=s.drawn) (ch :=[]) (fun _ z=>nomatch z) (fun b u hb _ _ e _=>k b u hb e) (fun b u hb _ _ e _=>⟨u.slots,k b u hb e⟩) (fun b u _ e n=>by rw [qA4 (neD b u e)];exact n)
  (fun b u _ e => ?_) (fun b xs e=>by rw [qA4 (qA2 e hn)];exact e) (fun b ob xs e=>by rw [qA4 (qA2 e hn)];exact e) (fun b ps e=>⟨#[],by rw [qA4 (qA2 e hn),e];simp⟩) (fun m' hm => ?_) (fun b u e => ?_) I.bare
 ·by_cases hb:b=X.env.locals
  ·obtain⟨oL,_,_,hL,_⟩:=F'.ns
   exact⟨oL,by rw [hb];exact hL⟩
  ·exact⟨u,k b u hb e⟩
 ·have:m'=m:=by
   obtain⟨o1,es1,ep1,e1,d1,_,f1⟩:=hm
   obtain⟨o2,es2,ep2,e2,d2,_,f2⟩:=F.ns
   rw [e1] at e2;cases e2
   rw [d1] at d2;cases d2
   funext x;rw [<-f1,<-f2]
  rw [this];exact F'.ns
 ·by_cases hb:b=D
  ·subst hb;rw [qA1] at e;cases e;exact new
  ·rw [qA4 hb] at e
   refine (I.hok b u e).stay (fun c v hc q=>k c v ?_ q) (fun c q=>by rw [qA4 (qA2 q hn)];exact q) fun c xs q=>by rw [qA4 (qA2 q hn)];exact q
   intro z
   rcases hc with y | y
   ·rw [<-y,z,I.free] at e;cases e
   ·rw [z,I.free] at y;cases y
end L2
namespace Srt
open PySem PySem.W PyProof.Rows
end Srt
namespace L2
open PySem PySem.Spec PyProof.Rows
theorem Same.seqT {K:PySem.W.Frag} {H H':Hp} {a:Addr} {xs:List V} (e:Same H H') (h:SqT K H a xs):SqT K H' a xs:=by
 rcases h with (h | ⟨o,h⟩) | h
 ·exact .inl (.inl (e _ _ h))
 ·exact .inl (.inr ⟨o,e _ _ h⟩)
 ·exact .inr h
mutual
def Den (K:PySem.W.Frag) (G:Hp):PyData->V->Prop
 | .none,v=>v = .non
 | .bool b,v=>v = .bl b
 | .int i,v=>v = .int i
 | .str x,v=>v = .str x
 | .list ds,v => ∃a vs,v = .ref a/\SqL K G a vs/\DenL K G ds vs
 | .tuple ds,v => ∃a vs,v = .ref a/\SqT K G a vs/\DenL K G ds vs
 | .dict _,_=>False
def DenL (K:PySem.W.Frag) (G:Hp):List PyData->List V->Prop
 | [],vs=>vs = []
 | d::ds,vs => ∃v r,vs=v::r/\Den K G d v/\DenL K G ds r
end
section
variable {K:PySem.W.Frag} {G G':Hp}
mutual
theorem Den.mono (h:Same G G') : ∀ {d:PyData} {v:V},Den K G d v->Den K G' d v
 | .none,_,e=>by simp only [Den] at e ⊢;exact e
 | .bool _,_,e=>by simp only [Den] at e ⊢;exact e
 | .int _,_,e=>by simp only [Den] at e ⊢;exact e
 | .str _,_,e=>by simp only [Den] at e ⊢;exact e
 | .list ds,_,e=>by
  simp only [Den] at e ⊢
  obtain⟨a,vs,e1,e2,e3⟩:=e
  exact⟨a,vs,e1,h.seq e2,DenL.mono h e3⟩
 | .tuple ds,_,e=>by
  simp only [Den] at e ⊢
  obtain⟨a,vs,e1,e2,e3⟩:=e
  exact⟨a,vs,e1,h.seqT e2,DenL.mono h e3⟩
 | .dict _,_,e=>by simp only [Den] at e
theorem DenL.mono (h:Same G G') : ∀ {ds:List PyData} {vs:List V},DenL K G ds vs->DenL K G' ds vs
 | [],_,e=>by simp only [DenL] at e ⊢;exact e
 | d::ds,_,e=>by
  simp only [DenL] at e ⊢
  obtain⟨v,r,e1,e2,e3⟩:=e
  exact⟨v,r,e1,Den.mono h e2,DenL.mono h e3⟩
end
theorem DenL.len : ∀ {ds:List PyData} {vs:List V},DenL K G ds vs->vs.length=ds.length
 | [],_,e=>by simp only [DenL] at e;rw [e];rfl
 | d::ds,_,e=>by
  simp only [DenL] at e
  obtain⟨v,r,rfl,_,e3⟩:=e
  simp [DenL.len e3]
theorem DenL.nil:DenL K G [] []:=by simp only [DenL]
theorem DenL.cons {d:PyData} {ds:List PyData} {v:V} {vs:List V} (h1:Den K G d v) (h2:DenL K G ds vs):DenL K G (d::ds) (v::vs):=by
 simp only [DenL];exact⟨v,vs,rfl,h1,h2⟩
theorem DenL.append : ∀ {ds es:List PyData} {vs ws:List V},DenL K G ds vs->DenL K G es ws->DenL K G (ds++es) (vs++ws)
 | [],_,_,_,e,f=>by simp only [DenL] at e;subst e;exact f
 | d::ds,_,_,_,e,f=>by
  simp only [DenL] at e
  obtain⟨v,r,rfl,e2,e3⟩:=e
  exact .cons e2 (DenL.append e3 f)
theorem DenL.get : ∀ {ds:List PyData} {vs:List V} {i:Nat} {v:V},DenL K G ds vs->vs[i]? = some v -> ∃d,ds[i]? = some d/\Den K G d v
 | [],_,_,_,e,h=>by simp only [DenL] at e;subst e;simp at h
 | d::ds,_,0,_,e,h=>by
  simp only [DenL] at e
  obtain⟨v,r,rfl,e2,e3⟩:=e
  simp at h;subst h
  exact⟨d,rfl,e2⟩
 | d::ds,_,i+1,_,e,h=>by
  simp only [DenL] at e
  obtain⟨v,r,rfl,e2,e3⟩:=e
  exact DenL.get (i:=i) e3 (by simpa using h)
theorem DenL.get' : ∀ {ds:List PyData} {vs:List V} {i:Nat} {d:PyData},DenL K G ds vs->ds[i]? = some d -> ∃v,vs[i]? = some v/\Den K G d v
 | [],_,_,_,e,h=>by simp at h
 | d::ds,_,0,_,e,h=>by
  simp only [DenL] at e
  obtain⟨v,r,rfl,e2,e3⟩:=e
  simp at h;subst h
  exact⟨v,rfl,e2⟩
 | d::ds,_,i+1,_,e,h=>by
  simp only [DenL] at e
  obtain⟨v,r,rfl,e2,e3⟩:=e
  exact DenL.get' (i:=i) e3 (by simpa using h)
theorem Den.int {i:Int}:Den K G (.int i) (.int i):=by simp only [Den]
theorem Den.list {ds:List PyData} {a:Addr} {vs:List V} (h:SqL K G a vs) (e:DenL K G ds vs):Den K G (.list ds) (.ref a):=by simp only [Den];exact⟨a,vs,rfl,h,e⟩
theorem Den.tuple {ds:List PyData} {a:Addr} {vs:List V} (h:SqT K G a vs) (e:DenL K G ds vs):Den K G (.tuple ds) (.ref a):=by simp only [Den];exact⟨a,vs,rfl,h,e⟩
theorem Den.ofInt {i:Int} {v:V} (h:Den K G (.int i) v):v = .int i:=by simpa only [Den] using h
theorem Den.ofStr {i:Str} {v:V} (h:Den K G (.str i) v):v = .str i:=by simpa only [Den] using h
theorem Den.ofList {ds:List PyData} {v:V} (h:Den K G (.list ds) v) : ∃a vs,v = .ref a/\SqL K G a vs/\DenL K G ds vs:=by simpa only [Den] using h
theorem Den.ofTuple {ds:List PyData} {v:V} (h:Den K G (.tuple ds) v) : ∃a vs,v = .ref a/\SqT K G a vs/\DenL K G ds vs:=by simpa only [Den] using h
theorem DenL.ofCons {d:PyData} {ds:List PyData} {vs:List V} (h:DenL K G (d::ds) vs) : ∃v r,vs=v::r/\Den K G d v/\DenL K G ds r:=by simpa only [DenL] using h
theorem DenL.ofNil {vs:List V} (h:DenL K G [] vs):vs = []:=by simpa only [DenL] using h
theorem DenL.ints : ∀ {ns:List Int} {vs:List V},DenL K G (ns.map PyData.int) vs->vs=ns.map V.int
 | [],_,e=>e.ofNil
 | n::ns,_,e=>by
  obtain⟨v,r,rfl,e2,e3⟩:=DenL.ofCons e
  rw [e2.ofInt,DenL.ints e3];rfl
theorem DenL.ofInts : ∀ns:List Int,DenL K G (ns.map PyData.int) (ns.map V.int)
 | [] =>.nil
 | n::ns =>.cons .int (DenL.ofInts ns)
end
section
variable {X:Cx} {pins:List (Addr×Obj)} {σ : St} {H:Hp} {s:Shared}
mutual
theorem Den.reads (I:Inv X pins σ H s) : ∀ {d:PyData} {v:V} {u:Value},Den X.K H d v->RelV v u -> ∃as,Reads s.heap u d as
 | .none,_,_,e,r=>by simp only [Den] at e;subst e;cases r;exact⟨_,.none⟩
 | .bool b,_,_,e,r=>by simp only [Den] at e;subst e;cases r;exact⟨_,.bool b⟩
 | .int i,_,_,e,r=>by simp only [Den] at e;subst e;obtain⟨t,rfl⟩:=r;exact⟨_,.int i t⟩
 | .str x,_,_,e,r=>by simp only [Den] at e;subst e;obtain⟨t,rfl⟩:=r;exact⟨_,.str x t⟩
 | .list ds,_,_,e,r=>by
  simp only [Den] at e
  obtain⟨a,vs,rfl,e2,e3⟩:=e
  cases r
  obtain⟨its,rv,⟨o,n,h1,h2,h3,h4⟩,_⟩:=I.list e2
  obtain⟨as,ra⟩:=DenL.reads I e3 rv
  exact⟨_,.list h1 h2 h4 (by simpa using ra)⟩
 | .tuple ds,_,_,e,r=>by
  simp only [Den] at e
  obtain⟨a,vs,rfl,e2,e3⟩:=e
  cases r
  obtain⟨its,rv,⟨o,h1,h2,n,h4⟩,_⟩:=I.tuple e2
  obtain⟨as,ra⟩:=DenL.reads I e3 rv
  exact⟨_,.tuple h1 h2 h4 (by simpa using ra)⟩
 | .dict _,_,_,e,_=>by simp only [Den] at e
theorem DenL.reads (I:Inv X pins σ H s) : ∀ {ds:List PyData} {vs:List V} {us:List Value},DenL X.K H ds vs->Vals vs us -> ∃as,ReadsAll s.heap us ds as
 | [],_,_,e,r=>by simp only [DenL] at e;subst e;cases r;exact⟨_,.nil⟩
 | d::ds,_,_,e,r=>by
  simp only [DenL] at e
  obtain⟨v,vr,rfl,e2,e3⟩:=e
  cases r with
  | cons r1 r2 =>
   obtain⟨as,ra⟩:=Den.reads I e2 r1
   obtain⟨bs,rb⟩:=DenL.reads I e3 r2
   exact⟨_,.cons ra rb⟩
end
end
mutual
theorem qI1 {K:PySem.W.Frag} {G:Hp} : ∀ {d:PyData} {v:V},Den K G d v->d.hasDict=false
 | .none,_,_=>by simp only [PyData.hasDict]
 | .bool _,_,_=>by simp only [PyData.hasDict]
 | .int _,_,_=>by simp only [PyData.hasDict]
 | .str _,_,_=>by simp only [PyData.hasDict]
 | .list ds,_,e=>by
  simp only [Den] at e
  obtain⟨a,vs,rfl,e2,e3⟩:=e
  simp only [PyData.hasDict];exact qEj e3
 | .tuple ds,_,e=>by
  simp only [Den] at e
  obtain⟨a,vs,rfl,e2,e3⟩:=e
  simp only [PyData.hasDict];exact qEj e3
 | .dict _,_,e=>by simp only [Den] at e
theorem qEj {K:PySem.W.Frag} {G:Hp} : ∀ {ds:List PyData} {vs:List V},DenL K G ds vs->PyData.hasDictAll ds=false
 | [],_,_=>by simp only [PyData.hasDictAll]
 | d::ds,_,e=>by
  simp only [DenL] at e
  obtain⟨v,vr,rfl,e2,e3⟩:=e
  simp only [PyData.hasDictAll,qI1 e2,qEj e3,Bool.or_false]
end
section
variable {X:Cx} {k:Nat}
def rRepr (K:PySem.W.Frag):List V->Hp->VK->Prop:=fun xs H Q => ∃(a:Addr) (d:PyData),xs = [.ref a]/\Den K H d (.ref a)/\d.showable=true/\d.depth<=100/\d.shown.length<=sizeLine/\Q (.str d.shown) H
theorem qKy (hr:Room k X.A):CallR X (.builtin "repr") (rRepr X.K):=by
 intro pins s σ H xs us Q I r h
 obtain⟨a,d,rfl,hd,h1,h2,h3,q⟩:=h
 obtain⟨u,rfl,ru⟩:=vals1 r
 cases ru
 obtain⟨as,ra⟩:=Den.reads I hd (show RelV (.ref a) (Value.ref a) from rfl)
 have hu:=hr.un
 exact repr_of_reads' ra h1 (fun z=>by rw [qI1 hd] at z;cases z) hr.gd (by omega) (fun _ _ e=>e) (fun h' u tk kk=>⟨.str d.shown,H,I.kept (t':=tk) kk,⟨_,rfl⟩,q⟩) h3
def rEqD (K:PySem.W.Frag) (neg:Bool):R2:=fun x y H Q => ∃da db,Den K H da x/\Den K H db y/\SeqAt.shaped da=true/\SeqAt.shaped db=true/\Q (.bl (if neg then !PyData.eqv da db else PyData.eqv da db)) H
theorem qW8 (hr:Room k X.A):OpR X (compareOp .Eq) (rEqD X.K false):=by
 intro pins s σ H x y v u Q I rx ry h
 obtain⟨da,db,ha,hb,h1,h2,q⟩:=h
 obtain⟨as,ra⟩:=Den.reads I ha rx
 obtain⟨bs,rb⟩:=Den.reads I hb ry
 exact SeqAt.compareEq_shaped ra rb h1 h2 hr.units ⟨.bl _,H,I,rfl,q⟩
theorem qK2 (hr:Room k X.A):OpR X (compareOp .NotEq) (rEqD X.K true):=by
 intro pins s σ H x y v u Q I rx ry h
 obtain⟨da,db,ha,hb,h1,h2,q⟩:=h
 obtain⟨as,ra⟩:=Den.reads I ha rx
 obtain⟨bs,rb⟩:=Den.reads I hb ry
 exact SeqAt.compareNe_shaped ra rb h1 h2 hr.units ⟨.bl _,H,I,rfl,q⟩
end
mutual
theorem qG9 : ∀d:PyData,d.hasDict=false->PyData.eqv d d=true
 | .none,_=>by simp only [PyData.eqv]
 | .bool _,_=>by simp only [PyData.eqv,beq_self_eq_true]
 | .int _,_=>by simp only [PyData.eqv,beq_self_eq_true]
 | .str _,_=>by simp only [PyData.eqv,beq_self_eq_true]
 | .list ds,h=>by simp only [PyData.eqv];exact qEi ds (by simpa only [PyData.hasDict] using h)
 | .tuple ds,h=>by simp only [PyData.eqv];exact qEi ds (by simpa only [PyData.hasDict] using h)
 | .dict _,h=>by simp [PyData.hasDict] at h
theorem qEi : ∀ds:List PyData,PyData.hasDictAll ds=false->PyData.eqvAll ds ds=true
 | [],_=>by simp only [PyData.eqvAll]
 | d::ds,h=>by
  simp only [PyData.hasDictAll,Bool.or_eq_false_iff] at h
  simp only [PyData.eqvAll,qG9 d h.1,qEi ds h.2,Bool.and_self]
end
end L2
namespace Miss
open PySem PySem.Spec PyProof.Rows
theorem qUk:typeLookup (.type "list") "keys" = pure none:=am_miss_of_fast (by decide +kernel)
theorem qX6:typeLookup (.type "list") "__getattr__" = pure none:=am_miss_of_fast (by decide +kernel)
section
variable {prog:Program} {w:World} {A:Around} {E:Value->Shared->Prop} {a:Addr} {its:Array Value} {n:Nat}
theorem entry {u:Tok}:Meets (Builtin.«object.__getattribute__» ⟨[.ref a,.str "keys" u],[]⟩) (fun A R s=>s.heap.get? a=some { cls :=.type "list",dict:=none,data :=.seq its n,slots := #[] }/\raisesAttr (.ref a) "keys" A R s) :=
 Meets.of_wp fun prog w A R s hs=>by
  obtain⟨hp,g,d,tk,os⟩:=s
  obtain⟨hx,hs⟩:=hs
  have hT:(⟨hp,g,d,tk,os⟩:Shared).TypeIs (.ref a) "list" :=⟨_,hx,rfl⟩
  have f4:=qUk
  unfold Builtin.«object.__getattribute__»
  repeat (any_goals (first | assumption | wp_step))
  exact wpAny_raiseAttrError hs.1 hs.2 (attrMsg_fits (by decide +kernel) (by rw [sizeLine_eq];decide +kernel))
theorem no_keys {s:Shared} {Q:Option Value->Shared->Prop} (hA:A.handled=none) (hx:s.heap.get? a=some { cls :=.type "list",dict:=none,data :=.seq its n,slots := #[] })
  (h : ∀h' tk,(∀b o,s.heap.get? b=some o->h'.get? b=some o)->Q none { s with heap:=h',toks:=tk }):wpAny (model prog w) A (getAttr? (.ref a) "keys") Q E s:=by
 obtain⟨hp,g,d,tk,os⟩:=s
 have hT : ∀tk,(⟨hp,g,d,tk,os⟩:Shared).TypeIs (.ref a) "list" :=fun _=>⟨_,hx,rfl⟩
 have f1:=sub_AttributeError
 have f3:=F.slot_list_getattribute.lookup
 have f4:=F.slot_list_getattribute.bind (.ref a)
 have f5:=qX6
 unfold getAttr? getAttrBy? getAttrBy
 repeat (any_goals (first | assumption | ((with_reducible show wpAny _ _ (call (Value.builtin "list.__getattribute__") _ _) _ _ _);refine call_meets F.slot_list_getattribute (hT _) F.entry_list_ga (F.args_list_getattribute_2 _ _) (entry (its:=its) (n:=n)) ⟨hx,hA,fun h' tk' e x => ?_⟩) | wp_step))
 obtain⟨t',u',he⟩:=x.there
 show wpAny _ _ (getattributeRaised _ _ (Value.type "list") _ _ _ _) _ _ _
 unfold getattributeRaised
 repeat (any_goals (first | assumption | wp_step))
 exact h _ _ x.keeps
theorem entry_loop:entryFor table "dict.update.loop" = some Builtin.«dict.update.loop» :=entryFor_of_tree (by kernel_rfl)
theorem plain_loop:plainId "dict.update.loop" = true:=by decide +kernel
end
end Miss
namespace L2
open PySem PySem.Spec PyProof.Rows
theorem qSn {X:Cx}:qI7 X newDict (.dK []):=by
 intro pins s σ H E Q I h
 refine wpAny_newObj_type (h _ _ (Nat.le_refl _) I.fresh (I.laid (t':=s.toks) (fun _ _ q=>Heap.get?_push_of_some _ q) (Nat.le_refl _) (qN3 s.heap I.big)) fun b u e=>Heap.get?_push_of_some _ e) ?_
 first | trivial | size_fits | decide
def ePut (tk tv:TE) (l:Addr):TB:=fun σ H Q=>tk σ H fun x H1=>tv σ H1 fun y H2 => ∃kvs k,x=kV k/\H2 l=some (.dK kvs)/\kvs.length<sizeLine/\Q σ (upd H2 l (.dK (putK kvs k y)))
def qM5 (k v:Expr) (acc:Value) (env:Env):Sem Unit:=do
 let kv <-eval k env
 let vv <-holding [kv] (eval v env)
 match acc with
 | .ref d=>do
  standAt { k.pos with endLine:=v.pos.endLine,endCol:=v.pos.endCol }
  holding [kv,vv] (dictSet d kv vv)
 | _=>unsupported "internal:dictcomp"
theorem qU7 {X:Cx} {k v:Expr} {tk tv:TE} {l:Addr} (hk:PE X k tk) (hv:PE X v tv):PB X (qM5 k v (.ref l) X.env) (ePut tk tv l):=by
 intro pins s σ H Q I h
 refine wpAny_bind (thn (hk pins s σ H _ I h) fun u s1 hq_ => ?_)
 obtain⟨x,H1,I1,r1,q1⟩:=hq_
 refine wpAny_bind (wpAny_holding (thn (hv pins s1 σ H1 _ I1 q1) fun w2 s2 hq_ => ?_))
 obtain⟨y,H2,I2,r2,kvs,kk,e,hd,hz,q⟩:=hq_
 subst e
 obtain⟨z,hs,vs,rel,dd⟩:=qH7 I2.hok hd
 have hl:(putK kvs kk y).length<=sizeLine:=by have:=qBh kvs kk y;omega
 refine wpAny_bind (wpAny_standAt (wpAny_holding (wpAny_dictSet_pairs (qKi r1) dd (fun h' dd' sb => ?_) (by rw [<-rel.length];exact z))))
 have he : ∃q,h'.get? l=some q:=let ⟨q,_,_,hq,_⟩:=dd';⟨q,hq⟩
 exact⟨σ,_,qEk I2 (by rw [hd];exact True.intro) sb he (qN2 hl hs (rel.put kk r2) dd'),q⟩
theorem qM3 {X:Cx} {k v tg iter:Expr} {ifs:List Expr} {scope:Scope} {pos:Pos} {acc:Value}:ClauseAt X (.DictComp k v [⟨tg,iter,ifs,0⟩] scope pos) 0 acc tg iter ifs (qM5 k v acc X.env) where
 quiet:=fun _=>rfl
 under:=fun _=>rfl
 den:=fun _=>rfl
 turn:=fun _=>rfl
 start:=fun it R s h0 h=>codeAny_compStart_dict h0 (wpAny_mono h (fun _ _ z=>z) fun _ _ z=>z.elim)
section
variable {X:Cx} {ke ve tg iter:Expr} {ifs:List Expr} {scope:Scope} {own:List Str} {cap:List Nat} {wi:TI} {g:TG} {tts:List TT} {tk tv:TE} {pos:Pos}
theorem qU4 (own:List Str) (cap:List Nat) (hc:X.calm=true) (S:CompScope X own cap scope) (hi:PI X tg iter wi) (hg : ∀cl s H ex,PG (qAh X own cap scope cl s H ex) tg g)
  (ht : ∀cl s H ex,PTs (qAh X own cap scope cl s H ex) ifs tts) (hk : ∀cl s H ex,PE (qAh X own cap scope cl s H ex) ke tk) (hv : ∀cl s H ex,PE (qAh X own cap scope cl s H ex) ve tv) (hs : ∀x,foldedSetIterable iter X.env x=pure x:=by intro _;rfl) :
  PE X (.DictComp ke ve [⟨tg,iter,ifs,0⟩] scope pos) (tComp own cap (.dK []) wi g tts (ePut tk tv)):=by
 intro pins s σ H Q I h
 exact qJ2 (behOf:=qM5 ke ve) hc S rfl hi qSn (fun _ _ _ _ _=>qM3) hg ht (fun cl s H ex l=>qU7 (hk cl s H ex) (hv cl s H ex)) hs pins s σ H Q I h
end
def Itd (d:Addr) (o:Obj) (kvs:List (Key×V)):It :=
 ⟨fun i H=>H d=some (.frz o (.dK kvs))/\i<kvs.length,fun i H x H'=>H'=H /\ ∃k v,kvs[i]? = some (k,v)/\x=kV k,fun i H=>H d=some (.frz o (.dK kvs))/\kvs.length<=i⟩
theorem qQ0 {P:Program} {w:World} {k:Key} {u:Value} (h:(qAp P w).is k u=true):RelV (kV k) u:=by
 rcases qAz h with ⟨i,t,rfl,rfl⟩ | ⟨x,t,rfl,rfl⟩
 ·exact⟨t,rfl⟩
 ·exact⟨t,rfl⟩
theorem KV.keyAt {κ : Type} : ∀ {kvs:List (κ × V)} {vs:List (κ × Value)} {i:Nat} {k : κ} {v:V},KV kvs vs->kvs[i]? = some (k,v) -> ∃x,vs[i]? = some (k,x)
 | _,_,_,_,_,.nil,e=>by simp at e
 | _,_,0,_,_,.cons (b:=b) r _,e=>by
  simp at e;subst e
  obtain⟨b1,b2⟩:=b
  have:_=b1:=r.1
  exact⟨b2,by simp [<-this]⟩
 | _,_,i+1,k,v,.cons _ t,e=>KV.keyAt (i:=i) (v:=v) t (by simpa using e)
section
variable {P:Program} {w:World} {K:PySem.W.Frag} {tg:Expr}
theorem qMz {H:Hp} {h:Heap} {d:Addr} {o:Obj} {kvs:List (Key×V)} {es:Array DictEntry} {ep:Nat} (ok:HOk P w H h) (e:H d=some (.frz o (.dK kvs))) (hd:o.data = .dict es ep) :
  kvs.length<=sizeLine/\(d == sysModules)=false /\ ∃vs,KV kvs vs/\h.DictAt (qAp P w) d vs ep:=by
 obtain⟨ho,z,hs,vs,rel,o2,es2,ep2,h1,h2,h3,h4⟩:=ok d _ e
 rw [ho] at h1;cases h1
 rw [hd] at h3;cases h3
 exact⟨z,hs,vs,rel,o,es,ho,h2,hd,h4⟩
theorem qOc (d it:Addr) (o:Obj) (kvs:List (Key×V)) {es:Array DictEntry} {ep:Nat} (hd:o.data = .dict es ep):Turn P w K tg (Itd d o kvs) [it] it (fun i h=>h.IsKeyIter it d i kvs.length ep) where
 mem:=by simp
 obj:=fun i h st b hb=>by
  have e:b=it:=by simpa using hb
  subst e
  obtain⟨ob,e,c,dd⟩:=st
  exact⟨ob,e,fun v z=>by rw [dd] at z;cases z⟩
 keep:=fun i h h' st k=>st.at fun ob e=>k it (by simp) ob e
 item:=by
  intro X hP hw hK hc i pins s σ H E I hf st hg
  subst hP hw hK
  obtain⟨hq,hi⟩:=hg
  obtain⟨z,hs,vs,rel,dd⟩:=qMz I.hok hq hd
  obtain⟨⟨k,v⟩,hx⟩ : ∃p,kvs[i]? = some p:=⟨kvs[i],by simp [hi]⟩
  obtain⟨x,hxv⟩:=rel.keyAt hx
  obtain⟨f0,f1,f2,f3,f4,f5⟩:=hf it (by simp)
  have hl:=rel.length
  refine wpAny_pyNext_dict_item (by rw [<-hl];exact st) dd hxv fun key h' hkey st' sb => ?_
  have I1:Inv X pins σ H { s with heap:=h' }:=I.turned (t':=s.toks) (fun b ob hb e=>(sb.2 b hb).trans e) f0 f1 f3 f4 f5
  obtain⟨ob,e,c,d2⟩:=id st'
  exact⟨key,rfl,qSc (s :={ s with heap:=h' }) e c d2 (by decide) ⟨kV k,H,I1,qQ0 hkey,⟨rfl,k,v,hx,rfl⟩,by rw [<-hl] at st';exact st',fun b hb=>(hf b hb).1⟩⟩
 done:=by
  intro X hP hw hK hc i pins s σ H E I hf st hg
  subst hP hw hK
  obtain⟨hq,hi⟩:=hg
  obtain⟨z,hs,vs,rel,dd⟩:=qMz I.hok hq hd
  obtain⟨f0,f1,f2,f3,f4,f5⟩:=hf it (by simp)
  have hl:=rel.length
  exact wpAny_pyNext_dict_end (I.ok.hd hc) (by rw [<-hl];exact st) dd (by simp;omega) fun h' eb=>⟨rfl,I.turned (t':=s.toks) (fun b ob hb e=>eb b ob hb e) f0 f1 f3 f4 f5⟩
 self:=fun _ _ _ _ _ st h=>wpAny_pyIter_keyiter st h
end
theorem Inv.freeze {X:Cx} {pins:List (Addr×Obj)} {σ : St} {H:Hp} {s:Shared} {d:Addr} {o:Obj} {u:HO} (I:Inv X pins σ H s) (e:H d=some u) (mu:Mut (some u)) (ho:s.heap.get? d=some o) (hu : ∀H':Hp,ObjOk X.prog X.w H' s.heap d u):Inv X pins σ (upd H d (.frz o u)) s:=by
 have:=I.write (x:=d) (e:=d) (o :=.frz o u) (h':=s.heap) (t':=s.toks) (by rw [e];exact mu) (.inl rfl) (fun b v _ q=>q) ⟨o,ho⟩ ⟨ho,hu _⟩
 exact this
section
variable {X:Cx} {tg:Expr}
def iDict (td:TE):TI:=fun σ H R=>td σ H fun x H1 => ∃d kvs,x = .ref d/\H1 d=some (.dK kvs) /\ ∀o,R (Itd d o kvs) (upd H1 d (.frz o (.dK kvs)))
theorem qU3 {l:Expr} {tl:TE} (hl:PE X l tl):PI X tg l (iDict tl):=by
 intro pins s σ H R I h
 refine thn (hl pins s σ H _ I h) fun v s1 hq_ => ?_
 obtain⟨x,H1,I1,r1,q1⟩:=hq_
 obtain⟨d,kvs,e,hq,q⟩:=q1
 subst e
 cases r1
 obtain⟨z,hs,vs,rel,o,es,ep,ho,h2,h3,h4⟩:=qH7 I1.hok hq
 have dd:s1.heap.DictAt (qAp X.prog X.w) d vs ep:=⟨o,es,ho,h2,h3,h4⟩
 have I2:Inv X pins σ (upd H1 d (.frz o (.dK kvs))) s1:=I1.freeze hq True.intro ho fun H'=>⟨z,hs,vs,rel,o,es,ep,ho,h2,h3,h4⟩
 refine wpAny_pyIter_dict hs dd ?_
 refine⟨s1.heap.objs.size,[s1.heap.objs.size],_,_,_,rfl,I2.kept (t':=s1.toks) fun b ob e=>Heap.get?_push_of_some _ e,qOc d _ o kvs h3,⟨_,Heap.get?_push_size _ rfl,rfl,by rw [rel.length];rfl⟩,fun b hb => ?_,q o⟩
 have e:b=s1.heap.objs.size:=by simpa using hb
 subst e
 exact I2.fpOk (Nat.le_refl _) (I2.hok.fresh (Nat.le_refl _))
end
def PairsAt (H:Hp):List V->List (Key×V)->Prop:=Paired fun v kv => ∃a,v = .ref a/\H a=some (.tup [kV kv.1,kv.2])
theorem PairsAt.mono {H H':Hp} (h : ∀b xs,H b=some (.tup xs)->H' b=some (.tup xs)) {vs:List V} {kvs:List (Key×V)} (p:PairsAt H vs kvs):PairsAt H' vs kvs:=Paired.mapP p fun _ _ ⟨a,e,q⟩=>⟨a,e,h _ _ q⟩
theorem qSp {X:Cx} {pins:List (Addr×Obj)} {σ : St} {l d it:Addr} (hh:X.A.handled=none) : ∀ {more:List (Key×V)} {items:List V} {i:Nat} {A:Around} {H:Hp} {s:Shared} {kvs:List (Key×V)} {R:Result->Shared->Prop},A.handled=none->Inv X pins σ H s->s.heap.IsListIter it l i->FpOk X pins H it ->
  H l=some (.lst items)->H d=some (.dK kvs)->l≠d->PairsAt H (items.drop i) more->kvs.length+more.length<=sizeLine->(∀s',Inv X pins σ (upd H d (.dK (qK8 kvs more))) s'->R (.ok (.ret .none)) s') ->
  codeAny (model X.prog X.w) A (.builtin "dict.update.loop" ⟨[.ref d,.ref it,rawInt i,.none],[]⟩) R s
 | [],items,i,A,H,s,kvs,R,hA,I,st,hf,hl,hd,hne,hp,hz,h=>by
  refine codeAny_builtin Miss.entry_loop ?_
  rw [Around.under_plainId Miss.plain_loop _]
  obtain⟨its,n,r,ho,_⟩:=I.lst hl
  have hlen:items.length<=i:=by
   have:=Paired.length hp
   rw [List.length_drop] at this
   have e:([]:List (Key×V)).length=0:=rfl
   omega
  have hl2:=r.length
  show wpAny _ _ (pyNext (.ref it) >>= _) _ _ s
  obtain⟨f0,f1,f2,f3,f4,f5⟩:=hf
  refine wpAny_bind (wpAny_pyNext_list_end (show A.in1.handled=none from hA) st (l:=l) (items:=its.toArray) ⟨_,ho,rfl,n,rfl⟩ (by simp;omega) fun h' eb => ?_)
  have I1:Inv X pins σ H { s with heap:=h' }:=I.turned (t':=s.toks) (fun b ob hb e=>eb b ob hb e) f0 f1 f3 f4 f5
  have e1:upd H d (.dK (qK8 kvs []))=H:=by
   funext b
   by_cases hb:b=d
   ·subst hb;rw [qA1,hd];rfl
   ·rw [qA4 hb]
  rw [e1] at h
  show wpAny _ _ (Builtin.Dict.addKeywords d [] >>= _) _ _ _
  exact wpAny_bind (wpAny_pure (wpAny_pure (h _ I1)))
 | (k,w)::more,items,i,A,H,s,kvs,R,hA,I,st,hf,hl,hd,hne,hp,hz,h=>by
  refine codeAny_builtin Miss.entry_loop ?_
  rw [Around.under_plainId Miss.plain_loop _]
  obtain⟨its,n,r,ho,_⟩:=I.lst hl
  have hl2:=r.length
  cases e0:items.drop i with
  | nil=>rw [e0] at hp;cases hp
  | cons v rest =>
   rw [e0] at hp
   cases hp with
   | cons hv hr =>
    obtain⟨a,rfl,ha⟩:=hv
    have hi:items[i]? = some (.ref a):=by rw [<-List.head?_drop,e0];rfl
    obtain⟨u,hu,ru⟩:=r.get hi
    cases ru
    obtain⟨f0,f1,f2,f3,f4,f5⟩:=id hf
    show wpAny _ _ (pyNext (.ref it) >>= _) _ _ s
    refine wpAny_bind (wpAny_pyNext_list_item st (l:=l) (items:=its.toArray) ⟨_,ho,rfl,n,rfl⟩ (x :=.ref a) (by simpa using hu) fun h' st' sb => ?_)
    have I1:Inv X pins σ H { s with heap:=h' }:=I.turned (t':=s.toks) (fun b ob hb e=>(sb.2 b hb).trans e) f0 f1 f3 f4 f5
    obtain⟨_,its2,rt,ob,ho2,hc2,n2,hd2⟩:=(show ObjOk X.prog X.w H h' a (.tup [kV k,w]) from I1.hok a _ ha)
    obtain⟨uk,uw,rfl,rk,rw'⟩:=vals2 rt
    refine wpAny_bind (wpAny_holding (wpAny_bind (wpAny_tryCatch ?_)))
    unfold Builtin.Dict.pairItems
    refine wpAny_bind (wpAny_typeOf (T := "tuple") ⟨ob,ho2,hc2⟩ ?_)
    rw [if_pos (by decide)]
    refine wpAny_bind (wpAny_seqItems ho2 hd2 (wpAny_pure ?_))
    show wpAny _ _ (holding [uk,uw] (dictSet d uk uw)) _ _ _
    obtain⟨z,hs,vs,rel,dd⟩:=qH7 I1.hok hd
    have hz2:kvs.length+(more.length+1)<=sizeLine:=hz
    have hl3:(putK kvs k w).length<=kvs.length+1:=qBh kvs k w
    refine wpAny_holding (wpAny_dictSet_pairs (qKi rk) dd (fun h2 dd' sb2=>wpAny_pure ?_) (by rw [<-rel.length];exact z))
    have he : ∃q,h2.get? d=some q:=let ⟨q,_,_,hq,_⟩:=dd';⟨q,hq⟩
    have I2:Inv X pins σ (upd H d (.dK (putK kvs k w))) { s with heap:=h2,toks:=s.toks+1 }:=qEk (s :={ s with heap:=h' }) (t':=s.toks+1) I1 (by rw [hd];exact True.intro) sb2 he (qN2 (by omega) hs (rel.put k rw') dd')
    have hitd:it≠d:=fun z=>by rw [z,hd] at f0;cases f0
    have tk : ∀b xs,H b=some (.tup xs)->upd H d (.dK (putK kvs k w)) b=some (.tup xs):=fun b xs q=>by
     rw [qA4 (qFy q hd (by intro z;cases z))];exact q
    refine⟨plainId_quiet Miss.plain_loop _,?_⟩
    have e3:(i:Int)+1=((i+1:Nat):Int):=by omega
    rw [e3]
    refine qSp hh (more:=more) (items:=items) (i:=i+1) (kvs:=putK kvs k w) hA I2 (st'.extBut sb2.extBut hitd) ⟨by rw [qA4 hitd];exact f0,f1,f2,f3,f4,f5⟩ (by rw [qA4 hne];exact hl) qA1 hne ?_ (by omega) fun s' I'=>h s' ?_
    ·have e4:items.drop (i+1)=rest:=by rw [<-List.tail_drop,e0];rfl
     rw [e4]
     exact PairsAt.mono tk hr
    ·rw [qTi] at I'
     exact I'
def qOv:V->List V->Hp->VK->Prop:=fun x vs H Q => ∃d l kvs items more,x = .ref d/\vs = [.ref l]/\H d=some (.dK kvs)/\H l=some (.lst items)/\PairsAt H items more/\kvs.length+more.length<=sizeLine/\Q .non (upd H d (.dK (qK8 kvs more)))
theorem qPl {X:Cx} (hc:X.calm=true):MtM X "dict.update" qOv:=by
 intro pins s σ H x vs v us Q I rx rv h
 obtain⟨d,l,kvs,items,more,rfl,rfl,hd,hl,hp,hz,q⟩:=h
 cases rx
 obtain⟨u,rfl,ru⟩:=rv.one
 cases ru
 have hne:l≠d:=qFy hl hd (by intro z;cases z)
 obtain⟨z,hs,ws,rel,dd⟩:=qH7 I.hok hd
 obtain⟨its,n,r,ho,_⟩:=I.lst hl
 have hA:=I.ok.hd hc
 refine wpAny_call (codeAny_call_builtin PySem.F.slot_dict_update.plain PySem.F.entry_dict_update (PySem.F.slot_dict_update.check _ _ _ _ _ _ _ _ dd.typeIs (PySem.F.args_dict_update_2 _ _) ?_))
 unfold Builtin.«dict.update»
 refine wpAny_bind ?_
 unfold Builtin.Dict.selfAndRest
 refine wpAny_bind (wpAny_notOrdered_dict dd.typeIs ?_)
 show wpAny _ _ (pure (d,[Value.ref l])) _ _ s
 refine wpAny_pure ?_
 show wpAny _ _ (Builtin.Dict.updateFrom "dict.update" d (.ref l) [] .none) _ _ s
 unfold Builtin.Dict.updateFrom
 refine wpAny_bind (wpAny_typeOf (T := "list") ⟨_,ho,rfl⟩ ?_)
 rw [if_pos (by decide)]
 refine wpAny_bind (Miss.no_keys hA ho fun h' tk kp => ?_)
 have I1:Inv X pins σ H { s with heap:=h',toks:=tk }:=I.kept kp
 show wpAny _ _ (if true=true then _ else _) _ _ _
 rw [if_pos rfl]
 refine wpAny_bind (wpAny_rule ?_)
 refine wpAny_bind (wpAny_pyIter_list (l:=l) (items:=its.toArray) ⟨_,kp _ _ ho,rfl,n,rfl⟩ ?_)
 have I2:Inv X pins σ H { s with heap:=h'.push { cls :=.type "list_iterator",data :=.fields #[.ref l,.int 0 0] },toks:=tk }:=I1.kept (t':=tk) fun b ob e=>Heap.get?_push_of_some _ e
 refine wpAny_pure ⟨plainId_quiet Miss.plain_loop _,?_⟩
 exact qSp (i:=0) hA hA I2 ⟨_,Heap.get?_push_size _ rfl,rfl,rfl⟩ (I1.fpOk (Nat.le_refl _) (I1.hok.fresh (Nat.le_refl _))) hl hd hne hp hz fun s' I'=>⟨.non,_,I',rfl,q⟩
def wo (ts:List Addr) (H:Hp):Hp:=fun b=>if b∈ts then none else H b
theorem qR3 {ts:List Addr} {H:Hp} {b:Addr} (h:b∈ts):wo ts H b=none:=if_pos h
theorem qCu {ts:List Addr} {H:Hp} {b:Addr} (h:b∉ts):wo ts H b=H b:=if_neg h
theorem qI9 (ts:List Addr) (H:Hp):Same (wo ts H) H:=fun b o e=>by
 by_cases h:b∈ts
 ·rw [qR3 h] at e;cases e
 ·rw [qCu h] at e;exact e
def Ext (ts:List Addr) (H H':Hp):Prop := ∀b o,b∉ts->H b=some o->H' b=some o
theorem Ext.refl (ts:List Addr) (H:Hp):Ext ts H H:=fun _ _ _ h=>h
theorem Ext.trans {ts:List Addr} {H H1 H2:Hp} (a:Ext ts H H1) (b:Ext ts H1 H2):Ext ts H H2:=fun c o h e=>b c o h (a c o h e)
theorem Ext.same {ts:List Addr} {H H':Hp} (a:Ext ts H H'):Same (wo ts H) (wo ts H'):=fun b o e=>by
 by_cases h:b∈ts
 ·rw [qR3 h] at e;cases e
 ·rw [qCu h] at e ⊢;exact a b o h e
theorem Ext.put {ts:List Addr} {H:Hp} {t:Addr} {o:HO} (h:t∈ts):Ext ts H (upd H t o):=fun b u hb e=>by
 have ne:b≠t:=fun z=>hb (by rw [z];exact h)
 rw [qA4 ne];exact e
theorem Ext.laid {ts:List Addr} {H:Hp} {l:Addr} {o:HO} (h:H l=none):Ext ts H (upd H l o):=fun b u _ e=>by
 rw [qA4 (qA2 e h)];exact e
theorem Ext.mono {ts us:List Addr} {H H':Hp} (a:Ext ts H H') (h : ∀b∈ts,b∈us):Ext us H H':=fun b o hb e=>a b o (fun z=>hb (h b z)) e
theorem Ext.drop {ts:List Addr} {l:Addr} {H H':Hp} (a:Ext (l::ts) H H') (h:H l=none):Ext ts H H':=fun b o hb e=>a b o (fun z=>by
 rcases List.mem_cons.mp z with y | y
 ·rw [y,h] at e;cases e
 ·exact hb y) e
theorem qTv {ts us:List Addr} {H:Hp} (h : ∀b∈ts,b∈us):Same (wo us H) (wo ts H):=fun b o e=>by
 by_cases hb:b∈us
 ·rw [qR3 hb] at e;cases e
 ·rw [qCu hb] at e
  rw [qCu (fun z=>hb (h b z))];exact e
def yo (H0:Hp) (ts:List Addr) (H:Hp):Hp:=fun b=>match H0 b with
 | some _=>none
 | none=>wo ts H b
theorem qBq {H0:Hp} {ts:List Addr} {H:Hp} {b:Addr} (h0:H0 b=none) (h:b∉ts):yo H0 ts H b=H b:=by
 unfold yo;rw [h0];exact qCu h
theorem qE9 {H0:Hp} {ts:List Addr} {H:Hp} {b:Addr} {o:HO} (h:yo H0 ts H b=some o):H0 b=none/\b∉ts/\H b=some o:=by
 unfold yo at h
 cases z:H0 b with
 | some _=>rw [z] at h;cases h
 | none =>
  rw [z] at h
  have h:wo ts H b=some o:=h
  by_cases hb:b∈ts
  ·rw [qR3 hb] at h;cases h
  ·rw [qCu hb] at h;exact⟨rfl,hb,h⟩
theorem Ext.none {ts:List Addr} {H H':Hp} {b:Addr} (a:Ext ts H H') (h:b∉ts) (e:H' b=none):H b=none:=by
 cases z:H b with
 | none=>rfl
 | some o=>rw [a _ _ h z] at e;cases e
theorem Ext.young {H0:Hp} {ts:List Addr} {H H':Hp} (a:Ext ts H H'):Same (yo H0 ts H) (yo H0 ts H'):=fun b o e=>by
 obtain⟨h0,h1,h2⟩:=qE9 e
 rw [qBq h0 h1];exact a b o h1 h2
theorem qO7 {H0:Hp} {ts us:List Addr} {H:Hp} (h : ∀b∈ts,b∈us):Same (yo H0 us H) (yo H0 ts H):=fun b o e=>by
 obtain⟨h0,h1,h2⟩:=qE9 e
 rw [qBq h0 (fun z=>h1 (h b z))];exact h2
theorem yo_same {H0:Hp} {ts:List Addr} {H:Hp}:Same (yo H0 ts H) H:=fun b o e=>(qE9 e).2.2
theorem qR1 {H0 H1:Hp} {ts us:List Addr} {H:Hp} (a:Ext ts H0 H1) (h : ∀b∈ts,b∈us):Same (yo H1 us H) (yo H0 us H):=fun b o e=>by
 obtain⟨h0,h1,h2⟩:=qE9 e
 rw [qBq (a.none (fun z=>h1 (h b z)) h0) h1];exact h2
theorem qM8 {H0 H1:Hp} {ts us:List Addr} {H:Hp} (h : ∀b∈us,b∈ts\/H1 b≠none):Same (yo H1 ts H) (yo H1 us H):=fun b o e=>by
 obtain⟨h0,h1,h2⟩:=qE9 e
 rw [qBq h0 (fun z=>(h b z).elim h1 (fun y=>y h0))];exact h2
def Tape (H:Hp) (t:Addr) (k:Nat):Prop := ∃(a b c:Int),H t=some (.lst [.int a,.int b,.int c])/\0<=a/\0<=b/\b<2^62/\0<=c/\c<=k
theorem Tape.mono {H:Hp} {t:Addr} {k j:Nat} (h:Tape H t k) (hk:k<=j):Tape H t j:=by
 obtain⟨a,b,c,h1,h2,h3,h4,h5,h6⟩:=h
 exact⟨a,b,c,h1,h2,h3,h4,h5,by omega⟩
theorem Tape.ext {H H':Hp} {t:Addr} {k:Nat} {ts:List Addr} (h:Tape H t k) (e:Ext ts H H') (ht:t∉ts):Tape H' t k:=by
 obtain⟨a,b,c,h1,r⟩:=h
 exact⟨a,b,c,e _ _ ht h1,r⟩
theorem Tape.ne {H:Hp} {t l:Addr} {k:Nat} (h:Tape H t k) (hl:H l=none):l≠t:=by
 obtain⟨a,b,c,h1,_⟩:=h
 exact (qA2 h1 hl).symm
def qEp:Sp:=fun vs H Q _ => ∃(t:Addr) (k:Nat) (n:Int),vs = [.ref t,.int n]/\Tape H t k/\k<=2^40/\0<n/\n<2^24 /\ ∀(r:Int) (H':Hp),0<=r->r<n->Tape H' t (k+1)->Ext [t] H H'->(∀b,b≠t->H' b=H b)->Q (.int r) H'
section
variable {K:PySem.W.Frag} {σ : St} {H:Hp} {Q:VK} {p:Addr} {xs:List V} {i j:Int} {v:V} {ta tb te to ti:TE} {r:R2} {t u:TS} {D:Ends} {n m:Nat} {tt t2:TT} {tl tr:TA}
theorem r_op (h:ta σ H fun x H1=>tb σ H1 fun y H2=>r x y H2 Q):tOp r ta tb σ H Q:=h
theorem qLi (h : σ[n]? = some (some v)) (q:Q v H):tVar n σ H Q:=⟨v,h,q⟩
theorem r_c (q:Q v H):tC v σ H Q:=q
theorem r_i0 {g:Int->Int->V} (q:Q (g i j) H):rI0 g (.int i) (.int j) H Q:=⟨i,j,rfl,rfl,q⟩
theorem qLj (c:(-(2^64)<i/\i<2^64)\/(-(2^64)<j/\j<2^64)) (q:Q (.int (i*j)) H):rI CMul (fun i j =>.int (i*j)) (.int i) (.int j) H Q:=⟨i,j,rfl,rfl,c,q⟩
theorem qNk (c1:0<=j) (c2:j<=1000000) (c3:i.natAbs<2^64) (q:Q (.int (i^j.toNat)) H):rI CPow (fun i j =>.int (i^j.toNat)) (.int i) (.int j) H Q:=⟨i,j,rfl,rfl,⟨c1,c2,c3⟩,q⟩
theorem qVj (c1:0<j) (c2:j<1073741824) (q:Q (.int (i / j)) H):rI CDiv (fun i j =>.int (i / j)) (.int i) (.int j) H Q:=⟨i,j,rfl,rfl,⟨c1,c2⟩,q⟩
theorem qGj (c:0<j) (q:Q (.int (i%j)) H):rI (fun _ j=>0<j) (fun i j =>.int (i%j)) (.int i) (.int j) H Q:=⟨i,j,rfl,rfl,c,q⟩
theorem r_un {g:Int->V} (h:ta σ H fun x H1=>rU g x H1 Q):tUn (rU g) ta σ H Q:=h
theorem r_u {g:Int->V} (q:Q (g i) H):rU g (.int i) H Q:=⟨i,rfl,q⟩
theorem qBl (h:SqL K H p xs) (e:atI xs i=some v) (q:Q v H):rIxL K (.ref p) (.int i) H Q:=⟨p,xs,i,v,rfl,rfl,h,e,q⟩
theorem qCp (h:SqT K H p xs) (e:atI xs i=some v) (q:Q v H):rIxT K (.ref p) (.int i) H Q:=⟨p,xs,i,v,rfl,rfl,h,e,q⟩
theorem qV9 (h:t { D with nx:=u D } σ H):tSeq t u D σ H:=h
theorem qX1 {g:TG} (h:te σ H fun x H1=>g x σ H1 D.nx):tAsg te g D σ H:=h
theorem qL6 {R:St->Hp->Prop} (q:R (σ.set n (some v)) H):gName n v σ H R:=q
theorem qWn (h:te σ H D.rt):tRet te D σ H:=h
theorem qOs (h:te σ H fun _ H1=>D.nx σ H1):tDrop te D σ H:=h
theorem qEq (h:D.nx σ H):tNext D σ H:=h
theorem qX8 (h:tt σ H fun b H1=>if b=true then t D σ H1 else u D σ H1):tIfS tt t u D σ H:=h
theorem qV5 {R:Bool->Hp->Prop} (h:te σ H fun x H' => ∃k,x = .bl k/\R k H'):tTest te σ H R:=h
theorem r_tB {R:Bool->Hp->Prop} (h:te σ H fun x H' => ∃k,x = .bl k/\R k H'):tB te σ H R:=h
theorem qR0 {b:Bool} {R:Bool->Prop} (q:R b) : ∃k,V.bl b = .bl k/\R k:=⟨b,rfl,q⟩
theorem qVh {ts:TSet} {R:St->Hp->Prop} (h:to σ H fun o H1=>ti σ H1 fun i H2=>ts o i v H2 fun H3=>R σ H3):gSub to ti ts v σ H R:=h
theorem qSz {R:Hp->Prop} (h:H p=some (.lst xs)) (e:ixN xs.length i=some n) (q:R (upd H p (.lst (xs.set n v)))):rSetL (.ref p) (.int i) v H R:=⟨p,xs,i,n,rfl,rfl,h,e,q⟩
theorem qOp {R:List V->Hp->Prop} (q:R [] H):tNil σ H R:=q
theorem qOu {R:List V->Hp->Prop} (h:ta σ H fun x H1=>tr σ H1 fun xs H2=>R (x::xs) H2):tCons ta tr σ H R:=h
theorem qWm (h:tl σ H fun xs H1=>xs.length<=sizeLine /\ ∀p,H1 p=none->Q (.ref p) (upd H1 p (.tup xs))):tTup tl σ H Q:=h
theorem qWt (h:tl σ H fun xs H1=>xs.length<=sizeLine /\ ∀p,H1 p=none->Q (.ref p) (upd H1 p (.lst xs))):tLst tl σ H Q:=h
theorem qVl {sp:Sp} {dvs:List V} {E:XK} (h:tl σ H fun vs H1=>sp (vs++dvs) H1 Q E):tCall sp dvs E tl σ H Q:=h
theorem r_cb {rr:List V->Hp->VK->Prop} (h:tl σ H fun vs H1=>rr vs H1 Q):tCB rr tl σ H Q:=h
theorem qWu (h:tt σ H fun b H1=>if b=true then ta σ H1 Q else tb σ H1 Q):tIf tt ta tb σ H Q:=h
theorem qVn {R:Bool->Hp->Prop} (h:tt σ H fun c H1=>if c=true then t2 σ H1 R else R false H1):tAnd tt t2 σ H R:=h
theorem r_or {R:Bool->Hp->Prop} (h:tt σ H fun c H1=>if c=true then R true H1 else t2 σ H1 R):tOr tt t2 σ H R:=h
theorem qWq {R:Bool->Hp->Prop} (h:tt σ H fun c H1=>R (!c) H1):tNot tt σ H R:=h
theorem qWo (h:tl σ H fun vs H1 => ∃v w,vs = [v,w]/\D.nx ((σ.set n (some v)).set m (some w)) H1):tPar n m tl D σ H:=h
end
section
variable {K:PySem.W.Frag} {σ : St} {H:Hp} {Q:VK} {l t:Addr} {xs:List V} {i j n:Int} {v y:V} {k:Nat} {E:XK}
theorem qBc (hT:Tape H t k) (hk:k<=2^40) (h0:0<n) (h1:n<2^24) (q : ∀r H',0<=r->r<n->Tape H' t (k+1)->Ext [t] H H'->(∀b,b≠t->H' b=H b)->Q (.int r) H'):qEp ([.ref t,.int n] ++ []) H Q E:=⟨t,k,n,rfl,hT,hk,h0,h1,q⟩
theorem qE2 (q:Q (.bl (decide (i=j))) H):rEq (.int i) (.int j) H Q:=⟨rfl,by
 have e:decide (V.int i=V.int j)=decide (i=j):=by rw [Bool.eq_iff_iff];simp
 rw [e];exact q⟩
theorem qRj {a b:Str} (q:Q (.bl (decide (a=b))) H):rEq (.str a) (.str b) H Q:=⟨rfl,by
 have e:decide (V.str a=V.str b)=decide (a=b):=by rw [Bool.eq_iff_iff];simp
 rw [e];exact q⟩
theorem qWs {a b:Str} (q:Q (.bl (!decide (a=b))) H):rNe (.str a) (.str b) H Q:=⟨rfl,by
 have e:decide (V.str a=V.str b)=decide (a=b):=by rw [Bool.eq_iff_iff];simp
 rw [e];exact q⟩
theorem qCo {R:Prop} (h:H l=some (.lst xs)) (q:R):tyV K "list" (.ref l) H/\R:=⟨.inl ⟨rfl,_,SqL.of h⟩,q⟩
theorem qDg (h:H l=some (.lst xs)) (hz:xs.length<sizeLine) (q:Q .non (upd H l (.lst (xs ++ [y])))):qIn (.ref l) [y] H Q:=⟨l,xs,y,rfl,rfl,h,hz,q⟩
theorem bit01 (b:Bool):0<=(if b=true then (1:Int) else 0)/\(if b=true then (1:Int) else 0)<=1:=by cases b <;> decide
end
theorem len2 {n:Nat} (h:n<=1000):n<=sizeLine:=Nat.le_trans h (by decide)
theorem qBb {CX:CXT} {P:Program} {w:World} {K:PySem.W.Frag} {mg:Str->Option Value} {base:Heap} {N:List Str} {qual:Str} {scope:Scope} {f:Addr} {cd:Value} {A:Around} {outer:List Env} {s:Shared} {H:Hp} {E:XK}:(cxOf CX P w K mg base N qual scope f cd A outer s H E).nox.K=K:=rfl
theorem qB3 {X:Cx} {own:List Str} {cap:List Nat} {scope:Scope} {cl:List (Str×Addr)} {s:Shared} {H:Hp} {ex:List Addr}:(qAh X own cap scope cl s H ex).K=X.K:=rfl
def Has (P:Program) (w:World) (K:PySem.W.Frag) (mg:Str->Option Value) (base:Heap) (x:Str) (k:Nat) (ps:List Str) (sp:Sp):Prop :=
 ∃f fd,FnOk P w K mg base CX0 k f fd ps sp/\mg x=some (.ref f)/\PySem.W.keepIn K (.ref f)=true/\Binds K fd ps []
theorem qAk {X:Cx} {x:Str} {k j:Nat} {ps:List Str} {sp:Sp} {e:Expr} {es:List Expr} {t:TA} {p pos:Pos} (h:Has X.prog X.w X.K X.mg X.base x k ps sp) (hr:Room j X.A) (hj:k<=j) (ha:PA X (e::es) t) (hg:Gl X x:=by rfl)
  (hdb:(x == ("__debug__" : Str))=false:=by decide) (he:starEach (e::es) X.env=(false,eval e X.env)::starEach es X.env:=by rfl) (hpl:(backTo pos (starEach es X.env)).any (·.1)=false:=by rfl) :
  PE X (.Call (.Name x p) (e::es) [] pos) (tCall sp [] E0 t):=by
 obtain⟨f,fd,G,hm,hk,hb⟩:=h
 exact qU5 G (hr.mono hj) hg hm hk hb .nil pass0 ha hdb he hpl
def qOf (K:PySem.W.Frag):Sp:=fun vs H Q _ => ∃(a:Addr) (ns:List Int) (k:Nat),vs = [.ref a,.int k]/\SqL K H a (ns.map V.int)/\k<=100 /\ ∀(t:Addr) (H':Hp),H t=none->Tape H' t 0->Same H H'->Q (.ref t) H'
def qTn (c:Nat) (lo hi:Int):Sp:=fun vs H Q _ => ∃(t:Addr) (k:Nat),vs = [.ref t]/\Tape H t k/\k+c<=2^40 /\ ∀(r:Int) (H':Hp),lo<=r->r<=hi->Tape H' t (k+c)->Ext [t] H H'->Q (.int r) H'
abbrev qOg:Sp:=qTn 3 1 12
abbrev qIb:Sp:=qTn 3 (-(10^12)) (10^12)
def chk (X:Cx) (own:List Str) (cap:List Nat) (scope:Scope):Bool :=
 decide (scope.kind = .function)&&(scope.names.all fun x=>decide (x.2 ≠ .cell))&&(scope.names.all fun x => !decide (x.2 = .local)||decide (scope.names.lookup x.1=some .local)) &&
 (scope.names.all fun x => !decide (x.2 = .free)||(decide (X.env.scope.names.lookup x.1=some .cell)||decide (X.env.scope.names.lookup x.1=some .free)))&&(own.all fun x=>decide (scope.names.lookup x=some .local)) &&
 (cap.all fun j=>decide (scope.names.lookup (X.N.getD j "")=some .free)&&decide (j<X.N.length))
theorem CompScope.of {X:Cx} {own:List Str} {cap:List Nat} {scope:Scope} (h:chk X own cap scope=true):CompScope X own cap scope:=by
 unfold chk at h
 simp only [Bool.and_eq_true,List.all_eq_true,decide_eq_true_eq,Bool.or_eq_true,Bool.not_eq_true',decide_eq_false_iff_not] at h
 obtain⟨⟨⟨⟨⟨h1,h2⟩,h3⟩,h4⟩,h5⟩,h6⟩:=h
 exact⟨h1,fun x hx=>h2 x hx,fun x hx e=>(h3 x hx).resolve_left (fun z=>z e),fun x hx e=>(h4 x hx).resolve_left (fun z=>z e),h5,fun j hj=>h6 j hj⟩
section
variable {K:PySem.W.Frag} {a:Addr} {xs:List V} {g:TG} {tt:TT} {B:TB} {σ : St} {H:Hp} {Q:St->Hp->Prop}
theorem qFk {J:It} {n:Nat} (Pv:Nat->St->Hp->Prop) (h0:Pv 0 σ H) (hgo : ∀i σ H,i<n->Pv i σ H->J.go i H) (hst : ∀ σ H,Pv n σ H->J.stop n H)
  (hs : ∀i σ H (R:St->Hp->Prop),i<n->Pv i σ H->(∀ σ' H',Pv (i+1) σ' H'->R σ' H') -> ∀x H',J.yld i H x H'->g x σ H' fun σ2 H2=>tt σ2 H2 fun b H3=>if b=true then B σ2 H3 R else R σ2 H3)
  (hd : ∀ σ H,Pv n σ H->Q σ H):LoopT J g tt B σ H Q:=by
 refine⟨fun i m σ H=>m=n - i/\i<=n/\Pv i σ H,⟨n,by simp,Nat.zero_le _,h0⟩,?_⟩
 rintro i m σ H ⟨rfl,hi,p⟩
 by_cases hlt:i<n
 ·refine .inr ⟨hgo i σ H hlt p,fun x H' y => ?_⟩
  exact hs i σ H _ hlt p (fun σ' H' p'=>⟨n - (i+1),by omega,rfl,hlt,p'⟩) x H' y
 ·have e:i=n:=by omega
  subst e
  exact .inl ⟨hst σ H p,hd σ H p⟩
theorem qAf (Pv:Nat->St->Hp->Prop) (h0:Pv 0 σ H) (hl : ∀i σ H,i<=xs.length->Pv i σ H->SqL K H a xs)
  (hs : ∀i x σ H (R:St->Hp->Prop),xs[i]? = some x->Pv i σ H->(∀ σ' H',Pv (i+1) σ' H'->R σ' H')->g x σ H fun σ2 H2=>tt σ2 H2 fun b H3=>if b=true then B σ2 H3 R else R σ2 H3)
  (hd : ∀ σ H,Pv xs.length σ H->Q σ H):LoopT (Itl K a) g tt B σ H Q:=by
 refine qFk (n:=xs.length) Pv h0 (fun i σ H hi p=>⟨xs,xs[i],hl i σ H (Nat.le_of_lt hi) p,by simp [hi]⟩) (fun σ H p=>⟨xs,hl _ σ H (Nat.le_refl _) p,Nat.le_refl _⟩) (fun i σ H R hi p hR x H' y => ?_) hd
 obtain⟨e,y⟩:=y
 subst e
 exact hs i x σ _ R (y xs (hl i σ _ (Nat.le_of_lt hi) p)) p hR
theorem qCv {lo:Int} {n:Nat} (Pv:Nat->St->Hp->Prop) (h0:Pv 0 σ H)
  (hs : ∀i σ H (R:St->Hp->Prop),i<n->Pv i σ H->(∀ σ' H',Pv (i+1) σ' H'->R σ' H')->g (.int (lo+i)) σ H fun σ2 H2=>tt σ2 H2 fun b H3=>if b=true then B σ2 H3 R else R σ2 H3)
  (hd : ∀ σ H,Pv n σ H->Q σ H):LoopT (Itr lo n) g tt B σ H Q:=by
 refine qFk (n:=n) Pv h0 (fun i σ H hi p=>hi) (fun σ H p=>Nat.le_refl _) (fun i σ H R hi p hR x H' y => ?_) hd
 obtain⟨e,y⟩:=y
 subst e y
 exact hs i σ _ R hi p hR
theorem qKa (Pv:Nat->St->Hp->Prop) (h0:Pv 0 σ H) (hl : ∀i σ H,i<=xs.length->Pv i σ H->SqL K H a xs)
  (hs : ∀i x σ H p (R:St->Hp->Prop),xs[i]? = some x->Pv i σ H->H p=none->(∀ σ' H',Pv (i+1) σ' H'->R σ' H')->g (.ref p) σ (upd H p (.tup [.int i,x])) fun σ2 H2=>tt σ2 H2 fun b H3=>if b=true then B σ2 H3 R else R σ2 H3)
  (hd : ∀ σ H,Pv xs.length σ H->Q σ H):LoopT (Ite K a) g tt B σ H Q:=by
 refine qFk (n:=xs.length) Pv h0 (fun i σ H hi p=>⟨xs,xs[i],hl i σ H (Nat.le_of_lt hi) p,by simp [hi]⟩) (fun σ H p=>⟨xs,hl _ σ H (Nat.le_refl _) p,Nat.le_refl _⟩) (fun i σ H R hi p hR x H' y => ?_) hd
 obtain⟨q,y,e,hq,hy,e2⟩:=y
 subst e e2
 exact hs i y σ H q R (hy xs (hl i σ H (Nat.le_of_lt hi) p)) p hq hR
theorem qPr {o:Obj} {kvs:List (Key×V)} (Pv:Nat->St->Hp->Prop) (h0:Pv 0 σ H) (hl : ∀i σ H,i<=kvs.length->Pv i σ H->H a=some (.frz o (.dK kvs)))
  (hs : ∀i k v σ H (R:St->Hp->Prop),kvs[i]? = some (k,v)->Pv i σ H->(∀ σ' H',Pv (i+1) σ' H'->R σ' H')->g (kV k) σ H fun σ2 H2=>tt σ2 H2 fun b H3=>if b=true then B σ2 H3 R else R σ2 H3)
  (hd : ∀ σ H,Pv kvs.length σ H->Q σ H):LoopT (Itd a o kvs) g tt B σ H Q:=by
 refine qFk (n:=kvs.length) Pv h0 (fun i σ H hi p=>⟨hl i σ H (Nat.le_of_lt hi) p,hi⟩) (fun σ H p=>⟨hl _ σ H (Nat.le_refl _) p,Nat.le_refl _⟩) (fun i σ H R hi p hR x H' y => ?_) hd
 obtain⟨e,k,v,hk,e2⟩:=y
 subst e e2
 exact hs i k v σ _ R hk p hR
end
theorem qN0 {K:PySem.W.Frag} {a:Addr} {xs:List V} {g:TG} {tb:TS} {D:Ends} {σ : St} {H:Hp} (Pv:Nat->St->Hp->Prop) (h0:Pv 0 σ H) (hl : ∀i σ H,i<=xs.length->Pv i σ H->SqL K H a xs)
  (hs : ∀i x σ H p,xs[i]? = some x->Pv i σ H->H p=none->g (.ref p) σ (upd H p (.tup [.int i,x])) fun σ2 H2=>tb { D with nx:=Pv (i+1),ct:=Pv (i+1),bk:=D.nx } σ2 H2) (hd : ∀ σ H,Pv xs.length σ H->D.nx σ H) :
  ∃W:Nat->Nat->St->Hp->Prop,(∃m,W 0 m σ H) /\ ∀i m σ H,W i m σ H ->
   ((Ite K a).stop i H/\D.nx σ H)\/((Ite K a).go i H /\ ∃N:St->Hp->Prop,(∀ σ' H',N σ' H' -> ∃m',m'<m/\W (i+1) m' σ' H') /\ ∀x H',(Ite K a).yld i H x H'->g x σ H' fun σ2 H2=>tb { D with nx:=N,ct:=N,bk:=D.nx } σ2 H2):=by
 refine⟨fun i m σ H=>m=xs.length - i/\i<=xs.length/\Pv i σ H,⟨xs.length,by simp,Nat.zero_le _,h0⟩,?_⟩
 rintro i m σ H ⟨rfl,hi,p⟩
 have q:=hl i σ H hi p
 by_cases hlt:i<xs.length
 ·refine .inr ⟨⟨xs,xs[i],q,by simp [hlt]⟩,Pv (i+1),fun σ' H' p'=>⟨xs.length - (i+1),by omega,rfl,hlt,p'⟩,fun x H' y => ?_⟩
  obtain⟨r,y,e,hr,hy,e2⟩:=y
  subst e e2
  exact hs i y σ H r (hy xs q) p hr
 ·have e:i=xs.length:=by omega
  subst e
  exact .inl ⟨⟨xs,q,Nat.le_refl _⟩,hd σ H p⟩
abbrev intsD (ns:List Int):PyData :=.list (ns.map .int)
def NxOk (m:Int) (nx:List (List Int)):Prop:=(nx.length:Int)=m /\ ∀ns∈nx,ns = []\/(∃x,ns = [x]/\1<=x/\x<m) \/ ∃x y,ns = [x,y]/\x≠y/\1<=x/\x<m/\1<=y/\y<m
def qLc (K:PySem.W.Frag):Sp:=fun vs H Q _ => ∃(t:Addr) (k:Nat) (m:Int),vs = [.ref t,.int m]/\Tape H t k/\k+30<=2^40/\1<=m/\m<=12 /\
 ∀(l:Addr) (nx:List (List Int)) (H':Hp),H l=none->Tape H' t (k+30)->Ext [t] H H'->NxOk m nx->Den K (yo H [t] H') (.list (nx.map intsD)) (.ref l)->Q (.ref l) H'
section
variable {K:PySem.W.Frag} {σ : St} {H:Hp} {Q:VK} {l d:Addr} {xs:List V} {i j:Int} {v y:V} {to ta tb te td ty tk tv tx:TE} {tl:TA} {wi:TI} {g:TG} {tts:List TT} {D:Ends} {tb2:TS}
theorem qX0 {T:String} {r:V->List V->Hp->VK->Prop} (h:to σ H fun x H1=>tyV K T x H1/\tl σ H1 fun xs H2=>r x xs H2 Q):tBM K T r to tl σ H Q:=h
theorem qWz {T:String} {r:V->List V->Hp->VK->Prop} (h:to σ H fun x H1=>tyV K T x H1/\r x [] H1 Q):tBM0 K T r to σ H Q:=h
theorem qRi {R:Prop} {kvs:List (Key×V)} (h:H d=some (.dK kvs)) (q:R):tyV K "dict" (.ref d) H/\R:=⟨.inr (.inr (.inl ⟨rfl,.inl ⟨_,h⟩⟩)),q⟩
theorem qT0 {own:List Str} {cap:List Nat} {o:HO} {Bof:Addr->TB} (h:wi σ H fun J H1 => ∀l,H1 l=none->LoopT J g (tAll tts) (Bof l) (qKt own cap σ) (upd H1 l o) fun _ H2=>Q (.ref l) H2):tComp own cap o wi g tts Bof σ H Q:=h
theorem qOq {R:It->Hp->Prop} (h:te σ H fun x H1 => ∃a,x = .ref a/\(∃xs,SqL K H1 a xs)/\R (Itl K a) H1):iList K te σ H R:=h
theorem qTx {R:It->Hp->Prop} (h:tl σ H fun vs H1 => ∃a,vs = [.ref a]/\(∃xs,SqL K H1 a xs)/\R (Ite K a) H1):iEnum K tl σ H R:=h
theorem qTy {R:It->Hp->Prop} (h:te σ H fun x H1 => ∃d kvs,x = .ref d/\H1 d=some (.dK kvs) /\ ∀o,R (Itd d o kvs) (upd H1 d (.frz o (.dK kvs)))):iDict te σ H R:=h
theorem qVf {R:It->Hp->Prop} (h:te σ H fun x H1 => ∃a,x = .ref a/\(∃xs,SqT K H1 a xs)/\R (Itt K a) H1):iTup K te σ H R:=h
theorem qVa {R:It->Hp->Prop} (h:tl σ H fun vs H1 => ∃j:Int,vs = [.int j] /\ -(2^62)<=j/\j<2^62/\R (Itr 0 j.toNat) H1):iRng1 tl σ H R:=h
theorem qWw (h:wi σ H fun J H1 => ∃W:Nat->Nat->St->Hp->Prop,(∃m,W 0 m σ H1) /\ ∀i m σ H,W i m σ H ->
 (J.stop i H/\D.nx σ H)\/(J.go i H /\ ∃N:St->Hp->Prop,(∀ σ' H',N σ' H' -> ∃m',m'<m/\W (i+1) m' σ' H') /\ ∀x H',J.yld i H x H'->g x σ H' fun σ2 H2=>tb2 { D with nx:=N,ct:=N,bk:=D.nx } σ2 H2)):tFor wi g tb2 D σ H:=h
theorem qOt (h : ∀p,H p=none->Q (.ref p) (upd H p (.dK []))):qSt σ H Q:=h
theorem qWy (h:ty σ H fun y H1=>td σ H1 fun x H2 => ∃a o,x = .ref a/\DGet H2 a y o/\Q (.bl o.isSome) H2):tDIn ty td σ H Q:=h
theorem qRk (h:ty σ H fun y H1=>td σ H1 fun x H2 => ∃a o,x = .ref a/\DGet H2 a y o/\Q (.bl (!o.isSome)) H2):qOe ty td σ H Q:=h
theorem qVk (h:td σ H fun x H1=>ty σ H1 fun y H2 => ∃a v,x = .ref a/\DGet H2 a y (some v)/\Q v H2):tDGet td ty σ H Q:=h
theorem qTz (h:td σ H fun x H1 => ∃a,x = .ref a/\IsD H1 a/\ty σ H1 fun y H2=>tx σ H2 fun z H3 => ∃o,DGet H3 a y o/\Q (o.getD z) H3):qSu td ty tx σ H Q:=h
theorem qVi (h:tv σ H fun v H1=>td σ H1 fun x H2=>ty σ H2 fun y H3 => ∃a H4,x = .ref a/\DPut H3 a y v H4/\D.nx σ H4):sDPut td ty tv D σ H:=h
theorem qVm {R:St->Hp->Prop} (h:te σ H fun v H1 => ∃vs,H1 l=some (.lst vs)/\vs.length<sizeLine/\R σ (upd H1 l (.lst (vs ++ [v])))):eApp te l σ H R:=h
theorem qVb {R:St->Hp->Prop} (h:tk σ H fun x H1=>tv σ H1 fun y H2 => ∃kvs k,x=kV k/\H2 l=some (.dK kvs)/\kvs.length<sizeLine/\R σ (upd H2 l (.dK (putK kvs k y)))):ePut tk tv l σ H R:=h
theorem qVp {R:Bool->Hp->Prop} (h:R true H):tAll [] σ H R:=h
theorem qVo {tt:TT} {R:Bool->Hp->Prop} (h:tt σ H fun b H1=>if b=true then R true H1 else R false H1):tAll [tt] σ H R:=h
theorem qBy {n:Nat} {t:TGs} {R:St->Hp->Prop} (h:SqT K H l xs) (hn:xs.length=n) (q:t xs σ H R):gTup K n t (.ref l) σ H R:=⟨l,xs,rfl,h,hn,q⟩
theorem qLk {t:TG} {u:TGs} {R:St->Hp->Prop} (h:t v σ H fun σ' H'=>u xs σ' H' R):gCons t u (v::xs) σ H R:=⟨v,xs,rfl,h⟩
theorem qOr {R:St->Hp->Prop} (h:R σ H):gNil [] σ H R:=⟨rfl,h⟩
theorem r_sl {r:V->Option Int->Option Int->Hp->VK->Prop} {t1 t2:TO} (h:te σ H fun x H1=>t1 σ H1 fun l H2=>t2 σ H2 fun u H3=>r x l u H3 Q):tSl r te t1 t2 σ H Q:=h
theorem qWr {R:Option Int->Hp->Prop} (h:R none H):qOd σ H R:=h
theorem qVc {R:Option Int->Hp->Prop} (h:te σ H fun x H1 => ∃i,x = .int i/\R (some i) H1):tPart te σ H R:=h
end
def Nx (N A:St->Hp->Prop):Prop := ∀ σ H,A σ H->N σ H
theorem qCt {N A:St->Hp->Prop} {σ : St} {H:Hp} (h:Nx N A) (q:A σ H):N σ H:=h σ H q
def NxV (Q' Q:VK):Prop := ∀v H,Q v H->Q' v H
theorem qWf {Q' Q:VK} {v:V} {H:Hp} (h:NxV Q' Q) (q:Q v H):Q' v H:=h v H q
theorem qCx {K:PySem.W.Frag} {a:Addr} {xs:List V} {g:TG} {tb:TS} {D:Ends} {σ : St} {H:Hp} (Pv:Nat->St->Hp->Prop) (h0:Pv 0 σ H) (hl : ∀i σ H,i<=xs.length->Pv i σ H->SqL K H a xs)
  (hs : ∀i x σ H,xs[i]? = some x->Pv i σ H -> ∀(N B C:St->Hp->Prop) (R:VK),Nx N (Pv (i+1))->Nx C (Pv (i+1))->NxV R D.rt->g x σ H fun σ2 H2=>tb ⟨N,R,B,C⟩ σ2 H2) (hd : ∀ σ H,Pv xs.length σ H->D.nx σ H) :
  ∃W:Nat->Nat->St->Hp->Prop,(∃m,W 0 m σ H) /\ ∀i m σ H,W i m σ H ->
   ((Itl K a).stop i H/\D.nx σ H)\/((Itl K a).go i H /\ ∃N:St->Hp->Prop,(∀ σ' H',N σ' H' -> ∃m',m'<m/\W (i+1) m' σ' H') /\ ∀x H',(Itl K a).yld i H x H'->g x σ H' fun σ2 H2=>tb { D with nx:=N,ct:=N,bk:=D.nx } σ2 H2) :=
 qSd Pv h0 hl (fun i x σ H hx hp=>hs i x σ H hx hp _ _ _ _ (fun _ _ h=>h) (fun _ _ h=>h) (fun _ _ h=>h)) hd
theorem qCb {lo:Int} {n:Nat} {g:TG} {tb:TS} {D:Ends} {σ : St} {H:Hp} (Pv:Nat->St->Hp->Prop) (h0:Pv 0 σ H)
  (hs : ∀i σ H,i<n->Pv i σ H -> ∀(N B C:St->Hp->Prop) (R:VK),Nx N (Pv (i+1))->Nx C (Pv (i+1))->NxV R D.rt->g (.int (lo+i)) σ H fun σ2 H2=>tb ⟨N,R,B,C⟩ σ2 H2) (hd : ∀ σ H,Pv n σ H->D.nx σ H) :
  ∃W:Nat->Nat->St->Hp->Prop,(∃m,W 0 m σ H) /\ ∀i m σ H,W i m σ H ->
   ((Itr lo n).stop i H/\D.nx σ H)\/((Itr lo n).go i H /\ ∃N:St->Hp->Prop,(∀ σ' H',N σ' H' -> ∃m',m'<m/\W (i+1) m' σ' H') /\ ∀x H',(Itr lo n).yld i H x H'->g x σ H' fun σ2 H2=>tb { D with nx:=N,ct:=N,bk:=D.nx } σ2 H2) :=
 qQ9 Pv h0 (fun i σ H hx hp=>hs i σ H hx hp _ _ _ _ (fun _ _ h=>h) (fun _ _ h=>h) (fun _ _ h=>h)) hd
theorem qEv {K:PySem.W.Frag} {a:Addr} {xs:List V} {g:TG} {tb:TS} {D:Ends} {σ : St} {H:Hp} (Pv:Nat->St->Hp->Prop) (h0:Pv 0 σ H) (hl : ∀i σ H,i<=xs.length->Pv i σ H->SqL K H a xs)
  (hs : ∀i x σ H p,xs[i]? = some x->Pv i σ H->H p=none -> ∀(N B C:St->Hp->Prop) (R:VK),Nx N (Pv (i+1))->Nx C (Pv (i+1))->NxV R D.rt->g (.ref p) σ (upd H p (.tup [.int i,x])) fun σ2 H2=>tb ⟨N,R,B,C⟩ σ2 H2) (hd : ∀ σ H,Pv xs.length σ H->D.nx σ H) :
  ∃W:Nat->Nat->St->Hp->Prop,(∃m,W 0 m σ H) /\ ∀i m σ H,W i m σ H ->
   ((Ite K a).stop i H/\D.nx σ H)\/((Ite K a).go i H /\ ∃N:St->Hp->Prop,(∀ σ' H',N σ' H' -> ∃m',m'<m/\W (i+1) m' σ' H') /\ ∀x H',(Ite K a).yld i H x H'->g x σ H' fun σ2 H2=>tb { D with nx:=N,ct:=N,bk:=D.nx } σ2 H2) :=
 qN0 Pv h0 hl (fun i x σ H p hx hp hn=>hs i x σ H p hx hp hn _ _ _ _ (fun _ _ h=>h) (fun _ _ h=>h) (fun _ _ h=>h)) hd
inductive Deed where
 | set (b n:Int)
 | add (b o:Int)
 | tell (b:Int)
 | call (c:Int)
 | save (b:Int)
 | back (b:Int)
def deedD:Deed->PyData
 | .set b n =>.tuple [.str "set",.int b,.int n]
 | .add b o =>.tuple [.str "add",.int b,.int o]
 | .tell b =>.tuple [.str "tell",.int b]
 | .call c =>.tuple [.str "call",.int c]
 | .save b =>.tuple [.str "save",.int b]
 | .back b =>.tuple [.str "back",.int b]
def qI8 (works:Int):Deed->Prop
 | .set b n=>0<=b/\b<8 /\ -(10^12)<=n/\n<=10^12
 | .add b o=>0<=b/\b<8/\0<=o/\o<8
 | .tell b=>0<=b/\b<8
 | .call c=>0<=c/\c<works
 | .save b=>0<=b/\b<8
 | .back b=>0<=b/\b<8
def endD:List Int->PyData
 | [] =>.tuple [.str "out"]
 | [x] =>.tuple [.str "go",.int x]
 | x::y::_ =>.tuple [.str "fork",.int x,.int y]
structure Blk where
 ds:List Deed
 ns:List Int
def blkD (b:Blk):PyData :=.tuple [.list (b.ds.map deedD),endD b.ns]
def workD (w:List Blk):PyData :=.list (w.map blkD)
def NsOk (m:Int) (ns:List Int):Prop:=ns = []\/(∃x,ns = [x]/\1<=x/\x<m) \/ ∃x y,ns = [x,y]/\x≠y/\1<=x/\x<m/\1<=y/\y<m
structure BlkOk (m works:Int) (b:Blk):Prop where
 ns:NsOk m b.ns
 ds : ∀d∈b.ds,qI8 works d
 few:b.ds.length<=20
structure WorkOk (m works:Int) (w:List Blk):Prop where
 len:(w.length:Int)=m
 blk : ∀b∈w,BlkOk m works b
structure BsOk (bs:List Int):Prop where
 one:1<=bs.length
 few:bs.length<=8
 all : ∀b∈bs,0<=b/\b<8
theorem qVg {k c:Nat} {lo hi:Int} {t:Addr} {H:Hp} {Q:VK} {E:XK} (hT:Tape H t k) (hk:k+c<=2^40) (q : ∀r H',lo<=r->r<=hi->Tape H' t (k+c)->Ext [t] H H'->Q (.int r) H'):qTn c lo hi ([.ref t] ++ []) H Q E:=⟨t,k,rfl,hT,hk,q⟩
theorem qJ9 {ns:List Int} {r:Int} (h0:0<=r) (h1:r<ns.length) : ∃n,n∈ns/\atI (ns.map V.int) r=some (.int n):=by
 obtain⟨j,rfl⟩:=Int.eq_ofNat_of_zero_le h0
 have hj:j<ns.length:=by exact_mod_cast h1
 refine⟨ns[j],List.getElem_mem hj,?_⟩
 have:=qAq (xs:=ns.map V.int) (j:=j) (by rw [List.getElem?_map,List.getElem?_eq_getElem hj];rfl)
 exact this
section
variable {X:Cx}
def qVu:List V->Hp->VK->Prop:=fun xs H Q => ∃j:Int,xs = [.int j] /\ ∀l,H l=none->Q (.ref l) (upd H l (.rng 0 j))
theorem qEl:CallR X (.type "range") qVu:=by
 intro pins s σ H xs us Q I r h
 obtain⟨j,rfl,q⟩:=h
 obtain⟨u,rfl,t,rfl⟩:=vals1 r
 refine call_range_1 ⟨.ref s.heap.objs.size,_,?_,rfl,q _ (I.hok.fresh (Nat.le_refl _))⟩
 exact I.laid (fun b o e=>Heap.get?_push_of_some _ e) (Nat.le_refl _) ⟨_,_,_,Heap.get?_push_size _ rfl⟩
def qRm:List V->Hp->VK->Prop:=fun xs H Q => ∃(p:Addr) (j:Nat),xs = [.ref p]/\H p=some (.rng 0 j)/\j<=1000 /\ ∀l,H l=none->Q (.ref l) (upd H l (.lst ((List.range j).map fun (i:Nat)=>V.int (i:Int))))
theorem qD9 (hh:X.A.handled=none):CallR X (.type "list") qRm:=by
 intro pins s σ H xs us Q I r h
 obtain⟨p,j,rfl,hp,hj,q⟩:=h
 obtain⟨u,rfl,rx⟩:=vals1 r
 cases rx
 obtain⟨t,u,v,e⟩ : ∃t u v,s.heap.get? p=some { cls :=.type "range",data :=.fields #[.int 0 t,.int (j:Int) u,.int 1 v] }:=I.hok p _ hp
 refine call_list_range hh e (small_one (by decide) (by decide) (by omega) (by omega)) (n:=j) (by rw [rangeSize_one];split <;> omega) (by omega) fun h' tk acc c kp hS hI => ?_
 refine⟨.ref s.heap.objs.size,_,I.laid (o :=.lst ((List.range j).map fun (i:Nat)=>V.int (i:Int))) kp (Nat.le_refl _) (show _/\_ from⟨?_,acc.toList,c,?_,?_⟩),rfl,q _ (I.hok.fresh (Nat.le_refl _))⟩
 ·rw [List.length_map,List.length_range];exact len2 hj
 ·have hl:acc.toList.length=j:=by rw [Array.length_toList];exact hI.1
  have hv : ∀(i:Nat) v,acc.toList[i]? = some v -> ∃t,v=Value.int (i:Int) t:=fun i v hv=>by
   obtain⟨t,h⟩:=hI.2 i v (by rw [<-hv,Array.getElem?_toList])
   exact⟨t,by rw [h];congr 1;omega⟩
  generalize acc.toList=us at hl hv
  subst hl
  have key : ∀(us:List Value) (k:Nat),(∀(i:Nat) v,us[i]? = some v -> ∃t,v=Value.int ((k+i:Nat):Int) t)->Vals ((List.range' k us.length).map fun (i:Nat)=>V.int (i:Int)) us:=by
   intro us
   induction us with
   | nil=>intro k _;exact .nil
   | cons u us ih =>
    intro k h
    obtain⟨t,rfl⟩:=h 0 u rfl
    refine .cons ⟨t,rfl⟩ (ih (k+1) fun i v e => ?_)
    obtain⟨t,e⟩:=h (i+1) v e
    exact⟨t,by rw [e];congr 1;omega⟩
  have:=key us 0 (fun i v e=>by obtain⟨t,h⟩:=hv i v e;exact⟨t,by rw [h];congr 1;omega⟩)
  rwa [<-List.range_eq_range'] at this
 ·rw [Array.toArray_toList];exact hS
variable {K:PySem.W.Frag}
theorem qMx (K:PySem.W.Frag) (hK:X.K=K):IxR X (rIxL K):=hK▸qAi
theorem qDh (K:PySem.W.Frag) (hK:X.K=K):IxR X (rIxT K):=hK▸qCw
theorem qR9 (K:PySem.W.Frag) (hK:X.K=K):SlR X (rSlL K):=hK▸qIk
theorem qOi (K:PySem.W.Frag) (hK:X.K=K):SlR X (rSlT K):=hK▸qJr
theorem qG7 (K:PySem.W.Frag) (hK:X.K=K):CallR X (.builtin "len") (fun xs H Q => ∃p ys,xs = [.ref p]/\(SqL K H p ys\/SqT K H p ys)/\Q (.int ys.length) H):=hK▸qAw
theorem qMt (K:PySem.W.Frag) (hK:X.K=K):CallR X (.type "list") (fun xs H Q => ∃p ys,xs = [.ref p]/\(SqL K H p ys\/SqT K H p ys) /\ ∀l,H l=none->Q (.ref l) (upd H l (.lst ys))):=hK▸qC4
theorem qDx (K:PySem.W.Frag) (hK:X.K=K) {tg l:Expr} {tl:TE} (hl:PE X l tl):PI X tg l (iList K tl):=hK▸qAo hl
theorem qD8 (K:PySem.W.Frag) (hK:X.K=K) {es:List Expr} {pos:Pos} {k:Nat} {t:TGs} {n:Nat} (hc:X.calm=true) (h:PGs X es t)
  (hn:(assignEach es X.env).length=n:=by rfl) (hst:(assignEach es X.env).findIdx? (·.1)=none:=by rfl):PG X (.Tuple es k pos) (gTup K n t):=hK▸qE4 hc h hn hst
theorem qW3 (K:PySem.W.Frag) (hK:X.K=K) {T:String} {name:Str} {id:String} {r:V->List V->Hp->VK->Prop} {o e:Expr} {es:List Expr} {to:TE} {t:TA} {apos cpos:Pos} (pa:PlainAttrs T) (slot:Slot T name id) (hty:typeOf (.builtin id)=pure (.type "method_descriptor")) (hm:MtR X id r) (ho:PE X o to) (ha:PA X (e::es) t)
  (hbase:attributeBase o name X.env (eval o X.env)=eval o X.env:=by rfl)
  (hfew:((backTo cpos (starEach (e::es) X.env)).all (fun x => !x.1)&&(backToKw cpos (keywordEach [] X.env)).all (fun x=>x.1.isSome)
   && decide ((e::es).length+([]:List Keyword).length+(if ([]:List Keyword).isEmpty then 0 else 1)<30))=true:=by rfl)
  (hline:(apos.endLine == cpos.line)=true:=by rfl) (hs:starEach (e::es) X.env=(false,eval e X.env)::starEach es X.env:=by rfl) (hplain:(backTo cpos (starEach es X.env)).any (·.1)=false:=by rfl) :
  PE X (.Call (.Attribute o name apos) (e::es) [] cpos) (tBM K T r to t):=hK▸qE3 pa slot hty hm ho ha hbase hfew hline hs hplain
theorem qUw {j n:Nat} (h:j<n):seqIndex? (j:Int) n=some j:=by
 show (if (decide (0<=if (j:Int)<0 then (j:Int)+n else j)&&decide ((if (j:Int)<0 then (j:Int)+n else j)<n))=true then some (if (j:Int)<0 then (j:Int)+n else (j:Int)).toNat else none)=some j
 have e:(if (j:Int)<0 then (j:Int)+n else (j:Int))=j:=if_neg (by omega)
 rw [e,decide_eq_true (show (0:Int)<=j by omega),decide_eq_true (show (j:Int)<n by omega)]
 rfl
theorem qK9 {α β : Type} {f : α -> β} : ∀(l:List α) (n:Nat),(l.eraseIdx n).map f=(l.map f).eraseIdx n
 | [],_=>rfl
 | _::_,0=>rfl
 | a::l,n+1=>congrArg (f a :: ·) (qK9 l n)
end
theorem qQb {ns:List Int} (h:ns.length<=2) : ∃w:Str,endD ns = .tuple (.str w::ns.map .int):=by
 match ns,h with
 | [],_=>exact⟨_,rfl⟩
 | [x],_=>exact⟨_,rfl⟩
 | [x,y],_=>exact⟨_,rfl⟩
theorem Ext.toSame {H H':Hp} (e:Ext [] H H'):Same H H':=fun b o h=>e b o (by simp) h
abbrev pairD (p:Int×Int):PyData :=.tuple [.int p.1,.int p.2]
abbrev qHt (ps:List (Int×Int)):PyData :=.list (ps.map pairD)
theorem NsOk.few {m:Int} {ns:List Int} (h:NsOk m ns):ns.length<=2:=by
 rcases h with h | ⟨x,h,_⟩ | ⟨x,y,h,_⟩ <;> subst h <;> simp
theorem NsOk.range {m:Int} {ns:List Int} (h:NsOk m ns) : ∀x∈ns,1<=x/\x<m:=by
 rcases h with h | ⟨x,h,h1,h2⟩ | ⟨x,y,h,_,h1,h2,h3,h4⟩ <;> subst h <;> intro z hz
 ·cases hz
 ·rw [List.mem_singleton.mp hz];exact⟨h1,h2⟩
 ·rcases List.mem_cons.mp hz with e | e
  ·rw [e];exact⟨h1,h2⟩
  ·rw [List.mem_singleton.mp e];exact⟨h3,h4⟩
theorem qWa {X:Cx} (K:PySem.W.Frag) (hK:X.K=K):OpR X (compareOp .NotIn) (rIn K true):=hK▸qK1
theorem inK {X:Cx} (K:PySem.W.Frag) (hK:X.K=K):OpR X (compareOp .In) (rIn K false):=hK▸qCh
theorem qUn {a b:Int}:eqV (.int a) (.int b)=decide (a=b):=by
 first | rfl | (unfold eqV;simp)
theorem qE0 (x:Int) : ∀ns:List Int,inV (.int x) (ns.map V.int)=decide (x∈ns)
 | []=>rfl
 | n::r=>by
  have ih:=qE0 x r
  show (eqV (.int n) (.int x)||inV (.int x) (r.map V.int))=_
  rw [ih,qUn]
  by_cases h1:n=x
  ·subst h1;simp
  ·by_cases h2:x∈r
   ·simp [h2]
   ·simp [h1,h2,Ne.symm h1]
theorem qCy : ∀ns:List Int,(ns.map V.int).all flatV=true
 | []=>rfl
 | _::r=>qCy r
theorem qVe {K:PySem.W.Frag} {x:Int} {ns:List Int} {p:Addr} {H:Hp} {Q:VK} (h:SqL K H p (ns.map V.int)) (q:Q (.bl (!decide (x∈ns))) H):rIn K true (.int x) (.ref p) H Q :=
 ⟨p,_,rfl,.inl h,rfl,qCy ns,by rw [if_pos rfl,qE0];exact q⟩
theorem qJp {n:Nat} (h:n<=100000):n<sizeLine:=Nat.lt_of_le_of_lt h (by decide)
theorem qAg {α β : Type} {f : α -> β} {l:List α} {i:Nat} {y : β} (h:(l.map f)[i]? = some y) : ∃x,l[i]? = some x/\y=f x:=by
 rw [List.getElem?_map] at h
 cases z:l[i]? with
 | none=>rw [z] at h;cases h
 | some x=>rw [z] at h;exact⟨x,rfl,(Option.some.inj h).symm⟩
theorem qAu {α : Type} {l:List α} {i:Nat} {x : α} (h:l[i]? = some x):l.take (i+1)=l.take i ++ [x]:=by rw [List.take_add_one,h];rfl
def nxt (w:List Blk) (i:Int):List Int:=if 0<=i then ((w[i.toNat]?).map Blk.ns).getD [] else []
inductive Reach (nx:Int->List Int) (a:Int):Int->Prop
 | refl:Reach nx a a
 | step {b c:Int}:Reach nx a b->c∈nx b->Reach nx a c
theorem qPj {w:List Blk} {i:Nat} {b:Blk} (h:w[i]? = some b):nxt w (i:Int)=b.ns:=by
 unfold nxt
 rw [if_pos (by omega),Int.toNat_natCast,h];rfl
theorem qE5 {m works:Int} {w:List Blk} (h:WorkOk m works w) (i:Int):NsOk m (nxt w i):=by
 unfold nxt
 split
 ·cases z:w[i.toNat]? with
  | none=>exact .inl rfl
  | some b=>exact (h.blk b (List.mem_of_getElem? z)).ns
 ·exact .inl rfl
theorem Reach.range {m works a x:Int} {w:List Blk} (h:WorkOk m works w) (ha:0<=a/\a<m) (r:Reach (nxt w) a x):0<=x/\x<m:=by
 induction r with
 | refl=>exact ha
 | step _ hc _=>have:=(qE5 h _).range _ hc;omega
def cnt (p:Int->Bool):Nat->Nat
 | 0=>0
 | m+1=>cnt p m+(if p (m:Int)=true then 1 else 0)
theorem qH0 (p:Int->Bool) : ∀m,cnt p m<=m
 | 0=>Nat.le_refl _
 | m+1=>by
  have:=qH0 p m
  show cnt p m+_<=_
  split <;> omega
theorem qN5 {p q:Int->Bool} (h : ∀i,p i=true->q i=true) : ∀m,cnt p m<=cnt q m
 | 0=>Nat.le_refl _
 | m+1=>by
  have:=qN5 h m
  show cnt p m+_<=cnt q m+_
  by_cases hp:p (m:Int)=true
  ·rw [if_pos hp,if_pos (h _ hp)];omega
  ·rw [if_neg hp];omega
theorem qN6 {p q:Int->Bool} {x:Int} (h : ∀i,p i=true->q i=true) (hq:q x=true) (hp:p x=false) : ∀m:Nat,0<=x->x<m->cnt p m<cnt q m
 | 0,h0,h1=>by omega
 | m+1,h0,h1=>by
  show cnt p m+_<cnt q m+_
  by_cases e:x=(m:Int)
  ·subst e
   have:=qN5 h m
   rw [if_neg (by rw [hp];decide),if_pos hq];omega
  ·have:=qN6 h hq hp m h0 (by omega)
   by_cases hp:p (m:Int)=true
   ·rw [if_pos hp,if_pos (h _ hp)];omega
   ·rw [if_neg hp];omega
theorem qQi {p:Int->Bool} : ∀m:Nat,cnt p m=m -> ∀x:Int,0<=x->x<m->p x=true
 | 0,_,x,h0,h1=>by omega
 | m+1,h,x,h0,h1=>by
  have hle:=qH0 p m
  have h:cnt p m+(if p (m:Int)=true then 1 else 0)=m+1:=h
  by_cases hp:p (m:Int)=true
  ·rw [if_pos hp] at h
   by_cases e:x=(m:Int)
   ·rw [e];exact hp
   ·exact qQi m (by omega) x h0 (by omega)
  ·rw [if_neg hp] at h;omega
section
variable (nx:Int->List Int) (a:Int)
def lay:Nat->List Int×List Int
 | 0=>([],[a])
 | j+1=>let f:=(lay j).2.flatMap fun b=>(nx b).filter fun x => !decide (x∈(lay j).1);((lay j).1++f,f)
variable {nx a}
theorem lay_further {j:Nat} {x:Int}:x∈(lay nx a (j+1)).2↔(∃b∈(lay nx a j).2,x∈nx b)/\x∉(lay nx a j).1:=by
 show x∈(lay nx a j).2.flatMap _↔_
 simp only [List.mem_flatMap,List.mem_filter,Bool.not_eq_true',decide_eq_false_iff_not]
 constructor
 ·rintro⟨b,hb,h1,h2⟩;exact⟨⟨b,hb,h1⟩,h2⟩
 ·rintro⟨⟨b,hb,h1⟩,h2⟩;exact⟨b,hb,h1,h2⟩
theorem qLv {j:Nat}:(lay nx a (j+1)).1=(lay nx a j).1++(lay nx a (j+1)).2:=rfl
theorem qPp {x:Int} : ∀ {j:Nat},x∈(lay nx a j).1 -> ∃i,i<=j/\x∈(lay nx a i).2
 | 0,h=>absurd h (by simp [lay])
 | j+1,h=>by
  rw [qLv] at h
  rcases List.mem_append.mp h with h | h
  ·obtain⟨i,hi,e⟩:=qPp h;exact⟨i,by omega,e⟩
  ·exact⟨j+1,Nat.le_refl _,h⟩
theorem qKg {x:Int} : ∀ {j:Nat},x∈(lay nx a j).2->Reach nx a x
 | 0,h=>by
  have:x=a:=by simpa [lay] using h
  rw [this];exact .refl
 | j+1,h=>by
  obtain⟨⟨b,hb,h1⟩,_⟩:=lay_further.mp h
  exact .step (qKg hb) h1
theorem qOm {x:Int} (r:Reach nx a x) : ∃j,x∈(lay nx a j).2:=by
 induction r with
 | refl=>exact⟨0,by simp [lay]⟩
 | @step b c _ hc ih =>
  obtain⟨j,hj⟩:=ih
  by_cases hm:c∈(lay nx a j).1
  ·obtain⟨i,_,e⟩:=qPp hm;exact⟨i,e⟩
  ·exact⟨j+1,lay_further.mpr ⟨⟨b,hj,hc⟩,hm⟩⟩
theorem qMu {j:Nat} (h:(lay nx a (j+1)).2 ≠ []):(lay nx a j).2 ≠ []:=by
 intro e
 apply h
 show (lay nx a j).2.flatMap _ = []
 rw [e];rfl
theorem qKf {j:Nat} : ∀ {i:Nat},(lay nx a (j+i)).2 ≠ []->(lay nx a j).2 ≠ []
 | 0,h=>h
 | i+1,h=>qKf (i:=i) (qMu h)
theorem qPw {m:Nat} (hr : ∀x j,x∈(lay nx a j).2->0<=x/\x<(m:Int)) : ∀j,(lay nx a j).2 ≠ []->j<=cnt (fun x=>decide (x∈(lay nx a j).1)) m
 | 0,_=>Nat.zero_le _
 | j+1,h=>by
  have ih:=qPw hr j (qMu h)
  obtain⟨x,hx⟩:=List.exists_mem_of_ne_nil _ h
  have h1:=hr x (j+1) hx
  have h2:=(lay_further.mp hx).2
  have:=qN6 (p:=fun x=>decide (x∈(lay nx a j).1)) (q:=fun x=>decide (x∈(lay nx a (j+1)).1)) (x:=x) (fun i hi=>by
   rw [qLv]
   exact decide_eq_true (List.mem_append_left _ (of_decide_eq_true hi))) (decide_eq_true (by rw [qLv];exact List.mem_append_right _ hx)) (decide_eq_false h2) m h1.1 h1.2
  omega
theorem qUl {m:Nat} (hr : ∀x j,x∈(lay nx a j).2->0<=x/\x<(m:Int)) {x:Int} (r:Reach nx a x) : ∃j,j<=m/\x∈(lay nx a j).2:=by
 obtain⟨j,hj⟩:=qOm r
 by_cases h:j<=m
 ·exact⟨j,h,hj⟩
 ·have hm:(lay nx a m).2 ≠ []:=qKf (i:=j - m) (by rw [show m+(j - m)=j by omega];exact List.ne_nil_of_mem hj)
  have h1:=qPw hr m hm
  have h2:=qH0 (fun x=>decide (x∈(lay nx a m).1)) m
  have h3:=hr x j hj
  have:=qQi (p:=fun x=>decide (x∈(lay nx a m).1)) m (by omega) x h3.1 h3.2
  exact qPp (of_decide_eq_true this)
end
theorem qCj {α : Type} [DecidableEq α] : ∀ {l1 l2:List α},l1.Nodup->(∀x∈l1,x∈l2)->l1.length<=l2.length
 | [],_,_,_=>Nat.zero_le _
 | x::r,l2,h,hs=>by
  rw [List.nodup_cons] at h
  have hx:=hs x (List.mem_cons_self ..)
  have ih:=qCj (l2:=l2.erase x) h.2 fun y hy=>by
   have hne:y≠x:=fun z=>h.1 (z▸hy)
   exact (List.mem_erase_of_ne hne).mpr (hs y (List.mem_cons_of_mem _ hy))
  have hl:=List.length_erase_of_mem hx
  have hp:=List.length_pos_of_mem hx
  rw [List.length_cons]
  omega
theorem qJy : ∀ps:List (Int×Int),PyData.canLayAll0 (ps.map pairD)=true
 | []=>rfl
 | p::r=>by
  show (PyData.canLay0 (pairD p)&&PyData.canLayAll0 (r.map pairD))=true
  rw [qJy r];rfl
theorem qHs : ∀ps:List (Int×Int),PyData.depthAll (ps.map pairD)<=1
 | []=>Nat.zero_le _
 | p::r=>by
  show max (PyData.depth (pairD p)) (PyData.depthAll (r.map pairD))<=1
  have h1:PyData.depth (pairD p)=1:=rfl
  have:=qHs r
  omega
theorem qLr (ps:List (Int×Int)):PyData.depth (qHt ps)<=2:=by
 have:=qHs ps
 show PyData.depthAll (ps.map pairD)+1<=2
 omega
theorem qJx (ps:List (Int×Int)):SeqAt.shaped (qHt ps)=true:=by
 have:=qLr ps
 show (PyData.canLayAll0 (ps.map pairD)&&decide (PyData.depth (qHt ps)<=64))=true
 rw [qJy,decide_eq_true (show PyData.depth (qHt ps)<=64 by omega)];rfl
theorem cut1 (x:V) (xs:List V):cutV (x::xs) (some 1) none=xs:=by
 unfold cutV HT.sIx
 simp
theorem qAx {X:Cx} {a:Expr} {ta:TE} (K:PySem.W.Frag) (hK:X.K=K) (ha:PE X a ta) (he : ∀whole,isTrue a X.env whole=(do let v <-whole;standAt a.pos;holding [v] (truthy v))) :
  PT X a (fun σ H Q=>ta σ H fun x H' => ∃k,TruV K x H' k/\Q k H'):=hK▸qIp ha he
theorem qJ6 (xs:Array Nat) (j:Nat) (up:xs.toList.Pairwise (· < ·)) : ∀(fuel lo hi:Nat),lo<=hi->hi<=xs.size->hi - lo<=fuel->(∀(i x:Nat),xs[i]? = some x->i<lo->x<j)->(∀(i x:Nat),xs[i]? = some x->hi<=i->j<=x) ->
  (SetTable.below.go xs j fuel lo hi<=xs.size)/\(∀(i x:Nat),xs[i]? = some x->i<SetTable.below.go xs j fuel lo hi->x<j)/\(∀(i x:Nat),xs[i]? = some x->SetTable.below.go xs j fuel lo hi<=i->j<=x)
 | 0,lo,hi,h1,h2,h3,h4,h5=>by
  have e:lo=hi:=by omega
  subst e
  exact⟨h2,h4,h5⟩
 | fuel+1,lo,hi,h1,h2,h3,h4,h5=>by
  unfold SetTable.below.go
  by_cases hl:lo<hi
  ·rw [if_pos hl]
   dsimp only
   have hm:(lo+hi) / 2<xs.size:=by omega
   have le : ∀(i k x y:Nat),xs[i]? = some x->xs[k]? = some y->i<=k->x<=y:=by
    intro i k x y hx hy hik
    rw [<-Array.getElem?_toList] at hx hy
    obtain⟨hi',rfl⟩:=List.getElem?_eq_some_iff.mp hx
    obtain⟨hk',rfl⟩:=List.getElem?_eq_some_iff.mp hy
    rcases Nat.lt_or_eq_of_le hik with z | z
    ·exact Nat.le_of_lt (List.pairwise_iff_getElem.mp up i k hi' hk' z)
    ·subst z;exact Nat.le_refl _
   obtain⟨y,hy⟩ : ∃y,xs[(lo+hi) / 2]? = some y:=⟨_,Array.getElem?_eq_getElem hm⟩
   have hg:xs.getD ((lo+hi) / 2) j=y:=by rw [Array.getD_eq_getD_getElem?,hy];rfl
   rw [hg]
   by_cases hy2:y<j
   ·rw [if_pos hy2]
    exact qJ6 xs j up fuel _ _ (by omega) h2 (by omega) (fun i x hx hlt=>Nat.lt_of_le_of_lt (le i _ x y hx hy (by omega)) hy2) h5
   ·rw [if_neg hy2]
    exact qJ6 xs j up fuel _ _ (by omega) (by omega) (by omega) h4 (fun i x hx hlt=>Nat.le_trans (Nat.le_of_not_lt hy2) (le _ i y x hy hx (by omega)))
  ·rw [if_neg hl]
   have e:lo=hi:=by omega
   subst e
   exact⟨h2,h4,h5⟩
theorem qNb (xs:Array Nat) (j:Nat) (up:xs.toList.Pairwise (· < ·)):SetTable.below xs j<=xs.size/\(∀(i x:Nat),xs[i]? = some x->i<SetTable.below xs j->x<j)/\(∀(i x:Nat),xs[i]? = some x->SetTable.below xs j<=i->j<=x) :=
 qJ6 xs j up xs.size 0 xs.size (Nat.zero_le _) (Nat.le_refl _) (Nat.sub_le _ _) (fun _ _ _ h=>absurd h (Nat.not_lt_zero _)) (fun i x hx h=>absurd (Array.getElem?_eq_some_iff.mp hx).1 (by omega))
theorem qOy (xs:Array Nat) (j:Nat) (up:xs.toList.Pairwise (· < ·)) (hj:xs[SetTable.below xs j]? ≠ some j):(SetTable.insertAt xs (SetTable.below xs j) j).toList.Pairwise (· < ·):=by
 obtain⟨h1,h2,h3⟩:=qNb xs j up
 rw [SetTable.toList_insertAt]
 generalize SetTable.below xs j=b at *
 have h4 : ∀x∈xs.toList.drop b,j<x:=by
  intro x hx
  obtain⟨i,hi,e⟩:=List.getElem_of_mem hx
  have hg:xs.toList[b+i]? = some x:=by rw [<-List.getElem?_drop,List.getElem?_eq_getElem hi,e]
  rw [Array.getElem?_toList] at hg
  have hle:=h3 _ _ hg (Nat.le_add_right _ _)
  rcases Nat.lt_or_eq_of_le hle with z | z
  ·exact z
  ·subst z
   by_cases hi0:i=0
   ·subst hi0;exact absurd hg hj
   ·have hbs:b<xs.toList.length:=by rw [List.length_drop] at hi;omega
    have hb:xs[b]? = some xs.toList[b]:=by rw [<-Array.getElem?_toList,List.getElem?_eq_getElem hbs]
    have z1:=h3 _ _ hb (Nat.le_refl _)
    rw [<-Array.getElem?_toList] at hg
    obtain⟨hbi,e2⟩:=List.getElem?_eq_some_iff.mp hg
    have z2:=List.pairwise_iff_getElem.mp up b (b+i) hbs hbi (by omega)
    omega
 refine List.pairwise_append.mpr ⟨up.sublist (List.take_sublist _ _),List.pairwise_cons.mpr ⟨h4,up.sublist (List.drop_sublist _ _)⟩,fun x hx y hy => ?_⟩
 obtain⟨i,hi,e⟩:=List.getElem_of_mem hx
 have hib:i<b:=by rw [List.length_take] at hi;omega
 have hg:xs.toList[i]? = some x:=by rw [<-List.getElem?_take_of_lt hib,List.getElem?_eq_getElem hi,e]
 rw [Array.getElem?_toList] at hg
 have hlt:=h2 _ _ hg hib
 rcases List.mem_cons.mp hy with z | z
 ·subst z;exact hlt
 ·exact Nat.lt_trans hlt (h4 y z)
theorem qD7 (n:Nat):(Array.range n).toList.Pairwise (· < ·):=by
 rw [Array.toList_range];exact List.pairwise_lt_range
def qQz (t:SetTable) (j:Nat):Prop:=t.place[SetTable.below t.place j]? ≠ some j
theorem qHu {t:SetTable} {j:Nat} (h:t.slot j = .empty\/t.slot j = .dummy):qQz t j:=by
 intro e
 unfold SetTable.slot at h
 dsimp only at h
 rw [e] at h
 simp at h
theorem qIr {t:SetTable} {f:Nat->Int} {h:Int} {j:Nat} {dm:Option Nat} : ∀(fuel:Nat) (p:SetTable.Probe),SetTable.probe.go t f h fuel p=some (.empty j dm)->(∀d,p.dummy=some d->t.slot d = .dummy) ->
  t.slot j = .empty /\ ∀d,dm=some d->t.slot d = .dummy
 | 0,p,e,_=>by unfold SetTable.probe.go at e;cases e
 | fuel+1,p,e,hd=>by
  unfold SetTable.probe.go at e
  have ha : ∀q:SetTable.Probe,(t.advance q).dummy=q.dummy:=by
   intro q;unfold SetTable.advance;split <;> rfl
  cases hs:t.slot p.j with
  | empty=>rw [hs] at e;dsimp only at e;cases e;exact⟨hs,hd⟩
  | dummy=>rw [hs] at e;dsimp only at e;exact qIr fuel _ e (fun d z=>by rw [ha] at z;cases z;exact hs)
  | live i =>
   rw [hs] at e;dsimp only at e
   split at e
   ·cases e
   ·exact qIr fuel _ e (fun d z=>by rw [ha] at z;exact hd d z)
theorem qLy {t:SetTable} {h:Int} {slot:Nat} {wd:Bool} (e:t.freeSlot h=some (slot,wd)):qQz t slot:=by
 unfold SetTable.freeSlot at e
 split at e
 ·rename_i j dm hp
  obtain⟨a,b⟩:=qIr _ _ hp (fun d z=>by unfold SetTable.probeStart at z;cases z)
  cases e
  cases dm with
  | none=>exact qHu (.inl a)
  | some d=>exact qHu (.inr (b d rfl))
 ·cases e
structure GoodT (b:Bool) (t:SetTable) (n:Nat):Prop where
 fits:t.fits n=true
 rise:t.place.toList.Pairwise (· < ·)
 led:t.led=b
theorem qGu {b:Bool} {t:SetTable} {es:Array (Int×Value)} {h:Int} {x:Value} (g:GoodT b t es.size):GoodT b (layNew t es h x).2.1 (layNew t es h x).1.size:=by
 refine⟨layNew_fits t es h x,?_,?_⟩
 ·unfold layNew
  split
  ·rename_i slot wd hs
   dsimp only
   unfold SetTable.orStandIn
   split
   ·exact qOy _ _ g.rise (qLy hs)
   ·exact qD7 _
  ·exact qD7 _
 ·unfold layNew
  split
  ·dsimp only
   unfold SetTable.orStandIn
   split
   ·exact g.led
   ·exact g.led
  ·exact g.led
theorem qIm {b:Bool} {t:SetTable} {es:Array (Int×Value)} {m:Nat} (g:GoodT b t es.size):GoodT b (relayAll t es m).2.1 (relayAll t es m).1.size:=by
 refine⟨relayAll_fits t es m,?_,?_⟩
 ·unfold relayAll
  split
  ·rename_i t' order hr
   dsimp only
   split
   ·unfold SetTable.relaid SetTable.laid at hr
    cases hl:SetTable.layClean (SetTable.sizeAbove m - 1) (es.map (·.1)) with
    | none=>rw [hl] at hr;cases hr
    | some owner =>
     rw [hl] at hr
     cases hr
     show (((List.range _).filterMap fun j=>(owner.getD j none).map (j,·)).map (·.1)).Pairwise (· < ·)
     have hsub : ∀l:List Nat,((l.filterMap fun j=>(owner.getD j none).map (j,·)).map (·.1)).Sublist l:=by
      intro l
      induction l with
      | nil=>exact .slnil
      | cons a r ih =>
       rw [List.filterMap_cons]
       cases owner.getD a none with
       | none=>exact ih.cons _
       | some k=>exact ih.cons₂ a
     exact List.Pairwise.sublist (hsub _) List.pairwise_lt_range
   ·exact qD7 _
  ·exact qD7 _
 ·unfold relayAll
  split
  ·rename_i t' order hr
   dsimp only
   split
   ·unfold SetTable.relaid SetTable.laid at hr
    cases hl:SetTable.layClean (SetTable.sizeAbove m - 1) (es.map (·.1)) with
    | none=>rw [hl] at hr;cases hr
    | some owner=>rw [hl] at hr;cases hr;exact g.led
   ·exact g.led
  ·exact g.led
theorem GoodT.plainOff {b:Bool} {t:SetTable} {n:Nat} (g:GoodT b t n):GoodT b { t with plain:=false } n:=⟨SetTable.fits_plain_off g.fits,g.rise,g.led⟩
def keyI:Int×Value->Int
 | (_,.int n _)=>n
 | _=>0
def EI (e:Int×Value):Prop := ∃n t,e=(hashInt n,Value.int n t)
def qBr (w:World):Bool:=w.params.followText "set-order"
def SetI (w:World) (h:Heap) (a:Addr) (ns:List Int):Prop :=
 ∃o es ep t,h.get? a=some o/\o.ExactSet/\o.data = .set es ep t/\(∀e∈es.toList,EI e)/\(es.toList.map keyI).Perm ns/\ns.Nodup/\es.size<scanBound/\GoodT (!qBr w) t es.size
theorem EI.elems {P:Program} {w:World} {l:List (Int×Value)} (h : ∀e∈l,EI e):ElemsOf (intKind P w) l:=fun e he=>by
 obtain⟨n,t,rfl⟩:=h e he
 exact⟨⟨n,intKind_is P w n t,rfl⟩,rfl⟩
theorem qG4 {P:Program} {w:World} {l:List (Int×Value)} (h : ∀e∈l,EI e) (n:Int):n∈l.map keyI ↔ ∃e∈l,(intKind P w).is n e.2=true:=by
 constructor
 ·intro hm
  obtain⟨e,he,q⟩:=List.mem_map.mp hm
  obtain⟨m,t,rfl⟩:=h e he
  cases q
  exact⟨_,he,intKind_is P w m t⟩
 ·rintro⟨e,he,q⟩
  obtain⟨m,t,rfl⟩:=h e he
  have:n=m:=(intKind P w).inj _ _ _ q (intKind_is P w m t)
  subst this
  exact List.mem_map.mpr ⟨_,he,rfl⟩
theorem SetI.len {w:World} {h:Heap} {a:Addr} {ns:List Int} (S:SetI w h a ns):ns.length<scanBound:=by
 obtain⟨o,es,ep,t,_,_,_,_,p,_,hb,_⟩:=S
 have:=p.length_eq
 rw [List.length_map,Array.length_toList] at this
 omega
theorem SetI.stay {w:World} {h h':Heap} {a:Addr} {ns:List Int} (S:SetI w h a ns) (k : ∀o,h.get? a=some o->h'.get? a=some o):SetI w h' a ns:=by
 obtain⟨o,es,ep,t,e,r⟩:=S
 exact⟨o,es,ep,t,k o e,r⟩
def addN (ns:List Int) (n:Int):List Int:=if n∈ns then ns else ns ++ [n]
theorem qBs {ns:List Int} {n:Int} (h:ns.Nodup):(addN ns n).Nodup:=by
 unfold addN;split
 ·exact h
 ·rename_i hn
  exact List.nodup_append.mpr ⟨h,by simp,by intro x hx y hy;simp at hy;subst hy;intro e;subst e;exact hn hx⟩
theorem qIw {ns:List Int} {n m:Int}:m∈addN ns n↔m∈ns\/m=n:=by
 unfold addN;split
 ·rename_i hn;constructor
  ·exact .inl
  ·rintro (h | rfl)
   ·exact h
   ·exact hn
 ·simp
theorem qNc {ns:List Int} {n:Int}:(addN ns n).length<=ns.length+1:=by
 unfold addN;split <;> simp
section
variable {P:Program} {w:World} {A:Around} {E:Value->Shared->Prop} {s:Shared}
theorem SetI.store {h:Heap} {a:Addr} {o:Obj} {es es':Array (Int×Value)} {ep:Nat} {t t':SetTable} {ns:List Int} (ho:h.get? a=some o) (hex:o.ExactSet) (hd:o.data = .set es ep t)
  (hel : ∀e∈es'.toList,EI e) (hp:(es'.toList.map keyI).Perm ns) (hn:ns.Nodup) (hb:es'.size<scanBound) (g:GoodT (!qBr w) t' es'.size) :
  (h.update a (Obj.putSet es' t')).get? a=some { o with data :=.set es' (ep+1) t' }/\SetI w (h.update a (Obj.putSet es' t')) a ns:=by
 have hg:=Heap.get?_update_self (Obj.putSet es' t') ho (by rw [putSet_of es' t' hd];rfl)
 rw [putSet_of es' t' hd] at hg
 exact⟨hg,_,es',ep+1,t',hg,hex,rfl,hel,hp,hn,hb,g⟩
theorem qF3 {gw:Bool->Sem Unit} (hg : ∀(b:Bool) (s₁ : Shared) (Q':Unit->Shared->Prop),Q' () s₁ -> wpAny (model P w) A (gw b) Q' E s₁) {a:Addr} {o:Obj} {es:Array (Int×Value)} {ep:Nat} {t:SetTable}
  (ho:s.heap.get? a=some o) (hex:o.ExactSet) (hd:o.data = .set es ep t) {es1:Array (Int×Value)} {t2:SetTable} {ns:List Int} (hel : ∀e∈es1.toList,EI e) (hp:(es1.toList.map keyI).Perm ns) (hn:ns.Nodup)
  (hb:es1.size<scanBound) (g:GoodT (!qBr w) t2 es1.size) {wd:Bool} {R:Option Bool->Shared->Prop} (h : ∀h',Heap.SameBut a s.heap h'->SetI w h' a ns->R (some true) { s with heap:=h' }) :
  wpAny (model P w) A (do
    storeSet a es1 t2
    if (!wd&&t2.tooFull)=true then do
      gw (relayAll t2 es1 (SetTable.grown es1.size)).2.2
      storeSet a (relayAll t2 es1 (SetTable.grown es1.size)).1 (relayAll t2 es1 (SetTable.grown es1.size)).2.1
      pure (some true)
     else pure (some true)) R E s:=by
 refine wpAny_bind (wpAny_storeSet_of ho hd ?_ (fits_of_scanBound hb))
 obtain⟨ho1,hS1⟩:=SetI.store (w:=w) ho hex hd hel hp hn hb g
 have sb:=Heap.SameBut.update s.heap a (Obj.putSet es1 t2)
 split
 ·have hp2:=relayAll_perm t2 es1 (SetTable.grown es1.size)
  have g2:=qIm (m:=SetTable.grown es1.size) g
  generalize relayAll t2 es1 (SetTable.grown es1.size)=Rl at hp2 g2 ⊢
  obtain⟨es2,t3,gv⟩:=Rl
  dsimp only at hp2 g2 ⊢
  have hz:es2.size=es1.size:=by rw [<-Array.length_toList,hp2.length_eq,Array.length_toList]
  have hb2:es2.size<scanBound:=by omega
  refine wpAny_bind (hg _ _ _ (wpAny_bind (wpAny_storeSet_of ho1 rfl ?_ (fits_of_scanBound hb2))))
  exact wpAny_pure (h _ (sb.trans (Heap.SameBut.update _ a _)) (SetI.store (w:=w) ho1 hex rfl (fun e he=>hel e (hp2.mem_iff.mp he)) ((hp2.map keyI).trans hp) hn hb2 g2).2)
 ·exact wpAny_pure (h _ sb hS1)
theorem addI {a:Addr} {ns:List Int} {n:Int} {tk:Tok} {Q:Bool->Shared->Prop} (S:SetI w s.heap a ns) (hroom:ns.length+1<scanBound)
  (h : ∀h',Heap.SameBut a s.heap h'->SetI w h' a (addN ns n)->Q (!decide (n∈ns)) { s with heap:=h',toks:=s.toks+1 }) :
  wpAny (model P w) A (setAdd a (.int n tk)) Q E s:=by
 unfold setAdd
 refine wpAny_holding (wpAny_bind ((intKind P w).pyHash (k:=n) (intKind_is _ _ _ _) ?_))
 obtain⟨o,es,ep,t,ho,hex,hd,hel,hp,hn,hb,g⟩:=S
 have hlen:es.size=ns.length:=by rw [<-hp.length_eq,List.length_map,Array.length_toList]
 have he:=EI.elems (P:=P) (w:=w) hel
 have hkey:=intKind_is P w n tk
 unfold setAddHashed setAddHashedIn
 refine wpAny_holding (wpAny_bind (wpAny_setState_of (s :={ s with toks:=s.toks+1 }) ho hd g.fits ?_))
 dsimp only
 rw [byScan_of (knd:=intKind P w) (x :=.int n tk) rfl hb he]
 simp only [↓reduceIte]
 unfold setAddByScan
 refine wpAny_bind (wpAny_bind (wpAny_rule (wpAny_bind (wpAny_setScan_of (knd:=intKind P w) (k:=n) hkey ho hd g.fits he ?_))))
 cases hr:List.findIdx? (fun e=>(intKind P w).is n e.2) es.toList with
 | some j =>
  dsimp only
  obtain⟨hj,hpj,_⟩:=List.findIdx?_eq_some_iff_getElem.mp hr
  have hm:n∈ns:=hp.mem_iff.mp ((qG4 (P:=P) (w:=w) hel n).mpr ⟨_,List.getElem_mem hj,hpj⟩)
  refine wpAny_pure (wpAny_pure ?_)
  have q:=h s.heap (Heap.SameBut.refl a s.heap) ⟨o,es,ep,t,ho,hex,hd,hel,by unfold addN;rw [if_pos hm];exact hp,qBs hn,hb,g⟩
  rw [decide_eq_true hm] at q
  exact q
 | none =>
  dsimp only
  have hm:n∉ns:=fun z=>by
   obtain⟨e,he,q⟩:=(qG4 (P:=P) (w:=w) hel n).mp (hp.mem_iff.mpr z)
   have:=List.findIdx?_eq_none_iff.mp hr e he
   rw [q] at this;cases this
  have hgw : ∀(b:Bool) {s₁ : Shared} {Q':Unit->Shared->Prop},Q' () s₁ -> wpAny (model P w) A (match b with | true=>rule "set.scan.the-table-gave-way" | false=>pure ()) Q' E s₁ :=fun b s₁ Q' hq=>by
   cases b
   ·exact wpAny_pure hq
   ·exact wpAny_rule hq
  have hp1:=layNew_perm t es ((intKind P w).hash n) (.int n tk)
  have g1:=qGu (h:=(intKind P w).hash n) (x :=.int n tk) g
  generalize layNew t es ((intKind P w).hash n) (.int n tk)=L at hp1 g1 ⊢
  obtain⟨es1,t1,wd,gave⟩:=L
  dsimp only at hp1 g1 ⊢
  rw [Array.toList_push] at hp1
  have hel1 : ∀e∈es1.toList,EI e:=fun e he=>by
   rcases List.mem_append.mp (hp1.mem_iff.mp he) with z | z
   ·exact hel e z
   ·rw [List.mem_singleton] at z;exact⟨n,tk,z⟩
  have hz1:es1.size=es.size+1:=by rw [<-Array.length_toList,hp1.length_eq,List.length_append,Array.length_toList];rfl
  have hq1:(es1.toList.map keyI).Perm (addN ns n):=by
   unfold addN;rw [if_neg hm]
   refine (hp1.map keyI).trans ?_
   rw [List.map_append]
   exact hp.append_right _
  have fin : ∀h',Heap.SameBut a s.heap h'->SetI w h' a (addN ns n)->Q true { s with heap:=h',toks:=s.toks+1 }:=fun h' sb S'=>by
   have q:=h h' sb S'
   rw [decide_eq_false hm] at q;exact q
  refine wpAny_bind (hgw _ ?_)
  have gw2 : ∀(b:Bool) (s₁ : Shared) (Q':Unit->Shared->Prop),Q' () s₁ -> wpAny (model P w) A (match b with | true=>rule "set.scan.the-table-gave-way" | false=>pure ()) Q' E s₁ :=fun b s₁ Q' hq=>hgw b hq
  split
  ·refine wpAny_bind ?_
   rw [hashByValue_scannable 8 (x :=.int n tk) rfl]
   refine wpAny_pure ?_
   refine qF3 (s :={ s with toks:=s.toks+1 }) (fun b s₁ Q' hq => ?_) ho hex hd hel1 hq1 (qBs hn) (by omega) ?_ (fun h' sb S' => ?_)
   ·cases b
    ·exact wpAny_pure hq
    ·exact wpAny_rule hq
   ·split
    ·exact g1
    ·exact g1.plainOff
   ·dsimp only;exact wpAny_pure (fin h' sb S')
  ·refine wpAny_bind (wpAny_pure ?_)
   simp only [↓reduceIte]
   refine qF3 (s :={ s with toks:=s.toks+1 }) (fun b s₁ Q' hq => ?_) ho hex hd hel1 hq1 (qBs hn) (by omega) g1 (fun h' sb S' => ?_)
   ·cases b
    ·exact wpAny_pure hq
    ·exact wpAny_rule hq
   ·dsimp only;exact wpAny_pure (fin h' sb S')
end
theorem slot_si_next:Slot "set_iterator" "__next__" "set_iterator.__next__" :=.of (owner := "set_iterator") (n := "__next__") (by rw [typeLookup_type,builtinLookup_eq_fast];kernel_rfl) (by decide +kernel) (by decide +kernel) (by decide +kernel) (by first | exact .inl (by decide +kernel) | exact .inr (by decide +kernel)) (by rw [isSubtype_type];kernel_rfl)
theorem qFr:Slot "set_iterator" "__iter__" "set_iterator.__iter__" :=.of (owner := "set_iterator") (n := "__iter__") (by rw [typeLookup_type,builtinLookup_eq_fast];kernel_rfl) (by decide +kernel) (by decide +kernel) (by decide +kernel) (by first | exact .inl (by decide +kernel) | exact .inr (by decide +kernel)) (by rw [isSubtype_type];kernel_rfl)
theorem qEy:entryFor table "set_iterator.__next__" = some Builtin.«set_iterator.__next__» :=entryFor_of_tree (by kernel_rfl)
theorem qJ0:entryFor table "set_iterator.__iter__" = some Builtin.«dict_keyiterator.__iter__» :=entryFor_alias (id' := "dict_keyiterator.__iter__") (by kernel_rfl) rfl (by decide +kernel) (by kernel_rfl)
theorem qFw (a:Value):argsOk "set_iterator.__next__" ⟨[a],[]⟩:=by unfold argsOk;kernel_rfl
theorem qL5 (a:Value):argsOk "set_iterator.__iter__" ⟨[a],[]⟩:=by unfold argsOk;kernel_rfl
theorem qH6:entryFor table "set.__iter__" = some Builtin.«frozenset.__iter__» :=entryFor_alias (id' := "frozenset.__iter__") (by kernel_rfl) rfl (by decide +kernel) (by kernel_rfl)
def SIter (h:Heap) (it:Addr) (first:Value) (i:Nat) (a:Addr) (n ep:Nat):Prop :=
 ∃o,h.get? it=some o/\o.cls = .type "set_iterator" /\ o.data = .fields #[first,.int i 0,.ref a,.int n 0,.int ep 0]
theorem SIter.ty {s:Shared} {it:Addr} {first:Value} {i:Nat} {a:Addr} {n ep:Nat} (h:SIter s.heap it first i a n ep):s.TypeIs (.ref it) "set_iterator" :=let ⟨o,e,c,_⟩:=h;⟨o,e,c⟩
theorem qFl {α : Type} : ∀ {l:List α} {i:Nat} (h:i<l.length),(l[i]::l.eraseIdx i).Perm l
 | a::r,0,_ =>.refl _
 | a::r,i+1,h=>by
  have h':i<r.length:=by simpa using h
  show ((r[i]'h')::a::r.eraseIdx i).Perm (a::r)
  exact (List.Perm.swap _ _ _).trans ((qFl h').cons a)
section
variable {P:Program} {w:World} {A:Around} {E:Value->Shared->Prop} {s:Shared}
theorem qTp {it a:Addr} {first:Value} {i n ep:Nat} {Q:Value->Shared->Prop} (h:SIter s.heap it first i a n ep) (q:Q (.ref it) s):wpAny (model P w) A (pyIter (.ref it)) Q E s:=by
 refine wpAny_pyIter_slot h.ty qFr (wpAny_call_entry qFr h.ty qJ0 ?_ (qL5 _))
 show wpAny _ _ (ret (.ref it)) _ _ s
 exact wpAny_pure ⟨_,rfl,"set_iterator",_,h.ty,slot_si_next.lookup,q⟩
theorem qO8 {src:Source} {n:Nat} {Q:Nat->Shared->Prop} (hn:n≠0) (h : ∀i d,i<n->Q i { s with drawn:=d }):wpAny (model P w) A (choose src n) Q E s:=fun Γ p hΓ =>by
 unfold choose
 rw [Sem.wp_choose]
 exact⟨hn,h _ _ (Nat.mod_lt _ (Nat.pos_of_ne_zero hn))⟩
theorem qGx {α : Type} : ∀(xs:List α) {s:Shared} {Q:List α -> Shared->Prop},(∀ys d,ys.Perm xs->Q ys { s with drawn:=d })->wpAny (model P w) A (drawOrder xs.length xs) Q E s
 | [],s,Q,h=>by
  unfold drawOrder
  exact wpAny_pure (h [] s.drawn (.refl _))
 | x::r,s,Q,h=>by
  show wpAny _ _ (drawOrder (r.length+1) (x::r)) _ _ s
  unfold drawOrder
  refine wpAny_bind (qO8 (by simp) fun i d hi => ?_)
  rw [List.getElem?_eq_getElem hi]
  dsimp only
  have hl:((x::r).eraseIdx i).length=r.length:=by rw [List.length_eraseIdx_of_lt hi];rfl
  rw [<-hl]
  refine wpAny_bind (qGx ((x::r).eraseIdx i) fun ys d' hp=>wpAny_pure (h _ d' ?_))
  exact (hp.cons _).trans (qFl hi)
 termination_by xs=>xs.length
theorem qP2 {α : Type} (f:Nat->Nat) : ∀(fuel k:Nat) (l:List α) (out:Array α),l.length=fuel->(pickOrder.go f fuel k l out).toList.Perm (out.toList++l)
 | 0,k,l,out,h=>by
  have:l = []:=List.length_eq_zero_iff.mp h
  subst this
  unfold pickOrder.go
  simp
 | fuel+1,k,l,out,h=>by
  unfold pickOrder.go
  have hl:f k%l.length<l.length:=Nat.mod_lt _ (by omega)
  rw [List.getElem?_eq_getElem hl]
  dsimp only
  refine (qP2 f fuel (k+1) _ _ (by rw [List.length_eraseIdx_of_lt hl];omega)).trans ?_
  rw [Array.toList_push,List.append_assoc]
  exact List.Perm.append_left _ (qFl hl)
theorem qJw {α : Type} (f:Nat->Nat) (xs:Array α):(pickOrder f xs).toList.Perm xs.toList:=by
 unfold pickOrder
 have:=qP2 f xs.size 0 xs.toList #[] (by simp)
 simpa using this
end
theorem qG8 {h:Heap} {it:Addr} {o:Obj} {vs:Array Value} (k:Nat) (v:Value) (ho:h.get? it=some o) (hd:o.data = .fields vs) :
  ∃o',(h.update it (Obj.mapFields (·.setIfInBounds k v))).get? it=some o'/\o'.cls=o.cls/\o'.data = .fields (vs.setIfInBounds k v) :=
 ⟨_,Heap.get?_update_self _ ho (Obj.isFreed_of_fields (Obj.data_mapFields hd _)),Obj.cls_mapFields ..,Obj.data_mapFields hd _⟩
def slotI (t:SetTable):Nat->Nat
 | 0=>0
 | i+1=>t.place.getD i 0+1
theorem qO5 {t:SetTable} {n:Nat} (up:t.place.toList.Pairwise (· < ·)) {i:Nat} (hi:i<=t.place.size):SetTable.below t.place (slotI t i)=i:=by
 obtain⟨h1,h2,h3⟩:=qNb t.place (slotI t i) up
 generalize SetTable.below t.place (slotI t i)=b at *
 have lt : ∀(i k x y:Nat),t.place[i]? = some x->t.place[k]? = some y->i<k->x<y:=by
  intro i k x y hx hy hik
  rw [<-Array.getElem?_toList] at hx hy
  obtain⟨hi',rfl⟩:=List.getElem?_eq_some_iff.mp hx
  obtain⟨hk',rfl⟩:=List.getElem?_eq_some_iff.mp hy
  exact List.pairwise_iff_getElem.mp up i k hi' hk' hik
 cases i with
 | zero =>
  by_cases hb:b=0
  ·exact hb
  ·have h0:0<t.place.size:=by omega
   exact absurd (h2 0 _ (Array.getElem?_eq_getElem h0) (by omega)) (Nat.not_lt_zero _)
 | succ i =>
  have hx:t.place[i]? = some (t.place.getD i 0):=by
   have hlt:i<t.place.size:=by omega
   rw [Array.getD_eq_getD_getElem?,Array.getElem?_eq_getElem hlt];rfl
  rcases Nat.lt_trichotomy b (i+1) with z | z | z
  ·have:=h3 i _ hx (by omega)
   simp only [slotI] at this
   omega
  ·exact z
  ·have hlt:i+1<t.place.size:=by omega
   have q:=h2 (i+1) _ (Array.getElem?_eq_getElem hlt) z
   have r:=lt i (i+1) _ _ hx (Array.getElem?_eq_getElem hlt) (by omega)
   simp only [slotI] at q
   omega
inductive Mode (w:World) (h:Heap) (a:Addr) (es:Array (Int×Value)) (ep:Nat) (t:SetTable) (i:Nat):Value->List (Int×Value)->List Addr->Prop
 | told (sl:Nat) (b:qBr w=true):Mode w h a es ep t i (.int sl 0) (pickOrder (w.params.setOrder a ep) es).toList []
 | place (b:qBr w=false) (d:(!t.plain&&decide (es.size>1))=false):Mode w h a es ep t i (.int (slotI t i) 0) es.toList []
 | drawn (tp:Addr) (places:List Nat) (o:Obj) (n:Nat) (ord:List (Int×Value)) (e:h.get? tp=some o) (c:o.data = .seq (places.map fun (j:Nat)=>rawInt (j:Int)).toArray n) (q:places.map (fun j=>es[j]?)=ord.map some):Mode w h a es ep t i (.ref tp) ord [tp]
def SW (w:World) (it a:Addr) (es:Array (Int×Value)) (ep:Nat) (t:SetTable) (ord:List (Int×Value)) (ex:List Addr) (i:Nat) (h:Heap):Prop :=
 ∃first,SIter h it first i a es.size ep/\(∃o,h.get? a=some o/\o.data = .set es ep t)/\GoodT (!qBr w) t es.size/\ord.length=es.size/\Mode w h a es ep t i first ord ex
section
variable {P:Program} {w:World} {A:Around} {E:Value->Shared->Prop} {s:Shared} {it a:Addr} {es:Array (Int×Value)} {ep:Nat} {t:SetTable} {ord:List (Int×Value)} {ex:List Addr} {i:Nat}
theorem qEx {t:SetTable} {n:Nat} (h:t.fits n=true):t.place.size=n:=by
 simp only [SetTable.fits,Bool.and_eq_true,beq_iff_eq] at h
 exact h.1
theorem qK6 {o:Obj} {sl:Nat} {Q:Option (Value×Nat)->Shared->Prop} (ho:s.heap.get? a=some o) (hd:o.data = .set es ep t) (g:GoodT (!qBr w) t es.size) (b:qBr w=true)
  (q:Q (((pickOrder (w.params.setOrder a ep) es)[i]?).map fun e=>(e.2,sl)) s):wpAny (model P w) A (setNext a sl i ep) Q E s:=by
 unfold setNext
 refine wpAny_bind (wpAny_setState_of ho hd g.fits ?_)
 dsimp only
 unfold setsByText
 refine wpAny_bind (wpAny_bind (wpAny_askSetting (wpAny_pure ?_)))
 show wpAny _ _ (if w.params.followText "set-order" = true then _ else _) _ _ _
 rw [if_pos (show (w.params.followText "set-order")=true from b),if_neg (by simp)]
 unfold setWalk
 refine wpAny_bind (wpAny_bind (wpAny_setState_of ho hd g.fits ?_))
 dsimp only
 unfold setsByText
 refine wpAny_bind (wpAny_bind (wpAny_askSetting (wpAny_pure ?_)))
 show wpAny _ _ (if w.params.followText "set-order" = true then _ else _) _ _ _
 rw [if_pos (show (w.params.followText "set-order")=true from b)]
 refine wpAny_bind (wpAny_askSetting (wpAny_pure (wpAny_pure ?_)))
 exact q
theorem qHv {o:Obj} {Q:Option (Value×Nat)->Shared->Prop} (ho:s.heap.get? a=some o) (hd:o.data = .set es ep t) (g:GoodT (!qBr w) t es.size) (b:qBr w=false) (d:(!t.plain&&decide (es.size>1))=false) (hi:i<=es.size)
  (q:Q ((es[i]?).map fun e=>(e.2,slotI t (i+1))) s):wpAny (model P w) A (setNext a (slotI t i) i ep) Q E s:=by
 have hz:=qEx g.fits
 unfold setNext
 refine wpAny_bind (wpAny_setState_of ho hd g.fits ?_)
 dsimp only
 unfold setsByText
 refine wpAny_bind (wpAny_bind (wpAny_askSetting (wpAny_pure ?_)))
 show wpAny _ _ (if w.params.followText "set-order" = true then _ else _) _ _ _
 rw [if_neg (show ¬(w.params.followText "set-order")=true from fun z=>by rw [show (w.params.followText "set-order")=false from b] at z;cases z)]
 have led:t.led=true:=by rw [g.led,b];rfl
 split
 ·rename_i z
  exact absurd (show (!t.plain&&decide (es.size>1))=true from z) (by rw [d];exact Bool.false_ne_true)
 ·refine wpAny_bind ?_
  show wpAny _ _ (if (!t.led && !es.isEmpty)=true then unsupported "set:maker-not-led" else pure PUnit.unit) _ _ _
  rw [if_neg (by rw [led];simp)]
  refine wpAny_pure (wpAny_pure ?_)
  rw [qO5 (n:=es.size) g.rise (by omega)]
  by_cases hlt:i<es.size
  ·have h1:es[i]? = some es[i]:=Array.getElem?_eq_getElem hlt
   have h2:t.place[i]? = some (t.place.getD i 0):=by
    have:i<t.place.size:=by omega
    rw [Array.getD_eq_getD_getElem?,Array.getElem?_eq_getElem this];rfl
   rw [h1] at q ⊢
   rw [h2]
   exact q
  ·have h1:es[i]? = none:=Array.getElem?_eq_none (by omega)
   rw [h1] at q ⊢
   exact q
theorem Mode.stay {h h':Heap} {first:Value} (m:Mode w h a es ep t i first ord ex) (k : ∀b∈ex,∀o,h.get? b=some o->h'.get? b=some o):Mode w h' a es ep t i first ord ex:=by
 cases m with
 | told sl b=>exact .told sl b
 | place b d=>exact .place b d
 | drawn tp places o n _ e c q=>exact .drawn tp places o n _ (k tp (by simp) _ e) c q
theorem qTk {Q:Option Value->Shared->Prop} (hia:it≠a) (hie:it∉ex) (h:SW w it a es ep t ord ex i s.heap) {e:Int×Value} (he:ord[i]? = some e)
  (q : ∀h',SW w it a es ep t ord ex (i+1) h'->Heap.SameBut it s.heap h'->Q (some e.2) { s with heap:=h' }):wpAny (model P w) A (pyNext (.ref it)) Q E s:=by
 obtain⟨first,hit,⟨o,ho,hd⟩,g,hl,m⟩:=h
 obtain⟨oi,hoi,hc,hdi⟩:=id hit
 have hlt:i<es.size:=by rw [<-hl];exact (List.getElem?_eq_some_iff.mp he).1
 unfold pyNext
 refine wpAny_bind (wpAny_attempt (wpAny_callSpecial?_slot (name:=Str.ofString "__next__") hit.ty slot_si_next (wpAny_call_entry slot_si_next hit.ty qEy ?_ (qFw _))))
 unfold Builtin.«set_iterator.__next__»
 refine wpAny_bind (m:=slotArgs "__next__" 0 _) (wpAny_pure ?_)
 refine wpAny_bind (wpAny_fieldsOf hoi hdi ?_)
 dsimp only
 refine wpAny_bind (wpAny_setEntries_of ho hd g.fits ?_)
 rw [if_neg (by simp)]
 have two : ∀(sl nx:Nat),first = .int sl 0->(∀h',Heap.SameBut it s.heap h'->Mode w h' a es ep t (i+1) (.int nx 0) ord ex) ->
   wpAny (model P w) A.in1 (do setField (Value.ref it) 0 (rawInt nx);setField (Value.ref it) 1 (rawInt ((i:Int)+1));ret e.2) (fun fin s' => ∃v,fin=Fin.done (Flow.ret v)/\wpAny (model P w) A (pure (some v)) Q E s')
    (fun e s'=>wpAny (model P w) A (do if (<-isInstance e (Value.type "StopIteration"))=true then pure none else throw e) Q E s') s:=by
  intro sl nx hf hm
  subst hf
  refine wpAny_bind (wpAny_setField hoi hdi (by simp) ?_)
  obtain⟨o1,e1,c1,d1⟩:=qG8 0 (rawInt nx) hoi hdi
  refine wpAny_bind (wpAny_setField e1 d1 (by simp) ?_)
  obtain⟨o2,e2,c2,d2⟩:=qG8 1 (rawInt ((i:Int)+1)) e1 d1
  have sb:Heap.SameBut it s.heap _:=(Heap.SameBut.update s.heap it (Obj.mapFields (·.setIfInBounds 0 (rawInt nx)))).trans (Heap.SameBut.update _ it (Obj.mapFields (·.setIfInBounds 1 (rawInt ((i:Int)+1)))))
  refine wpAny_pure ⟨_,rfl,wpAny_pure (q _ ⟨.int nx 0,⟨o2,e2,c2.trans (c1.trans hc),?_⟩,⟨o,(sb.2 a (Ne.symm hia)).trans ho,hd⟩,g,hl,hm _ sb⟩ sb)⟩
  rw [d2]
  simp [rawInt]
 cases m with
 | told sl b =>
  dsimp only
  simp only [Int.toNat_natCast]
  refine wpAny_bind (qK6 (i:=i) ho hd g b ?_)
  rw [show (pickOrder (w.params.setOrder a ep) es)[i]? = some e by rw [<-Array.getElem?_toList];exact he]
  exact two sl sl rfl fun h' sb =>.told sl b
 | place b d =>
  dsimp only
  simp only [Int.toNat_natCast]
  refine wpAny_bind (qHv (i:=i) ho hd g b d (by omega) ?_)
  rw [show es[i]? = some e by rw [<-Array.getElem?_toList];exact he]
  exact two _ _ rfl fun h' sb =>.place b d
 | drawn tp places op n _ eo c qq =>
  dsimp only
  refine wpAny_bind (wpAny_seqItems eo c ?_)
  dsimp only
  have hpl:places.length=ord.length:=by have:=congrArg List.length qq;simpa using this
  obtain⟨j,hj⟩ : ∃j,places[i]? = some j:=⟨_,List.getElem?_eq_getElem (by omega)⟩
  have hej:es[j]? = some e:=by
   have:=congrArg (fun l=>l[i]?) qq
   simp only [List.getElem?_map,hj,he,Option.map_some] at this
   exact Option.some.inj this
  have hji:(places.map fun (j:Nat)=>rawInt (j:Int)).toArray[((i:Int)).toNat]? = some (.int (j:Int) 0):=by
   rw [Int.toNat_natCast,List.getElem?_toArray,List.getElem?_map,hj];rfl
  rw [hji]
  dsimp only
  unfold setNextDrawn
  refine wpAny_bind (wpAny_bind (wpAny_setState_of ho hd g.fits ?_))
  dsimp only
  rw [if_neg (by simp)]
  rw [Int.toNat_natCast,hej]
  dsimp only
  refine wpAny_pure ?_
  refine wpAny_bind (wpAny_setField hoi hdi (by simp) ?_)
  obtain⟨o1,e1,c1,d1⟩:=qG8 1 (rawInt ((i:Int)+1)) hoi hdi
  have sb:Heap.SameBut it s.heap _:=Heap.SameBut.update s.heap it (Obj.mapFields (·.setIfInBounds 1 (rawInt ((i:Int)+1))))
  refine wpAny_pure ⟨_,rfl,wpAny_pure (q _ ⟨.ref tp,⟨o1,e1,c1.trans hc,?_⟩,⟨o,(sb.2 a (Ne.symm hia)).trans ho,hd⟩,g,hl,.drawn tp places op n _ ((sb.2 tp (by simpa using Ne.symm (a:=it) (by simpa using hie))).trans eo) c qq⟩ sb)⟩
  rw [d1]
  simp [rawInt]
end
section
variable {P:Program} {w:World} {A:Around} {E:Value->Shared->Prop} {s:Shared} {it a:Addr} {es:Array (Int×Value)} {ep:Nat} {t:SetTable} {ord:List (Int×Value)} {ex:List Addr} {i:Nat}
theorem qEe {s0:Shared} {Q:Option Value->Shared->Prop} {α : Type} {Q0 : α -> Shared->Prop} (hh:A.in1.handled=none) (hsb:Heap.ExtBut it s0.heap s.heap) (q : ∀h',Heap.ExtBut it s0.heap h'->Q none { s with heap:=h' }) :
  wpAny (model P w) A.in1 (do raiseNew (<-newExc (.type "StopIteration") [])) Q0 (fun e s'=>wpAny (model P w) A (do if (<-isInstance e (Value.type "StopIteration"))=true then pure none else throw e) Q E s') s:=by
 refine wpAny_bind ?_
 simp only [newExc,newTuple]
 refine wpAny_bind (wpAny_newObj_type ?_ (by size_fits))
 refine wpAny_bind (m:=firstArgMember _ _) (wpAny_of_eq (a:=Value.none) (by first | rfl | (simp only [firstArgMember];rfl)) ?_)
 refine wpAny_newObj_type ?_ (by size_fits)
 simp only [raiseNew]
 refine wpAny_bind (wpAny_handled ?_)
 rw [hh]
 refine wpAny_bind (wpAny_pure (wpAny_throw ?_))
 refine wpAny_bind (wpAny_isInstance (T := "StopIteration") (b:=true) ⟨_,Heap.get?_push_size _ rfl,rfl⟩ isSubtype_stop ?_)
 exact wpAny_pure (q _ ((hsb.push _).push _))
theorem qTl {Q:Option Value->Shared->Prop} (hh:A.handled=none) (h:SW w it a es ep t ord ex es.size s.heap) (q : ∀h',Heap.ExtBut it s.heap h'->Q none { s with heap:=h' }):wpAny (model P w) A (pyNext (.ref it)) Q E s:=by
 obtain⟨first,hit,⟨o,ho,hd⟩,g,hl,m⟩:=h
 obtain⟨oi,hoi,hc,hdi⟩:=id hit
 unfold pyNext
 refine wpAny_bind (wpAny_attempt (wpAny_callSpecial?_slot (name:=Str.ofString "__next__") hit.ty slot_si_next (wpAny_call_entry slot_si_next hit.ty qEy ?_ (qFw _))))
 unfold Builtin.«set_iterator.__next__»
 refine wpAny_bind (m:=slotArgs "__next__" 0 _) (wpAny_pure ?_)
 refine wpAny_bind (wpAny_fieldsOf hoi hdi ?_)
 dsimp only
 refine wpAny_bind (wpAny_setEntries_of ho hd g.fits ?_)
 rw [if_neg (by simp)]
 have hh1:A.in1.handled=none:=hh
 cases m with
 | told sl b =>
  dsimp only
  simp only [Int.toNat_natCast]
  refine wpAny_bind (qK6 (i:=es.size) ho hd g b ?_)
  rw [show (pickOrder (w.params.setOrder a ep) es)[es.size]? = none by rw [<-Array.getElem?_toList];exact List.getElem?_eq_none (by omega)]
  dsimp only [Option.map]
  refine wpAny_bind (wpAny_setField hoi hdi (by simp) ?_)
  exact qEe (s0:=s) hh1 (Heap.SameBut.update ..).extBut q
 | place b d =>
  dsimp only
  simp only [Int.toNat_natCast]
  refine wpAny_bind (qHv (i:=es.size) ho hd g b d (Nat.le_refl _) ?_)
  rw [show es[es.size]? = none from Array.getElem?_eq_none (Nat.le_refl _)]
  dsimp only [Option.map]
  refine wpAny_bind (wpAny_setField hoi hdi (by simp) ?_)
  exact qEe (s0:=s) hh1 (Heap.SameBut.update ..).extBut q
 | drawn tp places op n _ eo c qq =>
  dsimp only
  refine wpAny_bind (wpAny_seqItems eo c ?_)
  dsimp only
  have hpl:places.length=ord.length:=by have:=congrArg List.length qq;simpa using this
  have hji:(places.map fun (j:Nat)=>rawInt (j:Int)).toArray[((es.size:Int)).toNat]? = none:=by
   rw [Int.toNat_natCast,List.getElem?_toArray];exact List.getElem?_eq_none (by rw [List.length_map];omega)
  rw [hji]
  dsimp only
  refine wpAny_bind (wpAny_setField hoi hdi (by simp) ?_)
  obtain⟨o1,e1,c1,d1⟩:=qG8 0 (rawInt 0) hoi hdi
  refine wpAny_bind (wpAny_setField e1 d1 (by simp) ?_)
  exact qEe (s0:=s) hh1 ((Heap.SameBut.update ..).trans (Heap.SameBut.update ..)).extBut q
theorem qR7 (hh:A.handled=none) (hia:it≠a) (hie:it∉ex):Walks P w A it (it::a::ex) [it] es.size (fun i v=>(ord[i]?).map (·.2)=some v) (SW w it a es ep t ord ex) where
 sub:=fun b hb=>by simp at hb;simp [hb]
 frame:=fun i h h' st k=>by
  obtain⟨first,⟨oi,hoi,hc,hdi⟩,⟨o,ho,hd⟩,g,hl,m⟩:=st
  exact⟨first,⟨oi,k it (by simp) _ hoi,hc,hdi⟩,⟨o,k a (by simp) _ ho,hd⟩,g,hl,m.stay fun b hb o e=>k b (by simp [hb]) o e⟩
 item:=fun i s Q E hi st q=>by
  obtain⟨first,_,_,_,hl,_⟩:=id st
  obtain⟨e,he⟩ : ∃e,ord[i]? = some e:=⟨_,List.getElem?_eq_getElem (by omega)⟩
  refine qTk hia hie st he fun h' st' sb=>q e.2 h' s.toks (by rw [he];rfl) st' fun b o hb e => ?_
  exact (sb.2 b (by simpa using hb)).trans e
 done:=fun s Q E st q=>qTl hh st fun h' xb=>q h' s.toks fun b o hb e=>xb b o (by simpa using hb) e
 self:=fun i s Q E st q=>by
  obtain⟨first,hit,_⟩:=st
  exact qTp hit q
theorem qQ2 {ns:List Int} {Q:Value->Shared->Prop} (S:SetI w s.heap a ns)
  (q : ∀(it:Addr) (es:Array (Int×Value)) (ep:Nat) (t:SetTable) (ord:List (Int×Value)) (ex:List Addr) (h':Heap) (d:Drawn),s.heap.objs.size<=it->it<h'.objs.size->(∀b∈ex,s.heap.objs.size<=b/\b<it)->a<s.heap.objs.size->(∀b u,s.heap.get? b=some u->h'.get? b=some u)->SW w it a es ep t ord ex 0 h'->(∀e∈ord,EI e)->(ord.map keyI).Perm ns->Q (.ref it) { s with heap:=h',drawn:=d }) :
  wpAny (model P w) A (pyIter (.ref a)) Q E s:=by
 obtain⟨o,es,ep,t,ho,hex,hd,hel,hp,hn,hb,g⟩:=S
 have hT:s.TypeIs (.ref a) "set" :=⟨o,ho,hex.1⟩
 have ha:a<s.heap.objs.size:=Heap.lt_size ho
 refine wpAny_pyIter_slot hT F.slot_set_iter (wpAny_call_entry F.slot_set_iter hT qH6 ?_ (F.args_set_iter_1 _))
 unfold Builtin.«frozenset.__iter__» Builtin.Frozenset.slot0
 refine wpAny_bind (wpAny_bind (m:=slotArgs "__iter__" 0 _) (wpAny_pure ?_))
 unfold Builtin.Frozenset.addrOf
 refine wpAny_pure ?_
 unfold Builtin.Frozenset.sizeOf
 refine wpAny_bind (wpAny_bind (wpAny_setEntries_of ho hd g.fits (wpAny_pure ?_)))
 unfold setDrawn
 refine wpAny_bind (wpAny_bind (wpAny_setState_of ho hd g.fits ?_))
 dsimp only
 unfold setsByText
 refine wpAny_bind (wpAny_bind (wpAny_askSetting (wpAny_pure (wpAny_pure ?_))))
 show wpAny _ _ (if (!w.params.followText "set-order" && (!t.plain&&decide (es.size>1)))=true then _ else _) _ _ _
 have fin : ∀(s1:Shared) (first:Value) (ord:List (Int×Value)) (ex:List Addr),(∃h' d,s1 = { s with heap:=h',drawn:=d })->s.heap.objs.size<=s1.heap.objs.size->(∀b u,s.heap.get? b=some u->s1.heap.get? b=some u)->(∀b∈ex,s.heap.objs.size<=b/\b<s1.heap.objs.size)->ord.length=es.size->ord.Perm es.toList->(∀h',(∀b u,s1.heap.get? b=some u->h'.get? b=some u)->Mode w h' a es ep t 0 first ord ex) ->
   wpAny (model P w) A.in1 (do let x <-setEpoch a;let y <-newFields "set_iterator" [first,rawInt 0,Value.ref a,rawInt es.size,rawInt x];ret y) (fun fin s' => ∃v,fin=Fin.done (Flow.ret v) /\ ∃T' r,s'.TypeIs v T'/\typeLookup (Value.type T') (Str.ofString "__next__")=pure (some r)/\Q v s') E s1:=by
  rintro s1 first ord ex ⟨h',d,rfl⟩ hsz k hx hl hpm hm
  refine wpAny_bind (wpAny_setEpoch_of (k _ _ ho) hd g.fits ?_)
  refine wpAny_bind (wpAny_newObj_type (wpAny_pure ⟨_,rfl,"set_iterator",_,⟨_,Heap.get?_push_size _ rfl,rfl⟩,slot_si_next.lookup,?_⟩))
  refine q h'.objs.size es ep t ord ex _ d hsz (by rw [Heap.size_push];exact Nat.lt_succ_self _) hx ha (fun b u e=>Heap.get?_push_of_some _ (k b u e)) ⟨first,⟨_,Heap.get?_push_size _ rfl,rfl,rfl⟩,⟨o,Heap.get?_push_of_some _ (k _ _ ho),hd⟩,g,hl,hm _ fun b u e=>Heap.get?_push_of_some _ e⟩ (fun e he=>hel e (hpm.mem_iff.mp he)) ((hpm.map keyI).trans hp)
 cases hb2:qBr w with
 | true =>
  rw [if_neg (by rw [show w.params.followText "set-order" = true from hb2];simp)]
  refine wpAny_bind (wpAny_pure ?_)
  have hpm:=qJw (w.params.setOrder a ep) es
  exact fin s (rawInt 0) _ [] ⟨s.heap,s.drawn,rfl⟩ (Nat.le_refl _) (fun _ _ e=>e) (fun b hb=>by simp at hb) (by rw [hpm.length_eq,Array.length_toList]) hpm (fun h' k =>.told 0 hb2)
 | false =>
  cases hd2:(!t.plain&&decide (es.size>1)) with
  | false =>
   rw [if_neg (by simp)]
   refine wpAny_bind (wpAny_pure ?_)
   exact fin s (rawInt 0) _ [] ⟨s.heap,s.drawn,rfl⟩ (Nat.le_refl _) (fun _ _ e=>e) (fun b hb=>by simp at hb) (Array.length_toList ..) (.refl _) (fun h' k =>.place hb2 hd2)
  | true =>
   rw [if_pos (by rw [show w.params.followText "set-order" = false from hb2];simp)]
   have hr:(List.range es.size).length=es.size:=List.length_range
   refine wpAny_bind ?_
   have hdp : ∀ {Q':List Nat->Shared->Prop},(∀ys d,ys.Perm (List.range es.size)->Q' ys { s with drawn:=d })->wpAny (model P w) A.in1 (drawOrder es.size (List.range es.size)) Q' E s:=fun {Q'} z=>by
    have z2:=qGx (P:=P) (w:=w) (A:=A.in1) (E:=E) (List.range es.size) (s:=s) (Q:=Q') z
    rw [hr] at z2
    exact z2
   refine hdp fun ys d hys => ?_
   refine wpAny_bind ?_
   have hyl:ys.length=es.size:=by rw [hys.length_eq,hr]
   simp only [newTuple]
   refine wpAny_newObj_type ?_ (by have:=fits_of_scanBound hb;show (List.map (fun (i:Nat)=>rawInt (i:Int)) ys).toArray.size<=sizeLine;rw [List.size_toArray,List.length_map];omega)
   have hord : ∀l:List Nat,(∀j∈l,j<es.size)->l.map (fun j=>es[j]?)=(l.filterMap fun j=>es[j]?).map some:=by
    intro l
    induction l with
    | nil=>intro _;rfl
    | cons j r ih =>
     intro hj
     have h1:es[j]? = some (es[j]'(hj j (by simp))):=Array.getElem?_eq_getElem _
     rw [List.map_cons,ih fun k hk=>hj k (by simp [hk]),List.filterMap_cons,h1];rfl
   have hlt : ∀j∈ys,j<es.size:=fun j hj=>List.mem_range.mp (hys.mem_iff.mp hj)
   have hq:=hord ys hlt
   have hpm:(ys.filterMap fun j=>es[j]?).Perm es.toList:=(hys.filterMap _).trans (by rw [filterMap_getElem?_range])
   exact fin _ (.ref s.heap.objs.size) _ [s.heap.objs.size] ⟨_,d,rfl⟩ (by show _<=(Heap.push _ _).objs.size;rw [Heap.size_push];exact Nat.le_succ _) (fun b u e=>Heap.get?_push_of_some _ e) (fun b hb=>by
    have e:b=s.heap.objs.size:=by simpa using hb
    rw [e];exact⟨Nat.le_refl _,by show _<(Heap.push _ _).objs.size;rw [Heap.size_push];exact Nat.lt_succ_self _⟩) (by have:=congrArg List.length hq;simp at this;omega) hpm (fun h' k =>.drawn s.heap.objs.size ys _ 0 _ (k _ _ (Heap.get?_push_size _ rfl)) rfl hq)
end
theorem qKb:typeLookup (.type "set") "__len__" = pure (some (.builtin "set.__len__")):=F.slot_set_len.lookup
section
variable {P:Program} {w:World} {A:Around} {E:Value->Shared->Prop} {s:Shared} {a:Addr}
theorem qKu {ns:List Int} {Q:List Value->Shared->Prop} (hh:A.handled=none) (S:SetI w s.heap a ns)
  (q : ∀(vs:List Value) (ms:List Int) (h':Heap) (d:Drawn) (tk:Nat),(∀b u,s.heap.get? b=some u->h'.get? b=some u)->s.heap.objs.size<=h'.objs.size->IntsAre vs ms->ms.Perm ns->Q vs { s with heap:=h',drawn:=d,toks:=tk }) :
  wpAny (model P w) A (collect (.ref a)) Q E s:=by
 unfold collect
 refine wpAny_bind (wpAny_runValue (codeAny_builtin F.entry_proto_collect ?_))
 rw [Around.under_plainId F.plain_proto_collect _]
 show wpAny _ A.in1 (newList [] >>= fun l=>again (.builtin "list.__iadd__" ⟨[l,.ref a],[]⟩)) _ _ s
 refine wpAny_bind (wpAny_newObj_type ?_)
 refine wpAny_pure ⟨plainId_quiet F.plain_list_iadd _,codeAny_builtin F.entry_list_iadd ?_⟩
 rw [Around.under_plainId F.plain_list_iadd _]
 have k1 : ∀b u,s.heap.get? b=some u->(s.heap.push { cls :=.type "list",data :=.seq ([]:List Value).toArray }).get? b=some u:=fun b u e=>Heap.get?_push_of_some _ e
 have S1:=S.stay fun u e=>k1 a u e
 obtain⟨o,es0,ep0,t0,ho,hex,_⟩:=id S1
 have hT:Shared.TypeIs { s with heap:=s.heap.push { cls :=.type "list",data :=.seq ([]:List Value).toArray } } (.ref a) "set" :=⟨o,ho,hex.1⟩
 have haS:a<s.heap.objs.size:=by obtain⟨o,_,_,_,ho,_⟩:=S;exact Heap.lt_size ho
 show wpAny _ A.in1 (Builtin.List.listExtendWith (.ref s.heap.objs.size) (.ref a) (.ref s.heap.objs.size)) _ _ _
 unfold Builtin.List.listExtendWith
 refine wpAny_bind (wpAny_typeOf hT ?_)
 have h1:Builtin.List.listSameRef (.ref s.heap.objs.size) (.ref a)=false:=by simp [Builtin.List.listSameRef];exact Nat.ne_of_gt haS
 have h2:(Value.type "set" == Value.type "list")=false:=by decide
 have h3:(Value.type "set" == Value.type "tuple")=false:=by decide
 simp only [h1,h2,h3,Bool.or_false,Bool.false_eq_true,if_false]
 refine wpAny_bind (qQ2 S1 fun it es ep t ord ex h' d hit hit2 hx ha k sw hei hpm => ?_)
 refine wpAny_bind (wpAny_holding ?_)
 have hT':Shared.TypeIs { s with heap:=h',drawn:=d } (.ref a) "set" :=⟨o,k _ _ ho,hex.1⟩
 unfold Builtin.List.listLengthHint
 refine wpAny_bind (wpAny_specialOf hT' qKb ?_)
 have hsp:splitId "set.__len__" = some ("set","__len__"):=by kernel_rfl
 dsimp only
 rw [hsp]
 dsimp only
 refine wpAny_bind (wpAny_isInstance hT' sub_set_self ?_)
 rw [if_neg (by simp)]
 rw [if_pos (by decide +kernel)]
 refine wpAny_bind (wpAny_typeOf hT' (wpAny_pure ?_))
 rw [if_pos (by decide +kernel)]
 refine wpAny_bind (wpAny_rule ?_)
 have hS1:h'.get? s.heap.objs.size=some { cls :=.type "list",data :=.seq ([]:List Value).toArray }:=k _ _ (Heap.get?_push_size _ rfl)
 refine wpAny_bind ?_
 show wpAny _ A.in1 (updateSeq s.heap.objs.size (·.push .none) >>= fun _=>updateSeq s.heap.objs.size (·.pop)) _ _ _
 refine wpAny_bind (wpAny_updateSeq (s :={ s with heap:=h',drawn:=d }) hS1 rfl ?_)
 have hS2:=Heap.get?_update_self (Obj.mapSeq (·.push Value.none)) hS1 rfl
 refine wpAny_updateSeq hS2 rfl ?_
 have hS3:=Heap.get?_update_self (Obj.mapSeq (·.pop)) hS2 rfl
 have oth : ∀b u,b≠s.heap.objs.size->h'.get? b=some u->((h'.update s.heap.objs.size (Obj.mapSeq (·.push Value.none))).update s.heap.objs.size (Obj.mapSeq (·.pop))).get? b=some u :=
  fun b u hb e=>(Heap.get?_update_other _ _ (Ne.symm hb)).trans ((Heap.get?_update_other _ _ (Ne.symm hb)).trans e)
 rw [Heap.size_push] at hit ha
 have hia:it≠a:=Nat.ne_of_gt (Nat.lt_of_lt_of_le haS (Nat.le_trans (Nat.le_succ _) hit))
 have hie:it∉ex:=fun z=>Nat.lt_irrefl _ (hx it z).2
 have hSf:s.heap.objs.size∉it::a::ex:=fun z=>by
  rcases List.mem_cons.mp z with z | z
  ·exact Nat.ne_of_lt hit z
  ·rcases List.mem_cons.mp z with z | z
   ·exact Nat.ne_of_gt haS z
   ·have z2:=(hx _ z).1
    rw [show (Heap.push s.heap { cls :=.type "list",data :=.seq ([]:List Value).toArray }).objs.size=s.heap.objs.size+1 from Heap.size_push ..] at z2
    exact Nat.not_succ_le_self _ z2
 have hl:ord.length=es.size:=by obtain⟨_,_,_,_,hl,_⟩:=sw;exact hl
 have hz:es.size=ns.length:=by rw [<-hl,<-hpm.length_eq,List.length_map]
 have hzz:es.size<=sizeLine:=fits_of_scanBound (by rw [hz];exact S.len)
 have W:=(qR7 (P:=P) (w:=w) (A:=A.in1) (it:=it) (a:=a) (es:=es) (ep:=ep) (t:=t) (ord:=ord) (ex:=ex) hh hia hie).toS
 refine wpAny_pure ⟨plainId_quiet F.plain_extend_loop _,codeAny_extend_loopS W hzz _ hSf _ es.size 0 _ _ _ rfl (Nat.zero_le _)
  (W.frame 0 ({ s with heap:=h',drawn:=d }:Shared) _ s.toks sw (Nat.le_refl _) fun b hb u e=>oth b u (fun z=>hSf (z▸hb)) e) hS3 (ItemsOf.nil _) fun s' acc' c' hm hS' hacc => ?_⟩
 show wpAny _ A (load s.heap.objs.size >>= _) _ _ s'
 refine wpAny_bind (wpAny_load hS' ?_)
 refine wpAny_pure ?_
 obtain⟨h2,g2,d2,tk2,os2⟩:=s'
 have e1:g2=s.gens:=hm.gens
 have e2:d2=d:=hm.drawn
 have e3:os2=s.os:=hm.os
 subst e1;subst e2;subst e3
 have k2 : ∀b u,s.heap.get? b=some u->h2.get? b=some u:=fun b u e=>by
  have hlt:=Heap.lt_size e
  exact hm.heap b u (fun z=>by
   rcases List.mem_cons.mp z with z | z
   ·exact Nat.ne_of_lt hlt z
   ·have z2:b=it:=by simpa using z
    exact Nat.ne_of_lt (Nat.lt_trans hlt hit) z2) (oth b u (Nat.ne_of_lt hlt) (k b u (k1 b u e)))
 refine q acc'.toList (ord.map keyI) h2 d2 tk2 k2 (Nat.le_of_lt (Heap.lt_size hS')) ?_ hpm
 have hget : ∀(i:Nat) (v:Value),acc'.toList[i]? = some v->(ord[i]?).map (·.2)=some v:=fun i v e=>hacc.2 i v (by rw [<-Array.getElem?_toList];exact e)
 have hlen:acc'.toList.length=ord.length:=by rw [Array.length_toList,hacc.1,hl]
 have fin : ∀(ord:List (Int×Value)) (vs:List Value),vs.length=ord.length->(∀e∈ord,EI e)->(∀(i:Nat) (v:Value),vs[i]? = some v->(ord[i]?).map (·.2)=some v)->IntsAre vs (ord.map keyI):=by
  intro ord
  induction ord with
  | nil=>intro vs h _ _;have:vs = []:=List.length_eq_zero_iff.mp h;subst this;exact .nil
  | cons e r ih =>
   intro vs h he hg
   cases vs with
   | nil=>cases h
   | cons v vr =>
    obtain⟨n,tk,rfl⟩:=he e (by simp)
    have:=hg 0 v rfl
    simp at this
    subst this
    exact .cons n tk (ih vr (by simpa using h) (fun e he'=>he e (by simp [he'])) (fun i v hv=>by simpa using hg (i+1) v (by simpa using hv)))
 exact fin ord acc'.toList hlen hei hget
end
theorem qF7 {h:Heap} {D:Addr} {vs:List Value} {out:Array Value} {n:Nat} (ho:h.get? D=some (seqObj "list" vs.toArray n)):(∃c,(sortedHeap h D vs out).get? D=some { cls :=.type "list",data :=.seq out c })/\(∀b u,b≠D->h.get? b=some u->(sortedHeap h D vs out).get? b=some u)/\h.objs.size<=(sortedHeap h D vs out).objs.size:=by
 unfold sortedHeap
 have h1:=get?_update_seq ho (fun _ => #[])
 have h2:=Heap.get?_push_of_some (seqObj "tuple" vs.toArray 0) h1
 have h3:=Heap.get?_push_of_some (seqObj "list" #[] 0) h2
 have h4:=get?_update_seq h3 (fun _=>out)
 refine⟨⟨_,h4⟩,fun b u hb e => ?_,?_⟩
 ·exact (Heap.get?_update_other _ _ (Ne.symm hb)).trans (Heap.get?_push_of_some _ (Heap.get?_push_of_some _ ((Heap.get?_update_other _ _ (Ne.symm hb)).trans e)))
 ·rw [Heap.size_update,Heap.size_push,Heap.size_push,Heap.size_update];omega
section
variable {P:Program} {w:World} {A:Around} {E:Value->Shared->Prop} {s:Shared} {a:Addr}
theorem qLf {ns:List Int} {Q:Value->Shared->Prop} (hh:A.handled=none) (S:SetI w s.heap a ns) (h64:ns.length<64)
  (q : ∀(D:Addr) (out:Array Value) (c:Nat) (ns':List Int) (h':Heap) (d:Drawn) (tk:Nat),s.heap.objs.size<=D->h'.get? D=some { cls :=.type "list",data :=.seq out c }->(∀b u,s.heap.get? b=some u->h'.get? b=some u)->IntsAre out.toList ns'->ns'.Perm ns->ns'.Pairwise (· <= ·)->Q (.ref D) { s with heap:=h',drawn:=d,toks:=tk }) :
  wpAny (model P w) A (call (.builtin "sorted") [.ref a]) Q E s:=by
 refine Calls.call_function_entry kind_sorted plain_sorted entry_sorted (args_sorted1 _) ?_
 unfold Builtin.«sorted»
 refine wpAny_bind (m:=checkCount "sorted" 1 1 _) (wpAny_pure ?_)
 refine wpAny_bind (qKu (A:=A.in1) hh S fun vs ms h' d tk k hsz hI hpm => ?_)
 have hvl:vs.length<64:=by rw [IntsAre.length hI,hpm.length_eq];exact h64
 refine wpAny_bind (wpAny_newList ?_ (by rw [sizeLine_eq];omega))
 have hoL:(h'.push (seqObj "list" vs.toArray 0)).get? h'.objs.size=some (seqObj "list" vs.toArray 0):=Heap.get?_push_size _ rfl
 refine wpAny_bind (wpAny_holding (wpAny_call_entry slot_list_sort (s :={ s with heap:=h'.push (seqObj "list" vs.toArray 0),drawn:=d,toks:=tk }) ⟨_,hoL,rfl⟩ entry_list_sort (list_sort_tree hoL hI hvl fun out ns' a1 a2 a3=>⟨_,rfl,?_⟩) (args_list_sort _)))
 obtain⟨⟨c,e1⟩,e2,_⟩:=qF7 (out:=out) hoL
 exact wpAny_pure ⟨_,rfl,q h'.objs.size out c ns' _ d tk hsz e1 (fun b u e=>e2 b u (Nat.ne_of_lt (Heap.lt_size (k b u e))) (Heap.get?_push_of_some _ (k b u e))) a1 (a2.trans hpm) a3⟩
end
theorem Inv.drew {X:Cx} {pins:List (Addr×Obj)} {σ : St} {H:Hp} {s:Shared} {d:Drawn} (I:Inv X pins σ H s):Inv X pins σ H { s with drawn:=d }:=⟨I.ok,I.os,I.bare,I.base,I.loc,I.cell,I.free,I.freeC,I.pin,I.hok,I.len⟩
def setO (w:World) (ns:List Int):HO :=.ext fun a h=>SetI w h a ns
section
variable {X:Cx}
theorem qIl {w:World} {P:Program} {w':World} {H:Hp} {h:Heap} {a:Addr} {ns:List Int} (S:SetI w h a ns):ObjOk P w' H h a (setO w ns):=by
 refine⟨S,?_,fun h1 h2 S1 k=>S1.stay k⟩
 obtain⟨o,_,_,_,e,_⟩:=S
 exact⟨o,e⟩
theorem Inv.setI {pins:List (Addr×Obj)} {σ : St} {H:Hp} {s:Shared} {w:World} {a:Addr} {ns:List Int} (I:Inv X pins σ H s) (e:H a=some (setO w ns)):SetI w s.heap a ns:=(I.hok a _ e).1
def qVr (w:World):List V->Hp->VK->Prop:=fun xs H Q => ∃(a:Addr) (ns:List Int),xs = [.ref a]/\H a=some (setO w ns)/\ns.length<64 /\ ∀(l:Addr) (ns':List Int),H l=none->ns'.Perm ns->ns'.Pairwise (· <= ·)->Q (.ref l) (upd H l (.lst (ns'.map V.int)))
theorem qD1 (hh:X.A.handled=none):CallR X (.builtin "sorted") (qVr X.w):=by
 intro pins s σ H xs us Q I r h
 obtain⟨a,ns,rfl,hq,hz,q⟩:=h
 obtain⟨u,rfl,ru⟩:=vals1 r
 cases ru
 refine qLf hh (I.setI hq) hz fun D out c ns' h' d tk hD hget k a1 a2 a3 => ?_
 have hn:H D=none:=I.hok.fresh hD
 have rv':Vals (ns'.map V.int) out.toList:=qGc a1
 refine⟨.ref D,_,(I.laid (t':=tk) (o :=.lst (ns'.map V.int)) k hD ⟨?_,out.toList,c,rv',by simpa using hget⟩).drew,rfl,q _ ns' hn a2 a3⟩
 rw [List.length_map,a2.length_eq,sizeLine_eq];omega
end
def newS (w:World):Obj :={ cls :=.type "set",dict:=none,data :=.set #[] 0 (.fresh 0 0 (!qBr w)) }
theorem qPk {w:World} {h:Heap} {a:Addr} (e:h.get? a=some (newS w)):SetI w h a [] :=
 ⟨_,#[],0,_,e,⟨rfl,rfl,rfl⟩,rfl,fun e he=>by simp at he,.refl _,.nil,by decide,⟨rfl,.nil,rfl⟩⟩
section
variable {P:Program} {w:World} {A:Around} {E:Value->Shared->Prop} {s:Shared} {a:Addr}
theorem qK7 {Q:Value->Shared->Prop} (q:Q (.ref s.heap.objs.size) { s with heap:=s.heap.push (newS w) }):wpAny (model P w) A (newSet (.type "set")) Q E s:=by
 unfold newSet setsByText
 refine wpAny_bind (wpAny_bind (wpAny_askSetting (wpAny_pure ?_)))
 dsimp only
 simp only [newObj]
 exact wpAny_bind (wpAny_alloc (wpAny_pure q))
theorem qQm {ns:List Int} {n:Int} {tk:Tok} {Q:Value->Shared->Prop} (S:SetI w s.heap a ns) (hroom:ns.length+1<scanBound)
  (q : ∀h',Heap.SameBut a s.heap h'->SetI w h' a (addN ns n)->Q .none { s with heap:=h',toks:=s.toks+1 }):wpAny (model P w) A (call (.builtin "set.add") [.ref a,.int n tk]) Q E s:=by
 obtain⟨o,_,_,_,ho,hex,_⟩:=id S
 refine wpAny_call_entry F.slot_set_add ⟨o,ho,hex.1⟩ F.entry_set_add ?_ (F.args_set_add_2 _ _)
 unfold Builtin.«set.add» Builtin.Frozenset.oneOther
 simp only [List.isEmpty_nil,bind_assoc]
 unfold Builtin.Frozenset.addrOf
 refine wpAny_bind (wpAny_pure ?_)
 try dsimp only
 refine wpAny_bind (wpAny_pure ?_)
 try dsimp only
 refine wpAny_bind (addI S hroom fun h' sb S' => ?_)
 show wpAny _ _ (ret Value.none) _ _ _
 exact wpAny_pure ⟨_,rfl,q h' sb S'⟩
end
section
variable {X:Cx} {elt tg iter tg2 iter2:Expr} {ifs ifs2:List Expr} {scope:Scope} {own:List Str} {cap:List Nat} {wi wi2:TI} {g g2:TG} {tts tts2:List TT} {te:TE} {pos:Pos}
theorem qUr:qI7 X (newSet (.type "set")) (setO X.w []):=by
 intro pins s σ H E Q I h
 refine qK7 (h _ _ (Nat.le_refl _) I.fresh (I.laid (t':=s.toks) (fun b u e=>Heap.get?_push_of_some _ e) (Nat.le_refl _) (qIl (qPk (Heap.get?_push_size _ rfl)))) fun b u e=>Heap.get?_push_of_some _ e)
def eAdd (w:World) (te:TE) (l:Addr):TB:=fun σ H Q=>te σ H fun v H1 => ∃ns n,v = .int n/\H1 l=some (setO w ns)/\ns.length+1<4096/\Q σ (upd H1 l (setO w (addN ns n)))
def qQq (elt:Expr) (acc:Value) (env:Env):Sem Unit:=do let v <-eval elt env;standAt elt.pos;let _ <-call (.builtin "set.add") [acc,v]
theorem qW4 {l:Addr} (w:World) (hw:X.w=w) (he:PE X elt te):PB X (qQq elt (.ref l) X.env) (eAdd w te l):=by
 subst hw
 intro pins s σ H Q I h
 refine wpAny_bind (thn (he pins s σ H _ I h) fun v s1 hq_ => ?_)
 obtain⟨x,H1,I1,r1,ns,n,e,hl,hz,q⟩:=hq_
 subst e
 obtain⟨tk,rfl⟩:=r1
 refine wpAny_bind (wpAny_standAt (wpAny_bind (qQm (I1.setI hl) hz fun h' sb S'=>wpAny_pure ⟨σ,_,?_,q⟩)))
 refine qEk (t':=s1.toks+1) I1 (by rw [hl];exact True.intro) sb ?_ (qIl S')
 obtain⟨o,_,_,_,e,_⟩:=S'
 exact⟨o,e⟩
theorem qJk {gens:List Comprehension} {acc:Value} {d:Nat} (hd:gens[d]? = some ⟨tg,iter,ifs,0⟩) (it:Value) (R:Result->Shared->Prop) (s:Shared)
  (h0:codeAny (model X.prog X.w) X.A (.compLoop (.SetComp elt gens scope pos) d it acc X.env) R s)
  (h:wpAny (model X.prog X.w) X.A (pyIter it) (fun it' s'=>codeAny (model X.prog X.w) X.A (.compLoop (.SetComp elt gens scope pos) d it' acc X.env) R s') (fun _ _=>False) s) :
  codeAny (model X.prog X.w) X.A (.compStart (.SetComp elt gens scope pos) d it acc X.env) R s:=by
 refine codeAny_of_tree ?_
 show wpAny _ X.A ((compStart (.SetComp elt gens scope pos) d it acc X.env).onRaise (fun x=>do noteFrame x X.env;standAt theWindowsPlace)) _ _ s
 refine wpAny_notedAt ?_
 unfold compStart
 have e1:(clausesOf (.SetComp elt gens scope pos))[d]? = some ⟨tg,iter,ifs,0⟩:=hd
 rw [e1]
 show wpAny _ _ (ask >>= _) _ _ s
 refine wpAny_bind (wpAny_askSetting (wpAny_ite ?_))
 have h':wpAny (model X.prog X.w) X.A (pyIter it) (fun it' s'=>codeAny (model X.prog X.w) X.A (.compLoop (.SetComp elt gens scope pos) d it' acc X.env) R s') (notedBy (model X.prog X.w) X.A X.env fun x s'=>R (.error x) s') s:=wpAny_mono h (fun _ _ z=>z) fun _ _ z=>z.elim
 split
 ·first | exact wpAny_bind (wpAny_pure (wpAny_pure (And.intro rfl h0))) | exact wpAny_pure (And.intro rfl h0)
 ·first | exact wpAny_bind (wpAny_rule (wpAny_bind (wpAny_standAt (wpAny_bind (wpAny_mono h' (fun it' s' h'=>wpAny_pure (And.intro rfl h')) fun _ _ x=>x))))) | (refine wpAny_bind (wpAny_rule ?_);show wpAny _ _ (standAt iter.pos >>= _) _ _ s;exact wpAny_bind (wpAny_standAt (wpAny_bind (wpAny_mono h' (fun it' s' h'=>wpAny_pure (And.intro rfl h')) fun _ _ x=>x))))
theorem qKw {acc:Value}:ClauseAt X (.SetComp elt [⟨tg,iter,ifs,0⟩,⟨tg2,iter2,ifs2,0⟩] scope pos) 0 acc tg iter ifs (qEm (.SetComp elt [⟨tg,iter,ifs,0⟩,⟨tg2,iter2,ifs2,0⟩] scope pos) iter2 1 acc X.env) where
 quiet:=fun _=>rfl
 under:=fun _=>rfl
 den:=fun _=>rfl
 turn:=fun it=>by
  have e:compTurn (.SetComp elt [⟨tg,iter,ifs,0⟩,⟨tg2,iter2,ifs2,0⟩] scope pos) 0 it acc X.env=(do
   standAt iter.pos
   match <-pyNext it with
   | none=>pure (.done .next)
   | some v =>
    letOwnedTupleGo tg it v
    assign tg X.env v
    let ok <-qEb ifs X.env true
    if ok then
     let x <-eval iter2 X.env
     standAt iter2.pos
     let x <-foldedSetIterable iter2 X.env x
     let _ <-runOwn (.compStart (.SetComp elt [⟨tg,iter,ifs,0⟩,⟨tg2,iter2,ifs2,0⟩] scope pos) 1 (<-holding [x] (pyIter x)) acc X.env) X.env
    again (.compLoop (.SetComp elt [⟨tg,iter,ifs,0⟩,⟨tg2,iter2,ifs2,0⟩] scope pos) 0 it acc X.env)):=rfl
  rw [e]
  unfold qEm
  simp only [bind_assoc,pure_bind]
  first | done | rfl | (congr 1;funext _;congr 1;funext r;cases r <;> rfl)
 start:=fun it R s=>qJk rfl it R s
theorem qKv {acc:Value}:ClauseAt X (.SetComp elt [⟨tg,iter,ifs,0⟩,⟨tg2,iter2,ifs2,0⟩] scope pos) 1 acc tg2 iter2 ifs2 (qQq elt acc X.env) where
 quiet:=fun _=>rfl
 under:=fun _=>rfl
 den:=fun _=>rfl
 turn:=fun _=>by first | rfl | (unfold qQq;simp only [bind_assoc,pure_bind];rfl)
 start:=fun it R s=>qJk rfl it R s
theorem qW1 (own:List Str) (cap:List Nat) (w:World) (hw:X.w=w) (hc:X.calm=true) (S:CompScope X own cap scope) (hi:PI X tg iter wi) (hg : ∀cl s H ex,PG (qAh X own cap scope cl s H ex) tg g)
  (ht : ∀cl s H ex,PTs (qAh X own cap scope cl s H ex) ifs tts) (hi2 : ∀cl s H ex,PI (qAh X own cap scope cl s H ex) tg2 iter2 wi2) (hg2 : ∀cl s H ex,PG (qAh X own cap scope cl s H ex) tg2 g2)
  (ht2 : ∀cl s H ex,PTs (qAh X own cap scope cl s H ex) ifs2 tts2) (he : ∀cl s H ex,PE (qAh X own cap scope cl s H ex) elt te) (hs : ∀x,foldedSetIterable iter X.env x=pure x:=by intro _;rfl)
  (hs2 : ∀cl s H ex x,foldedSetIterable iter2 (qAh X own cap scope cl s H ex).env x=pure x:=by intros;rfl) :
  PE X (.SetComp elt [⟨tg,iter,ifs,0⟩,⟨tg2,iter2,ifs2,0⟩] scope pos) (tComp own cap (setO w []) wi g tts fun l=>bNext wi2 g2 tts2 (eAdd w te l)):=by
 subst hw
 intro pins s σ H Q I h
 exact qJ2 (behOf:=qEm (.SetComp elt [⟨tg,iter,ifs,0⟩,⟨tg2,iter2,ifs2,0⟩] scope pos) iter2 1) hc S rfl hi qUr (fun _ _ _ _ _=>qKw) hg ht (fun cl s H ex l=>qP4 rfl hc qKv (hi2 cl s H ex) (hg2 cl s H ex) (ht2 cl s H ex) (qW4 X.w rfl (he cl s H ex)) (hs2 cl s H ex)) hs pins s σ H Q I h
end
def qB7 (ms:List Int):List Int:=ms.foldl addN []
theorem qM6 (ms:List Int) (n:Int):qB7 (ms ++ [n])=addN (qB7 ms) n:=by unfold qB7;rw [List.foldl_append];rfl
theorem qH5 : ∀(ms ns:List Int),(ms.foldl addN ns).length<=ns.length+ms.length
 | [],ns=>Nat.le_refl _
 | m::r,ns=>by
  have h1:=qH5 r (addN ns m)
  have h2:=qNc (ns:=ns) (n:=m)
  rw [List.foldl_cons,List.length_cons];omega
theorem qCc (ms:List Int):(qB7 ms).length<=ms.length:=by have h:=qH5 ms [];rw [List.length_nil,Nat.zero_add] at h;exact h
theorem qGt {m:Int} : ∀(ms ns:List Int),m∈ms.foldl addN ns↔m∈ns\/m∈ms
 | [],ns=>by simp
 | k::r,ns=>by rw [List.foldl_cons,qGt r,qIw,List.mem_cons,or_assoc]
theorem qBm {m:Int} (ms:List Int):m∈qB7 ms↔m∈ms:=by unfold qB7;rw [qGt];simp
theorem qF4 : ∀(ms ns:List Int),ns.Nodup->(ms.foldl addN ns).Nodup
 | [],ns,h=>h
 | k::r,ns,h=>qF4 r _ (qBs h)
theorem qDm (ms:List Int):(qB7 ms).Nodup:=qF4 ms [] .nil
section
variable {P:Program} {w:World} {A:Around} {R:Result->Shared->Prop} {I:Addr} {fp wr:List Addr} {G:Array GenState->Array GenState->Prop} {n:Nat} {T:Nat->Value->Prop} {St:Nat->Shared->Prop}
theorem qQa (W:WalksS P w A.in1 I fp wr G n T St) (S:Addr) (hSf:S∉fp) (ms:List Int) (hms:ms.length=n) (hval : ∀i v,T i v -> ∃t,v = .int (ms.getD i 0) t) (hb:n+1<scanBound) :
  ∀(k i:Nat) (s:Shared),n - i=k->i<=n->St i s->SetI w s.heap S (qB7 (ms.take i))->(∀s',Moved (S::wr) G s s'->SetI w s'.heap S (qB7 ms)->R (.ok (.ret .none)) s') ->
   codeAny (model P w) A (.builtin "set.update.loop" ⟨[.ref S,.ref I],[]⟩) R s:=by
 have hSw:S∉wr:=fun h=>hSf (W.sub _ h)
 have hsub : ∀b∈wr,b∈S::wr:=fun b hb=>List.mem_cons_of_mem _ hb
 intro k
 induction k with
 | zero =>
  intro i s hk hi hst hS hR
  have hin:i=n:=by omega
  subst hin
  refine codeAny_builtin F.entry_set_update_loop ?_
  rw [Around.under_plainId F.plain_set_update_loop _]
  show wpAny _ A.in1 (pyNext (.ref I) >>= _) _ _ s
  refine wpAny_bind (W.done s _ _ hst fun s' hm => ?_)
  show wpAny _ A.in1 (ret Value.none) _ _ s'
  rw [<-hms,List.take_length] at hS
  exact wpAny_pure (hR s' (hm.mono hsub) (hS.stay fun o e=>hm.heap S _ hSw e))
 | succ k ih =>
  intro i s hk hi hst hS hR
  have hlt:i<n:=by omega
  refine codeAny_builtin F.entry_set_update_loop ?_
  rw [Around.under_plainId F.plain_set_update_loop _]
  show wpAny _ A.in1 (pyNext (.ref I) >>= _) _ _ s
  refine wpAny_bind (W.item i s _ _ hlt hst fun v s' hP hst' hm => ?_)
  obtain⟨t,rfl⟩:=hval i v hP
  have hS':SetI w s'.heap S (qB7 (ms.take i)):=hS.stay fun o e=>hm.heap S _ hSw e
  show wpAny _ A.in1 (holding [Value.int (ms.getD i 0) t] (setAdd S (.int (ms.getD i 0) t)) >>= _) _ _ s'
  have hlen:=qCc (ms.take i)
  rw [List.length_take] at hlen
  refine wpAny_bind (wpAny_holding (addI hS' (by omega) fun h' sb S2 => ?_))
  have ht:ms.take (i+1)=ms.take i ++ [ms.getD i 0]:=by
   have h1:ms[i]? = some (ms.getD i 0):=by
    have:i<ms.length:=by omega
    rw [List.getD_eq_getElem?_getD,List.getElem?_eq_getElem this];rfl
   rw [List.take_add_one,h1];rfl
  rw [<-qM6,<-ht] at S2
  refine wpAny_pure ⟨plainId_quiet F.plain_set_update_loop _,ih (i+1) _ (by omega) hlt (W.frame _ s' _ _ hst' (Nat.le_succ _) fun b hb o e => ?_) S2 fun s'' hm'' hS'' => ?_⟩
  ·rw [sb.2 b (fun h:b=S=>hSf (by rw [<-h];exact hb))];exact e
  ·refine hR s'' (Moved.trans W.gtrans ((hm.mono hsub).then_heap (Nat.le_succ _) fun b o hb e => ?_) hm'') hS''
   rw [sb.2 b (fun h:b=S=>hb (by rw [h];exact List.mem_cons_self))];exact e
end
section
variable {P:Program} {w:World} {A:Around} {E:Value->Shared->Prop} {s:Shared}
theorem qNj (a:Value) {Q₁ : Value->Shared->Prop} (h:Q₁ (.ref s.heap.objs.size) { s with heap:=s.heap.push (newS w) }) :
  codeAny (model P w) A (.call (.builtin "set.__new__") ⟨[.type "set",a],[]⟩) (wants Q₁ E) s:=by
 refine codeAny_of_tree ?_
 show wpAny _ A.in1 (do checkBuiltinCall "set.__new__" ⟨[.type "set",a],[]⟩;again (.builtin "set.__new__" ⟨[.type "set",a],[]⟩)) _ _ s
 refine wpAny_bind (wpAny_of_eq (F.newCall_set_1 a) (wpAny_pure ⟨plainId_quiet F.plain_set_new _,codeAny_builtin F.entry_set_new ?_⟩))
 rw [Around.under_plainId F.plain_set_new _]
 unfold Builtin.«set.__new__» Builtin.Frozenset.newClass
 have hsub:=sub_set_self
 obtain⟨hp,g,d,tk,os⟩:=s
 dsimp only
 wp_walk
 refine wpAny_askSetting (wpAny_pure ?_)
 dsimp only
 simp only [newObj]
 exact wpAny_bind (wpAny_alloc (wpAny_pure (wpAny_pure h)))
theorem qLh {l:Addr} {items:Array Value} {ns:List Int} {Q:Value->Shared->Prop} (hh:A.handled=none) (hl:s.heap.IsList l items) (hi:IntsAre items.toList ns) (hb:items.size+1<scanBound)
  (h : ∀(h':Heap) (tk:Nat),SetI w h' s.heap.objs.size (qB7 ns)->(∀b o,b<s.heap.objs.size->s.heap.get? b=some o->h'.get? b=some o)->Q (.ref s.heap.objs.size) { s with heap:=h',toks:=tk }) :
  wpAny (model P w) A (call (.type "set") [.ref l]) Q E s:=by
 obtain⟨c,tl,hmro⟩:=F.called_set.mro
 have hmade:=F.called_set.made
 have hsub:=F.called_set.sub
 refine wpAny_call (codeAny_of_tree ?_)
 show wpAny _ _ (callAny (.type "set") _) _ _ _
 refine wpAny_pure ⟨Code.quiet_builtin _ (by decide +kernel),codeAny_builtin F.entry_type_call ?_⟩
 rw [Around.under_plain (weight_type_call_type "set" [.ref l] []) rfl]
 have h1:=F.called_set.notType
 have h2:=F.called_set.canCreate
 have hct:=F.typeCall_set_1 (.ref l)
 repeat (any_goals (first | assumption | wp_step))
 refine codeAny_mono (qNj (.ref l) (E:=E) (Q₁ :=fun obj s₁ =>obj = .ref s.heap.objs.size/\s₁ = { s with heap:=s.heap.push (newS w) }) ⟨rfl,rfl⟩) fun r s₁ hr => ?_
 cases r with
 | error e=>exact hr
 | ok fl =>
  cases fl with
  | ret obj =>
   obtain⟨rfl,rfl⟩:=hr
   have hS:(s.heap.push (newS w)).get? s.heap.objs.size=some (newS w):=Heap.get?_push_size _ rfl
   have hT:Shared.TypeIs { s with heap:=s.heap.push (newS w) } (.ref s.heap.objs.size) "set" :=⟨_,hS,rfl⟩
   have hli:=F.called_set.init.lookup
   have hbi:=F.called_set.init.bind (.ref s.heap.objs.size)
   repeat (any_goals (first | assumption | wp_step))
   refine codeAny_mono (codeAny_call_builtin (R:=wants (fun r s₂ =>r = .none /\ ∃h' tk,s₂ = { s with heap:=h',toks:=tk }/\SetI w h' s.heap.objs.size (qB7 ns)/\(∀b o,b<s.heap.objs.size->s.heap.get? b=some o->h'.get? b=some o)) E) F.called_set.init.plain F.entry_set_init (check_set_init_1 hT ?_)) fun r₂ s₂ hr₂ => ?_
   ·obtain⟨ol,hol,hcl,nl,hdl⟩:=hl
    obtain⟨ocls,odict,odata,oslots⟩:=ol
    simp only at hcl hdl
    subst hcl;subst hdl
    have hol':(s.heap.push (newS w)).get? l=some { cls :=.type "list",dict:=odict,data :=.seq items nl,slots:=oslots }:=Heap.get?_push_of_some _ hol
    have hsls:=F.sub_list_set
    have hslf:=F.sub_list_frozenset
    have hne:(Value.type "list" == Value.type "dict")=false:=by decide
    have hl1:(s.heap.push (newS w)).IsList l items:=⟨_,hol',rfl,nl,rfl⟩
    unfold Builtin.«set.__init__» noKeywords Builtin.Frozenset.updateFrom
    generalize hPI:pyIter=PI
    wp_walk
    subst hPI
    refine wpAny_pyIter_list hl1 (wpAny_bind (wpAny_runValue ?_))
    have hlS:l<s.heap.objs.size:=Heap.lt_size hol
    have hh3:A.in1.in1.in1.handled=none:=hh
    have hneI:l≠(s.heap.push (newS w)).objs.size:=by rw [Heap.size_push];exact Nat.ne_of_lt (Nat.lt_succ_of_lt hlS)
    have hSf:s.heap.objs.size ∉ [(s.heap.push (newS w)).objs.size,l]:=by
     rw [Heap.size_push];simp only [List.mem_cons,List.mem_singleton,List.not_mem_nil,or_false,not_or]
     exact⟨Nat.ne_of_lt (Nat.lt_succ_self _),Nat.ne_of_gt hlS⟩
    have hlen:ns.length=items.size:=by rw [<-IntsAre.length hi,Array.length_toList]
    refine qQa ((Walks.list hh3 _ l hneI items).toS) s.heap.objs.size hSf ns hlen (fun i v hv=>IntsAre.int_at hi i v (by rw [Array.getElem?_toList];exact hv)) hb (items.size - 0) 0 _ (by omega) (Nat.zero_le _) ⟨⟨_,Heap.get?_push_size _ rfl,rfl,rfl⟩,(hl1.push _)⟩ (qPk (Heap.get?_push_of_some _ hS)) ?_
    intro s' hm hS'
    obtain⟨h',g',d',tk',os'⟩:=s'
    have eg:g'=s.gens:=hm.gens
    have ed:d'=s.drawn:=hm.drawn
    have eo:os'=s.os:=hm.os
    subst eg;subst ed;subst eo
    show wpAny _ _ _ _ _ _
    refine wpAny_pure ?_
    show wpAny _ _ (ret Value.none) _ _ _
    refine wpAny_pure ⟨rfl,h',tk',rfl,hS',fun b o hb e => ?_⟩
    refine hm.heap b o (fun z => ?_) (Heap.get?_push_of_some _ (Heap.get?_push_of_some _ e))
    rcases List.mem_cons.mp z with z | z
    ·exact Nat.ne_of_lt hb z
    ·have z2:b=(s.heap.push (newS w)).objs.size:=by simpa using z
     rw [Heap.size_push] at z2
     exact Nat.ne_of_lt (Nat.lt_succ_of_lt hb) z2
   ·cases r₂ with
    | error e=>exact hr₂
    | ok fl₂ =>cases fl₂ with
     | ret r=>obtain⟨rfl,h',tk,rfl,hS',hk'⟩:=hr₂;(repeat (any_goals (first | assumption | wp_step)));exact h _ _ hS' hk'
     | _=>exact hr₂.elim
  | _=>exact hr.elim
end
section
variable {X:Cx}
def qVt (w:World) (K:PySem.W.Frag):List V->Hp->VK->Prop:=fun xs H Q => ∃(a:Addr) (ns:List Int),xs = [.ref a]/\SqL K H a (ns.map V.int)/\ns.length+1<4096 /\ ∀l,H l=none->Q (.ref l) (upd H l (setO w (qB7 ns)))
theorem qDj (hh:X.A.handled=none):CallR X (.type "set") (qVt X.w X.K):=by
 intro pins s σ H xs us Q I r h
 obtain⟨a,ns,rfl,hq,hz,q⟩:=h
 obtain⟨u,rfl,ru⟩:=vals1 r
 cases ru
 obtain⟨its,rv,pl,_⟩:=I.list hq
 have hl:=rv.length
 rw [List.length_map] at hl
 refine qLh hh pl.isList (qI0 rv) (by rw [List.size_toArray];show its.length+1<4096;omega) fun h' tk S' k => ?_
 exact⟨.ref s.heap.objs.size,_,I.laid (t':=tk) (fun b u e=>k b u (Heap.lt_size e) e) (Nat.le_refl _) (qIl S'),rfl,q _ (I.hok.fresh (Nat.le_refl _))⟩
end
section
variable {K:PySem.W.Frag} {a:Addr} {xs:List V} {g:TG} {tt:TT} {B:TB} {σ : St} {H:Hp} {Q:St->Hp->Prop}
theorem qMr (Pv:Nat->St->Hp->Prop) (h0:Pv 0 σ H) (hl : ∀i σ H,i<=xs.length->Pv i σ H->SqT K H a xs)
  (hs : ∀i x σ H (R:St->Hp->Prop),xs[i]? = some x->Pv i σ H->(∀ σ' H',Pv (i+1) σ' H'->R σ' H')->g x σ H fun σ2 H2=>tt σ2 H2 fun b H3=>if b=true then B σ2 H3 R else R σ2 H3)
  (hd : ∀ σ H,Pv xs.length σ H->Q σ H):LoopT (Itt K a) g tt B σ H Q:=by
 refine qFk (n:=xs.length) Pv h0 (fun i σ H hi p=>⟨xs,xs[i],hl i σ H (Nat.le_of_lt hi) p,by simp [hi]⟩) (fun σ H p=>⟨xs,hl _ σ H (Nat.le_refl _) p,Nat.le_refl _⟩) (fun i σ H R hi p hR x H' y => ?_) hd
 obtain⟨e,y⟩:=y
 subst e
 exact hs i x σ _ R (y xs (hl i σ _ (Nat.le_of_lt hi) p)) p hR
end
def wr:Deed->Option Int
 | .set b _=>some b
 | .add b _=>some b
 | _=>none
def qBz (w:List Blk):List Int:=w.flatMap fun b=>b.ds.filterMap wr
def boxes (w:List Blk):List Int:=((List.range 8).map fun (n:Nat)=>(n:Int)).filter fun b=>decide (b∈qBz w)
theorem qFh : ∀ {l1 l2:List Int},l1.Pairwise (· < ·)->l2.Pairwise (· < ·)->(∀p,p∈l1↔p∈l2)->l1=l2
 | [],[],_,_,_=>rfl
 | [],q::l2,_,_,h=>absurd ((h q).mpr (List.mem_cons_self ..)) (by simp)
 | p::l1,[],_,_,h=>absurd ((h p).mp (List.mem_cons_self ..)) (by simp)
 | p::l1,q::l2,h1,h2,h=>by
  rw [List.pairwise_cons] at h1 h2
  have e:p=q:=by
   rcases List.mem_cons.mp ((h p).mp (List.mem_cons_self ..)) with z | z
   ·exact z
   ·rcases List.mem_cons.mp ((h q).mpr (List.mem_cons_self ..)) with y | y
    ·exact y.symm
    ·have:=h2.1 p z;have:=h1.1 q y;omega
  subst e
  refine congrArg (p :: ·) (qFh h1.2 h2.2 fun x=>⟨fun hx => ?_,fun hx => ?_⟩)
  ·rcases List.mem_cons.mp ((h x).mp (List.mem_cons_of_mem _ hx)) with z | z
   ·rw [z] at hx;have:=h1.1 p hx;omega
   ·exact z
  ·rcases List.mem_cons.mp ((h x).mpr (List.mem_cons_of_mem _ hx)) with z | z
   ·rw [z] at hx;have:=h2.1 p hx;omega
   ·exact z
theorem qM9 {works:Int} {d:Deed} {b:Int} (h:qI8 works d) (e:wr d=some b):0<=b/\b<8:=by
 cases d with
 | set x n=>cases e;exact⟨h.1,h.2.1⟩
 | add x o=>cases e;exact⟨h.1,h.2.1⟩
 | tell x=>cases e
 | call x=>cases e
 | save x=>cases e
 | back x=>cases e
theorem qBt {m works:Int} {w:List Blk} (h:WorkOk m works w) {b:Int} (hb:b∈qBz w):0<=b/\b<8:=by
 obtain⟨k,hk,hb⟩:=List.mem_flatMap.mp hb
 obtain⟨d,hd,e⟩:=List.mem_filterMap.mp hb
 exact qM9 ((h.blk k hk).ds d hd) e
theorem qBn (w:List Blk):(boxes w).Pairwise (· < ·):=by
 unfold boxes
 refine List.Pairwise.filter _ ?_
 rw [List.pairwise_map]
 exact List.pairwise_lt_range.imp fun {a b} h=>by omega
theorem qGr {m works:Int} {w:List Blk} (h:WorkOk m works w) {b:Int}:b∈boxes w↔b∈qBz w:=by
 unfold boxes
 rw [List.mem_filter,decide_eq_true_eq]
 refine⟨fun z=>z.2,fun z=>⟨?_,z⟩⟩
 have:=qBt h z
 exact List.mem_map.mpr ⟨b.toNat,List.mem_range.mpr (by omega),by omega⟩
theorem qJm {m works:Int} {w:List Blk} {ns ns':List Int} (h:WorkOk m works w) (hm : ∀b,b∈ns↔b∈qBz w) (hn:ns.Nodup) (hp:ns'.Perm ns) (hs:ns'.Pairwise (· <= ·)):ns'=boxes w:=by
 refine qFh ?_ (qBn w) fun b=>by rw [hp.mem_iff,hm,qGr h]
 have hn':ns'.Pairwise (· ≠ ·):=hp.nodup_iff.mpr hn
 exact (hs.and hn').imp fun {a b} z=>by obtain⟨z1,z2⟩:=z;omega
theorem qF2 (w:List Blk):(boxes w).length<=8:=by
 unfold boxes
 refine Nat.le_trans (List.length_filter_le _ _) (by simp)
def qDe (K:PySem.W.Frag):Sp:=fun vs H Q _ => ∃(a:Addr) (w:List Blk) (m works:Int),vs = [.ref a]/\Den K H (workD w) (.ref a)/\WorkOk m works w/\m<=12 /\
 ∀(l:Addr) (H':Hp),H l=none->Ext [] H H'->H' l=some (.lst ((boxes w).map V.int))->Q (.ref l) H'
mutual
def tame:PyData->Bool
 | .int i=>decide (i.natAbs<10^13)
 | .str x=>x.cps.all (· < 0x110000)&&decide (x.cps.size<=10)
 | .list xs=>qB8 xs
 | .tuple xs=>qB8 xs
 | .none=>false
 | .bool _=>false
 | .dict _=>false
def qB8:List PyData->Bool
 | []=>true
 | x::xs=>tame x&&qB8 xs
end
mutual
def cells:PyData->Nat
 | .list xs=>qCl xs
 | .tuple xs=>qCl xs
 | .int _=>0
 | .str _=>0
 | .none=>0
 | .bool _=>0
 | .dict _=>0
def qCl:List PyData->Nat
 | []=>0
 | x::xs=>cells x+1+qCl xs
end
theorem qT6 {n:Nat} (h:n<10^13):n.log2<44:=by
 by_cases hn:n=0
 ·subst hn;decide
 ·exact (Nat.log2_lt hn).mpr (Nat.lt_of_lt_of_le h (by decide))
mutual
theorem qJi : ∀d:PyData,tame d=true->PyData.showable d=true
 | .int i,h=>by
  have h1:i.natAbs<10^13:=by simpa only [tame,decide_eq_true_eq] using h
  have:=qT6 h1
  simp only [PyData.showable,decide_eq_true_eq];omega
 | .str x,_=>rfl
 | .list xs,h=>qDc xs (by simpa only [tame] using h)
 | .tuple xs,h=>qDc xs (by simpa only [tame] using h)
theorem qDc : ∀ds:List PyData,qB8 ds=true->PyData.showableAll ds=true
 | [],_=>rfl
 | x::xs,h=>by
  have h1:(tame x&&qB8 xs)=true:=by simpa only [qB8] using h
  rw [Bool.and_eq_true] at h1
  simp only [PyData.showableAll,qJi x h1.1,qDc xs h1.2,Bool.and_self]
end
mutual
theorem qFz : ∀d:PyData,tame d=true->PyData.canLay0 d=true
 | .int i,h=>rfl
 | .str x,h=>by
  have h1:(x.cps.all (· < 0x110000)&&decide (x.cps.size<=10))=true:=by simpa only [tame] using h
  rw [Bool.and_eq_true] at h1
  simpa only [PyData.canLay0,PyData.strOk] using h1.1
 | .list xs,h=>qEd xs (by simpa only [tame] using h)
 | .tuple xs,h=>qEd xs (by simpa only [tame] using h)
theorem qEd : ∀ds:List PyData,qB8 ds=true->PyData.canLayAll0 ds=true
 | [],_=>rfl
 | x::xs,h=>by
  have h1:(tame x&&qB8 xs)=true:=by simpa only [qB8] using h
  rw [Bool.and_eq_true] at h1
  simp only [PyData.canLayAll0,qFz x h1.1,qEd xs h1.2,Bool.and_self]
end
mutual
theorem qH9 : ∀d:PyData,tame d=true->PyData.intsShort 14 d=true
 | .int i,h=>by
  have h1:i.natAbs<10^13:=by simpa only [tame,decide_eq_true_eq] using h
  have e:=int_text_length_le10 (k:=13) (by decide) h1
  simp only [PyData.intsShort,decide_eq_true_eq]
  show (Str.ofString (toString i)).length<=14
  rw [PySem.ofString_length];exact e
 | .str x,h=>rfl
 | .list xs,h=>qD5 xs (by simpa only [tame] using h)
 | .tuple xs,h=>qD5 xs (by simpa only [tame] using h)
theorem qD5 : ∀ds:List PyData,qB8 ds=true->PyData.intsShortAll 14 ds=true
 | [],_=>rfl
 | x::xs,h=>by
  have h1:(tame x&&qB8 xs)=true:=by simpa only [qB8] using h
  rw [Bool.and_eq_true] at h1
  simp only [PyData.intsShortAll,qH9 x h1.1,qD5 xs h1.2,Bool.and_self]
end
mutual
theorem qGe : ∀d:PyData,tame d=true->PyData.weight d<=46*cells d+45
 | .int i,h=>by
  have h1:i.natAbs<10^13:=by simpa only [tame,decide_eq_true_eq] using h
  have:=qT6 h1
  simp only [PyData.weight,cells]
  split <;> omega
 | .str x,h=>by
  have h1:(x.cps.all (· < 0x110000)&&decide (x.cps.size<=10))=true:=by simpa only [tame] using h
  rw [Bool.and_eq_true,decide_eq_true_eq] at h1
  simp only [PyData.weight,cells];omega
 | .list xs,h=>by
  have:=qCn xs (by simpa only [tame] using h)
  simp only [PyData.weight,cells];omega
 | .tuple xs,h=>by
  have:=qCn xs (by simpa only [tame] using h)
  simp only [PyData.weight,cells];omega
theorem qCn : ∀ds:List PyData,qB8 ds=true->PyData.weightAll ds<=46*qCl ds
 | [],_=>Nat.le_refl _
 | x::xs,h=>by
  have h1:(tame x&&qB8 xs)=true:=by simpa only [qB8] using h
  rw [Bool.and_eq_true] at h1
  have h2:=qGe x h1.1
  have h3:=qCn xs h1.2
  simp only [PyData.weightAll,qCl];omega
end
theorem qNi {d:PyData} (h:tame d=true) (hc:cells d<=5000) (hd:d.depth<=64):d.showable=true/\d.depth<=100/\d.shown.length<=sizeLine:=by
 refine⟨qJi d h,by omega,?_⟩
 have h1:=PyData.shown_le 14 (by decide) d (PyData.leavesShort_of_canLay0 14 d (qFz d h) (qH9 d h))
 have h2:=qGe d h
 have e:sizeLine=16777216:=by decide
 have h3:(14+2)*d.weight<=16*(46*5000+45):=Nat.mul_le_mul (by decide) (by omega)
 omega
theorem qCd {d:PyData} (h:tame d=true) (hd:d.depth<=64) (hs : ∃xs,d = .list xs):SeqAt.shaped d=true:=by
 obtain⟨xs,rfl⟩:=hs
 have h1:=qFz _ h
 have h1:PyData.canLayAll0 xs=true:=by simpa only [PyData.canLay0] using h1
 show (PyData.canLayAll0 xs&&decide (PyData.depth (.list xs)<=64))=true
 rw [h1,decide_eq_true hd];rfl
theorem qEc {d:PyData} (h:tame d=true):d.hasDict=false:=PyData.hasDict_of_canLay _ (qFz d h)
theorem qCe {α : Type} {f : α -> PyData} : ∀ {l:List α},(∀x∈l,tame (f x)=true)->qB8 (l.map f)=true
 | [],_=>rfl
 | x::r,h=>by
  simp only [List.map_cons,qB8,h x (List.mem_cons_self ..),qCe fun y hy=>h y (List.mem_cons_of_mem _ hy),Bool.and_self]
theorem qC3 {α : Type} {f : α -> PyData} {n:Nat} : ∀ {l:List α},(∀x∈l,cells (f x)<=n)->qCl (l.map f)<=(n+1)*l.length
 | [],_=>Nat.zero_le _
 | x::r,h=>by
  have h1:=h x (List.mem_cons_self ..)
  have h2:=qC3 (l:=r) fun y hy=>h y (List.mem_cons_of_mem _ hy)
  simp only [List.map_cons,qCl,List.length_cons,Nat.mul_add];omega
theorem qC2 {α : Type} {f : α -> PyData} {n:Nat} : ∀ {l:List α},(∀x∈l,(f x).depth<=n)->PyData.depthAll (l.map f)<=n
 | [],_=>Nat.zero_le _
 | x::r,h=>by
  have h1:=h x (List.mem_cons_self ..)
  have h2:=qC2 (l:=r) fun y hy=>h y (List.mem_cons_of_mem _ hy)
  simp only [List.map_cons,PyData.depthAll];omega
theorem qDi {ns:List Int} (h : ∀n∈ns,-1<=n/\n<=100) (hl:ns.length<=1000):tame (intsD ns)=true/\cells (intsD ns)<=5000/\(intsD ns).depth<=64:=by
 have d1:=qCe (l:=ns) (f:=PyData.int) fun n hn=>by
  have:=h n hn
  simp only [tame,decide_eq_true_eq];omega
 have d2:=qC3 (l:=ns) (f:=PyData.int) (n:=0) fun n hn=>Nat.le_refl _
 have d3:=qC2 (l:=ns) (f:=PyData.int) (n:=0) fun n hn=>Nat.le_refl _
 refine⟨?_,?_,?_⟩
 ·simp only [intsD,tame,d1]
 ·simp only [intsD,cells];omega
 ·show PyData.depthAll (ns.map .int)+1<=64
  omega
section
variable {prog:Program} {w:World} {K:Type} [DecidableEq K] {knd:HeapKind prog w K} {A:Around} {E:Value->Shared->Prop} {s:Shared} {d a:Addr} {k:K} {xs:List (K×Addr×Value)}
theorem qLg {v:Value} {Q:Value->Shared->Prop} (hu:knd.room A) (hkey:knd.is s.heap k a) (hm:s.heap.DictOfH knd d xs) (hsz:xs.length<=sizeLine)
  (h1 : ∀p,atKey xs k=some p->Q p.2 { s with toks:=s.toks+knd.draws k })
  (h2:atKey xs k=none -> ∀h',h'.DictOfH knd d (storedH xs k a v)->Heap.SameBut d s.heap h'->Q v { s with heap:=h',toks:=s.toks+knd.draws k }) :
  wpAny (model prog w) A (dictSetDefault d (.ref a) v) Q E s:=by
 obtain⟨o,es,ep,ho,hc,hd,he,his,hn⟩:=hm
 unfold dictSetDefault
 try with_reducible refine wpAny_holding ?_
 refine wpAny_bind (knd.pyHash hu hkey (wpAny_bind (wpAny_dictFind_heap (s :={ s with toks:=s.toks+knd.draws k }) hu hkey ho hd he his hn ?_ ?_)))
 ·intro hno
  have hnot:k∉xs.map (·.1):=not_mem_keys_of_get hno
  refine wpAny_bind (wpAny_rule (wpAny_bind (wpAny_updateDictKeys (hz:=by have e:=size_of_entries he;omega) (s :={ s with toks:=s.toks+knd.draws k }) ho hd (wpAny_pure (h2 (atKey_none_of_get hno) _ ⟨_,_,ep+1,Heap.get?_update_self _ ho (Obj.isFreed_of_dict (Obj.data_mapDictKeys hd _)),hc.mapDictKeys _,Obj.data_mapDictKeys hd _,?_,?_,?_⟩ (Heap.SameBut.update ..))))))
  ·rw [storedH_new (atKey_none_of_get hno)];simp [he,entryOfKey]
  ·rw [storedH_new (atKey_none_of_get hno)];intro x hx
   rcases List.mem_append.mp hx with hx | hx
   ·exact knd.keeps (his x hx) ho hd (Heap.SameBut.update ..)
   ·simp only [List.mem_singleton] at hx;subst hx;exact knd.keeps hkey ho hd (Heap.SameBut.update ..)
  ·rw [storedH_new (atKey_none_of_get hno),List.map_append,List.nodup_append]
   refine⟨hn,by simp,fun x hx y hy => ?_⟩
   simp only [List.map_cons,List.map_nil,List.mem_singleton] at hy
   subst hy
   exact fun e=>hnot (e▸hx)
 ·intro j p hj
  refine wpAny_bind (wpAny_dictEntries (s :={ s with toks:=s.toks+knd.draws k }) ho hd ?_)
  rw [entry_at he j,hj]
  exact wpAny_bind (wpAny_rule (wpAny_pure (h1 p (atKey_of_get hn hj))))
end
section
variable {X:Cx} {o e f:Expr} {td ty tx:TE} {apos cpos:Pos}
def qSs (td ty tx:TE):TE:=fun σ H Q=>td σ H fun x H1 => ∃a,x = .ref a/\IsD H1 a/\ty σ H1 fun y H2=>tx σ H2 fun z H3 => ∃kvs k b,y = .ref b/\H3 a=some (.dT kvs)/\H3 b=some (.tup (k.map kV))/\kvs.length<sizeLine /\
 (∀v,valV kvs k=some v->Q v H3)/\(valV kvs k=none->Q z (upd H3 a (.dT (putK kvs k z))))
theorem qRq (hu:X.A.units+1<cLine) (ho:PE X o td) (he:PE X e ty) (hf:PE X f tx) (m:M2 X o "setdefault" apos e f cpos):PE X (.Call (.Attribute o "setdefault" apos) [e,f] [] cpos) (qSs td ty tx):=by
 intro pins s σ H Q I h
 refine wpAny_Call_method m.base m.few m.line PySem.F.plainAttrs_dict PySem.F.slot_dict_setdefault PySem.F.type_dict_setdefault (thn (ho pins s σ H _ I h) fun u s1 hq_ => ?_)
 obtain⟨x,H1,I1,rx,a,ex,d,q1⟩:=hq_
 subst ex
 obtain rfl:u=Value.ref a:=rx
 obtain⟨t1,t2,_⟩:=qTa I1 d
 refine⟨t1,t2,?_⟩
 rw [m.trees]
 refine Calls.callWith_builtin rfl (Calls.evalArgs_plain (Calls.spliced_cons (thn (he pins s1 σ H1 _ I1 q1) fun iv s2 hq_ => ?_)))
 obtain⟨y,H2,I2,ry,q2⟩:=hq_
 refine Calls.spliced_cons (thn (hf pins s2 σ H2 _ I2 q2) fun fv s3 hq_ => ?_)
 obtain⟨z,H3,I3,rz,kvs,k,b,ey,ea,eb,hl,g1,g2⟩:=hq_
 refine Calls.spliced_nil ?_
 subst ey
 cases (show iv=Value.ref b from ry)
 obtain⟨zz,hd,xs,rel,dd⟩:=qWh I3.hok ea
 have hz:xs.length<=sizeLine:=by rw [<-Paired.length rel];exact zz
 obtain⟨q0,_,_,hq0,hc0,hdd0,_⟩:=id dd
 have hty:s3.TypeIs (.ref a) "dict" :=⟨q0,hq0,hc0.1⟩
 refine wpAny_call_entry PySem.F.slot_dict_setdefault hty PySem.F.entry_dict_setdefault ?_ (PySem.F.args_dict_setdefault_3 _ _ _)
 unfold Builtin.«dict.setdefault»
 refine wpAny_bind ?_
 unfold Builtin.Dict.keyAndDefault
 refine wpAny_bind (wpAny_notOrdered_dict hty ?_)
 show wpAny _ _ (pure (a,Value.ref b,some fv)) _ _ s3
 refine wpAny_pure ?_
 show wpAny _ _ (if (a == sysModules)=true then _ else (dictSetDefault a (.ref b) fv >>= _)) _ _ s3
 rw [if_neg (by rw [hd];exact Bool.false_ne_true)]
 refine wpAny_bind (qLg (knd:=tupleKind (qAp X.prog X.w)) (tupleKind_room_in1 hu) (qGv I3.hok eb) dd hz (fun p hp=>wpAny_pure ⟨_,rfl,?_⟩) (fun hn h' dd' hs=>wpAny_pure ⟨_,rfl,?_⟩))
 ·have r:=rel.val k
  rw [hp] at r
  cases ev:valV kvs k with
  | none=>rw [ev] at r;exact r.elim
  | some v=>rw [ev] at r;exact⟨v,H3,I3.tok _,r,g1 v ev⟩
 ·have r:=rel.val k
  rw [hn] at r
  have ev:valV kvs k=none:=by
   cases ev:valV kvs k with
   | none=>rfl
   | some v=>rw [ev] at r;exact r.elim
  have hl':(putK kvs k z).length<=sizeLine:=by have:=qBh kvs k z;omega
  obtain⟨q,es,ep,hq,h2,h3,h4,_,h5⟩:=dd'
  refine⟨z,_,qEk (ob :=.dT (putK kvs k z)) I3 (by rw [ea];exact True.intro) hs ⟨q,hq⟩ ⟨hl',hd,_,(rel.put k eb rz).keeps fun c ys ec => ?_,q,es,ep,hq,h2,h3,h4,h5⟩,rz,g2 ev⟩
  rw [qA4 (qFy ec ea (fun z=>nomatch z))]
  exact ec
end
section
variable {X:Cx}
theorem qOn {bs:List Bool} {f:Nat->Bool} (hf : ∀i b,bs[i]? = some b->f i=b):(List.range bs.length).any f=bs.any id:=by
 rw [Bool.eq_iff_iff,List.any_eq_true,List.any_eq_true]
 constructor
 ·rintro⟨i,hi,h⟩
  have hi:=List.mem_range.mp hi
  have:=hf i bs[i] (List.getElem?_eq_getElem hi)
  exact⟨bs[i],List.getElem_mem hi,by rw [<-this];exact h⟩
 ·rintro⟨b,hb,h⟩
  obtain⟨i,hi,e⟩:=List.getElem_of_mem hb
  exact⟨i,List.mem_range.mpr hi,by rw [hf i b (by rw [List.getElem?_eq_getElem hi,e])];exact h⟩
def rAnyB (K:PySem.W.Frag):List V->Hp->VK->Prop:=fun xs H Q => ∃(a:Addr) (bs:List Bool),xs = [.ref a]/\SqL K H a (bs.map V.bl)/\Q (.bl (bs.any id)) H
theorem qH3 (hh:X.A.handled=none):CallR X (.builtin "any") (rAnyB X.K):=by
 intro pins s σ H xs us Q I r h
 obtain⟨a,bs,rfl,hq,q⟩:=h
 obtain⟨u,rfl,ru⟩:=vals1 r
 cases ru
 obtain⟨its,rv,pl,_⟩:=I.list hq
 have hlen:=rv.length
 rw [List.length_map] at hlen
 have hl:=pl.isList
 have hne:a≠s.heap.objs.size:=by obtain⟨o,e,_⟩:=hl;exact Nat.ne_of_lt (Heap.lt_size e)
 have hval : ∀(i:Nat) (v:Value),its.toArray[i]? = some v->v = .bool (bs.getD i false):=fun i v e=>by
  rw [List.getElem?_toArray] at e
  have hi:i<bs.length:=by rw [hlen];exact (List.getElem?_eq_some_iff.mp e).1
  obtain⟨u,e2,r2⟩:=rv.get (i:=i) (x:=V.bl bs[i]) (by rw [List.getElem?_map,List.getElem?_eq_getElem hi];rfl)
  rw [e] at e2;cases e2
  have r2:v=Value.bool bs[i]:=r2
  rw [r2,List.getD_eq_getElem?_getD,List.getElem?_eq_getElem hi];rfl
 refine call_any_walk (wpAny_pyIter_list hl ⟨_,_,_,_,_,_,fun i=>bs.getD i false,rfl,Walks.list (by exact hh) _ a hne its.toArray,⟨⟨_,Heap.get?_push_size _ rfl,rfl,rfl⟩,hl.push _⟩,fun i v s Q E hP hQ => ?_,fun h' tk k => ?_⟩)
 ·rw [hval i v hP];exact wpAny_truthy_bool hQ
 ·have e:(List.range its.toArray.size).any (fun i=>bs.getD i false)=bs.any id:=by
   rw [List.size_toArray,<-hlen]
   exact qOn fun i b hb=>by rw [List.getD_eq_getElem?_getD,hb];rfl
  rw [e]
  exact⟨.bl (bs.any id),H,I.kept (t':=tk) (fun b o e=>k b o (by simpa using Nat.ne_of_lt (Heap.lt_size e)) (Heap.get?_push_of_some _ e)),rfl,q⟩
end
abbrev Pl:=Int×Int
def plK (p:Pl):List Key :=[.inl p.1,.inl p.2]
theorem qLn {p q:Pl} (h:plK p=plK q):p=q:=by
 obtain⟨a,b⟩:=p
 obtain⟨c,d⟩:=q
 simp only [plK,List.cons.injEq,Sum.inl.injEq,and_true] at h
 rw [h.1,h.2]
def TK (H H':Hp):Prop := ∀b xs,H b=some (.tup xs)->H' b=some (.tup xs)
theorem TK.trans {H H1 H2:Hp} (a:TK H H1) (b:TK H1 H2):TK H H2:=fun c xs h=>b c xs (a c xs h)
theorem Ext.tk {H H':Hp} (e:Ext [] H H'):TK H H':=fun b xs h=>e b _ (by simp) h
theorem TK.put {H:Hp} {t:Addr} {o:HO} (h : ∀ys,H t≠some (.tup ys)):TK H (upd H t o):=fun b xs e=>by
 have n:b≠t:=fun z=>by rw [z] at e;exact h xs e
 rw [qA4 n];exact e
def PlAt (H:Hp) (v:V) (p:Pl):Prop := ∃b,v = .ref b/\H b=some (.tup [.int p.1,.int p.2])
def PlsAt (H:Hp):List V->List Pl->Prop:=Paired (PlAt H)
theorem PlsAt.mono {H H':Hp} (k:TK H H') {vs:List V} {ps:List Pl} (h:PlsAt H vs ps):PlsAt H' vs ps:=Paired.mapP h fun _ _ ⟨b,e,q⟩=>⟨b,e,k _ _ q⟩
theorem PlsAt.len {H:Hp} {vs:List V} {ps:List Pl} (h:PlsAt H vs ps):vs.length=ps.length:=Paired.length h
theorem PlsAt.append {H:Hp} {vs ws:List V} {ps qs:List Pl} (h:PlsAt H vs ps) (k:PlsAt H ws qs):PlsAt H (vs++ws) (ps++qs):=by
 induction h with
 | nil=>exact k
 | cons a _ ih=>exact .cons a ih
theorem PlsAt.one {H:Hp} {b:Addr} {p:Pl} (h:H b=some (.tup [.int p.1,.int p.2])):PlsAt H [.ref b] [p] :=.cons ⟨b,rfl,h⟩ .nil
theorem PlsAt.get {H:Hp} : ∀ {vs:List V} {ps:List Pl} {i:Nat} {v:V},PlsAt H vs ps->vs[i]? = some v -> ∃p,ps[i]? = some p/\PlAt H v p
 | _,_,_,_,.nil,e=>by simp at e
 | _,_,0,_,.cons a _,e=>by simp at e;subst e;exact⟨_,rfl,a⟩
 | _,_,i+1,v,.cons _ r,e=>by
  obtain⟨p,h1,h2⟩:=PlsAt.get (i:=i) (v:=v) r (by simpa using e)
  exact⟨p,by simpa using h1,h2⟩
theorem PlsAt.last {H:Hp} : ∀ {vs:List V} {ps:List Pl} {y:Pl},PlsAt H vs (ps ++ [y]) -> ∃ws v,vs=ws ++ [v]/\PlsAt H ws ps/\PlAt H v y:=by
 intro vs ps
 induction ps generalizing vs with
 | nil =>
  intro y h
  cases h with
  | cons a r=>cases r;exact⟨[],_,rfl,.nil,a⟩
 | cons p r ih =>
  intro y h
  cases h with
  | cons a t =>
   obtain⟨ws,v,rfl,h1,h2⟩:=ih t
   exact⟨_::ws,v,rfl,.cons a h1,h2⟩
theorem PlsAt.den {K:PySem.W.Frag} {H:Hp} {vs:List V} {ps:List Pl} (h:PlsAt H vs ps):DenL K H (ps.map pairD) vs:=by
 induction h with
 | nil=>exact .nil
 | cons a _ ih=>obtain⟨b,e,q⟩:=a;subst e;exact .cons (.tuple (SqT.of q) (.cons .int (.cons .int .nil))) ih
inductive RT (N:Pl->List Pl) (a:Pl):Pl->Prop
 | refl:RT N a a
 | step {b c:Pl}:RT N a b->c∈N b->RT N a c
theorem RT.trans {N:Pl->List Pl} {a b c:Pl} (h1:RT N a b) (h2:RT N b c):RT N a c:=by
 induction h2 with
 | refl=>exact h1
 | step _ hc ih=>exact .step ih hc
theorem RT.back {N M:Pl->List Pl} (h : ∀p q,q∈N p↔p∈M q) {a b:Pl} (r:RT N a b):RT M b a:=by
 induction r with
 | refl=>exact .refl
 | step _ hc ih=>exact (RT.step .refl ((h _ _).mp hc)).trans ih
theorem RT.within {N:Pl->List Pl} {U:List Pl} {a b:Pl} (hc : ∀p∈U,∀q∈N p,q∈U) (ha:a∈U) (r:RT N a b):b∈U:=by
 induction r with
 | refl=>exact ha
 | step _ h ih=>exact hc _ ih _ h
def NexT (H:Hp) (nd:Addr) (N:Pl->List Pl):Prop := ∃kvs:List (List Key×V),H nd=some (.dT kvs) /\ ∀p:Pl,(valV kvs (plK p)=none/\N p = []) \/ ∃c vs,valV kvs (plK p)=some (.ref c)/\H c=some (.lst vs)/\PlsAt H vs (N p)
theorem NexT.mono {H H':Hp} {nd:Addr} {N:Pl->List Pl} (h:NexT H nd N) (e:Ext [] H H'):NexT H' nd N:=by
 obtain⟨kvs,h1,h2⟩:=h
 refine⟨kvs,e _ _ (by simp) h1,fun p => ?_⟩
 rcases h2 p with z | ⟨c,vs,c1,c2,c3⟩
 ·exact .inl z
 ·exact .inr ⟨c,vs,c1,e _ _ (by simp) c2,c3.mono e.tk⟩
def trueD (ks:List Pl):List (List Key×V):=ks.map fun p=>(plK p,V.bl true)
theorem qF6 (y:Pl) : ∀ks:List Pl,valV (trueD ks) (plK y)=if y∈ks then some (V.bl true) else none
 | []=>rfl
 | k::r=>by
  have ih:=qF6 y r
  unfold trueD at ih ⊢
  by_cases e:k=y
  ·subst e
   rw [List.map_cons,qBi rfl,if_pos (List.mem_cons_self ..)]
  ·rw [List.map_cons,qBj (fun z=>e (qLn z)),ih]
   have:(y∈k::r)↔y∈r:=by simp [Ne.symm e]
   simp only [this]
def qSw (K:PySem.W.Frag):Sp:=fun vs H Q _ => ∃(st nd:Addr) (svs:List V) (starts U:List Pl) (N:Pl->List Pl),vs = [.ref st,.ref nd]/\SqL K H st svs/\PlsAt H svs starts/\NexT H nd N/\(∀s∈starts,s∈U)/\(∀p∈U,∀q∈N p,q∈U)/\(∀p,(N p).length<=8000)/\U.length<=500/\starts.length<=8000 /\
 ∀(d:Addr) (ks:List Pl) (H':Hp),H d=none->Ext [] H H'->H' d=some (.dT (trueD ks))->ks.Nodup->(∀x,x∈ks ↔ ∃s∈starts,RT N s x)->Q (.ref d) H'
def dword:Deed->Str
 | .set _ _ => "set"
 | .add _ _ => "add"
 | .tell _ => "tell"
 | .call _ => "call"
 | .save _ => "save"
 | .back _ => "back"
def dargs:Deed->List Int
 | .set b n =>[b,n]
 | .add b o =>[b,o]
 | .tell b =>[b]
 | .call b =>[b]
 | .save b =>[b]
 | .back b =>[b]
def darg:Deed->Int
 | .set b _=>b
 | .add b _=>b
 | .tell b=>b
 | .call b=>b
 | .save b=>b
 | .back b=>b
theorem deed_is (d:Deed):deedD d = .tuple (.str (dword d)::(dargs d).map .int):=by cases d <;> rfl
theorem qO1 (d:Deed) : ∃r,dargs d=darg d::r:=by cases d <;> exact⟨_,rfl⟩
theorem qKp (d:Deed):1<=(dargs d).length/\(dargs d).length<=2:=by cases d <;> simp [dargs]
theorem deed_in (d:Deed):inV (V.str (dword d)) [V.str "set",.str "add"]=(wr d).isSome:=by cases d <;> first | rfl | (show inV (V.str _) _=_;simp only [dword,wr];decide)
theorem deed_wr (d:Deed) (h:(wr d).isSome=true):wr d=some (darg d):=by cases d <;> first | rfl | cases h
def wrB (x:Int) (d:Deed):Bool:=(wr d).isSome&&decide (darg d=x)
def qMy:Deed->Bool
 | .add _ _=>true
 | .tell _=>true
 | _=>false
theorem qQc (d:Deed):inV (V.str (dword d)) [V.str "add",.str "tell"]=qMy d:=by cases d <;> first | rfl | (show inV (V.str _) _=_;simp only [dword,qMy];decide)
def rdB (x:Int) (d:Deed):Bool:=qMy d&&decide (x∈dargs d)
def KTup (K:PySem.W.Frag) (wa:Addr) (xs:List V):Prop := ∃(o:Obj) (its:Array Value) (n:Nat),K.lookup wa=some o/\o.cls = .type "tuple" /\ o.data = .seq its n/\its.size<=sizeLine/\Vals xs its.toList
abbrev Writing (K:PySem.W.Frag) (wa:Addr):Prop:=KTup K wa [V.str "set",.str "add"]
abbrev qQx (K:PySem.W.Frag) (wa:Addr):Prop:=KTup K wa [V.str "add",.str "tell"]
def qCf (φ : Int->Deed->Bool) (K:PySem.W.Frag):Sp:=fun vs H Q _ => ∃(v:V) (d:Deed) (x:Int),vs = [v,.int x]/\Den K H (deedD d) v /\ ∀H',Ext [] H H'->Q (.bl (φ x d)) H'
def till (x:Int):List Deed->List Deed
 | [] =>[]
 | d::r=>if wrB x d=true then [d] else d::till x r
def wrote (x:Int) (ds:List Deed):Bool:=ds.any (wrB x)
def qC5:Deed->Option Int
 | .call c=>some c
 | _=>none
def qHz (d:Deed):Bool:=(qC5 d).isSome
theorem qKo (d:Deed):decide (dword d = "call")=qHz d:=by
 cases d with
 | call c=>exact decide_eq_true rfl
 | set _ _=>exact decide_eq_false (show ¬("set" : Str) = "call" by decide)
 | add _ _=>exact decide_eq_false (show ¬("add" : Str) = "call" by decide)
 | tell _=>exact decide_eq_false (show ¬("tell" : Str) = "call" by decide)
 | save _=>exact decide_eq_false (show ¬("save" : Str) = "call" by decide)
 | back _=>exact decide_eq_false (show ¬("back" : Str) = "call" by decide)
theorem qQk (d:Deed) (h:qHz d=true):qC5 d=some (darg d):=by cases d <;> first | rfl | cases h
theorem qDp (x:Int) : ∀ds:List Deed,(till x ds).length<=ds.length
 | []=>Nat.le_refl _
 | d::r=>by
  unfold till
  split
  ·simp
  ·have:=qDp x r;simp;omega
theorem qMb {x:Int} {d:Deed} : ∀ {ds:List Deed},d∈till x ds->d∈ds
 | [],h=>h
 | e::r,h=>by
  unfold till at h
  split at h
  ·rw [List.mem_singleton.mp h];exact List.mem_cons_self ..
  ·rcases List.mem_cons.mp h with z | z
   ·rw [z];exact List.mem_cons_self ..
   ·exact List.mem_cons_of_mem _ (qMb z)
theorem qH8 {x:Int} : ∀ {ds:List Deed} {i:Nat} {d:Deed},(∀e∈ds.take i,wrB x e=false)->ds[i]? = some d->wrB x d=true->till x ds=ds.take (i+1)
 | [],i,d,_,h,_=>by simp at h
 | e::r,0,d,_,h,hw=>by
  simp at h;subst h
  unfold till;rw [if_pos hw];rfl
 | e::r,i+1,d,ha,h,hw=>by
  unfold till
  rw [if_neg (by rw [ha e (by simp)];exact Bool.false_ne_true),List.take_succ_cons]
  rw [qH8 (i:=i) (d:=d) (fun f hf=>ha f (by simp [hf])) (by simpa using h) hw]
theorem qJh {x:Int} : ∀ {ds:List Deed},(∀e∈ds,wrB x e=false)->till x ds=ds
 | [],_=>rfl
 | e::r,h=>by
  unfold till
  rw [if_neg (by rw [h e (by simp)];exact Bool.false_ne_true),qJh fun f hf=>h f (by simp [hf])]
abbrev qC7 (ws:List (List Blk)):PyData :=.list (ws.map workD)
def blkAt (ws:List (List Blk)) (p:Pl):Option Blk:=if 0<=p.1/\0<=p.2 then (ws[p.1.toNat]?).bind fun w=>w[p.2.toNat]? else none
def qH2 (x:Int) (b:Blk):List Pl:=((till x b.ds).filterMap qC5).map fun c=>(c,0)
def metB (x n:Int) (b:Blk):List Pl:=qH2 x b++(if wrote x b.ds=true then [] else b.ns.map fun t=>(n,t))
def metOf (ws:List (List Blk)) (x:Int) (p:Pl):List Pl:=match blkAt ws p with
 | none =>[]
 | some b=>metB x p.1 b
def readB (x:Int) (b:Blk):Bool:=(till x b.ds).any (rdB x)
def qBv (ws:List (List Blk)) (x:Int) (p:Pl):Bool:=match blkAt ws p with
 | none=>false
 | some b=>readB x b
def Asks (ws:List (List Blk)) (x:Int) (p:Pl):Prop := ∃q,RT (metOf ws x) p q/\qBv ws x q=true
structure WsOk (ws:List (List Blk)):Prop where
 all : ∀w∈ws,∃m:Int,1<=m/\m<=12/\WorkOk m (ws.length:Int) w
 one:1<=ws.length
 few:ws.length<=25
theorem qCi (ws:List (List Blk)) (n a:Nat):blkAt ws ((n:Int),(a:Int))=(ws[n]?).bind fun w=>w[a]? :=by
 unfold blkAt
 rw [if_pos ⟨by omega,by omega⟩];rfl
theorem qFp {ws:List (List Blk)} {p:Pl} {b:Blk} (h:blkAt ws p=some b) : ∃(n a:Nat) (w:List Blk),p=((n:Int),(a:Int))/\ws[n]? = some w/\w[a]? = some b:=by
 unfold blkAt at h
 split at h
 ·rename_i hp
  cases e:ws[p.1.toNat]? with
  | none=>rw [e] at h;cases h
  | some w =>
   rw [e] at h
   refine⟨p.1.toNat,p.2.toNat,w,?_,e,h⟩
   rw [Int.toNat_of_nonneg hp.1,Int.toNat_of_nonneg hp.2]
 ·cases h
def places (ws:List (List Blk)):List Pl:=(List.range ws.length).flatMap fun (n:Nat)=>(List.range ((ws[n]?).getD []).length).map fun (a:Nat)=>((n:Int),(a:Int))
theorem mem_places {ws:List (List Blk)} {p:Pl}:p∈places ws ↔ ∃b,blkAt ws p=some b:=by
 unfold places
 rw [List.mem_flatMap]
 constructor
 ·rintro⟨n,hn,hp⟩
  obtain⟨a,ha,rfl⟩:=List.mem_map.mp hp
  rw [qCi]
  have hn:=List.mem_range.mp hn
  have ha:=List.mem_range.mp ha
  rw [List.getElem?_eq_getElem hn] at ha ⊢
  exact⟨_,List.getElem?_eq_getElem ha⟩
 ·rintro⟨b,hb⟩
  obtain⟨n,a,w,rfl,hw,ha⟩:=qFp hb
  refine⟨n,List.mem_range.mpr (List.getElem?_eq_some_iff.mp hw).1,List.mem_map.mpr ⟨a,List.mem_range.mpr ?_,rfl⟩⟩
  rw [hw]
  exact (List.getElem?_eq_some_iff.mp ha).1
theorem WsOk.blk {ws:List (List Blk)} (h:WsOk ws) {p:Pl} {b:Blk} (hb:blkAt ws p=some b) : ∃(m:Int) (n:Nat) (w:List Blk),p.1=(n:Int)/\ws[n]? = some w/\(w.length:Int)=m/\1<=m/\m<=12/\BlkOk m (ws.length:Int) b:=by
 obtain⟨n,a,w,rfl,hw,ha⟩:=qFp hb
 obtain⟨m,h1,h2,h3⟩:=h.all w (List.mem_of_getElem? hw)
 exact⟨m,n,w,rfl,hw,h3.len,h1,h2,h3.blk b (List.mem_of_getElem? ha)⟩
theorem qPo {ws:List (List Blk)} (h:WsOk ws) {x:Int} {p q:Pl} (hq:q∈metOf ws x p):q∈places ws:=by
 unfold metOf at hq
 split at hq
 ·cases hq
 ·rename_i b hb
  obtain⟨m,n,w,hp,hw,hm,hm1,hm2,hbok⟩:=h.blk hb
  unfold metB at hq
  rcases List.mem_append.mp hq with z | z
  ·unfold qH2 at z
   obtain⟨c,hc,rfl⟩:=List.mem_map.mp z
   obtain⟨d,hd,e⟩:=List.mem_filterMap.mp hc
   have hdok:=hbok.ds d (qMb hd)
   have hcc:0<=c/\c<(ws.length:Int):=by
    cases d with
    | call c'=>cases e;exact hdok
    | set _ _=>cases e
    | add _ _=>cases e
    | tell _=>cases e
    | save _=>cases e
    | back _=>cases e
   obtain⟨k,rfl⟩:=Int.eq_ofNat_of_zero_le hcc.1
   have hk:k<ws.length:=by omega
   refine mem_places.mpr ?_
   have:=qCi ws k 0
   show ∃b,blkAt ws ((k:Int),((0:Nat):Int))=some b
   rw [this,List.getElem?_eq_getElem hk]
   obtain⟨m',g1,g2,g3⟩:=h.all ws[k] (List.getElem_mem hk)
   have g4:=g3.len
   exact⟨_,List.getElem?_eq_getElem (by omega)⟩
  ·split at z
   ·cases z
   ·obtain⟨t,ht,rfl⟩:=List.mem_map.mp z
    have hr:=hbok.ns.range t ht
    obtain⟨k,rfl⟩:=Int.eq_ofNat_of_zero_le (show 0<=t by omega)
    refine mem_places.mpr ?_
    rw [hp,qCi,hw]
    exact⟨_,List.getElem?_eq_getElem (by omega)⟩
theorem qLu {ws:List (List Blk)} (h:WsOk ws) (x:Int) (p:Pl):(metOf ws x p).length<=22:=by
 unfold metOf
 split
 ·exact Nat.zero_le _
 ·rename_i b hb
  obtain⟨m,n,w,hp,hw,hm,hm1,hm2,hbok⟩:=h.blk hb
  unfold metB qH2
  have h1:=List.length_filterMap_le qC5 (till x b.ds)
  have h2:=qDp x b.ds
  have h3:=hbok.few
  have h4:=hbok.ns.few
  rw [List.length_append,List.length_map]
  split
  ·simp;omega
  ·rw [List.length_map];omega
theorem qHq {ws:List (List Blk)} (h:WsOk ws):(places ws).length<=300:=by
 unfold places
 have key : ∀l:List Nat,(∀n∈l,n<ws.length)->(l.flatMap fun (n:Nat)=>(List.range ((ws[n]?).getD []).length).map fun (a:Nat)=>((n:Int),(a:Int))).length<=12*l.length:=by
  intro l
  induction l with
  | nil=>intro _;exact Nat.le_refl _
  | cons n r ih =>
   intro hl
   rw [List.flatMap_cons,List.length_append,List.length_map,List.length_range,List.length_cons]
   have h1:=ih fun m hm=>hl m (List.mem_cons_of_mem _ hm)
   have hn:=hl n (List.mem_cons_self ..)
   rw [List.getElem?_eq_getElem hn]
   obtain⟨m',g1,g2,g3⟩:=h.all ws[n] (List.getElem_mem hn)
   have g4:=g3.len
   show ws[n].length+_<=_
   omega
 have h1:=key (List.range ws.length) fun n hn=>List.mem_range.mp hn
 rw [List.length_range] at h1
 have:=h.few
 omega
def qIi (K:PySem.W.Frag):Sp:=fun vs H Q _ => ∃(wa:Addr) (ws:List (List Blk)) (n b:Nat) (x:Int),vs = [.ref wa,.int n,.int b,.int x]/\Den K H (qC7 ws) (.ref wa)/\WsOk ws/\((n:Int),(b:Int))∈places ws /\
 ∀(l:Addr) (us:List V) (H':Hp),H l=none->Ext [] H H'->H' l=some (.lst us)->PlsAt H' us (metOf ws x ((n:Int),(b:Int)))->Q (.ref l) H'
structure NexK (H:Hp) (nd:Addr) (N:Pl->List Pl) (ok:Addr->Prop) (k:Nat) (kvs:List (List Key×V)):Prop where
 at_:H nd=some (.dT kvs)
 few:kvs.length<=k
 all : ∀p:Pl,(valV kvs (plK p)=none/\N p = []) \/ ∃c vs,valV kvs (plK p)=some (.ref c)/\ok c/\H c=some (.lst vs)/\PlsAt H vs (N p)
 one : ∀(p q:Pl) (c:Addr),valV kvs (plK p)=some (.ref c)->valV kvs (plK q)=some (.ref c)->p=q
def NexB (H:Hp) (nd:Addr) (N:Pl->List Pl) (ok:Addr->Prop) (k:Nat):Prop := ∃kvs,NexK H nd N ok k kvs
theorem NexK.mono {H H':Hp} {nd:Addr} {N:Pl->List Pl} {ok:Addr->Prop} {ts:List Addr} {k:Nat} {kvs:List (List Key×V)} (h:NexK H nd N ok k kvs) (e:Ext ts H H') (hn:nd∉ts) (ht : ∀t∈ts,¬ok t) (tk:TK H H'):NexK H' nd N ok k kvs:=by
 refine⟨e _ _ hn h.at_,h.few,fun p => ?_,h.one⟩
 rcases h.all p with z | ⟨c,vs,h1,h2,h3,h4⟩
 ·exact .inl z
 ·exact .inr ⟨c,vs,h1,h2,e _ _ (fun z=>ht c z h2) h3,h4.mono tk⟩
theorem NexB.mono {H H':Hp} {nd:Addr} {N:Pl->List Pl} {ok:Addr->Prop} {ts:List Addr} {k:Nat} (h:NexB H nd N ok k) (e:Ext ts H H') (hn:nd∉ts) (ht : ∀t∈ts,¬ok t) (tk:TK H H'):NexB H' nd N ok k:=let ⟨kvs,z⟩:=h;⟨kvs,z.mono e hn ht tk⟩
theorem NexB.toT {H:Hp} {nd:Addr} {N:Pl->List Pl} {ok:Addr->Prop} {k:Nat} (h:NexB H nd N ok k):NexT H nd N:=by
 obtain⟨kvs,z⟩:=h
 refine⟨kvs,z.at_,fun p => ?_⟩
 rcases z.all p with y | ⟨c,vs,h1,_,h3,h4⟩
 ·exact .inl y
 ·exact .inr ⟨c,vs,h1,h3,h4⟩
def snocN (N:Pl->List Pl) (q p:Pl):Pl->List Pl:=fun r=>if r=q then N r ++ [p] else N r
theorem NexK.app {H:Hp} {nd c pt:Addr} {N:Pl->List Pl} {ok:Addr->Prop} {k:Nat} {kvs:List (List Key×V)} {q p:Pl} {vs:List V} (h:NexK H nd N ok k kvs) (hc:valV kvs (plK q)=some (.ref c)) (hv:H c=some (.lst vs)) (hp:PlsAt H vs (N q)) (ht:H pt=some (.tup [.int p.1,.int p.2])) :
  NexK (upd H c (.lst (vs ++ [.ref pt]))) nd (snocN N q p) ok k kvs:=by
 have tk:TK H (upd H c (.lst (vs ++ [.ref pt]))) :=.put (by intro ys z;rw [hv] at z;cases z)
 have nc:nd≠c:=qFy h.at_ hv (by intro z;cases z)
 refine⟨by rw [qA4 nc];exact h.at_,h.few,fun r => ?_,h.one⟩
 unfold snocN
 by_cases hr:r=q
 ·subst hr
  rw [if_pos rfl]
  have hcx:ok c:=by
   rcases h.all r with z | ⟨c',_,h1,h2,_⟩
   ·rw [z.1] at hc;cases hc
   ·rw [h1] at hc;cases hc;exact h2
  exact .inr ⟨c,vs ++ [.ref pt],hc,hcx,qA1,(hp.mono tk).append (.one (tk _ _ ht))⟩
 ·rw [if_neg hr]
  rcases h.all r with z | ⟨c',vs',h1,h2,h3,h4⟩
  ·exact .inl z
  ·have n:c'≠c:=fun z=>hr (h.one r q c (z▸h1) hc)
   exact .inr ⟨c',vs',h1,h2,by rw [qA4 n];exact h3,h4.mono tk⟩
theorem NexK.new {H:Hp} {nd e0:Addr} {N:Pl->List Pl} {ok:Addr->Prop} {k:Nat} {kvs:List (List Key×V)} {q:Pl} (h:NexK H nd N ok k kvs) (hn:valV kvs (plK q)=none) (he:H e0=some (.lst [])) (hx:ok e0) (hf : ∀(p:Pl) (c:Addr),valV kvs (plK p)=some (.ref c)->c≠e0) :
  NexK (upd H nd (.dT (putK kvs (plK q) (.ref e0)))) nd N ok (k+1) (putK kvs (plK q) (.ref e0)):=by
 have tk:TK H (upd H nd (.dT (putK kvs (plK q) (.ref e0)))) :=.put (by intro ys z;rw [h.at_] at z;cases z)
 have hN:N q = []:=by
  rcases h.all q with z | ⟨c,vs,h1,_⟩
  ·exact z.2
  ·rw [h1] at hn;cases hn
 have ne0:e0≠nd:=qFy he h.at_ (by intro z;cases z)
 refine⟨qA1,by have:=qBh kvs (plK q) (V.ref e0);have:=h.few;omega,fun r => ?_,fun r s c hr hs => ?_⟩
 ·by_cases hr:r=q
  ·subst hr
   exact .inr ⟨e0,[],by rw [qEn,if_pos rfl],hx,by rw [qA4 ne0];exact he,by rw [hN];exact .nil⟩
  ·rw [qEn,if_neg (fun z=>hr (qLn z))]
   rcases h.all r with z | ⟨c,vs,h1,h2,h3,h4⟩
   ·exact .inl z
   ·exact .inr ⟨c,vs,h1,h2,by rw [qA4 (qFy h3 h.at_ (by intro z;cases z))];exact h3,h4.mono tk⟩
 ·rw [qEn] at hr hs
  by_cases h1:plK r=plK q
  ·by_cases h2:plK s=plK q
   ·exact qLn (h1.trans h2.symm)
   ·rw [if_pos h1] at hr;rw [if_neg h2] at hs
    cases hr
    exact absurd rfl (hf s e0 hs)
  ·rw [if_neg h1] at hr
   by_cases h2:plK s=plK q
   ·rw [if_pos h2] at hs
    cases hs
    exact absurd rfl (hf r e0 hr)
   ·rw [if_neg h2] at hs
    exact h.one r s c hr hs
def qB4 (ws:List (List Blk)) (x:Int) (ps:List Pl) (q:Pl):List Pl:=ps.flatMap fun p=>((metOf ws x p).filter fun r=>decide (r=q)).map fun _=>p
def qBa (ws:List (List Blk)) (x:Int) (ps:List Pl) (p:Pl) (ms:List Pl) (q:Pl):List Pl:=qB4 ws x ps q++(ms.filter fun r=>decide (r=q)).map fun _=>p
theorem qJ7 (ws:List (List Blk)) (x:Int) (ps:List Pl) (p:Pl) (ms:List Pl) (r:Pl):qBa ws x ps p (ms ++ [r])=snocN (qBa ws x ps p ms) r p:=by
 funext q
 unfold qBa snocN
 rw [List.filter_append,List.map_append,<-List.append_assoc]
 by_cases h:q=r
 ·subst h;simp
 ·simp [h,Ne.symm h]
theorem qL4 (ws:List (List Blk)) (x:Int) (ps:List Pl) (p:Pl):qBa ws x ps p []=qB4 ws x ps:=by
 funext q;unfold qBa;simp
theorem qJ8 (ws:List (List Blk)) (x:Int) (ps:List Pl) (p:Pl):qBa ws x ps p (metOf ws x p)=qB4 ws x (ps ++ [p]):=by
 funext q;unfold qBa qB4;rw [List.flatMap_append];simp
theorem mem_behind {ws:List (List Blk)} {x:Int} {ps:List Pl} {p q:Pl}:p∈qB4 ws x ps q↔p∈ps/\q∈metOf ws x p:=by
 unfold qB4
 rw [List.mem_flatMap]
 constructor
 ·rintro⟨p',hp',h⟩
  obtain⟨r,hr,rfl⟩:=List.mem_map.mp h
  obtain⟨h1,h2⟩:=List.mem_filter.mp hr
  have:=of_decide_eq_true h2
  subst this
  exact⟨hp',h1⟩
 ·rintro⟨h1,h2⟩
  exact⟨p,h1,List.mem_map.mpr ⟨q,List.mem_filter.mpr ⟨h2,decide_eq_true rfl⟩,rfl⟩⟩
theorem qS7 {ws:List (List Blk)} {x:Int} {p q:Pl} (h:q∈metOf ws x p):p∈places ws:=by
 refine mem_places.mpr ?_
 unfold metOf at h
 split at h
 ·cases h
 ·rename_i b hb;exact⟨b,hb⟩
theorem qFq {ws:List (List Blk)} (h:WsOk ws) (x:Int) (q:Pl) : ∀ps:List Pl,(qB4 ws x ps q).length<=22*ps.length
 | []=>Nat.le_refl _
 | p::r=>by
  have ih:=qFq h x q r
  unfold qB4 at ih ⊢
  rw [List.flatMap_cons,List.length_append,List.length_map,List.length_cons]
  have h1:=List.length_filter_le (fun r=>decide (r=q)) (metOf ws x p)
  have h2:=qLu h x p
  omega
theorem qQt {ws:List (List Blk)} {x:Int} {p:Pl}:(∃s∈(places ws).filter (qBv ws x),RT (qB4 ws x (places ws)) s p)↔Asks ws x p:=by
 have h1 : ∀p q,q∈metOf ws x p↔p∈qB4 ws x (places ws) q:=fun p q=>by
  rw [mem_behind]
  exact⟨fun h=>⟨qS7 h,h⟩,fun h=>h.2⟩
 have h2 : ∀p q,q∈qB4 ws x (places ws) p↔p∈metOf ws x q:=fun p q=>(h1 q p).symm
 constructor
 ·rintro⟨s,hs,r⟩
  exact⟨s,r.back h2,(List.mem_filter.mp hs).2⟩
 ·rintro⟨q,r,hq⟩
  refine⟨q,List.mem_filter.mpr ⟨mem_places.mpr ?_,hq⟩,r.back h1⟩
  unfold qBv at hq
  split at hq
  ·cases hq
  ·rename_i b hb;exact⟨b,hb⟩
def qLe (K:PySem.W.Frag):Sp:=fun vs H Q _ => ∃(wa:Addr) (ws:List (List Blk)) (x:Int),vs = [.ref wa,.int x]/\Den K H (qC7 ws) (.ref wa)/\WsOk ws /\
 ∀(d:Addr) (ks:List Pl) (H':Hp),H d=none->Ext [] H H'->H' d=some (.dT (trueD ks))->ks.Nodup->(∀p,p∈ks↔Asks ws x p)->Q (.ref d) H'
def qUq (X:Cx) (own:List Str) (cap:List Nat) (scope:Scope) (y:Str) (cl:List (Str×Addr)) (s:Shared) (H:Hp) (ex:List Addr):Cx :=
 { qAh X own cap scope ((y,s.heap.objs.size+1)::cl) s H ex with fn:=fun x=>x == y }
theorem qFn {X:Cx} {own:List Str} {cap:List Nat} {scope:Scope} {y:Str} {cl:List (Str×Addr)} {s:Shared} {H:Hp} {ex:List Addr}:(qUq X own cap scope y cl s H ex).K=X.K:=rfl
noncomputable def askB (ws:List (List Blk)) (x:Int) (p:Pl):Bool :=@decide (Asks ws x p) (Classical.propDecidable _)
theorem askB_iff {ws:List (List Blk)} {x:Int} {p:Pl}:askB ws x p=true↔Asks ws x p:=by unfold askB;exact @decide_eq_true_iff _ (Classical.propDecidable _)
theorem qDn (x:Int) (ds:List Deed) (d:Deed):wrote x (ds ++ [d])=(wrote x ds||wrB x d):=by unfold wrote;simp
theorem qGa {x:Int} {ds:List Deed} (h:wrote x ds=false) : ∀e∈ds,wrB x e=false:=by
 unfold wrote at h
 intro e he
 have:=List.any_eq_false.mp h e he
 simpa using this
theorem qD4 {x:Int} {d:Deed} : ∀ {ds:List Deed},wrote x ds=false->till x (ds ++ [d])=till x ds ++ [d]
 | [],_=>by
  show (if wrB x d=true then [d] else d::till x []) = [d]
  split <;> rfl
 | e::r,h=>by
  have h1:=qGa h e (by simp)
  have h2:wrote x r=false:=by unfold wrote at h ⊢;simp at h ⊢;exact h.2
  simp only [List.cons_append,till]
  rw [if_neg (by rw [h1];exact Bool.false_ne_true),if_neg (by rw [h1];exact Bool.false_ne_true),qD4 h2];rfl
theorem qD3 {x:Int} : ∀ {ds es:List Deed},wrote x ds=true->till x (ds++es)=till x ds
 | [],es,h=>by cases h
 | e::r,es,h=>by
  simp only [List.cons_append,till]
  by_cases hw:wrB x e=true
  ·rw [if_pos hw,if_pos hw]
  ·have h2:wrote x r=true:=by
    unfold wrote at h ⊢
    rw [List.any_cons] at h
    rw [Bool.eq_false_iff.mpr hw,Bool.false_or] at h
    exact h
   rw [if_neg hw,if_neg hw,qD3 h2]
theorem qR5 {x:Int} {ds:List Deed} {j:Nat} {d:Deed} (h:wrote x (ds.take j)=false) (hd:ds[j]? = some d):d∈till x ds:=by
 have e:ds=(ds.take j ++ [d])++ds.drop (j+1):=by
  rw [<-qAu hd,List.take_append_drop]
 have h1:=qD4 (d:=d) h
 by_cases hw:wrB x d=true
 ·have h2:wrote x (ds.take j ++ [d])=true:=by rw [qDn,h,hw];rfl
  rw [e,qD3 h2,h1]
  simp
 ·have all : ∀(as bs:List Deed),wrote x as=false -> ∀f∈as,f∈till x (as++bs):=by
   intro as bs
   induction as with
   | nil=>intro _ f hf;cases hf
   | cons a r ih =>
    intro ha f hf
    have h3:=qGa ha a (by simp)
    have h4:wrote x r=false:=by unfold wrote at ha ⊢;simp at ha ⊢;exact ha.2
    simp only [List.cons_append,till]
    rw [if_neg (by rw [h3];exact Bool.false_ne_true)]
    rcases List.mem_cons.mp hf with z | z
    ·rw [z];exact List.mem_cons_self ..
    ·exact List.mem_cons_of_mem _ (ih h4 f z)
  have h2:wrote x (ds.take j ++ [d])=false:=by rw [qDn,h,Bool.eq_false_iff.mpr hw];rfl
  rw [e]
  exact all _ _ h2 d (by simp)
theorem qIz (ps:List (Int×Int)):PyData.eqv (qHt ps) (.list [])=decide (ps = []):=by
 cases ps with
 | nil=>rfl
 | cons p r=>rfl
def qGg (K:PySem.W.Frag):Sp:=fun vs H Q _ => ∃(wa:Addr) (ws:List (List Blk)) (n b:Nat) (x:Int),vs = [.ref wa,.int n,.int b,.int x]/\Den K H (qC7 ws) (.ref wa)/\WsOk ws/\((n:Int),(b:Int))∈places ws /\ ∀H',Ext [] H H'->Q (.bl (askB ws x ((n:Int),(b:Int)))) H'
section
variable {P:Program} {w:World} {A:Around} {E:Value->Shared->Prop} {s:Shared} {d:Addr}
theorem qIx:typeLookup (.type "dict") "__len__" = pure (some (.builtin "dict.__len__")):=F.slot_dict_len.lookup
theorem qJ3 {ks:List Int} {kvs:List (Key×Value)} {ep:Nat} {Q:List Value->Shared->Prop} (hh:A.handled=none) (hs:(d == sysModules)=false) (dd:s.heap.DictAt (qAp P w) d kvs ep) (hk:kvs.map (·.1)=ks.map Sum.inl) (hz:ks.length<=1000)
  (q : ∀(vs:List Value) (h':Heap) (tk:Nat),(∀b u,s.heap.get? b=some u->h'.get? b=some u)->s.heap.objs.size<=h'.objs.size->IntsAre vs ks->Q vs { s with heap:=h',toks:=tk }) :
  wpAny (model P w) A (collect (.ref d)) Q E s:=by
 have hkl:kvs.length=ks.length:=by have:=congrArg List.length hk;simpa using this
 unfold collect
 refine wpAny_bind (wpAny_runValue (codeAny_builtin F.entry_proto_collect ?_))
 rw [Around.under_plainId F.plain_proto_collect _]
 show wpAny _ A.in1 (newList [] >>= fun l=>again (.builtin "list.__iadd__" ⟨[l,.ref d],[]⟩)) _ _ s
 refine wpAny_bind (wpAny_newObj_type ?_)
 refine wpAny_pure ⟨plainId_quiet F.plain_list_iadd _,codeAny_builtin F.entry_list_iadd ?_⟩
 rw [Around.under_plainId F.plain_list_iadd _]
 have k1 : ∀b u,s.heap.get? b=some u->(s.heap.push { cls :=.type "list",data :=.seq ([]:List Value).toArray }).get? b=some u:=fun b u e=>Heap.get?_push_of_some _ e
 have dd1:=dd.at' (h':=s.heap.push { cls :=.type "list",data :=.seq ([]:List Value).toArray }) fun o e=>k1 d o e
 have hT:Shared.TypeIs { s with heap:=s.heap.push { cls :=.type "list",data :=.seq ([]:List Value).toArray } } (.ref d) "dict" :=dd1.dictOf.typeIs
 have haS:d<s.heap.objs.size:=by obtain⟨o,es,ho,_⟩:=dd;exact Heap.lt_size ho
 show wpAny _ A.in1 (Builtin.List.listExtendWith (.ref s.heap.objs.size) (.ref d) (.ref s.heap.objs.size)) _ _ _
 unfold Builtin.List.listExtendWith
 refine wpAny_bind (wpAny_typeOf hT ?_)
 have h1:Builtin.List.listSameRef (.ref s.heap.objs.size) (.ref d)=false:=by simp [Builtin.List.listSameRef];exact Nat.ne_of_gt haS
 have h2:(Value.type "dict" == Value.type "list")=false:=by decide
 have h3:(Value.type "dict" == Value.type "tuple")=false:=by decide
 simp only [h1,h2,h3,Bool.or_false,Bool.false_eq_true,if_false]
 refine wpAny_bind (wpAny_pyIter_dict hs dd1 ?_)
 rw [show ({ s with heap:=s.heap.push { cls :=.type "list",data :=.seq ([]:List Value).toArray } }:Shared).heap.objs.size=s.heap.objs.size+1 from Heap.size_push ..]
 have k2 : ∀b u,(s.heap.push { cls :=.type "list",data :=.seq ([]:List Value).toArray }).get? b=some u->((s.heap.push { cls :=.type "list",data :=.seq ([]:List Value).toArray }).push { cls :=.type "dict_keyiterator",data :=.fields #[.ref d,.int 0 0,.int kvs.length 0,.int ep 0] }).get? b=some u:=fun b u e=>Heap.get?_push_of_some _ e
 have hit:((s.heap.push { cls :=.type "list",data :=.seq ([]:List Value).toArray }).push { cls :=.type "dict_keyiterator",data :=.fields #[.ref d,.int 0 0,.int kvs.length 0,.int ep 0] }).IsKeyIter (s.heap.objs.size+1) d 0 kvs.length ep:=by
  have:=Heap.get?_push_size (h:=s.heap.push { cls :=.type "list",data :=.seq ([]:List Value).toArray }) (o :={ cls :=.type "dict_keyiterator",data :=.fields #[.ref d,.int 0 0,.int kvs.length 0,.int ep 0] }) rfl
  rw [Heap.size_push] at this
  exact⟨_,this,rfl,rfl⟩
 have dd2:=dd1.at' fun o e=>k2 d o e
 have hS1:=k2 _ _ (Heap.get?_push_size (h:=s.heap) (o :={ cls :=.type "list",data :=.seq ([]:List Value).toArray }) rfl)
 generalize (s.heap.push { cls :=.type "list",data :=.seq ([]:List Value).toArray }).push { cls :=.type "dict_keyiterator",data :=.fields #[.ref d,.int 0 0,.int kvs.length 0,.int ep 0] }=h' at k2 hit dd2 hS1 ⊢
 have hT':Shared.TypeIs { s with heap:=h' } (.ref d) "dict" :=dd2.dictOf.typeIs
 refine wpAny_bind (wpAny_holding ?_)
 unfold Builtin.List.listLengthHint
 refine wpAny_bind (wpAny_specialOf hT' qIx ?_)
 have hsp:splitId "dict.__len__" = some ("dict","__len__"):=by kernel_rfl
 dsimp only
 rw [hsp]
 dsimp only
 refine wpAny_bind (wpAny_isInstance (b:=true) hT' (by rw [isSubtype_type];kernel_rfl) ?_)
 rw [if_neg (by simp)]
 rw [if_pos (by decide +kernel)]
 refine wpAny_bind (wpAny_typeOf hT' (wpAny_pure ?_))
 rw [if_pos (by decide +kernel)]
 refine wpAny_bind (wpAny_rule ?_)
 refine wpAny_bind ?_
 show wpAny _ A.in1 (updateSeq s.heap.objs.size (·.push .none) >>= fun _=>updateSeq s.heap.objs.size (·.pop)) _ _ _
 refine wpAny_bind (wpAny_updateSeq (s :={ s with heap:=h' }) hS1 rfl ?_)
 have hS2:=Heap.get?_update_self (Obj.mapSeq (·.push Value.none)) hS1 rfl
 refine wpAny_updateSeq hS2 rfl ?_
 have hS3:=Heap.get?_update_self (Obj.mapSeq (·.pop)) hS2 rfl
 have oth : ∀b u,b≠s.heap.objs.size->h'.get? b=some u->((h'.update s.heap.objs.size (Obj.mapSeq (·.push Value.none))).update s.heap.objs.size (Obj.mapSeq (·.pop))).get? b=some u :=
  fun b u hb e=>(Heap.get?_update_other _ _ (Ne.symm hb)).trans ((Heap.get?_update_other _ _ (Ne.symm hb)).trans e)
 have hne:d≠s.heap.objs.size+1:=Nat.ne_of_lt (Nat.lt_succ_of_lt haS)
 have hSf:s.heap.objs.size ∉ [s.heap.objs.size+1,d]:=fun z=>by
  rcases List.mem_cons.mp z with z | z
  ·exact Nat.ne_of_lt (Nat.lt_succ_self _) z
  ·have:s.heap.objs.size=d:=by simpa using z
   exact Nat.ne_of_gt haS this
 have hzz:kvs.length<=sizeLine:=by rw [hkl,sizeLine_eq];omega
 have W:=(Walks.dictKeys (prog:=P) (w:=w) (A:=A.in1) (knd:=qAp P w) hh (s.heap.objs.size+1) d hne kvs ep).toS
 refine wpAny_pure ⟨plainId_quiet F.plain_extend_loop _,codeAny_extend_loopS W hzz _ hSf _ kvs.length 0 _ _ _ rfl (Nat.zero_le _) (W.frame 0 ({ s with heap:=h' }:Shared) _ s.toks ⟨hit,dd2⟩ (Nat.le_refl _) fun b hb u e=>oth b u (fun z=>hSf (z▸hb)) e) hS3 (ItemsOf.nil _) fun s' acc' c' hm hS' hacc => ?_⟩
 show wpAny _ A (load s.heap.objs.size >>= _) _ _ s'
 refine wpAny_bind (wpAny_load hS' (wpAny_pure ?_))
 obtain⟨h2,g2,d2,tk2,os2⟩:=s'
 have e1:g2=s.gens:=hm.gens
 have e2:d2=s.drawn:=hm.drawn
 have e3:os2=s.os:=hm.os
 subst e1;subst e2;subst e3
 refine q acc'.toList h2 tk2 (fun b u e => ?_) (Nat.le_of_lt (Heap.lt_size hS')) ?_
 ·have hlt:=Heap.lt_size e
  refine hm.heap b u (fun z => ?_) (oth b u (Nat.ne_of_lt hlt) (k2 b u (k1 b u e)))
  rcases List.mem_cons.mp z with z | z
  ·exact Nat.ne_of_lt hlt z
  ·have z2:b=s.heap.objs.size+1:=by simpa using z
   exact Nat.ne_of_lt (Nat.lt_succ_of_lt hlt) z2
 ·have hlen:acc'.toList.length=ks.length:=by rw [Array.length_toList,hacc.1,hkl]
  have hget : ∀(i:Nat) (v:Value),acc'.toList[i]? = some v -> ∃n t,ks[i]? = some n/\v = .int n t:=fun i v e=>by
   obtain⟨k,x,hkx,his⟩:=hacc.2 i v (by rw [<-Array.getElem?_toList];exact e)
   have h5:(kvs.map (·.1))[i]? = some k:=by rw [List.getElem?_map,hkx];rfl
   rw [hk,List.getElem?_map] at h5
   cases hn:ks[i]? with
   | none=>rw [hn] at h5;cases h5
   | some n =>
    rw [hn] at h5
    have h6:k=Sum.inl n:=(Option.some.inj h5).symm
    subst h6
    rcases qAz (show keyIs (Sum.inl n) v=true from his) with ⟨i',t,e1,e2⟩ | ⟨y,t,e1,e2⟩
    ·have e1:n=i':=by first | exact Sum.inl.inj e1 | exact Sum.inl.inj e2
     subst e1
     exact⟨n,t,rfl,by first | exact e2 | exact e1⟩
    ·first | exact nomatch e1 | exact nomatch e2
  have fin : ∀(ks:List Int) (vs:List Value),vs.length=ks.length->(∀(i:Nat) (v:Value),vs[i]? = some v -> ∃n t,ks[i]? = some n/\v = .int n t)->IntsAre vs ks:=by
   intro ks
   induction ks with
   | nil=>intro vs h _;have:vs = []:=List.length_eq_zero_iff.mp h;subst this;exact .nil
   | cons k r ih =>
    intro vs h hg
    cases vs with
    | nil=>cases h
    | cons v vr =>
     obtain⟨n,t,h1,rfl⟩:=hg 0 v rfl
     simp at h1
     subst h1
     exact .cons _ t (ih vr (by simpa using h) fun i v hv=>by simpa using hg (i+1) v (by simpa using hv))
  exact fin ks acc'.toList hlen hget
theorem qJl {ks:List Int} {kvs:List (Key×Value)} {ep:Nat} {Q:Value->Shared->Prop} (hh:A.handled=none) (hs:(d == sysModules)=false) (dd:s.heap.DictAt (qAp P w) d kvs ep) (hk:kvs.map (·.1)=ks.map Sum.inl) (h64:ks.length<64)
  (q : ∀(D:Addr) (out:Array Value) (c:Nat) (ns':List Int) (h':Heap) (tk:Nat),s.heap.objs.size<=D->h'.get? D=some { cls :=.type "list",data :=.seq out c }->(∀b u,s.heap.get? b=some u->h'.get? b=some u)->IntsAre out.toList ns'->ns'.Perm ks->ns'.Pairwise (· <= ·)->Q (.ref D) { s with heap:=h',toks:=tk }) :
  wpAny (model P w) A (call (.builtin "sorted") [.ref d]) Q E s:=by
 refine Calls.call_function_entry kind_sorted plain_sorted entry_sorted (args_sorted1 _) ?_
 unfold Builtin.«sorted»
 refine wpAny_bind (m:=checkCount "sorted" 1 1 _) (wpAny_pure ?_)
 refine wpAny_bind (qJ3 (A:=A.in1) hh hs dd hk (by omega) fun vs h' tk k hsz hI => ?_)
 have hvl:vs.length<64:=by rw [IntsAre.length hI];exact h64
 refine wpAny_bind (wpAny_newList ?_ (by rw [sizeLine_eq];omega))
 have hoL:(h'.push (seqObj "list" vs.toArray 0)).get? h'.objs.size=some (seqObj "list" vs.toArray 0):=Heap.get?_push_size _ rfl
 refine wpAny_bind (wpAny_holding (wpAny_call_entry slot_list_sort (s :={ s with heap:=h'.push (seqObj "list" vs.toArray 0),toks:=tk }) ⟨_,hoL,rfl⟩ entry_list_sort (list_sort_tree hoL hI hvl fun out ns' a1 a2 a3=>⟨_,rfl,?_⟩) (args_list_sort _)))
 obtain⟨⟨c,e1⟩,e2,_⟩:=qF7 (out:=out) hoL
 exact wpAny_pure ⟨_,rfl,q h'.objs.size out c ns' _ tk hsz e1 (fun b u e=>e2 b u (Nat.ne_of_lt (Heap.lt_size (k b u e))) (Heap.get?_push_of_some _ (k b u e))) a1 a2 a3⟩
end
section
variable {X:Cx}
def qVs:List V->Hp->VK->Prop:=fun xs H Q => ∃(d:Addr) (ks:List Int) (kvs:List (Key×V)),xs = [.ref d]/\H d=some (.dK kvs)/\kvs.map (·.1)=ks.map Sum.inl/\ks.length<64 /\ ∀(l:Addr) (ns':List Int),H l=none->ns'.Perm ks->ns'.Pairwise (· <= ·)->Q (.ref l) (upd H l (.lst (ns'.map V.int)))
theorem qI3 (hh:X.A.handled=none):CallR X (.builtin "sorted") qVs:=by
 intro pins s σ H xs us Q I r h
 obtain⟨d,ks,kvs,rfl,hq,hk,hz,q⟩:=h
 obtain⟨u,rfl,ru⟩:=vals1 r
 cases ru
 obtain⟨z,hs,vs,rel,o,es,ep,ho,h2,h3,h4⟩:=qH7 I.hok hq
 have dd:s.heap.DictAt (qAp X.prog X.w) d vs ep:=⟨o,es,ho,h2,h3,h4⟩
 refine qJl hh hs dd (by first | (rw [<-KV.keys rel];exact hk) | (rw [KV.keys rel] at hk;exact hk)) hz fun D out c ns' h' tk hD hget k a1 a2 a3 => ?_
 have hn:H D=none:=I.hok.fresh hD
 have rv':Vals (ns'.map V.int) out.toList:=qGc a1
 refine⟨.ref D,_,I.laid (t':=tk) (o :=.lst (ns'.map V.int)) k hD ⟨?_,out.toList,c,rv',by simpa using hget⟩,rfl,q _ ns' hn a2 a3⟩
 rw [List.length_map,a2.length_eq,sizeLine_eq];omega
def rSumI (K:PySem.W.Frag):List V->Hp->VK->Prop:=fun xs H Q => ∃(a:Addr) (ns:List Int),xs = [.ref a]/\SqL K H a (ns.map V.int)/\Q (.int ns.sum) H
theorem qKx (hh:X.A.handled=none):CallR X (.builtin "sum") (rSumI X.K):=by
 intro pins s σ H xs us Q I r h
 obtain⟨a,ns,rfl,hq,q⟩:=h
 obtain⟨u,rfl,ru⟩:=vals1 r
 cases ru
 obtain⟨its,rv,pl,_⟩:=I.list hq
 have hi:=qI0 rv
 obtain⟨xs,hx⟩:=hi.allInts.items
 have hl':s.heap.IsList a (intItems xs):=hx▸pl.isList
 refine sum_intListG hh hl' fun h' tk t' hk => ?_
 have e1:ns=xs.toList.map (·.1):=by
  rw [<-nums_intItems,<-hx]
  exact (show numsOf its.toArray.toList=ns from hi.numsOf).symm
 have e2:preSum (numAt xs) xs.size=ns.sum:=by rw [preSum_eq,List.take_of_length_le (by simp),e1]
 rw [e2]
 exact⟨.int ns.sum,H,I.kept (t':=tk) hk,⟨t',rfl⟩,q⟩
end
theorem sumK {X:Cx} (K:PySem.W.Frag) (hK:X.K=K) (hh:X.A.handled=none):CallR X (.builtin "sum") (rSumI K):=hK▸qKx hh
def qMf (K:PySem.W.Frag):Sp:=fun vs H Q _ => ∃(wa:Addr) (ws:List (List Blk)),vs = [.ref wa]/\Den K H (qC7 ws) (.ref wa)/\ws.length<=25/\(∀w∈ws,w.length<=12) /\ ∀(r:Int) (H':Hp),Ext [] H H'->Q (.int r) H'
def slimB (b:Blk):Blk:=⟨b.ds.take 2,b.ns⟩
def qHc (ws:List (List Blk)):List (List Blk):=ws.take 1++(ws.drop 1).map fun w=>w.map slimB
theorem qG2 (ws:List (List Blk)):(qHc ws).length=ws.length:=by unfold qHc;simp;omega
theorem qTo {ws:List (List Blk)} (h:WsOk ws):WsOk (qHc ws):=by
 refine⟨fun w hw => ?_,by rw [qG2];exact h.one,by rw [qG2];exact h.few⟩
 rw [qG2]
 unfold qHc at hw
 rcases List.mem_append.mp hw with z | z
 ·exact h.all w (List.mem_of_mem_take z)
 ·obtain⟨w0,hw0,rfl⟩:=List.mem_map.mp z
  obtain⟨m,h1,h2,h3⟩:=h.all w0 (List.mem_of_mem_drop hw0)
  refine⟨m,h1,h2,by rw [List.length_map];exact h3.len,fun b hb => ?_⟩
  obtain⟨b0,hb0,rfl⟩:=List.mem_map.mp hb
  have hb0:=h3.blk b0 hb0
  refine⟨hb0.ns,fun d hd=>hb0.ds d (List.mem_of_mem_take hd),?_⟩
  show (b0.ds.take 2).length<=20
  rw [List.length_take];omega
def Nex (H:Hp) (nd:Addr) (w:List Blk):Prop := ∃kvs:List (Key×V),H nd=some (.dK kvs) /\ ∀k:Int,0<=k->k<w.length -> ∃c,valV kvs (Sum.inl k)=some (.ref c)/\H c=some (.lst ((nxt w k).map V.int))
theorem Nex.mono {H H':Hp} {nd:Addr} {w:List Blk} (h:Nex H nd w) (e:Ext [] H H'):Nex H' nd w:=by
 obtain⟨kvs,h1,h2⟩:=h
 refine⟨kvs,e _ _ (by simp) h1,fun k k0 k1 => ?_⟩
 obtain⟨c,c1,c2⟩:=h2 k k0 k1
 exact⟨c,c1,e _ _ (by simp) c2⟩
def qSx (K:PySem.W.Frag):Sp:=fun vs H Q _ => ∃(st nd:Addr) (wk:List Blk) (m works:Int) (ss:List Int),vs = [.ref st,.ref nd]/\SqL K H st (ss.map V.int)/\Nex H nd wk/\WorkOk m works wk/\m<=12/\(∀s∈ss,0<=s/\s<m)/\ss.length<=500 /\
 ∀(d:Addr) (ks:List Int) (H':Hp),H d=none->Ext [] H H'->H' d=some (.dK (ks.map fun k=>((Sum.inl k:Key),V.bl true)))->ks.Nodup->(∀x,x∈ks ↔ ∃s∈ss,Reach (nxt wk) s x)->Q (.ref d) H'
theorem qL7 (y:Int) : ∀ks:List Int,valV (ks.map fun k=>((Sum.inl k:Key),V.bl true)) (Sum.inl y)=if y∈ks then some (V.bl true) else none
 | []=>rfl
 | k::r=>by
  have ih:=qL7 y r
  by_cases e:k=y
  ·subst e
   rw [List.map_cons,qBi rfl,if_pos (List.mem_cons_self ..)]
  ·rw [List.map_cons,qBj (fun z=>e (Sum.inl.inj z)),ih]
   have:(y∈k::r)↔y∈r:=by simp [Ne.symm e]
   simp only [this]
structure LedI (H:Hp) (st nd d du:Addr) (wk:List Blk) (ss:List Int) (ks due:List Int) (H':Hp):Prop where
 ext:Ext [] H H'
 hd:H' d=some (.dK (ks.map fun k=>((Sum.inl k:Key),V.bl true)))
 hdu:H' du=some (.lst (due.map V.int))
 nod:ks.Nodup
 rk : ∀x∈ks,∃s∈ss,Reach (nxt wk) s x
 rd : ∀x∈due,∃s∈ss,Reach (nxt wk) s x
 clo : ∀k∈ks,∀c∈nxt wk k,c∈ks\/c∈due
 one : ∀s∈ss,s∈ks\/s∈due
 few:ks.length<=cnt (fun x=>decide (x∈ks)) wk.length
 fewd:due.length<=500+2*cnt (fun x=>decide (x∈ks)) wk.length
def LedW (H:Hp) (st nd d du:Addr) (wk:List Blk) (ss:List Int) (μ : Nat) (σ':St) (H':Hp):Prop := ∃(ks due:List Int) (o4:Option V),μ = (wk.length - cnt (fun x=>decide (x∈ks)) wk.length)*3+due.length /\ σ' = [some (.ref st),some (.ref nd),some (.ref d),some (.ref du),o4]/\LedI H st nd d du wk ss ks due H'
theorem LedI.end_ {H H':Hp} {st nd d du:Addr} {wk:List Blk} {ss:List Int} {ks:List Int} (h:LedI H st nd d du wk ss ks [] H') (x:Int):x∈ks ↔ ∃s∈ss,Reach (nxt wk) s x:=by
 have key : ∀s∈ss,∀y,Reach (nxt wk) s y->y∈ks:=by
  intro s hs y r
  induction r with
  | refl=>exact (h.one s hs).elim id fun z=>absurd z (by simp)
  | step _ hc ih=>exact (h.clo _ ih _ hc).elim id fun z=>absurd z (by simp)
 exact⟨h.rk x,fun ⟨s,hs,r⟩=>key s hs x r⟩
def qMg (K:PySem.W.Frag):Sp:=fun vs H Q E=>qSx K vs H Q E\/qSw K vs H Q E
def hasW (wk:List Blk) (x:Int) (i:Nat):Bool:=(wk[i]?).any fun b=>wrote x b.ds
def wrTo (wk:List Blk) (x:Int) (i:Nat):List Int:=((List.range i).filter (hasW wk x)).map fun (n:Nat)=>(n:Int)
theorem qJe (wk:List Blk) (x:Int) (i:Nat):wrTo wk x (i+1)=if hasW wk x i=true then wrTo wk x i ++ [(i:Int)] else wrTo wk x i:=by
 unfold wrTo
 rw [List.range_succ,List.filter_append,List.filter_cons,List.filter_nil]
 split
 ·rw [List.map_append];rfl
 ·rw [List.append_nil]
theorem qC9 (wk:List Blk) (x:Int) (i:Nat):(wrTo wk x i).length<=i:=by
 unfold wrTo
 rw [List.length_map]
 have:=List.length_filter_le (hasW wk x) (List.range i)
 rw [List.length_range] at this
 exact this
theorem qQ8 {wk:List Blk} {x:Int} {i:Nat} {b:Blk} (h:wk[i]? = some b):hasW wk x i=wrote x b.ds:=by unfold hasW;rw [h];rfl
theorem mem_wrTo {wk:List Blk} {x y:Int} {i:Nat}:y∈wrTo wk x i ↔ ∃n:Nat,y=(n:Int)/\n<i/\hasW wk x n=true:=by
 unfold wrTo
 rw [List.mem_map]
 constructor
 ·rintro⟨n,hn,rfl⟩
  obtain⟨h1,h2⟩:=List.mem_filter.mp hn
  exact⟨n,rfl,List.mem_range.mp h1,h2⟩
 ·rintro⟨n,rfl,h1,h2⟩
  exact⟨n,List.mem_filter.mpr ⟨List.mem_range.mpr h1,h2⟩,rfl⟩
def qBu (K:PySem.W.Frag):Sp:=fun vs H Q _ => ∃(wa:Addr) (wk:List Blk) (m works x:Int),vs = [.ref wa,.int x]/\Den K H (workD wk) (.ref wa)/\WorkOk m works wk/\m<=12 /\
 ∀(l:Addr) (H':Hp),H l=none->Ext [] H H'->H' l=some (.lst ((wrTo wk x wk.length).map V.int))->Q (.ref l) H'
noncomputable def qBo (ws:List (List Blk)) (x:Int) (n i:Nat):List Int:=((List.range i).filter fun (a:Nat)=>askB ws x ((n:Int),(a:Int))).map fun (a:Nat)=>(a:Int)
theorem qGb (ws:List (List Blk)) (x:Int) (n i:Nat):qBo ws x n (i+1)=if askB ws x ((n:Int),(i:Int))=true then qBo ws x n i ++ [(i:Int)] else qBo ws x n i:=by
 unfold qBo
 rw [List.range_succ,List.filter_append,List.filter_cons,List.filter_nil]
 split
 ·rw [List.map_append];rfl
 ·rw [List.append_nil]
theorem qNe (ws:List (List Blk)) (x:Int) (n i:Nat):(qBo ws x n i).length<=i:=by
 unfold qBo
 rw [List.length_map]
 have:=List.length_filter_le (fun a:Nat=>askB ws x ((n:Int),(a:Int))) (List.range i)
 rw [List.length_range] at this
 exact this
def qGi (K:PySem.W.Frag):Sp:=fun vs H Q _ => ∃(wa:Addr) (ws:List (List Blk)) (n:Nat) (wk:List Blk) (x:Int),vs = [.ref wa,.int n,.int x]/\Den K H (qC7 ws) (.ref wa)/\WsOk ws/\ws[n]? = some wk /\
 ∀(l:Addr) (H':Hp),H l=none->Ext [] H H'->H' l=some (.lst ((qBo ws x n wk.length).map V.int))->Q (.ref l) H'
def qBk (wk:List Blk) (x:Int):List Int:=(wrTo wk x wk.length).flatMap (nxt wk)
theorem qEw {α β : Type} (f : α -> List β) (h : ∀a,(f a).length<=2) : ∀l:List α,(l.flatMap f).length<=2*l.length
 | []=>Nat.le_refl _
 | a::r=>by
  have:=qEw f h r
  have:=h a
  rw [List.flatMap_cons,List.length_append,List.length_cons];omega
def qGf (K:PySem.W.Frag):Sp:=fun vs H Q _ => ∃(wa:Addr) (ws:List (List Blk)) (n:Nat) (wk:List Blk) (x:Int),vs = [.ref wa,.int n,.int x]/\Den K H (qC7 ws) (.ref wa)/\WsOk ws/\ws[n]? = some wk /\
 ∀(l:Addr) (ns:List Int) (H':Hp),H l=none->Ext [] H H'->H' l=some (.lst (ns.map V.int))->ns.Pairwise (· <= ·)->ns.Nodup->(∀y,y∈ns ↔ ∃s∈qBk wk x,Reach (nxt wk) s y)->Q (.ref l) H'
def grow (nx:Int->List Int) (F:List Int) (b:Int):List Int:=F++(nx b).filter fun x => !decide (x∈F)
structure BehI (nx:Int->List Int) (ss:List Int) (m:Nat) (F:List Int):Prop where
 sub : ∀s∈ss,s∈F
 rk : ∀x∈F,∃s∈ss,Reach nx s x
 len:F.length<=ss.length+2*cnt (fun x=>decide (x∈F)) m
theorem BehI.start (nx:Int->List Int) (ss:List Int) (m:Nat):BehI nx ss m ss:=⟨fun _ h=>h,fun x h=>⟨x,h,.refl⟩,Nat.le_add_right _ _⟩
theorem mem_grow {nx:Int->List Int} {F:List Int} {b x:Int}:x∈grow nx F b↔x∈F\/x∈nx b:=by
 unfold grow
 rw [List.mem_append,List.mem_filter]
 by_cases h:x∈F <;> simp [h]
theorem BehI.grow {nx:Int->List Int} {ss F:List Int} {m:Nat} {b:Int} (h:BehI nx ss m F) (hb:b∈F) (few : ∀x,(nx x).length<=2) (hr : ∀x,(∃s∈ss,Reach nx s x)->0<=x/\x<(m:Int)):BehI nx ss m (grow nx F b):=by
 refine⟨fun s hs=>mem_grow.mpr (.inl (h.sub s hs)),fun x hx => ?_,?_⟩
 ·rcases mem_grow.mp hx with z | z
  ·exact h.rk x z
  ·obtain⟨s,hs,r⟩:=h.rk b hb
   exact⟨s,hs,.step r z⟩
 ·have hl:=h.len
  by_cases e:(nx b).filter (fun x => !decide (x∈F)) = []
  ·have:L2.grow nx F b=F:=by unfold L2.grow;rw [e,List.append_nil]
   rw [this];exact hl
  ·obtain⟨y,hy⟩:=List.exists_mem_of_ne_nil _ e
   obtain⟨hy1,hy2⟩:=List.mem_filter.mp hy
   have hyF:y∉F:=by simpa using hy2
   obtain⟨s,hs,r⟩:=h.rk b hb
   have hyr:=hr y ⟨s,hs,.step r hy1⟩
   have hlt:=qN6 (p:=fun x=>decide (x∈F)) (q:=fun x=>decide (x∈L2.grow nx F b)) (x:=y) (fun i hi=>decide_eq_true (mem_grow.mpr (.inl (of_decide_eq_true hi)))) (decide_eq_true (mem_grow.mpr (.inr hy1))) (decide_eq_false hyF) m hyr.1 hyr.2
   have h1:=List.length_filter_le (fun x => !decide (x∈F)) (nx b)
   have h2:=few b
   have:(L2.grow nx F b).length=F.length+((nx b).filter fun x => !decide (x∈F)).length:=by unfold L2.grow;rw [List.length_append]
   omega
def Lays (nx:Int->List Int) (ss:List Int) (t:Nat) (F:List Int):Prop := ∀s∈ss,∀j,j<=t -> ∀x∈(lay nx s j).2,x∈F
theorem Lays.zero {nx:Int->List Int} {ss F:List Int} (h : ∀s∈ss,s∈F):Lays nx ss 0 F:=fun s hs j hj x hx=>by
 have:j=0:=by omega
 subst this
 have:x=s:=by simpa [lay] using hx
 rw [this];exact h s hs
theorem Lays.succ {nx:Int->List Int} {ss F G:List Int} {t:Nat} (h:Lays nx ss t F) (h1 : ∀x∈F,x∈G) (h2 : ∀b∈F,∀c∈nx b,c∈G):Lays nx ss (t+1) G:=fun s hs j hj x hx=>by
 by_cases e:j=t+1
 ·subst e
  obtain⟨⟨b,hb,hx1⟩,_⟩:=lay_further.mp hx
  exact h2 b (h s hs t (Nat.le_refl _) b hb) x hx1
 ·exact h1 x (h s hs j (by omega) x hx)
theorem Lays.all {nx:Int->List Int} {ss F:List Int} {m:Nat} (h:Lays nx ss m F) (I:BehI nx ss m F) (hr : ∀x,(∃s∈ss,Reach nx s x)->0<=x/\x<(m:Int)) (x:Int):x∈F ↔ ∃s∈ss,Reach nx s x:=by
 refine⟨I.rk x,fun ⟨s,hs,r⟩ => ?_⟩
 obtain⟨j,hj,hx⟩:=qUl (m:=m) (fun y i hy=>hr y ⟨s,hs,qKg hy⟩) r
 exact h s hs j hj x hx
def qIh (K:PySem.W.Frag):Sp:=fun vs H Q _ => ∃(wa:Addr) (wk:List Blk) (m works x:Int),vs = [.ref wa,.int x]/\Den K H (workD wk) (.ref wa)/\WorkOk m works wk/\m<=12 /\
 ∀(l:Addr) (ns:List Int) (H':Hp),H l=none->Ext [] H H'->H' l=some (.lst (ns.map V.int))->ns.Pairwise (· <= ·)->ns.Nodup->(∀y,y∈ns ↔ ∃s∈qBk wk x,Reach (nxt wk) s y)->Q (.ref l) H'
theorem qG3 : ∀ {ns:List Int} {lo hi:Int},ns.Pairwise (· <= ·)->ns.Nodup->(∀n∈ns,lo<=n/\n<hi)->(ns.length:Int)<=max 0 (hi - lo)
 | [],_,_,_,_,_=>by simp;omega
 | n::r,lo,hi,h1,h2,h3=>by
  obtain⟨h11,h12⟩:=List.pairwise_cons.mp h1
  obtain⟨h21,h22⟩:=List.nodup_cons.mp h2
  have hn:=h3 n (List.mem_cons_self ..)
  have:=qG3 (ns:=r) (lo:=n+1) (hi:=hi) h12 h22 fun m hm=>by
   have a:=h11 m hm
   have b:=h3 m (List.mem_cons_of_mem _ hm)
   have c:m≠n:=fun z=>h21 (z▸hm)
   omega
  rw [List.length_cons]
  omega
def lcg (M i:Nat):Nat:=(i*5+1)%M
def orb (M:Nat):Nat->Nat->Nat
 | 0,i=>i
 | j+1,i=>orb M j (lcg M i)
theorem qMm (M:Nat) : ∀j i,orb M (j+1) i=lcg M (orb M j i)
 | 0,_=>rfl
 | j+1,i=>qMm M j (lcg M i)
theorem qIv (M a:Nat) : ∀b i,orb M (a+b) i=orb M b (orb M a i)
 | 0,_=>rfl
 | b+1,i=>by
  show orb M (a+b) (lcg M i)=orb M b (lcg M (orb M a i))
  rw [qIv M a b (lcg M i),<-qMm];rfl
def Cyc (M:Nat):Bool:=((List.range M).all fun x=>(List.range M).any fun j=>orb M j 0 == x)&&(orb M M 0 == 0)
theorem Cyc.from {M:Nat} (h:Cyc M=true) {i x:Nat} (hi:i<M) (hx:x<M) : ∃j,j<M/\orb M j i=x:=by
 unfold Cyc at h
 rw [Bool.and_eq_true,List.all_eq_true] at h
 obtain⟨h1,h2⟩:=h
 have h2:=beq_iff_eq.mp h2
 obtain⟨a,ha,ea⟩:=List.any_eq_true.mp (h1 i (List.mem_range.mpr hi))
 obtain⟨b,hb,eb⟩:=List.any_eq_true.mp (h1 x (List.mem_range.mpr hx))
 have ha:=List.mem_range.mp ha
 have hb:=List.mem_range.mp hb
 have ea:=beq_iff_eq.mp ea
 have eb:=beq_iff_eq.mp eb
 by_cases hab:a<=b
 ·refine⟨b - a,by omega,?_⟩
  rw [<-ea,<-qIv,show a+(b - a)=b by omega];exact eb
 ·refine⟨M+b - a,by omega,?_⟩
  rw [<-ea,<-qIv,show a+(M+b - a)=M+b by omega,qIv,h2];exact eb
def pows:List Nat :=[8,16,32,64,128]
theorem qSg : ∀M∈pows,Cyc M=true:=by decide +kernel
theorem qKm {mask:Nat} {owner:Array (Option Nat)} (hs:owner.size=mask+1) : ∀(fuel i p:Nat),p<32->i<mask+1 ->
  (∃j,SetTable.layClean.free mask owner fuel i p=some j/\j<mask+1/\owner[j]? = some none)\/(∀j,j<fuel -> ∃v,owner[orb (mask+1) j i]? = some (some v))
 | 0,_,_,_,_ =>.inr fun j hj=>absurd hj (Nat.not_lt_zero _)
 | fuel+1,i,p,hp,hi=>by
  unfold SetTable.layClean.free
  have hre:i<=SetTable.runEnd mask i/\SetTable.runEnd mask i<=mask:=by unfold SetTable.runEnd;split <;> omega
  cases hf:(List.range (SetTable.runEnd mask i+1 - i)).find? fun k=>(owner.getD (i+k) (some 0)).isNone with
  | some k =>
   have h1:=List.find?_some hf
   have h2:=List.mem_range.mp (List.mem_of_find?_eq_some hf)
   have hlt:i+k<owner.size:=by omega
   refine .inl ⟨i+k,rfl,by omega,?_⟩
   rw [Array.getD_eq_getD_getElem?,Array.getElem?_eq_getElem hlt] at h1
   rw [Array.getElem?_eq_getElem hlt]
   have h1:(owner[i+k]).isNone=true:=h1
   rw [Option.isNone_iff_eq_none.mp h1]
  | none =>
   dsimp only
   have hl:SetTable.leap mask i p=(lcg (mask+1) i,0):=by
    unfold SetTable.leap lcg
    rw [show p / 32=0 by omega]
   rw [hl]
   dsimp only
   rcases qKm hs fuel (lcg (mask+1) i) 0 (by omega) (Nat.mod_lt _ (by omega)) with z | z
   ·exact .inl z
   ·refine .inr fun j hj => ?_
    cases j with
    | zero =>
     have:=List.find?_eq_none.mp hf 0 (List.mem_range.mpr (by omega))
     have hlt:i<owner.size:=by omega
     rw [Nat.add_zero,Array.getD_eq_getD_getElem?,Array.getElem?_eq_getElem hlt] at this
     show ∃v,owner[i]? = some (some v)
     rw [Array.getElem?_eq_getElem hlt]
     have this : ¬(owner[i]).isNone=true:=this
     cases ho:owner[i] with
     | none=>rw [ho] at this;exact absurd rfl this
     | some v=>exact⟨v,rfl⟩
    | succ j=>exact z j (by omega)
theorem qJn {k:Nat} : ∀ {l:List (Option Nat)} {j:Nat},l[j]? = some none->((l.set j (some k)).filterMap id).Perm (k::l.filterMap id)
 | [],j,h=>by simp at h
 | a::l,0,h=>by
  simp at h;subst h
  exact .refl _
 | a::l,j+1,h=>by
  have ih:=qJn (k:=k) (l:=l) (j:=j) (by simpa using h)
  rw [List.set_cons_succ]
  cases a with
  | none=>exact ih
  | some v =>
   show (v::(l.set j (some k)).filterMap id).Perm (k::v::l.filterMap id)
   exact (List.Perm.cons v ih).trans (List.Perm.swap ..)
theorem qJo : ∀l:List (Option Nat),(∀j,j<l.length -> ∃v,l[j]? = some (some v))->(l.filterMap id).length=l.length
 | [],_=>rfl
 | a::l,h=>by
  obtain⟨v,hv⟩:=h 0 (by simp)
  simp at hv;subst hv
  show (v::l.filterMap id).length=_
  rw [List.length_cons,List.length_cons,qJo l fun j hj=>by simpa using h (j+1) (by simpa using hj)]
theorem qO4 {h:Int} (h0:0<=h) (h1:h<32):SetTable.bits h<32:=by unfold SetTable.bits;omega
theorem qT8 {mask:Nat} (hM:mask+1∈pows) : ∀(hs:List Int) (owner:Array (Option Nat)) (k:Nat),(∀h∈hs,0<=h/\h<32)->owner.size=mask+1->(owner.toList.filterMap id).Perm (List.range k)->k+hs.length<=mask ->
  ∃ow,(hs.foldl (fun acc h=>(do
   let (owner,k) <-acc
   let j <-SetTable.layClean.free mask owner (SetTable.turns mask) (SetTable.bits h%(mask+1)) (SetTable.bits h)
   pure (owner.setIfInBounds j (some k),k+1):Option (Array (Option Nat)×Nat))) (some (owner,k)))=some (ow,k+hs.length)/\ow.size=mask+1/\(ow.toList.filterMap id).Perm (List.range (k+hs.length))
 | [],owner,k,_,hz,hp,_=>⟨owner,rfl,hz,hp⟩
 | h::hs,owner,k,hh,hz,hp,hk=>by
  obtain⟨a0,a1⟩:=hh h (List.mem_cons_self ..)
  rw [List.length_cons] at hk
  have hfree : ∃j,SetTable.layClean.free mask owner (SetTable.turns mask) (SetTable.bits h%(mask+1)) (SetTable.bits h)=some j/\j<mask+1/\owner[j]? = some none:=by
   rcases qKm hz (SetTable.turns mask) (SetTable.bits h%(mask+1)) (SetTable.bits h) (qO4 a0 a1) (Nat.mod_lt _ (by omega)) with z | z
   ·exact z
   ·exfalso
    have hall : ∀j,j<owner.toList.length -> ∃v,owner.toList[j]? = some (some v):=fun x hx=>by
     rw [Array.length_toList,hz] at hx
     obtain⟨j,hj,e⟩:=Cyc.from (qSg _ hM) (i:=SetTable.bits h%(mask+1)) (Nat.mod_lt _ (by omega)) hx
     obtain⟨v,hv⟩:=z j (by unfold SetTable.turns;omega)
     rw [e] at hv
     exact⟨v,by rw [Array.getElem?_toList];exact hv⟩
    have h1:=qJo _ hall
    have h2:=hp.length_eq
    rw [List.length_range,h1,Array.length_toList,hz] at h2
    omega
  obtain⟨j,hj,hjm,hjo⟩:=hfree
  have hstep:((do
   let (owner,k) <-some (owner,k)
   let j <-SetTable.layClean.free mask owner (SetTable.turns mask) (SetTable.bits h%(mask+1)) (SetTable.bits h)
   pure (owner.setIfInBounds j (some k),k+1)):Option (Array (Option Nat)×Nat))=some (owner.setIfInBounds j (some k),k+1):=by
   show (SetTable.layClean.free mask owner (SetTable.turns mask) (SetTable.bits h%(mask+1)) (SetTable.bits h)).bind _=_
   rw [hj];rfl
  have hp':((owner.setIfInBounds j (some k)).toList.filterMap id).Perm (List.range (k+1)):=by
   rw [Array.toList_setIfInBounds]
   refine (qJn (by rw [Array.getElem?_toList];exact hjo)).trans ?_
   rw [List.range_succ]
   exact (List.Perm.cons k hp).trans (List.perm_append_singleton k _).symm
  obtain⟨ow,e,r1,r2⟩:=qT8 hM hs (owner.setIfInBounds j (some k)) (k+1) (fun x hx=>hh x (List.mem_cons_of_mem _ hx)) (by rw [Array.size_setIfInBounds];exact hz) hp' (by omega)
  refine⟨ow,?_,r1,by rw [List.length_cons,show k+(hs.length+1)=k+1+hs.length by omega];exact r2⟩
  rw [List.foldl_cons,hstep,e,List.length_cons,show k+(hs.length+1)=k+1+hs.length by omega]
theorem qE8 {α : Type} : ∀n:Nat,((List.replicate n (none:Option α)).filterMap id) = []
 | 0=>rfl
 | n+1=>by rw [List.replicate_succ];exact qE8 n
theorem qLw {mask:Nat} (hM:mask+1∈pows) {hs:Array Int} (hh : ∀h∈hs.toList,0<=h/\h<32) (hl:hs.size<=mask) : ∃ow,SetTable.layClean mask hs=some ow/\ow.size=mask+1/\(ow.toList.filterMap id).Perm (List.range hs.size):=by
 obtain⟨ow,e,r1,r2⟩:=qT8 hM hs.toList (Array.replicate (mask+1) none) 0 hh (by simp) (by rw [Array.toList_replicate,qE8];exact .refl _) (by rw [Array.length_toList];omega)
 rw [Array.length_toList,Nat.zero_add] at r2
 refine⟨ow,?_,r1,r2⟩
 unfold SetTable.layClean
 rw [<-Array.foldl_toList,e];rfl
theorem qMs (L:List (Option Nat)) : ∀n,n<=L.length->(((List.range n).filterMap fun j=>(L.getD j none).map (j,·)).map (·.2))=(L.take n).filterMap id
 | 0,_=>by simp
 | n+1,h=>by
  have ih:=qMs L n (by omega)
  rw [List.range_succ,List.filterMap_append,List.map_append,ih,List.take_succ,List.filterMap_append]
  congr 1
  have hn:n<L.length:=by omega
  rw [List.getElem?_eq_getElem hn]
  have:L.getD n none=L[n]:=by rw [List.getD_eq_getElem?_getD,List.getElem?_eq_getElem hn];rfl
  rw [List.filterMap_cons,this]
  cases L[n] <;> rfl
theorem qPt {owner:Array (Option Nat)} {n:Nat}:(((List.range n).filterMap fun j=>(owner.getD j none).map (j,·)).map (·.1)).Pairwise (· < ·):=by
 have hsub : ∀l:List Nat,((l.filterMap fun j=>(owner.getD j none).map (j,·)).map (·.1)).Sublist l:=by
  intro l
  induction l with
  | nil=>exact .slnil
  | cons a r ih =>
   rw [List.filterMap_cons]
   cases owner.getD a none with
   | none=>exact ih.cons _
   | some k=>exact ih.cons₂ a
 exact List.Pairwise.sublist (hsub _) List.pairwise_lt_range
theorem qPx {mask finger moves:Nat} {led plain:Bool} (hM:mask+1∈pows) {hs:Array Int} (hh : ∀h∈hs.toList,0<=h/\h<32) (hl:hs.size<=mask) :
  ∃t order,SetTable.laid mask finger moves led plain hs=some (t,order)/\order.toList.Perm (List.range hs.size)/\GoodT led t hs.size/\t.mask=mask/\t.dummies = #[]:=by
 obtain⟨ow,e,r1,r2⟩:=qLw hM hh hl
 have hsn:=qMs ow.toList (mask+1) (by rw [Array.length_toList,r1];exact Nat.le_refl _)
 rw [List.take_of_length_le (by rw [Array.length_toList,r1];exact Nat.le_refl _)] at hsn
 have hg:(fun j=>(ow.getD j none).map (j,·))=fun j=>(ow.toList.getD j none).map ((j:Nat),·):=by
  funext j
  rw [Array.getD_eq_getD_getElem?,List.getD_eq_getElem?_getD,Array.getElem?_toList]
 have hlen:((List.range (mask+1)).filterMap fun j=>(ow.getD j none).map (j,·)).length=hs.size:=by
  have:=congrArg List.length hsn
  rw [List.length_map,<-hg] at this
  rw [this,r2.length_eq,List.length_range]
 refine⟨_,_,by unfold SetTable.laid;rw [e];rfl,?_,⟨?_,?_,rfl⟩,rfl,rfl⟩
 ·rw [hg]
  show List.Perm (((List.range (mask+1)).filterMap fun j=>(ow.toList.getD j none).map (j,·)).map (·.2)) _
  rw [hsn];exact r2
 ·unfold SetTable.fits SetTable.fill
  simp only [List.size_toArray,List.length_map,hlen]
  simp
  exact hl
 ·exact qPt
theorem qDf {es:Array (Int×Value)} {order:Array Nat} (h:order.toList.Perm (List.range es.size)):(order.filterMap (es[·]?)).toList.Perm es.toList:=by
 have h1:(order.filterMap (es[·]?)).toList=order.toList.filterMap (es[·]?):=by rw [Array.toList_filterMap]
 rw [h1]
 refine (h.filterMap _).trans ?_
 have h2 : ∀n,n<=es.size->(List.range n).filterMap (es[·]?)=es.toList.take n:=by
  intro n
  induction n with
  | zero=>intro _;simp
  | succ n ih =>
   intro hn
   rw [List.range_succ,List.filterMap_append,ih (by omega),List.take_succ]
   congr 1
   rw [List.filterMap_cons,List.filterMap_nil,Array.getElem?_toList,Array.getElem?_eq_getElem (by omega)];rfl
 rw [h2 es.size (Nat.le_refl _),List.take_of_length_le (by rw [Array.length_toList];exact Nat.le_refl _)]
theorem qM7 : ∀n,n<128->SetTable.sizeAbove n∈pows/\n<SetTable.sizeAbove n:=by decide +kernel
section
variable {P:Program} {w:World} {A:Around} {E:Value->Shared->Prop} {s:Shared}
theorem qSm {a:Addr} {ns:List Int} {n:Int} {tk:Tok} {Q:Bool->Shared->Prop} (S:SetI w s.heap a ns) (hroom:ns.length+1<scanBound)
  (h : ∀h',Heap.SameBut a s.heap h'->SetI w h' a (addN ns n)->Q (!decide (n∈ns)) { s with heap:=h' }) :
  wpAny (model P w) A (setAddHashed a (.int n tk) (hashInt n)) Q E s:=by
 show wpAny (model P w) A (setAddHashed a (.int n tk) ((intKind P w).hash n)) Q E s
 obtain⟨o,es,ep,t,ho,hex,hd,hel,hp,hn,hb,g⟩:=S
 have hlen:es.size=ns.length:=by rw [<-hp.length_eq,List.length_map,Array.length_toList]
 have he:=EI.elems (P:=P) (w:=w) hel
 have hkey:=intKind_is P w n tk
 unfold setAddHashed setAddHashedIn
 refine wpAny_holding (wpAny_bind (wpAny_setState_of ho hd g.fits ?_))
 dsimp only
 rw [byScan_of (knd:=intKind P w) (x :=.int n tk) rfl hb he]
 simp only [↓reduceIte]
 unfold setAddByScan
 refine wpAny_bind (wpAny_bind (wpAny_rule (wpAny_bind (wpAny_setScan_of (knd:=intKind P w) (k:=n) hkey ho hd g.fits he ?_))))
 cases hr:List.findIdx? (fun e=>(intKind P w).is n e.2) es.toList with
 | some j =>
  dsimp only
  obtain⟨hj,hpj,_⟩:=List.findIdx?_eq_some_iff_getElem.mp hr
  have hm:n∈ns:=hp.mem_iff.mp ((qG4 (P:=P) (w:=w) hel n).mpr ⟨_,List.getElem_mem hj,hpj⟩)
  refine wpAny_pure (wpAny_pure ?_)
  have q:=h s.heap (Heap.SameBut.refl a s.heap) ⟨o,es,ep,t,ho,hex,hd,hel,by unfold addN;rw [if_pos hm];exact hp,qBs hn,hb,g⟩
  rw [decide_eq_true hm] at q
  exact q
 | none =>
  dsimp only
  have hm:n∉ns:=fun z=>by
   obtain⟨e,he,q⟩:=(qG4 (P:=P) (w:=w) hel n).mp (hp.mem_iff.mpr z)
   have:=List.findIdx?_eq_none_iff.mp hr e he
   rw [q] at this;cases this
  have hgw : ∀(b:Bool) {s₁ : Shared} {Q':Unit->Shared->Prop},Q' () s₁ -> wpAny (model P w) A (match b with | true=>rule "set.scan.the-table-gave-way" | false=>pure ()) Q' E s₁ :=fun b s₁ Q' hq=>by
   cases b
   ·exact wpAny_pure hq
   ·exact wpAny_rule hq
  have hp1:=layNew_perm t es ((intKind P w).hash n) (.int n tk)
  have g1:=qGu (h:=(intKind P w).hash n) (x :=.int n tk) g
  generalize layNew t es ((intKind P w).hash n) (.int n tk)=L at hp1 g1 ⊢
  obtain⟨es1,t1,wd,gave⟩:=L
  dsimp only at hp1 g1 ⊢
  rw [Array.toList_push] at hp1
  have hel1 : ∀e∈es1.toList,EI e:=fun e he=>by
   rcases List.mem_append.mp (hp1.mem_iff.mp he) with z | z
   ·exact hel e z
   ·rw [List.mem_singleton] at z;exact⟨n,tk,z⟩
  have hz1:es1.size=es.size+1:=by rw [<-Array.length_toList,hp1.length_eq,List.length_append,Array.length_toList];rfl
  have hq1:(es1.toList.map keyI).Perm (addN ns n):=by
   unfold addN;rw [if_neg hm]
   refine (hp1.map keyI).trans ?_
   rw [List.map_append]
   exact hp.append_right _
  have fin : ∀h',Heap.SameBut a s.heap h'->SetI w h' a (addN ns n)->Q true { s with heap:=h' }:=fun h' sb S'=>by
   have q:=h h' sb S'
   rw [decide_eq_false hm] at q;exact q
  refine wpAny_bind (hgw _ ?_)
  have gw2 : ∀(b:Bool) (s₁ : Shared) (Q':Unit->Shared->Prop),Q' () s₁ -> wpAny (model P w) A (match b with | true=>rule "set.scan.the-table-gave-way" | false=>pure ()) Q' E s₁ :=fun b s₁ Q' hq=>hgw b hq
  split
  ·refine wpAny_bind ?_
   rw [hashByValue_scannable 8 (x :=.int n tk) rfl]
   refine wpAny_pure ?_
   refine qF3 (fun b s₁ Q' hq => ?_) ho hex hd hel1 hq1 (qBs hn) (by omega) ?_ (fun h' sb S' => ?_)
   ·cases b
    ·exact wpAny_pure hq
    ·exact wpAny_rule hq
   ·split
    ·exact g1
    ·exact g1.plainOff
   ·dsimp only;exact wpAny_pure (fin h' sb S')
  ·refine wpAny_bind (wpAny_pure ?_)
   simp only [↓reduceIte]
   refine qF3 (fun b s₁ Q' hq => ?_) ho hex hd hel1 hq1 (qBs hn) (by omega) g1 (fun h' sb S' => ?_)
   ·cases b
    ·exact wpAny_pure hq
    ·exact wpAny_rule hq
   ·dsimp only;exact wpAny_pure (fin h' sb S')
def SetT (w:World) (h:Heap) (a:Addr) (ns:List Int) (es:Array (Int×Value)) (ep:Nat) (t:SetTable):Prop :=
 ∃o,h.get? a=some o/\o.ExactSet/\o.data = .set es ep t/\(∀e∈es.toList,EI e)/\(es.toList.map keyI).Perm ns/\ns.Nodup/\es.size<scanBound/\GoodT (!qBr w) t es.size
theorem SetI.table {w:World} {h:Heap} {a:Addr} {ns:List Int} (S:SetI w h a ns) : ∃es ep t,SetT w h a ns es ep t:=by
 obtain⟨o,es,ep,t,r⟩:=S
 exact⟨es,ep,t,o,r⟩
theorem SetT.setI {w:World} {h:Heap} {a:Addr} {ns:List Int} {es:Array (Int×Value)} {ep:Nat} {t:SetTable} (S:SetT w h a ns es ep t):SetI w h a ns:=by
 obtain⟨o,r⟩:=S
 exact⟨o,es,ep,t,r⟩
theorem SetT.stay {w:World} {h h':Heap} {a:Addr} {ns:List Int} {es:Array (Int×Value)} {ep:Nat} {t:SetTable} (S:SetT w h a ns es ep t) (k : ∀o,h.get? a=some o->h'.get? a=some o):SetT w h' a ns es ep t:=by
 obtain⟨o,e,r⟩:=S
 exact⟨o,k o e,r⟩
theorem SetT.len {w:World} {h:Heap} {a:Addr} {ns:List Int} {es:Array (Int×Value)} {ep:Nat} {t:SetTable} (S:SetT w h a ns es ep t):es.size=ns.length:=by
 obtain⟨o,_,_,_,_,p,_⟩:=S
 rw [<-p.length_eq,List.length_map,Array.length_toList]
theorem SetT.state {a:Addr} {ns:List Int} {es:Array (Int×Value)} {ep:Nat} {t:SetTable} {Q:(Array (Int×Value)×Nat×SetTable)->Shared->Prop} (S:SetT w s.heap a ns es ep t) (q:Q (es,ep,t) s):wpAny (model P w) A (setState a) Q E s:=by
 obtain⟨o,ho,_,hd,_,_,_,_,g⟩:=S
 exact wpAny_setState_of ho hd g.fits q
theorem SetT.put {a:Addr} {ns ms:List Int} {es es':Array (Int×Value)} {ep:Nat} {t t':SetTable} {Q:Unit->Shared->Prop} (S:SetT w s.heap a ns es ep t) (hel : ∀e∈es'.toList,EI e) (hp:(es'.toList.map keyI).Perm ms) (hn:ms.Nodup) (hb:es'.size<scanBound) (g:GoodT (!qBr w) t' es'.size)
  (q : ∀h',Heap.SameBut a s.heap h'->SetT w h' a ms es' (ep+1) t'->Q () { s with heap:=h' }):wpAny (model P w) A (storeSet a es' t') Q E s:=by
 obtain⟨o,ho,hex,hd,_⟩:=S
 refine wpAny_storeSet_of ho hd ?_ (fits_of_scanBound hb)
 have hg:=Heap.get?_update_self (Obj.putSet es' t') ho (by rw [putSet_of es' t' hd];rfl)
 rw [putSet_of es' t' hd] at hg
 exact q _ (Heap.SameBut.update s.heap a (Obj.putSet es' t')) ⟨_,hg,hex,rfl,hel,hp,hn,hb,g⟩
def Small (ns:List Int):Prop := ∀n∈ns,0<=n/\n<32
theorem qNz {n:Int} (h0:0<=n) (h1:n<32):hashInt n=n:=by
 have : ∀k:Fin 32,hashInt (k.1:Int)=(k.1:Int):=by decide +kernel
 have:=this ⟨n.toNat,by omega⟩
 simpa [Int.toNat_of_nonneg h0] using this
theorem qFu {es:Array (Int×Value)} {ns:List Int} (hel : ∀e∈es.toList,EI e) (hp:(es.toList.map keyI).Perm ns) (hb:Small ns) : ∀h∈(es.map (·.1)).toList,0<=h/\h<32:=by
 intro h hh
 rw [Array.toList_map] at hh
 obtain⟨e,he,rfl⟩:=List.mem_map.mp hh
 obtain⟨n,t,rfl⟩:=hel e he
 have hn:=hb n (hp.mem_iff.mp (List.mem_map.mpr ⟨_,he,rfl⟩))
 have:hashInt n=n:=by
  exact qNz hn.1 hn.2
 show 0<=hashInt n/\hashInt n<32
 rw [this];exact hn
theorem reord {es:Array (Int×Value)} {t:SetTable} {order:Array Nat} {laid:Option (SetTable×Array Nat)} {Q:(Array (Int×Value)×SetTable)->Shared->Prop} (hl:laid=some (t,order)) (hp:order.toList.Perm (List.range es.size)) (q:Q (order.filterMap (es[·]?),t) s) :
  wpAny (model P w) A (do
   let some (t,order):=laid | unsupported "internal:set-table-without-room"
   let es':=order.filterMap (es[·]?)
   if es'.size != es.size then unsupported "internal:set-table-lost-an-element"
   pure (es',t)) Q E s:=by
 subst hl
 dsimp only
 have hz:(order.filterMap (es[·]?)).size=es.size:=by rw [<-Array.length_toList,(qDf hp).length_eq,Array.length_toList]
 rw [hz]
 simp only [bne_self_eq_false,Bool.false_eq_true,if_false]
 exact wpAny_pure q
theorem qV3 {a:Addr} {ns:List Int} {es:Array (Int×Value)} {ep wanted:Nat} {t:SetTable} {Q:Unit->Shared->Prop} (S:SetT w s.heap a ns es ep t) (hb:Small ns) (hw:wanted<128) (hl:ns.length<=wanted)
  (q : ∀h' es' t',Heap.SameBut a s.heap h'->SetT w h' a ns es' (ep+1) t'->t'.mask+1∈pows->wanted<=t'.mask->Q () { s with heap:=h' }):wpAny (model P w) A (setRelay a wanted) Q E s:=by
 obtain⟨p1,p2⟩:=qM7 wanted hw
 have hsl:SetTable.sizeAbove wanted<=128:=by
  have : ∀M∈pows,M<=128:=by decide
  exact this _ p1
 have hlen:=S.len
 obtain⟨o,ho,hex,hd,hel,hp,hn,hsb,g⟩:=id S
 unfold setRelay
 refine wpAny_bind (S.state ?_)
 dsimp only
 rw [if_neg (by rw [sizeLine_eq];omega)]
 have hM:SetTable.sizeAbove wanted - 1+1∈pows:=by rw [show SetTable.sizeAbove wanted - 1+1=SetTable.sizeAbove wanted by omega];exact p1
 obtain⟨t',order,e1,e2,e3,e4,e5⟩:=qPx (finger:=t.finger) (moves:=t.movedTo (SetTable.sizeAbove wanted - 1)) (led:=t.led) (plain:=t.plain) hM (qFu hel hp hb) (by rw [Array.size_map];omega)
 rw [Array.size_map] at e2 e3
 refine wpAny_bind (reord (es:=es) (laid:=t.relaid (es.map fun (x:Int×Value)=>x.1) wanted) (t:=t') (order:=order) e1 e2 ?_)
 dsimp only
 have hpm:=qDf e2
 have hz:(order.filterMap (es[·]?)).size=es.size:=by rw [<-Array.length_toList,hpm.length_eq,Array.length_toList]
 have g':GoodT (!qBr w) t' (order.filterMap (es[·]?)).size:=by rw [hz,<-g.led];exact e3
 refine S.put (es':=order.filterMap (es[·]?)) (t':=t') (ms:=ns) (fun e he=>hel e (hpm.mem_iff.mp he)) ((hpm.map keyI).trans hp) hn (by rw [hz];exact hsb) g' fun h' sb S'=>q h' _ t' sb S' (by rw [e4];exact hM) (by rw [e4];omega)
end
section
variable {P:Program} {w:World} {A:Around} {E:Value->Shared->Prop} {s:Shared}
theorem roomI {a:Addr} {ns:List Int} {es:Array (Int×Value)} {ep more:Nat} {t:SetTable} {Q:Unit->Shared->Prop} (S:SetT w s.heap a ns es ep t) (hb:Small ns) (hm:ns.length+more<=60) (h0:t.fill=0->t.mask+1∈pows)
  (q : ∀h' es' ep' t',Heap.SameBut a s.heap h'->SetT w h' a ns es' ep' t'->(t'.fill=0->t'.mask+1∈pows/\more<=t'.mask)->Q () { s with heap:=h' }):wpAny (model P w) A (setRoomFor a more) Q E s:=by
 have hlen:=S.len
 have hz:t.place.size=es.size:=by obtain⟨o,_,_,_,_,_,_,_,g⟩:=S;exact qEx g.fits
 unfold setRoomFor
 refine wpAny_bind (S.state ?_)
 dsimp only
 unfold SetTable.roomFor
 by_cases hc:(t.fill+more)*5>=t.mask*3
 ·rw [if_pos hc]
  dsimp only
  exact qV3 S hb (by omega) (by omega) fun h' es' t' sb S' h1 h2=>q h' es' _ t' sb S' fun _=>⟨h1,by omega⟩
 ·rw [if_neg hc]
  dsimp only
  exact wpAny_pure (q s.heap es ep t (Heap.SameBut.refl a s.heap) S fun hf=>⟨h0 hf,by omega⟩)
theorem walkI {a:Addr} {ns:List Int} {es:Array (Int×Value)} {ep:Nat} {t:SetTable} {Q:Array (Int×Value)->Shared->Prop} (S:SetT w s.heap a ns es ep t) (q : ∀arr d,arr.toList.Perm es.toList->Q arr { s with drawn:=d }):wpAny (model P w) A (setWalk a) Q E s:=by
 obtain⟨o,ho,hex,hd,hel,hp,hn,hsb,g⟩:=id S
 unfold setWalk
 refine wpAny_bind (S.state ?_)
 dsimp only
 unfold setsByText
 refine wpAny_bind (wpAny_bind (wpAny_askSetting (wpAny_pure ?_)))
 show wpAny _ _ (if w.params.followText "set-order" = true then _ else _) _ _ _
 cases b:qBr w with
 | true =>
  rw [if_pos (show (w.params.followText "set-order")=true from b)]
  refine wpAny_bind (wpAny_askSetting (wpAny_pure ?_))
  exact q _ s.drawn (qJw _ _)
 | false =>
  rw [if_neg (show ¬(w.params.followText "set-order")=true from fun z=>by rw [show (w.params.followText "set-order")=false from b] at z;cases z)]
  have led:t.led=true:=by rw [g.led,b];rfl
  split
  ·refine wpAny_bind ?_
   rw [<-Array.length_toList]
   refine qGx es.toList fun ys d hys=>wpAny_pure (q _ d hys)
  ·refine wpAny_bind ?_
   show wpAny _ _ (if (!t.led&&decide (es.size>1))=true then unsupported "set:maker-not-led" else pure PUnit.unit) _ _ _
   rw [if_neg (by rw [led];simp)]
   exact wpAny_pure (wpAny_pure (q es s.drawn (.refl _)))
theorem qVx {a b:Addr} {ns ms:List Int} {es eo:Array (Int×Value)} {ep eq:Nat} {t u:SetTable} {Q:Bool->Shared->Prop} (S:SetT w s.heap a ns es ep t) (O:SetT w s.heap b ms eo eq u) (q:Q true s):wpAny (model P w) A (setsQuiet [a,b]) Q E s:=by
 unfold setsQuiet
 refine wpAny_bind (wpAny_forIn_list _ (fun rest c s'=>s'=s/\c.1=none /\ ∀x∈rest,∃ns es ep t,SetT w s.heap x ns es ep t) _ ?_ ?_ _ _ ?_)
 ·rintro x rest c0 s' ⟨rfl,hc,hall⟩
  obtain⟨ns,es,ep,t,Sx⟩:=hall x (List.mem_cons_self ..)
  obtain⟨o,ho,hex,hd,hel,hp,hn,hsb,g⟩:=id Sx
  refine wpAny_bind (wpAny_setEntries_of ho hd g.fits ?_)
  refine wpAny_bind (MeetsSeq2.wpAny_forIn_array _ (fun rest c s''=>s''=s'/\c.1=none /\ ∀e∈rest,EI e) _ ?_ ?_ _ _ ?_)
  ·rintro e rest' c1 s'' ⟨rfl,hc,he⟩
   obtain⟨n,tk,rfl⟩:=he e (List.mem_cons_self ..)
   exact wpAny_pure ⟨rfl,rfl,fun e h=>he e (List.mem_cons_of_mem _ h)⟩
  ·rintro⟨c,u⟩ s'' ⟨rfl,hc,_⟩
   dsimp only at hc
   subst hc
   exact wpAny_pure ⟨rfl,rfl,fun y hy=>hall y (List.mem_cons_of_mem _ hy)⟩
  ·exact⟨rfl,rfl,hel⟩
 ·rintro⟨c,u⟩ s' ⟨rfl,hc,_⟩
  dsimp only at hc
  subst hc
  exact wpAny_pure q
 ·refine⟨rfl,rfl,fun x hx => ?_⟩
  rcases List.mem_cons.mp hx with z | z
  ·exact z▸⟨_,_,_,_,S⟩
  ·exact (List.mem_singleton.mp z)▸⟨_,_,_,_,O⟩
theorem GoodT.flags {b:Bool} {t u:SetTable} {n:Nat} (g:GoodT b t n) (h1:u.mask=t.mask) (h2:u.place=t.place) (h3:u.dummies=t.dummies) (h4:u.led=b):GoodT b u n:=by
 refine⟨?_,by rw [h2];exact g.rise,h4⟩
 have:=g.fits
 unfold SetTable.fits SetTable.fill at this ⊢
 rw [h1,h2,h3];exact this
theorem qTj {a b:Addr} {ns ms:List Int} {es eo:Array (Int×Value)} {ep eq:Nat} {t u:SetTable} {Q:Array (Int×Value)->Shared->Prop} (hab:a≠b) (S:SetT w s.heap a ns es ep t) (O:SetT w s.heap b ms eo eq u)
  (q : ∀arr h' d es' ep' t',arr.toList.Perm eo.toList->Heap.SameBut a s.heap h'->SetT w h' a ns es' ep' t'->Q arr { s with heap:=h',drawn:=d }):wpAny (model P w) A (setWalkUnseen b [a] (some a)) Q E s:=by
 unfold setWalkUnseen
 refine wpAny_bind (O.state ?_)
 dsimp only
 unfold setsByText
 refine wpAny_bind (wpAny_bind (wpAny_askSetting (wpAny_pure ?_)))
 have hw : ∀ {Q':Array (Int×Value)->Shared->Prop},(∀arr d,arr.toList.Perm eo.toList->Q' arr { s with drawn:=d })->wpAny (model P w) A (setWalk b) Q' E s:=fun z=>walkI O z
 split
 ·exact hw fun arr d hp=>q arr s.heap d es ep t hp (Heap.SameBut.refl a s.heap) S
 ·refine wpAny_bind (qVx O S ?_)
  simp only [Bool.not_true,Bool.false_eq_true,if_false]
  refine wpAny_bind (wpAny_rule ?_)
  refine wpAny_bind (S.state ?_)
  dsimp only
  have gs:=S
  obtain⟨o,ho,hex,hd,hel,hp,hn,hsb,g⟩:=S
  have gu:u.led=(!qBr w):=by obtain⟨_,_,_,_,_,_,_,_,g⟩:=O;exact g.led
  split
  ·refine wpAny_bind (gs.put (t' :={ t with led:=t.led&&u.led,plain:=t.plain&&u.plain }) hel hp hn hsb (g.flags rfl rfl rfl (by show (t.led&&u.led)=_;rw [g.led,gu,Bool.and_self])) fun h' sb S'=>wpAny_pure ?_)
   exact q eo h' s.drawn _ _ _ (.refl _) sb S'
  ·exact wpAny_bind (wpAny_pure (wpAny_pure (q eo s.heap s.drawn _ _ _ (.refl _) (Heap.SameBut.refl a s.heap) gs)))
theorem qT5 {a b:Addr} {ns ms:List Int} {es:Array (Int×Value)} {ep:Nat} {t:SetTable} {each:Sem Unit} {Q:Unit->Shared->Prop} (hab:a≠b) (S:SetT w s.heap a ns es ep t) (hns:Small ns) (h0:t.fill=0->t.mask+1∈pows) (O:SetI w s.heap b ms) (hms:Small ms) (hl:ns.length+ms.length<=60)
  (he : ∀(s':Shared) (R:Unit->Shared->Prop),(∀o,s.heap.get? b=some o->s'.heap.get? b=some o)->R () s'->wpAny (model P w) A each R E s')
  (q : ∀h' d es' ep' t' us,Heap.SameBut a s.heap h'->SetT w h' a us es' ep' t'->(t'.fill=0->t'.mask+1∈pows)->(∀x,x∈us↔x∈ns\/x∈ms)->Q () { s with heap:=h',drawn:=d }):wpAny (model P w) A (setMerge a b each) Q E s:=by
 obtain⟨eo,eq,u,O⟩:=O.table
 obtain⟨oo,hoo,hexo,hdo,helo,hpo,hno,hsbo,go⟩:=id O
 have hol:=O.len
 unfold setMerge
 rw [if_neg (by simpa using hab)]
 refine wpAny_bind (O.state ?_)
 dsimp only
 split
 ·rename_i hz
  have hz:eo.size=0:=by simpa [Array.isEmpty] using hz
  have:ms = []:=List.length_eq_zero_iff.mp (by omega)
  subst this
  exact wpAny_pure (q s.heap s.drawn es ep t ns (Heap.SameBut.refl a s.heap) S h0 (by simp))
 ·rename_i hz0
  have hpos:0<eo.size:=by
   cases h:eo.size with
   | zero=>exact absurd (by simp [Array.isEmpty,h]) hz0
   | succ k=>omega
  have fillpos : ∀ {h:Heap} {us:List Int} {es:Array (Int×Value)} {ep:Nat} {t:SetTable},SetT w h a us es ep t->0<us.length->t.fill≠0:=by
   intro h us es ep t S' hu hf
   have h1:=S'.len
   obtain⟨_,_,_,_,_,_,_,_,g⟩:=S'
   have h2:=qEx g.fits
   unfold SetTable.fill at hf
   omega
  refine wpAny_bind (roomI S hns (by omega) h0 fun h1 es1 ep1 t1 sb1 S1 hf1 => ?_)
  have O1:SetT w h1 b ms eo eq u:=O.stay fun o e=>by rw [sb1.2 b hab.symm];exact e
  obtain⟨o1,ho1,hex1,hd1,hel1,hp1,hn1,hsb1,g1⟩:=id S1
  have hl1:=S1.len
  refine wpAny_bind (S1.state (s :={ s with heap:=h1 }) ?_)
  dsimp only
  have hzero:t1.fill=0->ns = []:=fun hf=>by
   have h2:=qEx g1.fits
   unfold SetTable.fill at hf
   exact List.length_eq_zero_iff.mp (by omega)
  have hled:(t1.led&&u.led) = !qBr w:=by rw [g1.led,go.led,Bool.and_self]
  cases hr:t1.road u with
  | slotForSlot =>
   dsimp only
   have hf:t1.fill=0:=by
    unfold SetTable.road at hr
    split at hr
    ·cases hr
    ·rename_i z;simpa using z
   have:=hzero hf
   subst this
   refine S1.put (s :={ s with heap:=h1 }) (t' :={ u with finger:=t1.finger,led:=t1.led&&u.led,moves:=t1.moves,plain:=t1.plain&&u.plain }) helo hpo hno hsbo (go.flags rfl rfl rfl hled) fun h' sb S' => ?_
   exact q h' s.drawn _ _ _ ms (sb1.trans sb) S' (fun hf=>absurd hf (fillpos S' (by omega))) (by simp)
  | clean =>
   dsimp only
   have hf:t1.fill=0:=by
    unfold SetTable.road at hr
    split at hr
    ·cases hr
    ·rename_i z;simpa using z
   have:=hzero hf
   subst this
   obtain⟨m1,m2⟩:=hf1 hf
   obtain⟨t',order,e1,e2,e3,e4,e5⟩:=qPx (finger:=t1.finger) (moves:=t1.moves) (led:=t1.led&&u.led) (plain:=t1.plain&&u.plain) m1 (qFu helo hpo hms) (by rw [Array.size_map];omega)
   rw [Array.size_map] at e2 e3
   refine wpAny_bind (reord (s :={ s with heap:=h1 }) (es:=eo) (t:=t') (order:=order) e1 e2 ?_)
   dsimp only
   have hpm:=qDf e2
   have hz:(order.filterMap (eo[·]?)).size=eo.size:=by rw [<-Array.length_toList,hpm.length_eq,Array.length_toList]
   have g':GoodT (!qBr w) t' (order.filterMap (eo[·]?)).size:=by rw [hz,<-hled];exact e3
   refine S1.put (s :={ s with heap:=h1 }) (es':=order.filterMap (eo[·]?)) (t':=t') (fun e he=>helo e (hpm.mem_iff.mp he)) ((hpm.map keyI).trans hpo) hno (by rw [hz];exact hsbo) g' fun h' sb S' => ?_
   exact q h' s.drawn _ _ _ ms (sb1.trans sb) S' (fun hf=>absurd hf (fillpos S' (by omega))) (by simp)
  | oneByOne =>
   dsimp only
   refine wpAny_bind (qTj (s :={ s with heap:=h1 }) hab S1 O1 fun arr h2 d es2 ep2 t2 hpa sb2 S2 => ?_)
   refine wpAny_bind (MeetsSeq2.wpAny_forIn_array _ (fun rest _ s' => ∃h' us,s' = { s with heap:=h',drawn:=d }/\Heap.SameBut a s.heap h'/\SetI w h' a us/\us.length+rest.length<=60/\(∀e∈rest,EI e) /\ ∀x,(x∈us\/x∈rest.map keyI)↔(x∈ns\/x∈ms)) _ ?_ ?_ _ _ ?_)
   ·rintro e rest c s' ⟨h',us,rfl,sb,SI,hlen,hEI,hmem⟩
    obtain⟨n,tk,rfl⟩:=hEI e (List.mem_cons_self ..)
    rw [List.length_cons] at hlen
    dsimp only
    refine wpAny_bind (wpAny_holding (qSm (s :={ s with heap:=h',drawn:=d }) SI (by show us.length+1<4096;omega) fun h'' sb'' SI'' => ?_))
    have keep : ∀o,s.heap.get? b=some o->h''.get? b=some o:=fun o e=>by rw [sb''.2 b hab.symm,sb.2 b hab.symm];exact e
    refine wpAny_bind (he _ _ keep ?_)
    refine wpAny_bind (SetT.state (s :={ s with heap:=h'',drawn:=d }) (O.stay keep) ?_)
    dsimp only
    rw [if_neg (by simp)]
    refine wpAny_pure ⟨h'',addN us n,rfl,sb.trans sb'',SI'',?_,fun e h=>hEI e (List.mem_cons_of_mem _ h),fun x => ?_⟩
    ·have:=qNc (ns:=us) (n:=n)
     omega
    ·rw [<-hmem x,qIw,List.map_cons,List.mem_cons]
     show (x∈us\/x=n)\/_↔x∈us\/x=n\/_
     rw [or_assoc]
   ·rintro c s' ⟨h',us,rfl,sb,SI,hlen,hEI,hmem⟩
    obtain⟨es3,ep3,t3,S3⟩:=SI.table
    have hus:0<us.length:=by
     obtain⟨y,hy⟩:=List.exists_mem_of_ne_nil ms (fun z=>by subst z;rw [List.length_nil] at hol;omega)
     exact List.length_pos_of_mem (((hmem y).mpr (.inr hy)).elim id fun z=>by cases z)
    exact wpAny_pure (q h' d es3 ep3 t3 us sb S3 (fun hf=>absurd hf (fillpos S3 hus)) fun x=>by rw [<-hmem x];simp)
   ·refine⟨h2,ns,rfl,sb1.trans sb2,S2.setI,?_,fun e he=>helo e (hpa.mem_iff.mp he),fun x => ?_⟩
    ·have h9:arr.toList.length=eo.size:=hpa.length_eq.trans (Array.length_toList ..)
     omega
    ·rw [((hpa.map keyI).trans hpo).mem_iff]
theorem qQv {a:Addr} {ns:List Int} {Q:Bool->Shared->Prop} (S:SetI w s.heap a ns) (q:Q true s):wpAny (model P w) A (Builtin.Frozenset.isAnySet (.ref a)) Q E s:=by
 obtain⟨o,_,_,_,ho,hex,_⟩:=S
 have hT:Shared.TypeIs s (.ref a) "set" :=⟨o,ho,hex.1⟩
 unfold Builtin.Frozenset.isAnySet
 refine wpAny_bind (wpAny_isInstance hT sub_set_self ?_)
 exact wpAny_pure q
theorem copyI {a:Addr} {ns:List Int} {Q:Value->Shared->Prop} (S:SetI w s.heap a ns) (hb:Small ns) (hl:ns.length<=60)
  (q : ∀h' d es ep t us,(∀b o,s.heap.get? b=some o->h'.get? b=some o)->SetT w h' s.heap.objs.size us es ep t->(t.fill=0->t.mask+1∈pows)->(∀x,x∈us↔x∈ns)->Q (.ref s.heap.objs.size) { s with heap:=h',drawn:=d }):wpAny (model P w) A (Builtin.Frozenset.copyOf a) Q E s:=by
 have hT:Shared.TypeIs s (.ref a) "set" :=by obtain⟨o,_,_,_,ho,hex,_⟩:=S;exact⟨o,ho,hex.1⟩
 have ha:a<s.heap.objs.size:=by obtain⟨o,_,_,_,ho,_⟩:=S;exact Heap.lt_size ho
 unfold Builtin.Frozenset.copyOf Builtin.Frozenset.baseOf
 refine wpAny_bind (wpAny_bind (wpAny_isInstance hT sub_set_self (wpAny_pure ?_)))
 simp only [if_true]
 refine wpAny_bind (qK7 ?_)
 unfold Builtin.Frozenset.addrOf
 refine wpAny_bind (wpAny_pure ?_)
 have k1 : ∀b o,s.heap.get? b=some o->(s.heap.push (newS w)).get? b=some o:=fun b o e=>Heap.get?_push_of_some _ e
 have S0:SetT w (s.heap.push (newS w)) s.heap.objs.size [] #[] 0 (.fresh 0 0 (!qBr w)):=⟨newS w,Heap.get?_push_size _ rfl,⟨rfl,rfl,rfl⟩,rfl,by simp,.refl _,.nil,by decide,⟨rfl,by simp [SetTable.fresh],rfl⟩⟩
 refine wpAny_bind (qT5 (s :={ s with heap:=s.heap.push (newS w) }) (Nat.ne_of_gt ha) S0 (fun n hn=>by cases hn) (fun _=>by show 8∈pows;decide) (S.stay fun o e=>k1 a o e) hb (by simpa using hl) (fun s' R _ hR=>wpAny_pure hR) fun h' d es' ep' t' us sb S' hf hmem => ?_)
 refine wpAny_pure (q h' d es' ep' t' us (fun b o e => ?_) S' hf fun x=>by rw [hmem x];simp)
 rw [sb.2 b (Nat.ne_of_lt (Heap.lt_size e))]
 exact k1 b o e
theorem qKn:entryFor table "set.__or__" = some Builtin.«frozenset.__or__» :=entryFor_alias (id' := "frozenset.__or__") (by kernel_rfl) rfl (by decide +kernel) (by kernel_rfl)
theorem qR4 {a b:Addr} {ns ms:List Int} {id:String} {Q:Value->Shared->Prop} (hab:a≠b) (S:SetI w s.heap a ns) (O:SetI w s.heap b ms) (hns:Small ns) (hms:Small ms) (hl:ns.length+ms.length<=60)
  (q : ∀h' d us,(∀b o,s.heap.get? b=some o->h'.get? b=some o)->SetI w h' s.heap.objs.size us->(∀x,x∈us↔x∈ns\/x∈ms)->Q (.ref s.heap.objs.size) { s with heap:=h',drawn:=d }) :
  wpAny (model P w) A (do
   let result <-Builtin.Frozenset.copyOf a
   if (Value.ref b) != .ref a then holding [result] (Builtin.Frozenset.updateFrom id (<-Builtin.Frozenset.addrOf result) (.ref b))
   return result) Q E s:=by
 have ha:b<s.heap.objs.size:=by obtain⟨o,_,_,_,ho,_⟩:=O;exact Heap.lt_size ho
 refine wpAny_bind (copyI S hns (by omega) fun h1 d1 es ep t us k1 S1 hf hmem => ?_)
 have hne:((Value.ref b) != .ref a)=true:=by simp;exact hab.symm
 rw [if_pos hne]
 unfold Builtin.Frozenset.addrOf
 refine wpAny_bind (wpAny_pure (wpAny_bind (wpAny_holding ?_)))
 unfold Builtin.Frozenset.updateFrom
 have O1:SetI w h1 b ms:=O.stay fun o e=>k1 b o e
 have O2:=O1
 refine wpAny_bind (qQv (s :={ s with heap:=h1,drawn:=d1 }) O1 ?_)
 simp only [if_true]
 unfold Builtin.Frozenset.addrOf Builtin.Frozenset.merge
 refine wpAny_bind (wpAny_pure ?_)
 obtain⟨oo,eo,eq,u,hoo,hexo,hdo,helo,hpo,hno,hsbo,go⟩:=O2
 refine wpAny_bind (wpAny_setEpoch_of (s :={ s with heap:=h1,drawn:=d1 }) hoo hdo go.fits ?_)
 have hsl:us.length=ns.length:=by
  obtain⟨_,_,_,_,_,_,hn,_⟩:=S1
  obtain⟨_,_,_,_,_,_,_,_,_,hn2,_⟩:=S
  exact ((List.perm_ext_iff_of_nodup hn hn2).mpr hmem).length_eq
 refine qT5 (s :={ s with heap:=h1,drawn:=d1 }) (Nat.ne_of_gt ha) S1 (fun n hn=>hns n ((hmem n).mp hn)) hf O1 hms (by omega) (fun s' R k hR => ?_) fun h' d es' ep' t' us' sb S' hf' hmem' => ?_
 ·unfold Builtin.Frozenset.unchanged
  refine wpAny_bind (wpAny_setEpoch_of (k _ hoo) hdo go.fits ?_)
  rw [if_neg (by simp)]
  exact wpAny_pure hR
 ·refine wpAny_pure (q h' d us' (fun c o e => ?_) S'.setI fun x=>by rw [hmem' x,hmem x])
  rw [sb.2 c (Nat.ne_of_lt (Heap.lt_size e))]
  exact k1 c o e
theorem qU8 {a b:Addr} {ns ms:List Int} {Q:Value->Shared->Prop} (hab:a≠b) (S:SetI w s.heap a ns) (O:SetI w s.heap b ms) (hns:Small ns) (hms:Small ms) (hl:ns.length+ms.length<=60)
  (q : ∀h' d us,(∀b o,s.heap.get? b=some o->h'.get? b=some o)->SetI w h' s.heap.objs.size us->(∀x,x∈us↔x∈ns\/x∈ms)->Q (.ref s.heap.objs.size) { s with heap:=h',drawn:=d }) :
  wpAny (model P w) A (binaryOp .BitOr (.ref a) (.ref b)) Q E s:=by
 have hT : ∀ {c:Addr} {ls:List Int},SetI w s.heap c ls->Shared.TypeIs s (.ref c) "set" :=by intro c ls S;obtain⟨o,_,_,_,ho,hex,_⟩:=S;exact⟨o,ho,hex.1⟩
 refine wpAny_binaryOp_same (hT S) (hT O) F.fills_set_or F.slot_set_or (wpAny_call_entry F.slot_set_or (hT S) qKn ?_ (F.args_set_or_2 _ _))
 show wpAny _ _ (do
  let (self,other) <-Builtin.Frozenset.slot1 "__or__" ⟨[.ref a,.ref b],[]⟩
  let (l,r):=if false then (other,self) else (self,other)
  if !(<-Builtin.Frozenset.isAnySet l <&&> Builtin.Frozenset.isAnySet r) then rule s!"frozenset.{"__or__"}.declined";return <-ret .notImplemented
  ret (<-(fun (id:String) (l:Addr) (r:Value)=>(do
   let result <-Builtin.Frozenset.copyOf l
   if r != .ref l then holding [result] (Builtin.Frozenset.updateFrom id (<-Builtin.Frozenset.addrOf result) r)
   return result:Sem Value)) s!"frozenset.{"__or__"}" (<-Builtin.Frozenset.addrOf l) r)) _ _ _
 unfold Builtin.Frozenset.slot1
 refine wpAny_bind (wpAny_bind (m:=slotArgs "__or__" 1 _) (wpAny_pure (wpAny_pure ?_)))
 refine wpAny_bind (wpAny_bind (qQv S ?_))
 refine qQv O ?_
 simp only [Bool.not_true,Bool.false_eq_true,if_false]
 refine wpAny_bind (m:=Builtin.Frozenset.addrOf (.ref a)) (wpAny_pure ?_)
 refine wpAny_bind (qR4 hab S O hns hms hl fun h' d us k S' hm => ?_)
 exact wpAny_pure ⟨_,rfl,by simp,q h' d us k S' hm⟩
end
section
variable {X:Cx}
def rOrS (w:World):R2:=fun x y H Q => ∃(a b:Addr) (ns ms:List Int),x = .ref a/\y = .ref b/\a≠b/\H a=some (setO w ns)/\H b=some (setO w ms)/\Small ns/\Small ms/\ns.length+ms.length<=60 /\
 ∀(l:Addr) (us:List Int),H l=none->us.Nodup->(∀x,x∈us↔x∈ns\/x∈ms)->Q (.ref l) (upd H l (setO w us))
theorem qW5:OpR X (binaryOp .BitOr) (rOrS X.w):=by
 intro pins s σ H x y v u Q I rx ry h
 obtain⟨a,b,ns,ms,rfl,rfl,hab,ha,hb,hns,hms,hl,q⟩:=h
 cases rx
 cases ry
 refine qU8 hab (I.setI ha) (I.setI hb) hns hms hl fun h' d us k S' hm => ?_
 have hn:us.Nodup:=by obtain⟨_,_,_,_,_,_,_,_,_,hn,_⟩:=S';exact hn
 exact⟨.ref s.heap.objs.size,_,(I.laid (t':=s.toks) k (Nat.le_refl _) (qIl S')).drew,rfl,q _ us (I.hok.fresh (Nat.le_refl _)) hn hm⟩
end
theorem qK4 {CX:CXT} {P:Program} {w:World} {K:PySem.W.Frag} {mg:Str->Option Value} {base:Heap} {N:List Str} {qual:Str} {scope:Scope} {f:Addr} {cd:Value} {A:Around} {outer:List Env} {s:Shared} {H:Hp} {E:XK}:(cxOf CX P w K mg base N qual scope f cd A outer s H E).nox.w=w:=rfl
theorem qTe {CX:CXT} {P:Program} {w:World} {K:PySem.W.Frag} {mg:Str->Option Value} {base:Heap} {N:List Str} {qual:Str} {scope:Scope} {f:Addr} {cd:Value} {A:Around} {outer:List Env} {s:Shared} {H:Hp} {E:XK}:(cxOf CX P w K mg base N qual scope f cd A outer s H E).w=w:=rfl
def BusyP (ws:List (List Blk)) (n:Nat) (wk:List Blk) (x y:Int):Prop:=y∈wrTo wk x wk.length\/(∃s∈qBk wk x,Reach (nxt wk) s y)/\y∈qBo ws x n wk.length
def qGh (K:PySem.W.Frag):Sp:=fun vs H Q _ => ∃(wa:Addr) (ws:List (List Blk)) (n:Nat) (wk:List Blk) (x:Int),vs = [.ref wa,.int n,.int x]/\Den K H (qC7 ws) (.ref wa)/\WsOk ws/\ws[n]? = some wk /\
 ∀(l:Addr) (ns:List Int) (H':Hp),H l=none->Ext [] H H'->H' l=some (.lst (ns.map V.int))->ns.Pairwise (· <= ·)->ns.Nodup->(∀y,y∈ns↔BusyP ws n wk x y)->Q (.ref l) H'
theorem neDK (K:PySem.W.Frag) {X:Cx} {k:Nat} (hK:X.K=K) (hr:Room k X.A):OpR X (compareOp .NotEq) (rEqD K true):=hK▸qK2 hr
def boxTo (wk:List Blk) (i:Nat):List Int:=((List.range i).filter fun (k:Nat) => !decide (wrTo wk (k:Int) wk.length = [])).map fun (k:Nat)=>(k:Int)
theorem qI5 (wk:List Blk) (i:Nat):boxTo wk (i+1)=if wrTo wk (i:Int) wk.length = [] then boxTo wk i else boxTo wk i ++ [(i:Int)]:=by
 unfold boxTo
 rw [List.range_succ,List.filter_append,List.filter_cons,List.filter_nil]
 by_cases h:wrTo wk (i:Int) wk.length = []
 ·rw [decide_eq_true h,if_pos h];simp
 ·rw [decide_eq_false h,if_neg h];simp
theorem qQp (wk:List Blk) (i:Nat):(boxTo wk i).length<=i:=by
 unfold boxTo
 rw [List.length_map]
 have:=List.length_filter_le (fun (k:Nat) => !decide (wrTo wk (k:Int) wk.length = [])) (List.range i)
 rw [List.length_range] at this
 exact this
theorem qPq {wk:List Blk} {i:Nat} {y:Int}:y∈boxTo wk i↔(0<=y/\y<i)/\wrTo wk y wk.length ≠ []:=by
 unfold boxTo
 rw [List.mem_map]
 constructor
 ·rintro⟨k,hk,rfl⟩
  obtain⟨h1,h2⟩:=List.mem_filter.mp hk
  have:=List.mem_range.mp h1
  exact⟨by omega,by simpa using h2⟩
 ·rintro⟨h1,h2⟩
  refine⟨y.toNat,List.mem_filter.mpr ⟨List.mem_range.mpr (by omega),?_⟩,by omega⟩
  rw [Int.toNat_of_nonneg h1.1];simpa using h2
def qIg (K:PySem.W.Frag):Sp:=fun vs H Q _ => ∃(wa:Addr) (wk:List Blk) (m works:Int),vs = [.ref wa]/\Den K H (workD wk) (.ref wa)/\WorkOk m works wk/\m<=12 /\
 ∀(l:Addr) (H':Hp),H l=none->Ext [] H H'->H' l=some (.lst ((boxTo wk 8).map V.int))->Q (.ref l) H'
theorem qDd {m works x y:Int} {wk:List Blk} (h:WorkOk m works wk) (hy : ∃s∈qBk wk x,Reach (nxt wk) s y):0<=y/\y<m:=by
 obtain⟨s,hs,rr⟩:=hy
 obtain⟨b,hb,hsb⟩:=List.mem_flatMap.mp hs
 have:=(qE5 h b).range _ hsb
 exact rr.range h (by omega)
theorem qDo {m works x y:Int} {wk:List Blk} (h:WorkOk m works wk) (hy:y∈wrTo wk x wk.length):0<=y/\y<m:=by
 obtain⟨n,rfl,h1,_⟩:=mem_wrTo.mp hy
 have:=h.len
 omega
theorem qE1 {ws:List (List Blk)} {n:Nat} {m works x y:Int} {wk:List Blk} (h:WorkOk m works wk) (hy:BusyP ws n wk x y):0<=y/\y<m:=hy.elim (qDo h) fun z=>qDd h z.1
theorem qNu {ws:List (List Blk)} {x y:Int} {n i:Nat}:y∈qBo ws x n i ↔ ∃a:Nat,y=(a:Int)/\a<i/\askB ws x ((n:Int),(a:Int))=true:=by
 unfold qBo
 rw [List.mem_map]
 constructor
 ·rintro⟨a,ha,rfl⟩
  obtain⟨h1,h2⟩:=List.mem_filter.mp ha
  exact⟨a,rfl,List.mem_range.mp h1,h2⟩
 ·rintro⟨a,rfl,h1,h2⟩
  exact⟨a,List.mem_filter.mpr ⟨List.mem_range.mpr h1,h2⟩,rfl⟩
theorem qMh {m:Int} {ns:List Int} (hm:m<=12) (h : ∀n∈ns,0<=n/\n<m):Small ns:=fun n hn=>by have:=h n hn;omega
theorem qK5 : ∀(m:Nat) {ns:List Int},ns.Nodup->(∀n∈ns,0<=n/\n<(m:Int))->ns.length<=m
 | 0,ns,_,h=>by
  cases ns with
  | nil=>exact Nat.le_refl _
  | cons a r=>have:=h a (List.mem_cons_self ..);omega
 | m+1,ns,hn,h=>by
  have ih:=qK5 m (ns:=ns.erase (m:Int)) (hn.erase _) fun n hn'=>by
   have h1:=(hn.mem_erase_iff).mp hn'
   have h2:=h n h1.2
   have h3:=h1.1
   omega
  by_cases hm:(m:Int)∈ns
  ·rw [List.length_erase_of_mem hm] at ih;omega
  ·rw [List.erase_of_not_mem hm] at ih;omega
mutual
def DenE (G:Hp):PyData->V->Prop
 | .none,v=>v = .non
 | .bool b,v=>v = .bl b
 | .int i,v=>v = .int i
 | .str x,v=>v = .str x
 | .list ds,v => ∃a vs,v = .ref a/\G a=some (.lst vs)/\DenEL G ds vs
 | .tuple ds,v => ∃a vs,v = .ref a/\G a=some (.tup vs)/\DenEL G ds vs
 | .dict _,_=>False
def DenEL (G:Hp):List PyData->List V->Prop
 | [],vs=>vs = []
 | d::ds,vs => ∃v r,vs=v::r/\DenE G d v/\DenEL G ds r
end
section
variable {G G':Hp}
mutual
theorem DenE.mono (h:Same G G') : ∀ {d:PyData} {v:V},DenE G d v->DenE G' d v
 | .none,_,e=>by simp only [DenE] at e ⊢;exact e
 | .bool _,_,e=>by simp only [DenE] at e ⊢;exact e
 | .int _,_,e=>by simp only [DenE] at e ⊢;exact e
 | .str _,_,e=>by simp only [DenE] at e ⊢;exact e
 | .list ds,_,e=>by
  simp only [DenE] at e ⊢
  obtain⟨a,vs,e1,e2,e3⟩:=e
  exact⟨a,vs,e1,h _ _ e2,DenEL.mono h e3⟩
 | .tuple ds,_,e=>by
  simp only [DenE] at e ⊢
  obtain⟨a,vs,e1,e2,e3⟩:=e
  exact⟨a,vs,e1,h _ _ e2,DenEL.mono h e3⟩
 | .dict _,_,e=>by simp only [DenE] at e
theorem DenEL.mono (h:Same G G') : ∀ {ds:List PyData} {vs:List V},DenEL G ds vs->DenEL G' ds vs
 | [],_,e=>by simp only [DenEL] at e ⊢;exact e
 | d::ds,_,e=>by
  simp only [DenEL] at e ⊢
  obtain⟨v,r,e1,e2,e3⟩:=e
  exact⟨v,r,e1,DenE.mono h e2,DenEL.mono h e3⟩
end
theorem DenEL.len : ∀ {ds:List PyData} {vs:List V},DenEL G ds vs->vs.length=ds.length
 | [],_,e=>by simp only [DenEL] at e;rw [e];rfl
 | d::ds,_,e=>by
  simp only [DenEL] at e
  obtain⟨v,r,rfl,_,e3⟩:=e
  simp [DenEL.len e3]
theorem DenEL.nil:DenEL G [] []:=by simp only [DenEL]
theorem DenEL.cons {d:PyData} {ds:List PyData} {v:V} {vs:List V} (h1:DenE G d v) (h2:DenEL G ds vs):DenEL G (d::ds) (v::vs):=by
 simp only [DenEL];exact⟨v,vs,rfl,h1,h2⟩
theorem DenEL.append : ∀ {ds es:List PyData} {vs ws:List V},DenEL G ds vs->DenEL G es ws->DenEL G (ds++es) (vs++ws)
 | [],_,_,_,e,f=>by simp only [DenEL] at e;subst e;exact f
 | d::ds,_,_,_,e,f=>by
  simp only [DenEL] at e
  obtain⟨v,r,rfl,e2,e3⟩:=e
  exact .cons e2 (DenEL.append e3 f)
theorem DenEL.get : ∀ {ds:List PyData} {vs:List V} {i:Nat} {v:V},DenEL G ds vs->vs[i]? = some v -> ∃d,ds[i]? = some d/\DenE G d v
 | [],_,_,_,e,h=>by simp only [DenEL] at e;subst e;simp at h
 | d::ds,_,0,_,e,h=>by
  simp only [DenEL] at e
  obtain⟨v,r,rfl,e2,e3⟩:=e
  simp at h;subst h
  exact⟨d,rfl,e2⟩
 | d::ds,_,i+1,_,e,h=>by
  simp only [DenEL] at e
  obtain⟨v,r,rfl,e2,e3⟩:=e
  exact DenEL.get (i:=i) e3 (by simpa using h)
theorem DenE.int {i:Int}:DenE G (.int i) (.int i):=by simp only [DenE]
theorem DenE.str {i:Str}:DenE G (.str i) (.str i):=by simp only [DenE]
theorem DenE.list {ds:List PyData} {a:Addr} {vs:List V} (h:G a=some (.lst vs)) (e:DenEL G ds vs):DenE G (.list ds) (.ref a):=by simp only [DenE];exact⟨a,vs,rfl,h,e⟩
theorem DenE.tuple {ds:List PyData} {a:Addr} {vs:List V} (h:G a=some (.tup vs)) (e:DenEL G ds vs):DenE G (.tuple ds) (.ref a):=by simp only [DenE];exact⟨a,vs,rfl,h,e⟩
theorem DenE.ofListE {ds:List PyData} {v:V} (h:DenE G (.list ds) v) : ∃a vs,v = .ref a/\G a=some (.lst vs)/\DenEL G ds vs:=by simpa only [DenE] using h
theorem DenE.ofTupleE {ds:List PyData} {v:V} (h:DenE G (.tuple ds) v) : ∃a vs,v = .ref a/\G a=some (.tup vs)/\DenEL G ds vs:=by simpa only [DenE] using h
theorem DenEL.ofCons {d:PyData} {ds:List PyData} {vs:List V} (h:DenEL G (d::ds) vs) : ∃v r,vs=v::r/\DenE G d v/\DenEL G ds r:=by simpa only [DenEL] using h
theorem DenEL.ofNil {vs:List V} (h:DenEL G [] vs):vs = []:=by simpa only [DenEL] using h
end
section
variable {K:PySem.W.Frag} {G:Hp}
theorem DenE.ofList {ds:List PyData} {v:V} (h:DenE G (.list ds) v) : ∃a vs,v = .ref a/\SqL K G a vs/\DenEL G ds vs:=by
 obtain⟨a,vs,e,h1,h2⟩:=h.ofListE
 exact⟨a,vs,e,SqL.of h1,h2⟩
theorem DenE.ofTuple {ds:List PyData} {v:V} (h:DenE G (.tuple ds) v) : ∃a vs,v = .ref a/\SqT K G a vs/\DenEL G ds vs:=by
 obtain⟨a,vs,e,h1,h2⟩:=h.ofTupleE
 exact⟨a,vs,e,SqT.of h1,h2⟩
mutual
theorem DenE.den : ∀ {d:PyData} {v:V},DenE G d v->Den K G d v
 | .none,_,e=>by simp only [DenE] at e;simp only [Den];exact e
 | .bool _,_,e=>by simp only [DenE] at e;simp only [Den];exact e
 | .int _,_,e=>by simp only [DenE] at e;simp only [Den];exact e
 | .str _,_,e=>by simp only [DenE] at e;simp only [Den];exact e
 | .list ds,_,e=>by
  simp only [DenE] at e
  obtain⟨a,vs,rfl,e2,e3⟩:=e
  exact .list (SqL.of e2) (DenEL.den e3)
 | .tuple ds,_,e=>by
  simp only [DenE] at e
  obtain⟨a,vs,rfl,e2,e3⟩:=e
  exact .tuple (SqT.of e2) (DenEL.den e3)
 | .dict _,_,e=>by simp only [DenE] at e
theorem DenEL.den : ∀ {ds:List PyData} {vs:List V},DenEL G ds vs->DenL K G ds vs
 | [],_,e=>by simp only [DenEL] at e;subst e;exact .nil
 | d::ds,_,e=>by
  simp only [DenEL] at e
  obtain⟨v,r,rfl,e2,e3⟩:=e
  exact .cons (DenE.den e2) (DenEL.den e3)
end
end
def WorksE (G H:Hp) (as:List Addr) (ws:List (List Blk)):Prop:=Paired (fun a w => ∃bs,H a=some (.lst bs)/\DenEL G (w.map blkD) bs) as ws
theorem WorksE.len {G H:Hp} {as:List Addr} {ws:List (List Blk)} (h:WorksE G H as ws):as.length=ws.length:=Paired.length h
theorem WorksE.mono {G G' H H':Hp} (g:Same G G') {as:List Addr} {ws:List (List Blk)} (h:WorksE G H as ws) (k : ∀a∈as,∀o,H a=some o->H' a=some o):WorksE G' H' as ws:=by
 induction h with
 | nil=>exact .nil
 | cons a _ ih=>obtain⟨bs,e,d⟩:=a;exact .cons ⟨bs,k _ (by simp) _ e,d.mono g⟩ (ih fun a ha o e=>k a (by simp [ha]) o e)
theorem WorksE.get {G H:Hp} : ∀ {as:List Addr} {ws:List (List Blk)} {i:Nat} {a:Addr},WorksE G H as ws->as[i]? = some a -> ∃w bs,ws[i]? = some w/\H a=some (.lst bs)/\DenEL G (w.map blkD) bs
 | _,_,_,_,.nil,e=>by simp at e
 | _,_,0,_,.cons ⟨bs,e,d⟩ _,h=>by simp at h;subst h;exact⟨_,bs,rfl,e,d⟩
 | _,_,i+1,a,.cons _ r,h=>by
  obtain⟨w,bs,h1,h2⟩:=WorksE.get (i:=i) (a:=a) r (by simpa using h)
  exact⟨w,bs,by simpa using h1,h2⟩
theorem WorksE.snoc {G H:Hp} {a:Addr} {w:List Blk} {bs:List V} {as:List Addr} {ws:List (List Blk)} (h:WorksE G H as ws) (e:H a=some (.lst bs)) (d:DenEL G (w.map blkD) bs):WorksE G H (as ++ [a]) (ws ++ [w]):=by
 induction h with
 | nil=>exact .cons ⟨bs,e,d⟩ .nil
 | cons a _ ih=>exact .cons a ih
def qG1 (K:PySem.W.Frag):Sp:=fun vs H Q _ => ∃(t b:Addr) (k:Nat) (most first works:Int) (bs:List Int),vs = [.ref t,.int most,.ref b,.int first,.int works]/\Tape H t k/\k+130<=2^40/\0<=most/\most<=12/\0<=first/\first<=100/\1<=works/\works<=100 /\
 H b=some (.lst (bs.map V.int))/\b≠t/\BsOk bs /\ ∀(l:Addr) (ds:List Deed) (H':Hp),H l=none->Tape H' t (k+130)->Ext [t] H H'->(∀d∈ds,qI8 works d)->ds.length<=12->DenE (yo H [t] H') (.list (ds.map deedD)) (.ref l)->Q (.ref l) H'
def qL8 (K:PySem.W.Frag):Sp:=fun vs H Q _ => ∃(t:Addr) (k:Nat) (m most first works:Int),vs = [.ref t,.int m,.int most,.int first,.int works]/\Tape H t k/\k+2000<=2^40/\1<=m/\m<=12/\0<=most/\most<=12/\0<=first/\first<=100/\1<=works/\works<=100 /\
 ∀(l:Addr) (w:List Blk) (bs:List V) (H':Hp),H l=none->l≠t->Tape H' t (k+2000)->Ext [t] H H'->WorkOk m works w->(∀b∈w,b.ds.length<=12)->H' l=some (.lst bs)->DenEL (yo H [l,t] H') (w.map blkD) bs->Q (.ref l) H'
def qLa (K:PySem.W.Frag):Sp:=fun vs H Q _ => ∃(wa:Addr) (ws:List (List Blk)),vs = [.ref wa]/\DenE H (qC7 ws) (.ref wa)/\WsOk ws /\ ∀(l:Addr) (ws':List (List Blk)) (H':Hp),Ext [] H H'->DenE H' (qC7 ws') (.ref l)->WsOk ws'->ws'.length=ws.length->Q (.ref l) H'
theorem qNd {G H:Hp} {as:List Addr} {ws:List (List Blk)} (h:WorksE G H as ws) (g:Same G H):DenEL H (ws.map workD) (as.map V.ref):=by
 induction h with
 | nil=>exact .nil
 | cons a _ ih=>obtain⟨bs,e,d⟩:=a;exact .cons (.list e (d.mono g)) ih
def qIa (K:PySem.W.Frag):Sp:=fun vs H Q _ => ∃(t:Addr) (k:Nat) (most:Int),vs = [.ref t,.int most]/\Tape H t k/\k+21000<=2^40/\0<=most/\most<=12 /\
 ∀(l:Addr) (ws:List (List Blk)) (H':Hp),Tape H' t (k+21000)->Ext [t] H H'->DenE H' (qC7 ws) (.ref l)->WsOk ws->Q (.ref l) H'
section
variable {X:Cx} {elts:List Expr} {k:Nat} {tpos:Pos}
variable {X:Cx} {elt tg iter tg2 iter2:Expr} {ifs ifs2:List Expr} {scope:Scope} {own:List Str} {cap:List Nat} {wi wi2:TI} {g g2:TG} {tts tts2:List TT} {te:TE} {pos:Pos}
theorem qVy {i:Nat} {x:Str} {px spos:Pos} (own:List Str) (cap:List Nat) (hc:X.calm=true) (S:CompScope X own cap scope) (hN:X.N.Nodup) (hix:X.N[i]? = some x) (hx:Loc X.env.scope x)
  (hi:PI X tg iter wi) (hg : ∀cl s H ex,PG (qAh X own cap scope cl s H ex) tg g)
  (ht : ∀cl s H ex,PTs (qAh X own cap scope cl s H ex) ifs tts) (hi2 : ∀cl s H ex,PI (qAh X own cap scope cl s H ex) tg2 iter2 wi2) (hg2 : ∀cl s H ex,PG (qAh X own cap scope cl s H ex) tg2 g2)
  (ht2 : ∀cl s H ex,PTs (qAh X own cap scope cl s H ex) ifs2 tts2) (he : ∀cl s H ex,PE (qAh X own cap scope cl s H ex) elt te)
  (hsw:swapsWith (.ListComp elt [⟨tg,iter,ifs,0⟩,⟨tg2,iter2,ifs2,0⟩] scope pos) (some (.Name x px)) spos.line X.env=pure true:=by rfl) (hs : ∀x,foldedSetIterable iter X.env x=pure x:=by intro _;rfl)
  (hs2 : ∀cl s H ex x,foldedSetIterable iter2 (qAh X own cap scope cl s H ex).env x=pure x:=by intros;rfl)
  (hf:X.fn x=true\/X.env.scope.names.lookup x=some .local:=by first | exact .inl rfl | exact .inr rfl | assumption) :
  PS X (.Assign [.Name x px] (.ListComp elt [⟨tg,iter,ifs,0⟩,⟨tg2,iter2,ifs2,0⟩] scope pos) spos) (tAsg (tComp own cap (.lst []) wi g tts fun l=>bNext wi2 g2 tts2 (eApp te l)) (gName i)):=by
 intro pins s σ H D I h
 rw [exec_Assign_Name_used _ _ _ _ hsw]
 refine wpAny_bind (wpAny_standAt (wpAny_bind ?_))
 show wpAny _ X.A (do let _ <-comprehension (.ListComp elt [⟨tg,iter,ifs,0⟩,⟨tg2,iter2,ifs2,0⟩] scope pos) scope X.env _ (newList []) false (eval iter X.env) (some (assign (.Name x px) X.env))) _ _ s
 refine wpAny_bind (thn (qN4 (behOf:=qEm (.ListComp elt [⟨tg,iter,ifs,0⟩,⟨tg2,iter2,ifs2,0⟩] scope pos) iter2 1) hc S rfl hi qJc (fun _ _ _ _ _=>qJ5) hg ht
  (fun cl s H ex l=>qP4 rfl hc qJ4 (hi2 cl s H ex) (hg2 cl s H ex) (ht2 cl s H ex) (qLq (he cl s H ex)) (hs2 cl s H ex)) hs hN hix hx hf pins s σ H D I h) fun _ s' hq => ?_)
 exact wpAny_pure (wpAny_pure hq)
end
section
variable {X:Cx}
theorem qOo {bs:List Bool} {f:Nat->Bool} (hf : ∀i b,bs[i]? = some b->f i=b):(List.range bs.length).all f=bs.all id:=by
 rw [Bool.eq_iff_iff,List.all_eq_true,List.all_eq_true]
 constructor
 ·intro h b hb
  obtain⟨i,hi,e⟩:=List.getElem_of_mem hb
  have:=h i (List.mem_range.mpr hi)
  rw [hf i b (by rw [List.getElem?_eq_getElem hi,e])] at this
  exact this
 ·intro h i hi
  have hi:=List.mem_range.mp hi
  rw [hf i bs[i] (List.getElem?_eq_getElem hi)]
  exact h _ (List.getElem_mem hi)
def rAllB (K:PySem.W.Frag):List V->Hp->VK->Prop:=fun xs H Q => ∃(a:Addr) (bs:List Bool),xs = [.ref a]/\SqL K H a (bs.map V.bl)/\Q (.bl (bs.all id)) H
theorem qD2 (hh:X.A.handled=none):CallR X (.builtin "all") (rAllB X.K):=by
 intro pins s σ H xs us Q I r h
 obtain⟨a,bs,rfl,hq,q⟩:=h
 obtain⟨u,rfl,ru⟩:=vals1 r
 cases ru
 obtain⟨its,rv,pl,_⟩:=I.list hq
 have hlen:=rv.length
 rw [List.length_map] at hlen
 have hl:=pl.isList
 have hne:a≠s.heap.objs.size:=by obtain⟨o,e,_⟩:=hl;exact Nat.ne_of_lt (Heap.lt_size e)
 have hval : ∀(i:Nat) (v:Value),its.toArray[i]? = some v->v = .bool (bs.getD i false):=fun i v e=>by
  rw [List.getElem?_toArray] at e
  have hi:i<bs.length:=by rw [hlen];exact (List.getElem?_eq_some_iff.mp e).1
  obtain⟨u,e2,r2⟩:=rv.get (i:=i) (x:=V.bl bs[i]) (by rw [List.getElem?_map,List.getElem?_eq_getElem hi];rfl)
  rw [e] at e2;cases e2
  have r2:v=Value.bool bs[i]:=r2
  rw [r2,List.getD_eq_getElem?_getD,List.getElem?_eq_getElem hi];rfl
 refine call_all_walk (wpAny_pyIter_list hl ⟨_,_,_,_,_,_,fun i=>bs.getD i false,rfl,Walks.list (by exact hh) _ a hne its.toArray,⟨⟨_,Heap.get?_push_size _ rfl,rfl,rfl⟩,hl.push _⟩,fun i v s Q E hP hQ => ?_,fun h' tk k => ?_⟩)
 ·rw [hval i v hP];exact wpAny_truthy_bool hQ
 ·have e:(List.range its.toArray.size).all (fun i=>bs.getD i false)=bs.all id:=by
   rw [List.size_toArray,<-hlen]
   exact qOo fun i b hb=>by rw [List.getD_eq_getElem?_getD,hb];rfl
  rw [e]
  exact⟨.bl (bs.all id),H,I.kept (t':=tk) (fun b o e=>k b o (by simpa using Nat.ne_of_lt (Heap.lt_size e)) (Heap.get?_push_of_some _ e)),rfl,q⟩
def rIsI (K:PySem.W.Frag):List V->Hp->VK->Prop:=fun xs H Q => ∃(x:V) (n:String) (t:Value) (b:Bool),xs = [x,.ty n]/\TyOf K H x t/\PySem.W.kitOne K t (.type n)=some b/\Q (.bl b) H
theorem qF1:CallR X (.builtin "isinstance") (rIsI X.K):=by
 intro pins s σ H xs us Q I r h
 obtain⟨x,n,t,b,rfl,ty,e,q⟩:=h
 obtain⟨u,u2,rfl,ru,ru2⟩:=vals2 r
 cases (show u2=Value.type n from ru2)
 exact qQ3 I ru ty e fun tk=>⟨.bl b,H,I.tok _,rfl,q⟩
theorem qLx (K:PySem.W.Frag):PySem.W.kitOne K (.type "int") (.type "int")=some true:=by rfl
theorem qKh (K:PySem.W.Frag):PySem.W.kitOne K (.type "int") (.type "bool")=some false:=by rfl
theorem qS9 (K:PySem.W.Frag):PySem.W.kitOne K (.type "list") (.type "list")=some true:=by rfl
theorem qMv (K:PySem.W.Frag):PySem.W.kitOne K (.type "dict") (.type "dict")=some true:=by rfl
theorem qW7:OpR X (compareOp .Is) (fun x y H Q => ∃b,x = .bl b/\y = .bl true/\Q (.bl b) H):=by
 intro pins s σ H x y v u Q I rx ry h
 obtain⟨b,rfl,rfl,q⟩:=h
 cases rx
 cases ry
 cases b
 ·exact wpAny_bind (m:=isSame (Value.bool false) (Value.bool true)) (wpAny_pure (wpAny_pure ⟨.bl false,H,I,rfl,q⟩))
 ·exact wpAny_bind (m:=isSame (Value.bool true) (Value.bool true)) (wpAny_pure (wpAny_pure ⟨.bl true,H,I,rfl,q⟩))
end
section
variable {X:Cx} {pins:List (Addr×Obj)} {σ : St} {H:Hp} {s:Shared}
theorem Inv.thaw {d:Addr} {o:Obj} {u:HO} (I:Inv X pins σ H s) (e:H d=some (.frz o u)) (h0 : ∀o u,X.H₀ d≠some (.frz o u)):Inv X pins σ (upd H d u) s:=by
 have ne : ∀b,H b=none->b≠d:=fun b hb z=>by rw [z,e] at hb;cases hb
 refine⟨I.ok,I.os,I.bare,⟨I.base.keep,I.base.slot,?_,I.base.there,?_,?_,?_⟩,I.loc,I.cell,?_,?_,?_,?_,I.len⟩
 ·intro b ob q n hx
  have:=I.base.free b ob q n hx
  rw [qA4 (ne b this)];exact this
 ·intro b xs q
  have:=I.base.tups b xs q
  rw [qA4 (fun z=>by rw [z,e] at this;cases this)];exact this
 ·intro b ob v q
  have:=I.base.frzs b ob v q
  rw [qA4 (fun z=>h0 ob v (by rw [<-z];exact q))];exact this
 ·intro b ps q
  obtain⟨more,this⟩:=I.base.tbls b ps q
  exact⟨more,by rw [qA4 (fun z=>by rw [z,e] at this;cases this)];exact this⟩
 ·rw [qA4 (ne _ I.free)];exact I.free
 ·intro x c q
  have:=I.freeC x c q
  rw [qA4 (ne c this)];exact this
 ·intro p hp
  obtain⟨a1,a2,a3⟩:=I.pin p hp
  exact⟨a1,by rw [qA4 (ne _ a2)];exact a2,a3⟩
 ·intro b v q
  have st : ∀ {b v},ObjOk X.prog X.w H s.heap b v->ObjOk X.prog X.w (upd H d u) s.heap b v:=fun {b v} h=>h.stay (fun c w _ q=>q) (fun c q=>by
   rw [qA4 (fun z=>by rw [z,e] at q;cases q)];exact q) fun c xs q=>by
   rw [qA4 (fun z=>by rw [z,e] at q;cases q)];exact q
  by_cases hb:b=d
  ·subst hb
   rw [qA1] at q
   have q:u=v:=Option.some.inj q
   rw [<-q]
   exact st (show ObjOk X.prog X.w H s.heap b (.frz o u) from I.hok b _ e).2
  ·rw [qA4 hb] at q
   exact st (I.hok b v q)
def tThaw (H0:Hp) (te:TE):TE:=fun σ H Q=>te σ H fun v H1 => ∃d o u,H1 d=some (.frz o u)/\(∀o u,H0 d≠some (.frz o u))/\Q v (upd H1 d u)
theorem qP3 {e:Expr} {te:TE} (he:PE X e te):PE X e (tThaw X.H₀ te):=by
 intro pins s σ H Q I h
 refine thn (he pins s σ H _ I h) fun v s1 hq_ => ?_
 obtain⟨x,H1,I1,r1,d,o,u,e1,e2,q⟩:=hq_
 exact⟨x,_,I1.thaw e1 e2,r1,q⟩
theorem qSy {H0:Hp} {te:TE} {σ : St} {H:Hp} {Q:VK} (h:te σ H fun v H1 => ∃d o u,H1 d=some (.frz o u)/\(∀o u,H0 d≠some (.frz o u))/\Q v (upd H1 d u)):tThaw H0 te σ H Q:=h
end
def viewO (d:Addr):HO :=.ext fun a h=>h.IsItemsView a d
section
variable {X:Cx}
def qVw:V->List V->Hp->VK->Prop:=fun x vs H Q => ∃d kvs,x = .ref d/\vs = []/\H d=some (.dK kvs) /\ ∀p,H p=none->Q (.ref p) (upd H p (viewO d))
theorem qMq:MtM X "dict.items" qVw:=by
 intro pins s σ H x vs v us Q I rx rv h
 obtain⟨d,kvs,rfl,rfl,hd,q⟩:=h
 cases rx
 have hus:=rv.zero
 subst hus
 obtain⟨z,hs,vs,rel,dd⟩:=qH7 I.hok hd
 refine call_meetsIn PySem.F.slot_dict_items dd.typeIs PySem.F.entry_dict_items (PySem.F.args_dict_items_1 _) (meets_dict_items (qAp X.prog X.w) d hs) ⟨⟨vs,dd⟩,?_⟩
 refine⟨.ref s.heap.objs.size,_,I.laid (t':=s.toks) (o:=viewO d) (fun b u q=>Heap.get?_push_of_some _ q) (Nat.le_refl _) ⟨⟨_,Heap.get?_push_size _ rfl,rfl,rfl⟩,⟨_,Heap.get?_push_size _ rfl⟩,fun h1 h2 v k => ?_⟩,rfl,q _ (I.hok.fresh (Nat.le_refl _))⟩
 obtain⟨o,ho,hc,hdd⟩:=v
 exact⟨o,k _ ho,hc,hdd⟩
end
theorem qFm:entryFor table "dict_itemiterator.__iter__" = some Builtin.«dict_keyiterator.__iter__» :=
 entryFor_alias (id' := "dict_keyiterator.__iter__") (by kernel_rfl) rfl (by decide +kernel) (by kernel_rfl)
theorem qNx {P:Program} {w:World} {A:Around} {E:Value->Shared->Prop} {s:Shared} {it d:Addr} {i n ep:Nat} {ok ov:Value} {Q:Value->Shared->Prop} (st:IsItemIter s.heap it d i n ep ok ov) (h:Q (.ref it) s):wpAny (model P w) A (pyIter (.ref it)) Q E s:=by
 have hT:s.TypeIs (.ref it) "dict_itemiterator" :=⟨_,st,rfl⟩
 refine wpAny_pyIter_slot hT F.slot_dict_itemiterator_iter (wpAny_call_entry F.slot_dict_itemiterator_iter hT qFm ?_ (F.args_dict_itemiterator_iter_1 _))
 show wpAny _ _ (ret (.ref it)) _ _ s
 exact wpAny_pure ⟨_,rfl,"dict_itemiterator",_,hT,F.slot_dict_itemiterator_next.lookup,h⟩
def Iti (d:Addr) (o:Obj) (kvs:List (Key×V)):It :=
 ⟨fun i H=>H d=some (.frz o (.dK kvs))/\i<kvs.length,fun i H x H' => ∃p k v,x = .ref p/\H p=none/\kvs[i]? = some (k,v)/\H'=upd H p (.tup [kV k,v]),fun i H=>H d=some (.frz o (.dK kvs))/\kvs.length<=i⟩
theorem KV.at {κ : Type} : ∀ {kvs:List (κ × V)} {vs:List (κ × Value)} {i:Nat} {k : κ} {v:V},KV kvs vs->kvs[i]? = some (k,v) -> ∃x,vs[i]? = some (k,x)/\RelV v x
 | _,_,_,_,_,.nil,e=>by simp at e
 | _,_,0,_,_,.cons (b:=b) r _,e=>by
  simp at e;subst e
  obtain⟨b1,b2⟩:=b
  have:_=b1:=r.1
  exact⟨b2,by simp [<-this],r.2⟩
 | _,_,i+1,k,v,.cons _ t,e=>KV.at (i:=i) (v:=v) t (by simpa using e)
section
variable {P:Program} {w:World} {K:PySem.W.Frag} {elts:List Expr} {kk:Nat} {pos:Pos}
theorem qNh (d it:Addr) (o:Obj) (kvs:List (Key×V)) {es:Array DictEntry} {ep:Nat} (hd:o.data = .dict es ep):Turn P w K (.Tuple elts kk pos) (Iti d o kvs) [it] it (fun i h => ∃ok ov,IsItemIter h it d i kvs.length ep ok ov) where
 mem:=by simp
 obj:=fun i h st b hb=>by
  have e:b=it:=by simpa using hb
  subst e
  obtain⟨ok,ov,st⟩:=st
  exact⟨_,st,fun v z=>by have z:Data.fields _=Data.cell v:=z;cases z⟩
 keep:=fun i h h' st k=>by
  obtain⟨ok,ov,st⟩:=st
  exact⟨ok,ov,k it (by simp) _ st⟩
 item:=by
  intro X hP hw hK hc i pins s σ H E I hf st hg
  subst hP hw hK
  obtain⟨hq,hi⟩:=hg
  obtain⟨ok,ov,st⟩:=st
  obtain⟨z,hs,vs,rel,dd⟩:=qMz I.hok hq hd
  obtain⟨⟨k,v⟩,hx⟩ : ∃p,kvs[i]? = some p:=⟨kvs[i],by simp [hi]⟩
  obtain⟨x,hxv,rx⟩:=rel.at hx
  have hl:=rel.length
  have hitlt:it<s.heap.objs.size:=Heap.lt_size st
  refine wpAny_pyNext_items_item (by rw [<-hl];exact st) dd hxv fun key h' hkey st' ht hsz hk => ?_
  refine⟨_,rfl,wpAny_letOwnedTupleGo_items st' fun h2 st2 hs2 => ?_⟩
  have hs2:Heap.SameBut it h' h2:=hs2
  have I1:Inv X pins σ (upd H s.heap.objs.size (.tup [kV k,v])) { s with heap:=h2,toks:=s.toks }:=by
   refine I.turnLaid (ch :=[it]) (fun b ob hb q => ?_) (fun b hb => ?_) hf (Nat.le_refl _) ?_
   ·have hb':b≠it:=fun z=>hb (by simp [z])
    exact hs2.extBut b ob hb' (hk b ob hb' q)
   ·have e:b=it:=by simpa using hb
    subst e
    exact⟨_,st2⟩
   ·exact⟨by show 2<=sizeLine;decide,[key,x],.cons (qQ0 hkey) (.cons rx .nil),⟨_,hs2.extBut _ _ (Nat.ne_of_gt hitlt) ht,rfl,_,rfl⟩⟩
  refine⟨.ref s.heap.objs.size,_,I1,rfl,⟨s.heap.objs.size,k,v,rfl,I.fresh,hx,rfl⟩,⟨_,_,by rw [hl];exact st2⟩,fun b hb => ?_⟩
  have e:b=it:=by simpa using hb
  subst e
  rw [qA4 (Nat.ne_of_lt hitlt)];exact (hf b hb).1
 done:=by
  intro X hP hw hK hc i pins s σ H E I hf st hg
  subst hP hw hK
  obtain⟨hq,hi⟩:=hg
  obtain⟨ok,ov,st⟩:=st
  obtain⟨z,hs,vs,rel,dd⟩:=qMz I.hok hq hd
  obtain⟨f0,f1,f2,f3,f4,f5⟩:=hf it (by simp)
  have hl:=rel.length
  exact wpAny_pyNext_items_end (I.ok.hd hc) (by rw [<-hl];exact st) dd (by simp;omega) fun h' eb=>⟨rfl,I.turned (t':=s.toks) (fun b ob hb e=>eb b ob hb e) f0 f1 f3 f4 f5⟩
 self:=fun _ _ _ _ _ st h=>by
  obtain⟨ok,ov,st⟩:=st
  exact qNx st h
end
section
variable {X:Cx} {elts:List Expr} {kk:Nat} {tpos:Pos}
def iView (te:TE):TI:=fun σ H R=>te σ H fun x H1 => ∃a d kvs,x = .ref a/\H1 a=some (viewO d)/\H1 d=some (.dK kvs) /\ ∀o,R (Iti d o kvs) (upd H1 d (.frz o (.dK kvs)))
theorem qU2 {l:Expr} {tl:TE} (hl:PE X l tl):PI X (.Tuple elts kk tpos) l (iView tl):=by
 intro pins s σ H R I h
 refine thn (hl pins s σ H _ I h) fun v s1 hq_ => ?_
 obtain⟨x,H1,I1,r1,q1⟩:=hq_
 obtain⟨a,d,kvs,e,hv,hq,q⟩:=q1
 subst e
 cases r1
 obtain⟨z,hs,vs,rel,o,es,ep,ho,h2,h3,h4⟩:=qH7 I1.hok hq
 have dd:s1.heap.DictAt (qAp X.prog X.w) d vs ep:=⟨o,es,ho,h2,h3,h4⟩
 have I2:Inv X pins σ (upd H1 d (.frz o (.dK kvs))) s1:=I1.freeze hq True.intro ho fun H'=>⟨z,hs,vs,rel,o,es,ep,ho,h2,h3,h4⟩
 refine wpAny_pyIter_items (I1.hok a _ hv).1 dd ?_
 refine⟨s1.heap.objs.size,[s1.heap.objs.size],_,_,_,rfl,I2.kept (t':=s1.toks) fun b ob e=>Heap.get?_push_of_some _ e,qNh d _ o kvs h3,⟨_,_,by rw [rel.length];exact Heap.get?_push_size _ rfl⟩,fun b hb => ?_,q o⟩
 have e:b=s1.heap.objs.size:=by simpa using hb
 subst e
 exact I2.fpOk (Nat.le_refl _) (I2.hok.fresh (Nat.le_refl _))
theorem qTw {te:TE} {σ : St} {H:Hp} {R:It->Hp->Prop} (h:te σ H fun x H1 => ∃a d kvs,x = .ref a/\H1 a=some (viewO d)/\H1 d=some (.dK kvs) /\ ∀o,R (Iti d o kvs) (upd H1 d (.frz o (.dK kvs)))):iView te σ H R:=h
end
theorem qNw {d:Addr} {o:Obj} {kvs:List (Key×V)} {g:TG} {tt:TT} {B:St->Hp->(St->Hp->Prop)->Prop} {σ : St} {H:Hp} {Q:St->Hp->Prop} (Pv:Nat->St->Hp->Prop) (h0:Pv 0 σ H) (hl : ∀i σ H,i<=kvs.length->Pv i σ H->H d=some (.frz o (.dK kvs)))
  (hs : ∀i k v σ H p (R:St->Hp->Prop),kvs[i]? = some (k,v)->Pv i σ H->H p=none->(∀ σ' H',Pv (i+1) σ' H'->R σ' H')->g (.ref p) σ (upd H p (.tup [kV k,v])) fun σ2 H2=>tt σ2 H2 fun b H3=>if b=true then B σ2 H3 R else R σ2 H3)
  (hd : ∀ σ H,Pv kvs.length σ H->Q σ H):LoopT (Iti d o kvs) g tt B σ H Q:=by
 refine qFk (n:=kvs.length) Pv h0 (fun i σ H hi p=>⟨hl i σ H (Nat.le_of_lt hi) p,hi⟩) (fun σ H p=>⟨hl _ σ H (Nat.le_refl _) p,Nat.le_refl _⟩) (fun i σ H R hi p hR x H' y => ?_) hd
 obtain⟨r,k,v,e,hr,hx,e2⟩:=y
 subst e e2
 exact hs i k v σ H r R hx p hr hR
theorem Inv.laidN {X:Cx} {pins:List (Addr×Obj)} {σ : St} {H:Hp} {s:Shared} {h':Heap} {t':Nat} {D:Addr} {o:HO} (I:Inv X pins σ H s) (k : ∀b u,s.heap.get? b=some u->h'.get? b=some u) (hD:s.heap.get? D=none) (new:ObjOk X.prog X.w (upd H D o) h' D o):Inv X pins σ (upd H D o) { s with heap:=h',toks:=t' }:=by
 have hn:H D=none:=I.hok.gone hD
 have neD : ∀b u,s.heap.get? b=some u->b≠D:=fun b u e z=>by rw [z,hD] at e;cases e
 refine I.step (g':=s.gens) (d':=s.drawn) (ch :=[]) (fun _ z=>nomatch z) (fun b u _ _ _ e _=>k b u e) (fun b u _ _ _ e _=>⟨u.slots,k b u e⟩) (fun b u _ e n=>by rw [qA4 (neD b u e)];exact n)
  (fun b u _ e=>⟨u,k b u e⟩) (fun b xs e=>by rw [qA4 (qA2 e hn)];exact e) (fun b ob xs e=>by rw [qA4 (qA2 e hn)];exact e) (fun b ps e=>⟨#[],by rw [qA4 (qA2 e hn),e];simp⟩) (fun m' hm => ?_) (fun b u e => ?_) I.bare
 ·obtain⟨ob,es,ep,ho,r⟩:=hm
  exact⟨ob,es,ep,k _ ob ho,r⟩
 ·by_cases hb:b=D
  ·subst hb;rw [qA1] at e;cases e;exact new
  ·rw [qA4 hb] at e
   exact (I.hok b u e).stay (fun c v _ q=>k c v q) (fun c q=>by rw [qA4 (qA2 q hn)];exact q) fun c xs q=>by rw [qA4 (qA2 q hn)];exact q
def addH (L:List (Addr×HO)) (H:Hp):Hp:=fun b=>match L.lookup b with
 | some o=>some o
 | none=>H b
theorem qQw {L:List (Addr×HO)} {H:Hp} {b:Addr} {o:HO} (h:L.lookup b=some o):addH L H b=some o:=by unfold addH;rw [h]
theorem qCm {L:List (Addr×HO)} {H:Hp} {b:Addr} (h:L.lookup b=none):addH L H b=H b:=by unfold addH;rw [h]
theorem qG6 {L:List (Addr×HO)} {b:Addr} {o:HO} (h:L.lookup b=some o):(b,o)∈L:=by
 induction L with
 | nil=>cases h
 | cons p r ih =>
  obtain⟨c,u⟩:=p
  rw [List.lookup_cons] at h
  cases e:(b == c) with
  | true=>rw [e] at h;cases h;rw [eq_of_beq e];exact List.mem_cons_self ..
  | false=>rw [e] at h;exact List.mem_cons_of_mem _ (ih h)
section
variable {X:Cx} {pins:List (Addr×Obj)} {σ : St} {H:Hp} {s:Shared} {h':Heap}
theorem Inv.laidAll {t':Nat} {L:List (Addr×HO)} (I:Inv X pins σ H s) (k : ∀b u,s.heap.get? b=some u->h'.get? b=some u) (hL : ∀p∈L,s.heap.get? p.1=none/\ObjOk X.prog X.w (addH L H) h' p.1 p.2):Inv X pins σ (addH L H) { s with heap:=h',toks:=t' }:=by
 have out : ∀b u,s.heap.get? b=some u->L.lookup b=none:=fun b u e=>by
  cases q:L.lookup b with
  | none=>rfl
  | some o=>have:=(hL _ (qG6 q)).1;rw [e] at this;cases this
 have outH : ∀b u,H b=some u->L.lookup b=none:=fun b u e=>by
  cases q:L.lookup b with
  | none=>rfl
  | some o=>have:=I.hok.gone (hL _ (qG6 q)).1;rw [e] at this;cases this
 refine I.step (g':=s.gens) (d':=s.drawn) (ch :=[]) (fun _ z=>nomatch z) (fun b u _ _ _ e _=>k b u e) (fun b u _ _ _ e _=>⟨u.slots,k b u e⟩) (fun b u _ e n=>by rw [qCm (out b u e)];exact n)
  (fun b u _ e=>⟨u,k b u e⟩) (fun b xs e=>by rw [qCm (outH b _ e)];exact e) (fun b ob xs e=>by rw [qCm (outH b _ e)];exact e) (fun b ps e=>⟨#[],by rw [qCm (outH b _ e),e];simp⟩) (fun m' hm => ?_) (fun b u e => ?_) I.bare
 ·obtain⟨ob,es,ep,ho,r⟩:=hm
  exact⟨ob,es,ep,k _ ob ho,r⟩
 ·cases q:L.lookup b with
  | some o =>
   rw [qQw q] at e
   cases e
   exact (hL _ (qG6 q)).2
  | none =>
   rw [qCm q] at e
   exact (I.hok b u e).stay (fun c v _ q=>k c v q) (fun c q=>by rw [qCm (outH c _ q)];exact q) fun c xs q=>by rw [qCm (outH c _ q)];exact q
end
def itemL (as:List Addr) (kvs:List (Key×V)):List (Addr×HO):=(as.zip kvs).map fun p=>(p.1,.tup [kV p.2.1,p.2.2])
theorem qKk {as:List Addr} {kvs:List (Key×V)} {p:Addr×HO} (h:p∈itemL as kvs) : ∃(j:Nat) (a:Addr) (k:Key) (v:V),as[j]? = some a/\kvs[j]? = some (k,v)/\p=(a,.tup [kV k,v]):=by
 unfold itemL at h
 obtain⟨q,hq,rfl⟩:=List.mem_map.mp h
 obtain⟨j,hj,e⟩:=List.getElem_of_mem hq
 have e':(as.zip kvs)[j]? = some q:=by rw [List.getElem?_eq_getElem hj,e]
 rw [List.getElem?_zip_eq_some] at e'
 exact⟨j,q.1,q.2.1,q.2.2,e'.1,e'.2,rfl⟩
theorem qHx : ∀ {as:List Addr} {kvs:List (Key×V)} {j:Nat} {a:Addr} {k:Key} {v:V},as.Nodup->as[j]? = some a->kvs[j]? = some (k,v)->(itemL as kvs).lookup a=some (.tup [kV k,v])
 | [],_,_,_,_,_,_,e,_=>by simp at e
 | _::_,[],_,_,_,_,_,_,e=>by simp at e
 | b::as,(k0,v0)::kvs,0,a,k,v,_,e1,e2=>by
  simp at e1 e2
  obtain⟨rfl,rfl⟩:=e2
  subst e1
  simp [itemL]
 | b::as,(k0,v0)::kvs,j+1,a,k,v,hn,e1,e2=>by
  have hn:=List.nodup_cons.mp hn
  have e1:as[j]? = some a:=by simpa using e1
  have ne:a≠b:=fun z=>hn.1 (z▸List.mem_of_getElem? e1)
  show ((b,HO.tup [kV k0,v0])::itemL as kvs).lookup a=_
  rw [List.lookup_cons,show (a == b)=false from beq_eq_false_iff_ne.mpr ne]
  exact qHx hn.2 e1 (by simpa using e2)
theorem qIy {prog:Program} {w:World} {A:Around} {E:Value->Shared->Prop} {s:Shared} {a:Addr} {v:Value} {n:Nat} {P:PySem.Fin->Shared->Prop} (g2:s.heap.get? a=some (seqObj "list" [v].toArray n))
  (h : ∀h' c,(∀b o,b≠a->s.heap.get? b=some o->h'.get? b=some o)->h'.get? a=some (seqObj "list" #[v] c)->P (.done (.ret .none)) { s with heap:=h' }):wpAny (model prog w) A (Builtin.«list.sort» ⟨[.ref a],[]⟩) P E s:=by
 have ha:a<s.heap.objs.size:=Heap.lt_size g2
 rw [list_sort_plain]
 obtain⟨e1,g3⟩ : ∃e1,(s.heap.update a (Obj.mapSeq fun _ => #[])).get? a=some (seqObj "list" #[] e1):=⟨_,get?_update_seq g2 fun _ => #[]⟩
 refine wpAny_bind (listItems_at g2 rfl (wpAny_bind (listUpdate_at g2 rfl (wpAny_bind (seqEpoch_at g3 rfl (wpAny_bind (wpAny_newTuple (wpAny_bind (wpAny_newList (wpAny_holding ?_))))))))))
 dsimp only
 rw [if_pos (by simp),if_pos (by simp)]
 refine wpAny_bind (wpAny_pure ?_)
 rw [StateT.run_pure]
 refine wpAny_bind (wpAny_pure ?_)
 dsimp only
 have z2:(s.heap.update a (Obj.mapSeq fun _=>(#[]:Array Value))).objs.size=s.heap.objs.size:=by rw [Heap.size_update]
 have g4:(((s.heap.update a (Obj.mapSeq fun _=>(#[]:Array Value))).push (seqObj "tuple" [v].toArray 0)).push (seqObj "list" #[] 0)).get? a=some (seqObj "list" #[] e1):=Heap.get?_push_of_some _ (Heap.get?_push_of_some _ g3)
 have hm:Array.map (fun x:Keyed=>x.snd) (arrOf (SortSt.mk' general' ([v].toArray.zip [v].toArray) #[] 7 none)) = #[v]:=by
  show Array.map (fun x:Keyed=>x.snd) ([v].toArray.zip [v].toArray) = #[v]
  simp
 rw [hm]
 refine wpAny_bind (seqEpoch_at g4 rfl (wpAny_bind (listUpdate_at g4 rfl ?_ (hsz2:=by show 1<=_;decide))))
 simp only [bne_self_eq_false,Bool.false_eq_true,if_false]
 obtain⟨c,g5⟩ : ∃c,((((s.heap.update a (Obj.mapSeq fun _=>(#[]:Array Value))).push (seqObj "tuple" [v].toArray 0)).push (seqObj "list" #[] 0)).update a (Obj.mapSeq fun _ => #[v])).get? a=some (seqObj "list" #[v] c):=⟨_,get?_update_seq g4 fun _ => #[v]⟩
 refine wpAny_pure (h _ c (fun b o hb e => ?_) g5)
 exact (Heap.get?_update_other _ _ (Ne.symm hb)).trans (Heap.get?_push_of_some _ (Heap.get?_push_of_some _ ((Heap.get?_update_other _ _ (Ne.symm hb)).trans e)))
def qVq:List V->Hp->VK->Prop:=fun xs H Q => ∃(a d:Addr) (kvs:List (Key×V)) (ns:List Int),xs = [.ref a]/\H a=some (viewO d)/\H d=some (.dK kvs)/\kvs.map (·.1)=ns.map Sum.inl/\ns.Pairwise (· < ·)/\ns.length<64 /\
 ∀(l:Addr) (as:List Addr) (H':Hp),H l=none->(∀b∈as,H b=none)->Ext [] H H'->H' l=some (.lst (as.map V.ref))->as.length=kvs.length->(∀(j:Nat) (b:Addr) (k:Key) (v:V),as[j]? = some b->kvs[j]? = some (k,v)->H' b=some (.tup [kV k,v]))->Q (.ref l) H'
theorem qLz {prog:Program} {w:World} {A:Around} {E:Value->Shared->Prop} {s:Shared} {x:Value} {Q:Bool->Shared->Prop} (h:Q true s):wpAny (model prog w) A (eqBool x x) Q E s:=by
 unfold eqBool
 refine wpAny_holding ?_
 rw [if_pos (beq_self_eq_true x)]
 exact wpAny_bind (wpAny_rule (wpAny_pure h))
theorem qRs (ns:List Int):Srt.Ord (fun i j=>decide (ns.getD i 0<ns.getD j 0)):=⟨fun a b h=>by simp at h ⊢;omega,fun a b c h1 h2=>by simp at h1 h2 ⊢;omega⟩
theorem qMw {h:Heap} : ∀ {as:List Addr},(∀b∈as,∃(n:Int) (t:Tok) (x:Value),h.get? b=some { cls :=.type "tuple",data :=.seq #[Value.int n t,x] }) -> ∃fs:List Value,PySem.W.KatTups h (as.map Value.ref) fs/\fs.length=as.length /\ ∀v∈fs,∃i t,v=Value.int i t
 | [],_=>⟨[],trivial,rfl,fun _ h=>nomatch h⟩
 | b::as,hb=>by
  obtain⟨fs,a1,a2,a3⟩:=qMw (as:=as) fun c hc=>hb c (List.mem_cons_of_mem _ hc)
  obtain⟨n,t,x,e⟩:=hb b (List.mem_cons_self ..)
  refine⟨Value.int n t::fs,PySem.W.KatTups.cons e rfl rfl rfl a1,by simp [a2],fun v hv => ?_⟩
  rcases List.mem_cons.mp hv with z | z
  ·exact⟨n,t,z⟩
  ·exact a3 v z
theorem qJf : ∀as:List Addr,Vals (as.map V.ref) (as.map Value.ref)
 | [] =>.nil
 | _::r =>.cons rfl (qJf r)
section
variable {X:Cx}
theorem qO3 (hh:X.A.handled=none):CallR X (.builtin "sorted") qVq:=by
 intro pins s σ H xs us Q I r h
 obtain⟨a,d,kvs,ns,rfl,hv,hq,hk,hrise,hz,q⟩:=h
 obtain⟨u,rfl,ru⟩:=vals1 r
 cases ru
 obtain⟨z,hs,vs,rel,o,es,ep,ho,h2,h3,h4⟩:=qH7 I.hok hq
 have dd:s.heap.DictAt (qAp X.prog X.w) d vs ep:=⟨o,es,ho,h2,h3,h4⟩
 have hkl:kvs.length=ns.length:=by simpa using congrArg List.length hk
 have hvl0:=rel.length
 refine Calls.call_function_entry kind_sorted plain_sorted entry_sorted (args_sorted1 _) ?_
 unfold Builtin.«sorted»
 refine wpAny_bind (m:=checkCount "sorted" 1 1 _) (wpAny_pure ?_)
 refine wpAny_bind (PySem.W.kdx_collect (A:=X.A.in1) (knd:=qAp X.prog X.w) (kvs:=vs) (ep:=ep) hh (I.hok a _ hv).1 dd (by rw [sizeLine_eq];omega) fun h1 tk as k hal hG => ?_)
 have hnd:as.Nodup:=hG.rise.imp fun h=>Nat.ne_of_lt h
 have pair : ∀(j:Nat) (b:Addr),as[j]? = some b -> ∃(n:Int) (t:Tok) (v:V) (x:Value),ns[j]? = some n/\kvs[j]? = some (Sum.inl n,v)/\RelV v x/\h1.get? b=some { cls :=.type "tuple",data :=.seq #[Value.int n t,x] }:=fun j b hb=>by
  obtain⟨key,kk,x,e1,e2,e3⟩:=hG.pairs j b hb
  have hj:j<kvs.length:=by have:=(List.getElem?_eq_some_iff.mp hb).1;omega
  obtain⟨x2,e4,r4⟩:=rel.at (i:=j) (k:=kvs[j].1) (v:=kvs[j].2) (by rw [List.getElem?_eq_getElem hj])
  rw [e1] at e4
  have e4:=Option.some.inj e4
  have ek:kk=kvs[j].1:=congrArg Prod.fst e4
  have ex:x=x2:=congrArg Prod.snd e4
  have hn:j<ns.length:=by omega
  have e5:(kvs.map (·.1))[j]? = (ns.map Sum.inl)[j]? :=by rw [hk]
  rw [List.getElem?_map,List.getElem?_map,List.getElem?_eq_getElem hn,List.getElem?_eq_getElem hj] at e5
  have e6:kvs[j].1=Sum.inl ns[j]:=Option.some.inj e5
  rw [ek,e6] at e2
  obtain⟨t,rfl⟩:=(qQ0 e2:RelV (.int ns[j]) key)
  exact⟨ns[j],t,kvs[j].2,x2,List.getElem?_eq_getElem hn,by rw [List.getElem?_eq_getElem hj,<-e6],r4,by rw [e3,ex]⟩
 have old : ∀b∈as,s.heap.get? b=none:=fun b hb=>by
  cases e:s.heap.get? b with
  | none=>rfl
  | some u=>exact absurd (Heap.lt_size e) (Nat.not_lt_of_le (Nat.le_of_lt (hG.above b hb)))
 have I1:Inv X pins σ (addH (itemL as kvs) H) { s with heap:=h1,toks:=tk }:=I.laidAll k fun p hp=>by
  obtain⟨j,b,kk,v,e1,e2,rfl⟩:=qKk hp
  refine⟨old b (List.mem_of_getElem? e1),?_⟩
  obtain⟨n,t,v',x,_,f2,f3,f4⟩:=pair j b e1
  rw [e2] at f2
  cases f2
  exact⟨by show 2<=sizeLine;decide,[Value.int n t,x],.cons ⟨t,rfl⟩ (.cons f3 .nil),⟨_,f4,rfl,_,rfl⟩⟩
 have tupH : ∀(j:Nat) (b:Addr) (kk:Key) (v:V),as[j]? = some b->kvs[j]? = some (kk,v)->addH (itemL as kvs) H b=some (.tup [kV kk,v]):=fun j b kk v e1 e2=>qQw (qHx hnd e1 e2)
 have eH:Ext [] H (addH (itemL as kvs) H):=fun b ob _ e=>by
  cases q:(itemL as kvs).lookup b with
  | none=>rw [qCm q];exact e
  | some u =>
   obtain⟨j,b',kk,v,e1,_,e3⟩:=qKk (qG6 q)
   have e3:b=b':=congrArg Prod.fst e3
   subst e3
   have:=I.hok.gone (old b (List.mem_of_getElem? e1))
   rw [e] at this;cases this
 generalize addH (itemL as kvs) H=H1 at I1 tupH eH
 have hB:h1.get? h1.objs.size=none:=by
  cases e:h1.get? h1.objs.size with
  | none=>rfl
  | some u=>exact absurd (Heap.lt_size e) (Nat.lt_irrefl _)
 have hnB:H1 h1.objs.size=none:=I1.hok.gone hB
 have fin : ∀(s3:Shared),Inv X pins σ (upd H1 h1.objs.size (.lst (as.map V.ref))) s3->EP X pins σ Q (.ref h1.objs.size) s3:=fun s3 I3 =>
  ⟨.ref h1.objs.size,_,I3,rfl,q _ as _ (eH.none (by simp) hnB) (fun b hb=>I.hok.gone (old b hb)) (eH.trans (.laid hnB)) qA1 (by omega) fun j b kk v e1 e2=>by
   rw [qA4 (fun z=>by rw [z] at e1;have:=tupH j _ kk v e1 e2;rw [hnB] at this;cases this)]
   exact tupH j b kk v e1 e2⟩
 refine wpAny_bind (wpAny_newList ?_ (by rw [List.length_map,sizeLine_eq];omega))
 have hoL:(h1.push (seqObj "list" (as.map Value.ref).toArray 0)).get? h1.objs.size=some (seqObj "list" (as.map Value.ref).toArray 0):=Heap.get?_push_size _ rfl
 by_cases c0:as.length=0
 ·obtain rfl:as = []:=List.eq_nil_of_length_eq_zero c0
  refine wpAny_bind (wpAny_holding (wpAny_call_entry slot_list_sort (s :={ s with heap:=h1.push (seqObj "list" (([]:List Addr).map Value.ref).toArray 0),toks:=tk }) ⟨_,hoL,rfl⟩ entry_list_sort (list_sort_tree (ns :=[]) hoL .nil (by show 0<64;decide) fun out ns' a1 a2 a3=>⟨_,rfl,?_⟩) (args_list_sort _)))
  obtain⟨⟨c,e1⟩,e2,_⟩:=qF7 (out:=out) hoL
  have:ns' = []:=a2.eq_nil
  subst this
  have ho:out.toList = []:=by cases a1':out.toList with
   | nil=>rfl
   | cons x l=>rw [a1'] at a1;cases a1
  have hout:out = #[]:=by apply Array.toList_inj.mp;rw [ho]
  subst hout
  exact wpAny_pure ⟨_,rfl,fin _ (I1.laidN (t':=tk) (fun b u e=>e2 b u (Nat.ne_of_lt (Heap.lt_size e)) (Heap.get?_push_of_some _ e)) hB ⟨Nat.zero_le _,[],c,.nil,e1⟩)⟩
 ·by_cases c1:as.length=1
  ·obtain⟨b1,rfl⟩:=List.length_eq_one_iff.mp c1
   refine wpAny_bind (wpAny_holding (wpAny_call_entry slot_list_sort (s :={ s with heap:=h1.push (seqObj "list" ([b1].map Value.ref).toArray 0),toks:=tk }) ⟨_,hoL,rfl⟩ entry_list_sort (qIy (v :=.ref b1) hoL fun h' c k3 g3=>⟨_,rfl,?_⟩) (args_list_sort _)))
   exact wpAny_pure ⟨_,rfl,fin _ (I1.laidN (t':=tk) (fun b u e=>k3 b u (Nat.ne_of_lt (Heap.lt_size e)) (Heap.get?_push_of_some _ e)) hB ⟨by show 1<=sizeLine;decide,[.ref b1],c,.cons rfl .nil,g3⟩)⟩
  ·obtain⟨m,F1⟩:=I1.fr
   have F1:Fr X.base X.env.locals h1 m:=F1
   have hLd : ∀o,h1.get? X.env.locals=some o -> ∃es ep,o.data = .dict es ep:=fun o e=>by
    obtain⟨o2,es,ep,e2,d,_⟩:=F1.ns
    rw [e] at e2;cases e2
    exact⟨es,ep,d⟩
   have hLlt:X.env.locals<h1.objs.size:=I1.lt
   have hul:(as.map Value.ref).length=as.length:=List.length_map ..
   have Np:News X.base X.env.locals (h1.push (seqObj "list" (as.map Value.ref).toArray 0)) (qDl X.base h1 X.env.locals):=fun p hp=>by
    obtain⟨x1,x2,x3⟩:=qCs hp
    exact⟨Heap.get?_push_of_some _ x3,x1,x2⟩
   refine wpAny_bind (wpAny_holding (wpAny_call_entry slot_list_sort (s :={ s with heap:=h1.push (seqObj "list" (as.map Value.ref).toArray 0),toks:=tk }) ⟨_,hoL,rfl⟩ entry_list_sort (PySem.W.kat_list_sort (news:=qDl X.base h1 X.env.locals) (F1.push _) Np hoL (Nat.ne_of_gt hLlt) ?_ ?_ (by omega) (by omega) fun e1 h' F' N' => ?_) (args_list_sort _)))
   ·cases e:X.base.get? h1.objs.size with
    | none=>rfl
    | some u=>have:=(I1.bs _ _ e).1;rw [show ({ s with heap:=h1,toks:=tk }:Shared).heap.get? h1.objs.size=none from hB] at this;cases this
   ·intro p hp
    exact Nat.ne_of_lt (Heap.lt_size (qCs hp).2.2)
   ·have Nn:News X.base X.env.locals h' (qDl X.base h1 X.env.locals):=fun p hp=>N' p (List.mem_cons_of_mem _ hp)
    have kk : ∀b u,b≠X.env.locals->h1.get? b=some u->h'.get? b=some u:=fun b u hb e=>by
     cases q:X.base.get? b with
     | some v =>
      have:=I1.bk b v q
      rw [show ({ s with heap:=h1,toks:=tk }:Shared).heap.get? b=some u from e] at this
      cases this
      exact F'.keep b _ q
     | none=>exact (Nn (b,u) (qGs hb q e)).1
    have pair' : ∀(j:Nat) (b:Addr),as[j]? = some b -> ∃(n:Int) (t:Tok) (x:Value),ns[j]? = some n/\h'.get? b=some { cls :=.type "tuple",data :=.seq #[Value.int n t,x] }:=fun j b hb=>by
     obtain⟨n,t,v,x,f1,_,_,f4⟩:=pair j b hb
     refine⟨n,t,x,f1,kk b _ (fun z => ?_) f4⟩
     rw [z] at f4
     obtain⟨es,ep,dd⟩:=hLd _ f4
     cases dd
    obtain⟨fs,kt,hfl,hfi⟩:=qMw (h:=h') (as:=as) fun b hb=>by
     obtain⟨j,hj,e⟩:=List.getElem_of_mem hb
     obtain⟨n,t,x,_,f⟩:=pair' j b (by rw [List.getElem?_eq_getElem hj,e])
     exact⟨n,t,x,f⟩
    refine PySem.W.kat_kind (T :=.type "int") (fs:=fs) kt (by omega) (fun v hv => ?_) rfl ?_
    ·obtain⟨i,t,rfl⟩:=hfi v hv
     exact PySem.W.Looks.of_pure rfl
    ·obtain⟨p,hp,perm,hsz,up⟩:=Srt.sort_ok (qRs ns) (n:=as.length) (by omega)
     rw [hul]
     refine Srt.wp_run_in (n:=as.length) (lt:=fun i j=>decide (ns.getD i 0<ns.getD j 0)) (fun i j C hi hj hC => ?_) _ (Srt.sort_ends (by omega)) ?_
     ·obtain⟨n1,t1,x1,f1,g1⟩:=pair' i as[i] (List.getElem?_eq_getElem hi)
      obtain⟨n2,t2,x2,f2,g2⟩:=pair' j as[j] (List.getElem?_eq_getElem hj)
      unfold PySem.W.kas_ask
      have r1:(as.map Value.ref).getD i Value.none = .ref as[i]:=by rw [List.getD_eq_getElem?_getD,List.getElem?_map,List.getElem?_eq_getElem hi];rfl
      have r2:(as.map Value.ref).getD j Value.none = .ref as[j]:=by rw [List.getD_eq_getElem?_getD,List.getElem?_map,List.getElem?_eq_getElem hj];rfl
      rw [r1,r2]
      rw [show ns.getD i 0=n1 by rw [List.getD_eq_getElem?_getD,f1];rfl,show ns.getD j 0=n2 by rw [List.getD_eq_getElem?_getD,f2];rfl] at hC
      refine PySem.W.kat_lt g1 rfl g2 rfl ?_
      refine PySem.W.kat_cons (wpAny_eqBool_int ?_)
      by_cases e:n1=n2
      ·have eij:i=j:=by
        rcases Nat.lt_trichotomy i j with z | z | z
        ·have:=(List.pairwise_iff_getElem.mp hrise) i j (List.getElem?_eq_some_iff.mp f1).1 (List.getElem?_eq_some_iff.mp f2).1 z
         rw [(List.getElem?_eq_some_iff.mp f1).2,(List.getElem?_eq_some_iff.mp f2).2] at this
         omega
        ·exact z
        ·have:=(List.pairwise_iff_getElem.mp hrise) j i (List.getElem?_eq_some_iff.mp f2).1 (List.getElem?_eq_some_iff.mp f1).1 z
         rw [(List.getElem?_eq_some_iff.mp f1).2,(List.getElem?_eq_some_iff.mp f2).2] at this
         omega
       subst eij
       rw [g1] at g2
       have g2:=Option.some.inj g2
       obtain⟨rfl⟩:x1=x2:=by
        injection g2 with _ _ g3
        injection g3 with g4
        have g5:=congrArg Array.toList g4
        simp at g5
        exact g5.2
       subst e
       rw [beq_self_eq_true]
       refine PySem.W.kat_yes (PySem.W.kat_cons ?_)
       refine qLz (PySem.W.kat_yes (PySem.W.kat_nil ?_))
       have:decide (n1<n1)=false:=decide_eq_false (by omega)
       rw [this] at hC
       exact hC
      ·rw [show (n1 == n2)=false from beq_eq_false_iff_ne.mpr e]
       exact PySem.W.kat_no (oneLt_int hC)
     ·rw [hp]
      have perm':p.toList.Perm (List.range as.length):=by
       have:=Array.perm_iff_toList_perm.mp perm
       simpa using this
      have hpl:p.toList.length=as.length:=by rw [perm'.length_eq,List.length_range]
      have hpr:p.toList=List.range as.length:=by
       refine List.Perm.eq_of_pairwise (fun a b _ _ h5 h6=>Nat.le_antisymm h5 h6) (le:=(· <= ·)) ?_ ?_ perm'
       ·rw [List.pairwise_iff_getElem]
        intro i j hi hj hij
        have hu:=up i j (Nat.le_of_lt hij) (by omega)
        have ei:Srt.at' p i=p.toList[i]:=by simp [Srt.at',Array.getD_eq_getD_getElem?,show i<p.size by simpa using hi]
        have ej:Srt.at' p j=p.toList[j]:=by simp [Srt.at',Array.getD_eq_getD_getElem?,show j<p.size by simpa using hj]
        rw [ei,ej] at hu
        have mi:=List.mem_range.mp (perm'.mem_iff.mp (List.getElem_mem hi))
        have mj:=List.mem_range.mp (perm'.mem_iff.mp (List.getElem_mem hj))
        have hu:=of_decide_eq_false hu
        cases Nat.lt_or_ge p.toList[j] p.toList[i] with
        | inr z=>exact z
        | inl z =>
         have:=(List.pairwise_iff_getElem.mp hrise) _ _ (by omega) (by omega) z
         rw [List.getD_eq_getElem?_getD,List.getD_eq_getElem?_getD,List.getElem?_eq_getElem (by omega),List.getElem?_eq_getElem (by omega)] at hu
         exact absurd this hu
       ·exact List.pairwise_le_range
      rw [hpr]
      have hout:(List.range as.length).map (fun i=>(as.map Value.ref).getD i Value.none)=as.map Value.ref:=by
       apply List.ext_getElem
       ·simp
       ·intro i h1' h2'
        have hi:i<as.length:=by simpa using h2'
        simp [hi]
      rw [hout]
      refine PySem.W.KasFin.intro F' N' (.head fun p hp=>Nat.ne_of_lt (Heap.lt_size (qCs hp).2.2)) fun h2 c F2 N2=>⟨_,rfl,wpAny_pure ⟨_,rfl,fin _ ?_⟩⟩
      have ob:=(N2 (h1.objs.size,_) List.mem_cons_self).1
      have N2':News X.base X.env.locals h2 (qDl X.base h1 X.env.locals):=fun p hp=>N2 p (List.mem_cons_of_mem _ hp)
      exact I1.ledgerLaid (t':=tk) (o :=.lst (as.map V.ref)) F1 F2 N2' hB (Nat.ne_of_gt hLlt) ⟨by rw [List.length_map,sizeLine_eq];omega,_,c,qJf as,ob⟩
end
theorem qT1 {ta tb:TE} {σ : St} {H:Hp} {Q:VK} (h:ta σ H fun x H1 => ∃c,x = .bl c/\if c=true then tb σ H1 Q else Q (.bl false) H1):tAndV ta tb σ H Q:=h
theorem qVd {ta:TE} {σ : St} {H:Hp} {Q:VK} (h:ta σ H fun x H1 => ∃c,x = .bl c/\Q (.bl (!c)) H1):tNotV ta σ H Q:=h
theorem qRl {r r':R2} {ta tb tc:TE} {σ : St} {H:Hp} {Q:VK} (h:ta σ H fun x H1=>tb σ H1 fun y H2=>r x y H2 fun z H3 => ∃k,z = .bl k/\(if k=true then tc σ H3 fun w' H4=>r' y w' H4 Q else Q (.bl false) H3)):qSv r r' ta tb tc σ H Q:=h
theorem qHp {K:PySem.W.Frag} {lc:Addr} {G:Hp} {m:Nat} {Q:VK} (h:G lc=some (.lst (List.replicate m (V.bl true)))) (q:Q (.bl true) G):rAllB K [.ref lc] G Q:=by
 have e : ∀m:Nat,(List.replicate m true).all id=true:=fun m=>by simp
 exact⟨lc,List.replicate m true,rfl,SqL.of (by rw [List.map_replicate];exact h),by rw [e];exact q⟩
theorem qSo (d:Deed) (b:Int):wrB b d=true↔wr d=some b:=by
 cases d <;> simp [wrB,wr,darg] <;> exact decide_eq_true_iff
theorem qM4 {m works:Int} {wk:List Blk} (h:WorkOk m works wk):boxTo wk 8=boxes wk:=by
 refine qFh ?_ (qBn wk) fun b => ?_
 ·unfold boxTo
  rw [List.pairwise_map]
  exact (List.Pairwise.filter _ List.pairwise_lt_range).imp fun {a b} h=>by omega
 ·rw [qPq,qGr h]
  unfold qBz
  constructor
  ·intro ⟨_,hne⟩
   obtain⟨y,hy⟩ : ∃y,y∈wrTo wk b wk.length:=by
    cases e:wrTo wk b wk.length with
    | nil=>exact absurd e hne
    | cons y r=>exact⟨y,List.mem_cons_self ..⟩
   obtain⟨n,rfl,hn,hw⟩:=mem_wrTo.mp hy
   unfold hasW at hw
   rw [List.getElem?_eq_getElem hn] at hw
   have hw:wrote b wk[n].ds=true:=hw
   obtain⟨d,hd,e⟩:=List.any_eq_true.mp hw
   refine List.mem_flatMap.mpr ⟨wk[n],List.getElem_mem hn,List.mem_filterMap.mpr ⟨d,hd,?_⟩⟩
   exact (qSo d b).mp e
  ·intro hb
   have hr:=qBt h (by unfold qBz;exact hb)
   refine⟨by omega,fun e => ?_⟩
   obtain⟨blk,hk,hb⟩:=List.mem_flatMap.mp hb
   obtain⟨d,hd,e2⟩:=List.mem_filterMap.mp hb
   obtain⟨n,hn,en⟩:=List.getElem_of_mem hk
   have:(n:Int)∈wrTo wk b wk.length:=mem_wrTo.mpr ⟨n,rfl,hn,by
    unfold hasW
    rw [List.getElem?_eq_getElem hn,en]
    exact List.any_eq_true.mpr ⟨d,hd,(qSo d b).mpr e2⟩⟩
   rw [e] at this;cases this
theorem qN9 {m works y:Int} {wk:List Blk} (h:WorkOk m works wk) (hy:y∈boxes wk):0<=y/\y<8:=qBt h ((qGr h).mp hy)
noncomputable def busyL (ws:List (List Blk)) (n:Nat) (wk:List Blk) (x:Int):List Int:=((List.range wk.length).map fun (k:Nat)=>(k:Int)).filter fun y =>@decide (BusyP ws n wk x y) (Classical.propDecidable _)
theorem qGq {m works:Int} {ws:List (List Blk)} {n:Nat} {wk:List Blk} {x y:Int} (h:WorkOk m works wk):y∈busyL ws n wk x↔BusyP ws n wk x y:=by
 unfold busyL
 rw [List.mem_filter]
 constructor
 ·intro z;exact @of_decide_eq_true _ (Classical.propDecidable _) z.2
 ·intro z
  have hr:=qE1 h z
  have:=h.len
  exact⟨List.mem_map.mpr ⟨y.toNat,List.mem_range.mpr (by omega),by omega⟩,@decide_eq_true _ (Classical.propDecidable _) z⟩
theorem qI4 (ws:List (List Blk)) (n:Nat) (wk:List Blk) (x:Int):(busyL ws n wk x).Pairwise (· < ·):=by
 unfold busyL
 refine List.Pairwise.filter _ ?_
 rw [List.pairwise_map]
 exact List.pairwise_lt_range.imp fun {a b} h=>by omega
theorem qQo (ws:List (List Blk)) (n:Nat) (wk:List Blk) (x:Int):(busyL ws n wk x).length<=wk.length:=by
 unfold busyL
 refine Nat.le_trans (List.length_filter_le _ _) (by simp)
theorem qQn {m works:Int} {ws:List (List Blk)} {n:Nat} {wk:List Blk} {x:Int} {ns:List Int} (h:WorkOk m works wk) (h1:ns.Pairwise (· <= ·)) (h2:ns.Nodup) (h3 : ∀y,y∈ns↔BusyP ws n wk x y):ns=busyL ws n wk x:=by
 refine qFh ?_ (qI4 ws n wk x) fun y=>by rw [h3,qGq h]
 exact (h1.and h2).imp fun {a b} z=>by obtain⟨z1,z2⟩:=z;omega
section
variable {K:PySem.W.Frag} {G G':Hp}
mutual
theorem Den.monoS (hL : ∀a xs,SqL K G a xs->SqL K G' a xs) (hT : ∀a xs,SqT K G a xs->SqT K G' a xs) : ∀ {d:PyData} {v:V},Den K G d v->Den K G' d v
 | .none,_,e=>by simp only [Den] at e ⊢;exact e
 | .bool _,_,e=>by simp only [Den] at e ⊢;exact e
 | .int _,_,e=>by simp only [Den] at e ⊢;exact e
 | .str _,_,e=>by simp only [Den] at e ⊢;exact e
 | .list ds,_,e=>by
  simp only [Den] at e ⊢
  obtain⟨a,vs,e1,e2,e3⟩:=e
  exact⟨a,vs,e1,hL _ _ e2,DenL.monoS hL hT e3⟩
 | .tuple ds,_,e=>by
  simp only [Den] at e ⊢
  obtain⟨a,vs,e1,e2,e3⟩:=e
  exact⟨a,vs,e1,hT _ _ e2,DenL.monoS hL hT e3⟩
 | .dict _,_,e=>by simp only [Den] at e
theorem DenL.monoS (hL : ∀a xs,SqL K G a xs->SqL K G' a xs) (hT : ∀a xs,SqT K G a xs->SqT K G' a xs) : ∀ {ds:List PyData} {vs:List V},DenL K G ds vs->DenL K G' ds vs
 | [],_,e=>by simp only [DenL] at e ⊢;exact e
 | d::ds,_,e=>by
  simp only [DenL] at e ⊢
  obtain⟨v,r,e1,e2,e3⟩:=e
  exact⟨v,r,e1,Den.monoS hL hT e2,DenL.monoS hL hT e3⟩
end
theorem Den.beside {d:Addr} {kvs:List (Key×V)} (hd:G d=some (.dK kvs)) (e:Ext [d] G G') {x:PyData} {v:V} (h:Den K G x v):Den K G' x v:=by
 have ne : ∀ {b o},G b=some o->(∀k,o ≠ .dK k)->G' b=some o:=fun {b o} hb ho=>e _ _ (by
  intro z
  have z:b=d:=by simpa using z
  rw [z,hd] at hb
  exact ho _ (Option.some.inj hb).symm) hb
 refine h.monoS (fun a xs z => ?_) (fun a xs z => ?_)
 ·rcases z with (z | ⟨o,z⟩) | z
  ·exact .inl (.inl (ne z fun _=>by simp))
  ·exact .inl (.inr ⟨o,ne z fun _=>by simp⟩)
  ·exact .inr z
 ·rcases z with (z | ⟨o,z⟩) | z
  ·exact .inl (.inl (ne z fun _=>by simp))
  ·exact .inl (.inr ⟨o,ne z fun _=>by simp⟩)
  ·exact .inr z
theorem Ext.thawed {d:Addr} {o:Obj} {u:HO} (hd:G d=some u) (e:Ext [] (upd G d (.frz o u)) G'):Ext [] G (upd G' d u):=fun b ob _ hb=>by
 by_cases z:b=d
 ·subst z;rw [qA1];rw [hd] at hb;exact hb
 ·rw [qA4 z];exact e _ _ (by simp) (by rw [qA4 z];exact hb)
end
def ListsAt (H:Hp) (as:List Addr) (ls:List (List Int)):Prop:=Paired (fun a ns=>H a=some (.lst (ns.map V.int))) as ls
theorem ListsAt.mono {H H':Hp} {as:List Addr} {ls:List (List Int)} (h:ListsAt H as ls) (k : ∀a∈as,∀o,H a=some o->H' a=some o):ListsAt H' as ls:=by
 unfold ListsAt at h ⊢
 induction h with
 | nil=>exact .nil
 | @cons a n as ns r _ ih=>exact .cons (k a (List.mem_cons_self ..) _ r) (ih fun b hb o e=>k b (List.mem_cons_of_mem _ hb) o e)
theorem ListsAt.snoc {H:Hp} {as:List Addr} {ls:List (List Int)} {a:Addr} {ns:List Int} (h:ListsAt H as ls) (e:H a=some (.lst (ns.map V.int))):ListsAt H (as ++ [a]) (ls ++ [ns]):=Paired.snoc h e
theorem ListsAt.get {H:Hp} {as:List Addr} {ls:List (List Int)} (h:ListsAt H as ls) : ∀ {i:Nat} {a:Addr},as[i]? = some a -> ∃ns,ls[i]? = some ns/\H a=some (.lst (ns.map V.int)):=by
 unfold ListsAt at h
 induction h with
 | nil=>intro i a e;simp at e
 | @cons a n as ns r _ ih =>
  intro i b e
  cases i with
  | zero=>simp at e;subst e;exact⟨n,rfl,r⟩
  | succ i=>simpa using ih (i:=i) (a:=b) (by simpa using e)
def planK (bs:List Int) (as:List Addr):List (Key×V):=(bs.zip as).map fun p=>(Sum.inl p.1,V.ref p.2)
theorem qEr {bs:List Int} {as:List Addr} (h:as.length=bs.length):(planK bs as).length=bs.length:=by unfold planK;rw [List.length_map,List.length_zip];omega
theorem qP1 {bs:List Int} {as:List Addr} {j:Nat} {b:Int} {a:Addr} (h1:bs[j]? = some b) (h2:as[j]? = some a):(planK bs as)[j]? = some (Sum.inl b,V.ref a):=by
 unfold planK
 rw [List.getElem?_map,(List.getElem?_zip_eq_some (z:=(b,a))).mpr ⟨h1,h2⟩];rfl
theorem qMj {bs:List Int} {as:List Addr} {j:Nat} {k:Key} {v:V} (h:(planK bs as)[j]? = some (k,v)) : ∃b a,bs[j]? = some b/\as[j]? = some a/\k=Sum.inl b/\v=V.ref a:=by
 unfold planK at h
 rw [List.getElem?_map] at h
 cases e:(bs.zip as)[j]? with
 | none=>rw [e] at h;cases h
 | some p =>
  rw [e] at h
  obtain⟨e1,e2⟩:=List.getElem?_zip_eq_some.mp e
  have h:(Sum.inl p.1,V.ref p.2)=(k,v):=Option.some.inj h
  exact⟨p.1,p.2,e1,e2,(congrArg Prod.fst h).symm,(congrArg Prod.snd h).symm⟩
theorem qDw : ∀ {bs:List Int} {as:List Addr},as.length=bs.length->(planK bs as).map (·.1)=bs.map Sum.inl
 | [],[],_=>rfl
 | [],_::_,h=>by cases h
 | _::_,[],h=>by cases h
 | b::bs,a::as,h=>by
  have:=qDw (bs:=bs) (as:=as) (by simpa using h)
  unfold planK at this ⊢
  rw [List.zip_cons_cons,List.map_cons,List.map_cons,List.map_cons,this]
theorem qNm {bs:List Int} {as:List Addr} {b:Int} {a:Addr} (h:as.length=bs.length) (hb:b∉bs):putK (planK bs as) (Sum.inl b) (V.ref a)=planK (bs ++ [b]) (as ++ [a]):=by
 unfold putK
 rw [if_neg]
 ·unfold planK
  rw [List.zip_append h.symm,List.map_append];rfl
 ·intro z
  obtain⟨p,hp,e⟩:=List.any_eq_true.mp z
  have e:p.1=Sum.inl b:=of_decide_eq_true e
  have:p.1∈(planK bs as).map (·.1):=List.mem_map.mpr ⟨p,hp,rfl⟩
  rw [qDw h,e] at this
  obtain⟨c,hc,e2⟩:=List.mem_map.mp this
  have:c=b:=Sum.inl.inj e2
  exact hb (this▸hc)
theorem qGm : ∀ {bs:List Int} {as:List Addr} {j:Nat} {b:Int} {a:Addr},bs.Nodup->bs[j]? = some b->as[j]? = some a->valV (planK bs as) (Sum.inl b)=some (V.ref a)
 | [],_,_,_,_,_,e,_=>by simp at e
 | _::_,[],_,_,_,_,_,e=>by simp at e
 | c::bs,d::as,0,b,a,_,e1,e2=>by
  simp at e1 e2
  subst e1 e2
  simp [planK,valV]
 | c::bs,d::as,j+1,b,a,hn,e1,e2=>by
  have hn:=List.nodup_cons.mp hn
  have e1:bs[j]? = some b:=by simpa using e1
  have ne:c≠b:=fun z=>hn.1 (z▸List.mem_of_getElem? e1)
  have:=qGm hn.2 e1 (show as[j]? = some a by simpa using e2)
  unfold planK valV at this ⊢
  rw [List.zip_cons_cons,List.map_cons,List.find?_cons_of_neg]
  ·exact this
  ·simp [ne]
structure PlanAt (H:Hp) (d:Addr) (bs:List Int) (as:List Addr) (ls:List (List Int)):Prop where
 dict:H d=some (.dK (planK bs as))
 lists:ListsAt H as ls
 len:as.length=bs.length
 nd:as.Nodup
 nda:d∉as
theorem PlanAt.snoc {G G2:Hp} {d la:Addr} {bs:List Int} {as:List Addr} {ls:List (List Int)} {b:Int} {ns:List Int} (h:PlanAt G d bs as ls) (e:Ext [] G G2) (h0:G la=none) (h1:G2 la=some (.lst (ns.map V.int))) (hb:b∉bs) :
  PlanAt (upd G2 d (.dK (putK (planK bs as) (Sum.inl b) (.ref la)))) d (bs ++ [b]) (as ++ [la]) (ls ++ [ns]):=by
 have hla:la≠d:=fun z=>by rw [z,h.dict] at h0;cases h0
 have hin : ∀a∈as,∃o,G a=some o:=fun a ha=>by
  obtain⟨i,hi,e⟩:=List.getElem_of_mem ha
  obtain⟨_,_,z⟩:=h.lists.get (i:=i) (a:=a) (by rw [List.getElem?_eq_getElem hi,e])
  exact⟨_,z⟩
 refine⟨by rw [qA1,qNm h.len hb],?_,by simp [h.len],?_,?_⟩
 ·refine ListsAt.snoc (h.lists.mono fun a ha o q => ?_) (by rw [qA4 hla];exact h1)
  rw [qA4 (show a≠d from fun z=>h.nda (z▸ha))]
  exact e _ _ (by simp) q
 ·refine List.nodup_append.mpr ⟨h.nd,by simp,fun a ha b hb z => ?_⟩
  have hb:b=la:=by simpa using hb
  obtain⟨o,ho⟩:=hin a ha
  rw [z,hb,h0] at ho;cases ho
 ·intro z
  rcases List.mem_append.mp z with z | z
  ·exact h.nda z
  ·exact hla (by simpa using z:d=la).symm
theorem qHo {bs:List Int} (h:bs.Pairwise (· < ·)) {j:Nat} {b:Int} (hb:bs[j]? = some b):b∉bs.take j:=fun z=>by
 obtain⟨i,hi,e⟩:=List.getElem_of_mem z
 rw [List.length_take] at hi
 rw [List.getElem_take] at e
 obtain⟨hj,e2⟩:=List.getElem?_eq_some_iff.mp hb
 have:=List.pairwise_iff_getElem.mp h i j (by omega) hj (by omega)
 rw [e,e2] at this
 omega
def qF5 (ws:List (List Blk)) (n:Nat) (wk:List Blk) (x:Int) (ns:List Int):Prop:=ns.Pairwise (· < ·)/\(∀y∈ns,0<=y/\y<(wk.length:Int))/\ns.length<=12 /\ ∀y,BusyP ws n wk x y->y∈ns
def qEg (wk:List Blk):List (List Int):=(boxes wk).map fun _=>(List.range wk.length).map fun (k:Nat)=>(k:Int)
noncomputable def qEa (ws:List (List Blk)) (n:Nat) (wk:List Blk):List (List Int):=(boxes wk).map fun x=>busyL ws n wk x
def qLb (K:PySem.W.Frag):Sp:=fun vs H Q _ => ∃(wa:Addr) (wk:List Blk) (m works:Int),vs = [.ref wa]/\Den K H (workD wk) (.ref wa)/\WorkOk m works wk/\m<=12 /\
 ∀(d:Addr) (as:List Addr) (H':Hp),H d=none->(∀a∈as,H a=none)->Ext [] H H'->PlanAt H' d (boxes wk) as (qEg wk)->Q (.ref d) H'
def qL9 (K:PySem.W.Frag):Sp:=fun vs H Q _ => ∃(wa:Addr) (ws:List (List Blk)) (n:Nat) (wk:List Blk),vs = [.ref wa,.int n]/\Den K H (qC7 ws) (.ref wa)/\WsOk ws/\ws[n]? = some wk /\
 ∀(d:Addr) (as:List Addr) (H':Hp),H d=none->(∀a∈as,H a=none)->Ext [] H H'->PlanAt H' d (boxes wk) as (qEa ws n wk)->Q (.ref d) H'
def qId:Sp:=fun vs H Q _ => ∃n:Int,vs = [.int n]/\Q (.bl true) H
def qIe:Sp:=fun vs H Q _ => ∃n lo hi:Int,vs = [.int n,.int lo,.int hi]/\lo<=n/\n<hi/\Q (.bl true) H
def qIf (K:PySem.W.Frag):Sp:=fun vs H Q _ => ∃(wa l:Addr) (ws:List (List Blk)) (n:Nat) (wk:List Blk) (x:Int) (ns:List Int),vs = [.ref wa,.int n,.int x,.ref l]/\Den K H (qC7 ws) (.ref wa)/\WsOk ws/\ws[n]? = some wk/\H l=some (.lst (ns.map V.int))/\qF5 ws n wk x ns /\
 ∀H',Ext [] H H'->Q (.bl true) H'
def qIc (K:PySem.W.Frag):Sp:=fun vs H Q _ => ∃(wa d:Addr) (ws:List (List Blk)) (n:Nat) (wk:List Blk) (as:List Addr) (ls:List (List Int)),vs = [.ref wa,.int n,.ref d]/\Den K H (qC7 ws) (.ref wa)/\WsOk ws/\ws[n]? = some wk/\PlanAt H d (boxes wk) as ls/\(∀(j:Nat) (x:Int) (ns:List Int),(boxes wk)[j]? = some x->ls[j]? = some ns->qF5 ws n wk x ns) /\
 ∀H',Ext [] H H'->Q (.bl true) H'
theorem qV7 {t u:TS} {D:Ends} {σ : St} {H:Hp} (h : ∀N:St->Hp->Prop,Nx N (u D)->t ⟨N,D.rt,D.bk,D.ct⟩ σ H):tSeq t u D σ H:=h _ fun _ _ h=>h
theorem qWv {tt:TT} {A B:TS} {D:Ends} {σ : St} {H:Hp} (h : ∀A' B':St->Hp->Prop,Nx A' (A D)->Nx B' (B D)->tt σ H fun c H1=>if c=true then A' σ H1 else B' σ H1):tIfS tt A B D σ H:=h _ _ (fun _ _ h=>h) fun _ _ h=>h
section
variable {X:Cx}
theorem isIK (K:PySem.W.Frag) (hK:X.K=K):CallR X (.builtin "isinstance") (rIsI K):=hK▸qF1
theorem qU6 (K:PySem.W.Frag) (hK:X.K=K) {T:String} {name:Str} {id:String} {r:V->List V->Hp->VK->Prop} {o:Expr} {to:TE} {apos cpos:Pos} (pa:PlainAttrs T) (slot:Slot T name id) (hty:typeOf (.builtin id)=pure (.type "method_descriptor")) (hm:MtR X id r) (ho:PE X o to)
  (hbase:attributeBase o name X.env (eval o X.env)=eval o X.env:=by rfl) (hline:(apos.endLine == cpos.line)=true:=by rfl):PE X (.Call (.Attribute o name apos) [] [] cpos) (tBM0 K T r to):=hK▸qHr pa slot hty hm ho hbase hline
def qU0:V->List V->Hp->VK->Prop:=fun x vs H Q => ∃d kvs,x = .ref d/\vs = []/\H d=some (.dK kvs)/\Q .non (upd H d (.dK []))
theorem qPn:MtM X "dict.clear" qU0:=by
 intro pins s σ H x vs v us Q I rx rv h
 obtain⟨d,kvs,rfl,rfl,hd,q⟩:=h
 cases rx
 have hus:=rv.zero
 subst hus
 exact qUp I hd fun s' I'=>⟨.non,_,I',rfl,q⟩
end
theorem qV6 {t u:TS} {D:Ends} {σ : St} {H:Hp} (C:St->Hp->Prop) (h2 : ∀ σ' H',C σ' H'->u D σ' H') (h1:(∀ σ' H',C σ' H'->u D σ' H')->t { D with nx:=u D } σ H):tSeq t u D σ H:=h1 h2
theorem qJz {α β : Type} {R : α -> β -> Prop} : ∀ {as:List α} {bs:List β},as.length=bs.length->(∀(i:Nat) (a : α) (b : β),as[i]? = some a->bs[i]? = some b->R a b)->Paired R as bs
 | [],[],_,_ =>.nil
 | [],_::_,h,_=>by cases h
 | _::_,[],h,_=>by cases h
 | a::as,b::bs,h,k =>.cons (k 0 a b rfl rfl) (qJz (by simpa using h) fun i x y h1 h2=>k (i+1) x y (by simpa using h1) (by simpa using h2))
theorem qFj {α β : Type} {R : α -> β -> Prop} {as:List α} {bs:List β} (h:Paired R as bs) : ∀ {i:Nat} {a : α},as[i]? = some a -> ∃b,bs[i]? = some b/\R a b:=by
 induction h with
 | nil=>intro i a e;simp at e
 | @cons a n as ns r _ ih =>
  intro i b e
  cases i with
  | zero=>simp at e;subst e;exact⟨n,rfl,r⟩
  | succ i=>simpa using ih (i:=i) (a:=b) (by simpa using e)
def ilD (d:Int×List Int):PyData :=.tuple [.int d.1,intsD d.2]
def IlAt (H:Hp) (ps:List Addr) (ds:List (Int×List Int)):Prop:=Paired (fun p d => ∃a,H p=some (.tup [V.int d.1,.ref a])/\H a=some (.lst (d.2.map V.int))) ps ds
theorem IlAt.len {H:Hp} {ps:List Addr} {ds:List (Int×List Int)} (h:IlAt H ps ds):ps.length=ds.length:=Paired.length h
theorem IlAt.mono {H H':Hp} {ps:List Addr} {ds:List (Int×List Int)} (h:IlAt H ps ds) (k:Same H H'):IlAt H' ps ds:=Paired.mapP h fun _ _ ⟨a,e1,e2⟩=>⟨a,k _ _ e1,k _ _ e2⟩
theorem IlAt.snoc {H:Hp} {ps:List Addr} {ds:List (Int×List Int)} {p a:Addr} {b:Int} {ns:List Int} (h:IlAt H ps ds) (e1:H p=some (.tup [V.int b,.ref a])) (e2:H a=some (.lst (ns.map V.int))):IlAt H (ps ++ [p]) (ds ++ [(b,ns)]):=Paired.snoc h ⟨a,e1,e2⟩
theorem IlAt.den {K:PySem.W.Frag} {H:Hp} {ps:List Addr} {ds:List (Int×List Int)} (h:IlAt H ps ds):DenL K H (ds.map ilD) (ps.map V.ref):=by
 unfold IlAt at h
 induction h with
 | nil=>exact .nil
 | @cons p d ps ds r _ ih =>
  obtain⟨a,e1,e2⟩:=r
  exact .cons (.tuple (SqT.of e1) (.cons .int (.cons (.list (SqL.of e2) (DenL.ofInts _)) .nil))) ih
theorem qQ6 {G4 GA:Hp} {lc la p:Addr} {ps:List Addr} {ds:List (Int×List Int)} {b:Int} {ns:List Int} {o u:HO} (hI:IlAt (wo [lc] G4) ps ds) (e:Ext [] G4 GA) (hlc:G4 lc=some u) (hla0:G4 la=none) (hla:GA la=some (.lst (ns.map V.int))) (hp:GA p=none) :
  IlAt (wo [lc] (upd (upd GA p (.tup [V.int b,.ref la])) lc o)) (ps ++ [p]) (ds ++ [(b,ns)]):=by
 have n1:la≠lc:=fun z=>by rw [z,hlc] at hla0;cases hla0
 have n2:p≠lc:=fun z=>by rw [z,e _ _ (by simp) hlc] at hp;cases hp
 have n3:la≠p:=fun z=>by rw [<-z,hla] at hp;cases hp
 have s:Ext [lc] G4 (upd (upd GA p (.tup [V.int b,.ref la])) lc o):=((e.trans (.laid hp)).mono (us :=[lc]) (by simp)).trans (.put (by simp))
 refine (hI.mono s.same).snoc (a:=la) ?_ ?_
 ·rw [qCu (by simpa using n2),qA4 n2,qA1]
 ·rw [qCu (by simpa using n1),qA4 n1,qA4 n3];exact hla
theorem IlAt.off {G:Hp} {ld lc:Addr} {o:HO} {ps:List Addr} {ds:List (Int×List Int)} (hI:IlAt G ps ds) (h:G ld=some (.lst [V.ref lc])):IlAt (upd G ld o) ps ds:=Paired.mapP hI fun p d ⟨a,e1,e2⟩=>⟨a,by
 rw [qA4 (show p≠ld from fun z=>by rw [z,h] at e1;cases e1)];exact e1,by
 rw [qA4 (show a≠ld from fun z=>by
  rw [z,h] at e2
  have e2 : [V.ref lc]=d.2.map V.int:=by injection e2 with e2;injection e2
  cases hd:d.2 with
  | nil=>rw [hd] at e2;cases e2
  | cons x r=>rw [hd] at e2;cases e2)];exact e2⟩
def planD (bs:List Int) (f:Int->List Int):PyData :=.list ((bs.map fun b=>(b,f b)).map ilD)
theorem IlAt.list {K:PySem.W.Frag} {H:Hp} {ps:List Addr} {bs:List Int} {f:Int->List Int} {l:Addr} (h:IlAt H ps (bs.map fun b=>(b,f b))) (e:H l=some (.lst (ps.map V.ref))):Den K H (planD bs f) (.ref l) :=.list (SqL.of e) h.den
theorem qSa {H:Hp} {bs:List Int} {as tps:List Addr} {f:Int->List Int} (h1:tps.length=bs.length) (h2:as.length=bs.length) (hL:ListsAt H as (bs.map f)) (hT : ∀(j:Nat) (b:Addr) (kk:Key) (v:V),tps[j]? = some b->(planK bs as)[j]? = some (kk,v)->H b=some (.tup [kV kk,v])):IlAt H tps (bs.map fun b=>(b,f b)):=by
 refine qJz (by rw [List.length_map];exact h1) fun i p d hp hd => ?_
 have hi:i<tps.length:=(List.getElem?_eq_some_iff.mp hp).1
 have ha:as[i]? = some as[i]:=List.getElem?_eq_getElem (by omega)
 have hb:bs[i]? = some bs[i]:=List.getElem?_eq_getElem (by omega)
 obtain⟨ns,e1,e2⟩:=hL.get ha
 rw [List.getElem?_map,hb] at e1 hd
 have e1:f bs[i]=ns:=Option.some.inj e1
 have hd:(bs[i],f bs[i])=d:=Option.some.inj hd
 subst hd e1
 exact⟨as[i],hT i p _ _ hp (qP1 hb ha),e2⟩
theorem qNl {bs:List Int} {fs:List (Int->List Int)} (hb : ∀b∈bs,-1<=b/\b<=100) (hbl:bs.length<=8) (hf : ∀f∈fs,∀b∈bs,(∀n∈f b,-1<=n/\n<=100)/\(f b).length<=12) (hfl:fs.length<=2):tame (.list (fs.map (planD bs)))=true/\cells (.list (fs.map (planD bs)))<=5000/\(PyData.list (fs.map (planD bs))).depth<=64:=by
 have one : ∀f∈fs,∀b∈bs,tame (ilD (b,f b))=true/\cells (ilD (b,f b))<=20/\(ilD (b,f b)).depth<=2:=fun f hf' b hb'=>by
  obtain⟨h1,h2⟩:=hf f hf' b hb'
  have h0:=hb b hb'
  have d1:=qCe (l:=f b) (f:=PyData.int) fun n hn=>by
   have:=h1 n hn
   simp only [tame,decide_eq_true_eq];omega
  have d2:=qC3 (l:=f b) (f:=PyData.int) (n:=0) fun n hn=>Nat.le_refl _
  have d3:=qC2 (l:=f b) (f:=PyData.int) (n:=0) fun n hn=>Nat.le_refl _
  refine⟨?_,?_,?_⟩
  ·simp only [ilD,intsD,tame,qB8,d1,Bool.and_true,decide_eq_true_eq];omega
  ·simp only [ilD,intsD,cells,qCl];omega
  ·show PyData.depthAll [.int b,intsD (f b)]+1<=2
   simp only [PyData.depthAll,intsD,PyData.depth];omega
 have two : ∀f∈fs,tame (planD bs f)=true/\cells (planD bs f)<=168/\(planD bs f).depth<=3:=fun f hf'=>by
  have d1:=qCe (l:=bs) (f:=fun b=>ilD (b,f b)) fun b hb'=>(one f hf' b hb').1
  have d2:=qC3 (l:=bs) (f:=fun b=>ilD (b,f b)) (n:=20) fun b hb'=>(one f hf' b hb').2.1
  have d3:=qC2 (l:=bs) (f:=fun b=>ilD (b,f b)) (n:=2) fun b hb'=>(one f hf' b hb').2.2
  have e:(bs.map fun b=>(b,f b)).map ilD=bs.map fun b=>ilD (b,f b):=by rw [List.map_map];rfl
  refine⟨?_,?_,?_⟩
  ·simp only [planD,tame,e,d1]
  ·simp only [planD,cells,e];omega
  ·show PyData.depthAll ((bs.map fun b=>(b,f b)).map ilD)+1<=3
   rw [e];omega
 have d1:=qCe (l:=fs) (f:=planD bs) fun b hb=>(two b hb).1
 have d2:=qC3 (l:=fs) (f:=planD bs) (n:=168) fun b hb=>(two b hb).2.1
 have d3:=qC2 (l:=fs) (f:=planD bs) (n:=3) fun b hb=>(two b hb).2.2
 refine⟨?_,?_,?_⟩
 ·simp only [tame,d1]
 ·simp only [cells];omega
 ·show PyData.depthAll (fs.map (planD bs))+1<=64
  omega
theorem qOh {K:PySem.W.Frag} {G0 G G':Hp} {lc d l2:Addr} {bs:List Int} {f:Int->List Int} {as tps:List Addr} {o u:HO} (hP:PlanAt G0 d bs as (bs.map f)) (h0:G0 lc=none) (e:Ext [lc] G0 G) (hlc:G lc=some u) (e':Ext [] G G') (hl:G l2=none) (ht : ∀b∈tps,G b=none) (hl':G' l2=some (.lst (tps.map V.ref))) (hlen:tps.length=bs.length) (hT : ∀(j:Nat) (b:Addr) (kk:Key) (v:V),tps[j]? = some b->(planK bs as)[j]? = some (kk,v)->G' b=some (.tup [kV kk,v])) :
  Den K (wo [lc] (upd G' lc o)) (planD bs f) (.ref l2):=by
 have at' : ∀ {b},b≠lc->(wo [lc] (upd G' lc o)) b=G' b:=fun {b} n=>by rw [qCu (by simpa using n),qA4 n]
 have nn : ∀ {b},G b=none->b≠lc:=fun {b} q z=>by rw [z,hlc] at q;cases q
 have hin : ∀a∈as,∃o,G0 a=some o:=fun a ha=>by
  obtain⟨i,hi,e⟩:=List.getElem_of_mem ha
  obtain⟨_,_,z⟩:=hP.lists.get (i:=i) (a:=a) (by rw [List.getElem?_eq_getElem hi,e])
  exact⟨_,z⟩
 refine IlAt.list (ps:=tps) (qSa hlen hP.len (hP.lists.mono fun a ha ob q => ?_) fun j b kk v h1 h2 => ?_) ?_
 ·have n:a≠lc:=fun z=>by obtain⟨_,y⟩:=hin a ha;rw [z,h0] at y;cases y
  rw [at' n]
  exact e' _ _ (by simp) (e _ _ (by simpa using n) q)
 ·rw [at' (nn (ht b (List.mem_of_getElem? h1)))]
  exact hT j b kk v h1 h2
 ·rw [at' (nn hl)]
  exact hl'
theorem PlanAt.in {H:Hp} {d:Addr} {bs:List Int} {as:List Addr} {ls:List (List Int)} (hP:PlanAt H d bs as ls) : ∀a∈as,∃o,H a=some o:=fun a ha=>by
 obtain⟨i,hi,e⟩:=List.getElem_of_mem ha
 obtain⟨_,_,z⟩:=hP.lists.get (i:=i) (a:=a) (by rw [List.getElem?_eq_getElem hi,e])
 exact⟨_,z⟩
theorem Ext.dropAll {ts:List Addr} {H H1 H2:Hp} (a:Ext [] H H1) (b:Ext ts H1 H2) (h : ∀x∈ts,H x=Option.none):Ext [] H H2:=fun x o _ e=>b x o (fun z=>by rw [h x z] at e;cases e) (a x o (by simp) e)
def qBw (wk:List Blk):Int->List Int:=fun _=>(List.range wk.length).map fun (k:Nat)=>(k:Int)
noncomputable def qC8 (ws:List (List Blk)) (n:Nat) (wk:List Blk):Int->List Int:=fun x=>busyL ws n wk x
theorem qRo {m works:Int} {ws:List (List Blk)} {n:Nat} {wk:List Blk} (h:WorkOk m works wk) (hm:m<=12) (x:Int):qF5 ws n wk x (qBw wk x):=by
 have hl:=h.len
 refine⟨?_,fun y hy => ?_,?_,fun y hy => ?_⟩
 ·unfold qBw
  rw [List.pairwise_map]
  exact List.pairwise_lt_range.imp fun {a b} h=>by omega
 ·unfold qBw at hy
  obtain⟨k,hk,rfl⟩:=List.mem_map.mp hy
  have:=List.mem_range.mp hk
  omega
 ·unfold qBw
  rw [List.length_map,List.length_range];omega
 ·have:=qE1 h hy
  exact List.mem_map.mpr ⟨y.toNat,List.mem_range.mpr (by omega),by omega⟩
theorem qR6 {m works:Int} {ws:List (List Blk)} {n:Nat} {wk:List Blk} (h:WorkOk m works wk) (hm:m<=12) (x:Int):qF5 ws n wk x (qC8 ws n wk x):=by
 have hl:=h.len
 refine⟨qI4 ws n wk x,fun y hy => ?_,?_,fun y hy=>(qGq h).mpr hy⟩
 ·have:=qE1 h ((qGq h).mp hy)
  omega
 ·have:=qQo ws n wk x
  show (busyL ws n wk x).length<=12
  omega
theorem PlanAt.mono {H H':Hp} {d:Addr} {bs:List Int} {as:List Addr} {ls:List (List Int)} (h:PlanAt H d bs as ls) {ts:List Addr} (e:Ext ts H H') (h1:d∉ts) (h2 : ∀a∈as,a∉ts):PlanAt H' d bs as ls :=
 ⟨e _ _ h1 h.dict,h.lists.mono fun a ha o q=>e _ _ (h2 a ha) q,h.len,h.nd,h.nda⟩
def PlansAt (H:Hp) (bs:List Int) (ds:List Addr) (fs:List (Int->List Int)):Prop:=Paired (fun d f => ∃as,PlanAt H d bs as (bs.map f)) ds fs
theorem PlansAt.mono {H H':Hp} {bs:List Int} {ds:List Addr} {fs:List (Int->List Int)} (h:PlansAt H bs ds fs) (e:Ext [] H H'):PlansAt H' bs ds fs:=Paired.mapP h fun _ _ ⟨as,p⟩=>⟨as,p.mono e (by simp) (by simp)⟩
structure Fr where
 n:Nat
 w0:Int
 w1:Int
 pos:Int
 bx:List Int
 as:List (Int×Int)
structure Ms where
 held:List Int
 told:List Int
 flt:List (Int×Int)
 sv:Int
 bk:Int
 steps:Int
 taken:Int
 log:List (Int×Int×Int)
 st:List Fr
structure Gv where
 mean:Bool
 ws:List (List Blk)
 ch:List Int
 most:Int
section
variable {P:Program} {w:World}
variable {A:Around} {E:Value->Shared->Prop} {s:Shared}
end
structure RA where
 self:Addr
 dx:Addr
 wa:Addr
 ba:Addr
 ca:Addr
 ta:Addr
 fa:Addr
 ga:Addr
 C:Addr
 CC:Addr
section
variable {H:Hp} {d:Addr} {us us':List V}
variable {ds ds':List Deed}
end
end L2
local macro_rules | `(tactic| walk_at "q1") => `(tactic| first | refine L2.r_op ?_ | refine L2.qX1 ?_ | refine L2.qL6 ?_ | refine L2.qWn ?_ | refine L2.qOs ?_ | refine L2.qEq ?_)
local macro_rules | `(tactic| walk_at "q2") => `(tactic| first | refine L2.qV5 ?_ | refine L2.r_tB ?_ | refine L2.qR0 ?_ | refine L2.qVh ?_ | refine L2.qOp ?_ | refine L2.qOu ?_ | refine L2.qWm ?_ | refine L2.qWt ?_ | refine L2.qVl ?_ | refine L2.r_cb ?_ | refine L2.qWu ?_ | refine L2.r_un ?_ | refine L2.r_u ?_ | refine L2.qVn ?_ | refine L2.r_or ?_ | refine L2.qWq ?_ | refine L2.qWo ?_ | refine L2.r_c ?_ | refine L2.r_i0 ?_ | refine L2.qX0 ?_ | refine L2.qWz ?_ | refine L2.qT0 ?_ | refine L2.qOq ?_ | refine L2.qTx ?_ | refine L2.qTy ?_ | refine L2.qVf ?_ | refine L2.qVa ?_ | refine L2.qWw ?_ | refine L2.qWy ?_ | refine L2.qRk ?_ | refine L2.qVk ?_ | refine L2.qTz ?_ | refine L2.qVi ?_ | refine L2.qVm ?_ | refine L2.qVb ?_ | refine L2.qVp ?_ | refine L2.qVo ?_ | refine L2.qLk ?_ | refine L2.qOr ?_ | refine L2.r_sl ?_ | refine L2.qWr ?_ | refine L2.qVc ?_ | refine L2.qLi (by with_unfolding_all rfl) ?_ | refine L2.qBl (by assumption) (by with_unfolding_all rfl) ?_ | refine L2.qCp (by assumption) (by with_unfolding_all rfl) ?_)
local macro_rules | `(tactic| walk_at "rd") => `(tactic| repeat (with_reducible first | refine L2.qV9 ?_ | walk_at "q1" | refine L2.qCt (by assumption) ?_ | refine L2.qWf (by assumption) ?_ | refine L2.qX8 ?_ | walk_at "q2"))
namespace Fs
open PySem L2
def top (i:Nat):Stmt:=PySem.Challenge.pw_fewsaves_k21_plain_and_tight_plans.main.body.getD i (.Pass ⟨0,0,0,0⟩)
abbrev sDraw:Stmt:=top 26
section
variable {P:Program} {w:World} {K:PySem.W.Frag} {mg:Str->Option Value} {base:Heap}
theorem scDraw:FnScope ["_law_tape_here","_law_many_here","_law_found","_law_once","_law_twice"] ["_law_tape_here","_law_many_here"] (qA7 sDraw):=⟨rfl,rfl,rfl,by decide +kernel,rfl,by decide +kernel,by decide +kernel⟩
theorem qUh {f:Addr} {fd:FuncData} (F:Fun K "_law_draw" "_law_draw" sDraw f fd):FnOk P w K mg base CX0 1 f fd ["_law_tape_here","_law_many_here"] qEp:=by
 refine F.ok scDraw (fun vs H Q E h => ?_) (fun cdv A outer s H vs Q E hr h => ?_)
 ·obtain⟨t,k,n,rfl,_⟩:=h
  rfl
 ·obtain⟨t,k,n,rfl,⟨a,b,c,ht,ha,hb,hb2,hc,hc2⟩,hk,hn,hn2,q⟩:=h
  refine⟨_,qA5 (qC6 (qAn qRt (qAr qAi (pv 0) qA6 (fun _ _=>rfl)) qA6 (qAt _))
    (qA5 (qAm (i:=2) scDraw.nd rfl (Or.inl rfl) (qAs qEs (qAr qAi (pv 0) qA6 (fun _ _=>rfl)) (pv 1)))
    (qA5 (qJu (qAs qP6 (qAr qAi (pv 0) qA6 (fun _ _=>rfl)) (pv 1)) (qT3 (pv 0) qA6 qMi))
    (qA8 (qAj (pv 2))))) qB1)
   (qA5 (qJu (qAs qB5 (qAr qAi (pv 0) qA6 (fun _ _=>rfl)) qA6) (qT3 (pv 0) qA6 qMi))
   (qA5 (qAm (i:=3) scDraw.nd rfl (Or.inl rfl) (qAs qEs (qAs qK0 (qAs qB5 (qAr qAi (pv 0) qA6 (fun _ _=>rfl)) (qAs qK3 qA6 (qAr qAi (pv 0) qA6 (fun _ _=>rfl)))) qA6) qA6))
   (qA5 (qAm (i:=4) scDraw.nd rfl (Or.inl rfl) (qAs qEs (qAs qK3 (qAs qB5 (pv 3) (qAr qAi (pv 0) qA6 (fun _ _=>rfl))) (qAs qB5 (qAs qB5 (qAs qEs (pv 3) qA6) qA6) (qAr qAi (pv 0) qA6 (fun _ _=>rfl)))) qA6))
   (qA8 (qAj (qAs qEs (qAs qP6 (qAs qEs (qAs qB5 (qAs qK3 (pv 4) qA6) (pv 3)) qA6) qA6) (pv 1))))))),?_⟩
  dsimp only [qBb]
  have hS:SqL K H t [.int a,.int b,.int c]:=SqL.of ht
  walk_at "rd"
  refine ite2 (fun g => ?_) (fun g => ?_)
  ·walk_at "rd"
   refine qGj hn ?_
   walk_at "rd"
   refine qVj hn (by omega) ?_
   walk_at "rd"
   refine qSz (n:=0) ht rfl ?_
   walk_at "rd"
   exact q _ _ (Int.emod_nonneg _ (by omega)) (Int.emod_lt_of_pos _ hn) ⟨a / n,b,c,qA1,Int.ediv_nonneg ha (by omega),hb,hb2,hc,by omega⟩ (.put (by simp)) (fun b hb=>qA4 hb)
  ·walk_at "rd"
   refine qSz (n:=2) ht rfl ?_
   have hS':SqL K (upd H t (.lst ([V.int a,V.int b,V.int c].set 2 (.int (c+1))))) t [.int a,.int b,.int (c+1)]:=SqL.of qA1
   walk_at "rd"
   refine qLj (.inl ⟨by decide,by decide⟩) ?_
   walk_at "rd"
   refine qNk (by decide) (by decide) (by omega) ?_
   walk_at "rd"
   refine qGj (by decide) ?_
   generalize ho:(b+39373*(c+1))^(5:Int).toNat%2147483647=o
   have ho1:0<=o:=by rw [<-ho];exact Int.emod_nonneg _ (by decide)
   have ho2:o<2147483647:=by rw [<-ho];exact Int.emod_lt_of_pos _ (by decide)
   walk_at "rd"
   refine qGj (by decide) ?_
   have hm1:0<=o%40009:=Int.emod_nonneg _ (by decide)
   have hm2:o%40009<40009:=Int.emod_lt_of_pos _ (by decide)
   walk_at "rd"
   refine qLj (.inl ⟨by omega,by omega⟩) ?_
   walk_at "rd"
   refine qGj (by decide) ?_
   generalize hp:(o+(c+1))*(o%40009+7+(c+1))%2147483629=p2
   have hp1:0<=p2:=by rw [<-hp];exact Int.emod_nonneg _ (by decide)
   have hp2:p2<2147483629:=by rw [<-hp];exact Int.emod_lt_of_pos _ (by decide)
   walk_at "rd"
   refine qLj (.inl ⟨by omega,by omega⟩) ?_
   walk_at "rd"
   refine qGj (by decide) ?_
   walk_at "rd"
   refine qVj (by decide) (by decide) ?_
   walk_at "rd"
   refine qGj hn ?_
   exact q _ _ (Int.emod_nonneg _ (by omega)) (Int.emod_lt_of_pos _ hn) ⟨a,b,c+1,qA1,ha,hb,hb2,by omega,by omega⟩ (.put (by simp)) (fun b hb=>qA4 hb)
end
section
variable {P:Program} {w:World} {K:PySem.W.Frag} {mg:Str->Option Value} {base:Heap}
abbrev sTape:Stmt:=top 25
abbrev qF9:Stmt:=top 28
abbrev sMany:Stmt:=top 31
theorem scTape:FnScope ["_law_script","_law_k","_law_cell"] ["_law_script","_law_k"] (qA7 sTape):=⟨rfl,rfl,rfl,by decide +kernel,rfl,by decide +kernel,by decide +kernel⟩
theorem qUb {f:Addr} {fd:FuncData} (F:Fun K "_law_tape" "_law_tape" sTape f fd) (nlen:mg "len" = none) (nabs:mg "abs" = none) (nint:mg "int" = none):FnOk P w K mg base CX0 1 f fd ["_law_script","_law_k"] (qOf K):=by
 refine F.ok scTape (fun vs H Q E h => ?_) (fun cdv A outer s H vs Q E hr h => ?_)
 ·obtain⟨a,ns,k,rfl,_⟩:=h
  rfl
 ·obtain⟨a,ns,k,rfl,hS,hk,q⟩:=h
  refine⟨_,qA5 (qAm (i:=2) scTape.nd rfl (Or.inl rfl) (qDy (qAn qNo (pv 1) (qAb qAw (by rfl) nlen PySem.boot_len (qA0 (pv 0) qA3)) (qAt _)) (qAr qAi (pv 0) (pv 1) (fun _ _=>rfl)) qA6))
   (qA8 (qAj (qAy (qA0 (qAs qK3 (qAb qN8 (by rfl) nabs PyProof.Rows.boot_abs (qA0 (pv 2) qA3)) (qAl qDk (by rfl) nint PyProof.Rows.boot_int (qA0 (qBf qX4 (qAb qN8 (by rfl) nabs PyProof.Rows.boot_abs (qA0 (pv 2) qA3)) (qAs qK0 qA6 qA6) (qAt _)) qA3)))
    (qA0 (qAs qB5 (qAs qB5 (qAs qEs (pv 2) qA6) (qAs qK3 qA6 (pv 1))) qA6) (qA0 qA6 qA3)))))),?_⟩
  dsimp only [qBb]
  have key : ∀c:Int,0<=(if c<0 then -c else c):=fun c=>by split <;> omega
  walk_at "rd"
  refine⟨a,_,rfl,.inl hS,?_⟩
  walk_at "rd"
  by_cases g:(k:Int)<((ns.map V.int).length:Int)
  ·rw [decide_eq_true g]
   refine iteT ?_
   rw [List.length_map] at g
   have hg:k<ns.length:=by omega
   have hat:atI (ns.map V.int) (k:Int)=some (.int ns[k]):=by
    have:=qAq (xs:=ns.map V.int) (j:=k) (by rw [List.getElem?_map,List.getElem?_eq_getElem hg];rfl)
    exact this
   walk_at "rd"
   refine qBl hS hat ?_
   generalize ns[k]=c
   walk_at "rd"
   refine⟨_,rfl,?_⟩
   walk_at "rd"
   refine⟨_,rfl,?_⟩
   walk_at "rd"
   refine qNk (by decide) (by decide) (by decide) ?_
   walk_at "rd"
   refine .inr ⟨_,rfl,?_⟩
   refine qLj (.inr ⟨by have:=bit01 (decide (10^Int.toNat 18<=if c<0 then -c else c));omega,by have:=bit01 (decide (10^Int.toNat 18<=if c<0 then -c else c));omega⟩) ?_
   walk_at "rd"
   refine qGj (by decide) ?_
   walk_at "rd"
   refine qLj (.inl ⟨by decide,by decide⟩) ?_
   walk_at "rd"
   refine⟨len2 (by show 3<=1000;decide),fun t ht=>q t _ ht ⟨_,_,_,qA1,?_,?_,?_,by decide,by decide⟩ fun b o e => ?_⟩
   ·exact Int.mul_nonneg (key c) (bit01 _).1
   ·have:=Int.emod_nonneg c (show (2305843009213693951:Int)≠0 by decide)
    omega
   ·have:=Int.emod_lt_of_pos c (show (0:Int)<2305843009213693951 by decide)
    omega
   ·rw [qA4 (qA2 e ht)];exact e
  ·rw [decide_eq_false g]
   refine iteF ?_
   walk_at "rd"
   refine⟨_,rfl,?_⟩
   walk_at "rd"
   refine⟨_,rfl,?_⟩
   walk_at "rd"
   refine qNk (by decide) (by decide) (by decide) ?_
   walk_at "rd"
   refine .inr ⟨_,rfl,?_⟩
   refine qLj (.inr ⟨by have:=bit01 (decide (10^Int.toNat 18<=if 0<0 then -0 else 0));omega,by have:=bit01 (decide (10^Int.toNat 18<=if 0<0 then -0 else 0));omega⟩) ?_
   walk_at "rd"
   refine qGj (by decide) ?_
   walk_at "rd"
   refine qLj (.inl ⟨by decide,by decide⟩) ?_
   walk_at "rd"
   refine⟨len2 (by show 3<=1000;decide),fun t ht=>q t _ ht ⟨_,_,_,qA1,?_,?_,?_,by decide,by decide⟩ fun b o e => ?_⟩
   ·exact Int.mul_nonneg (key 0) (bit01 _).1
   ·have:(0:Int)%2305843009213693951=0:=rfl
    omega
   ·have:(0:Int)%2305843009213693951=0:=rfl
    omega
   ·rw [qA4 (qA2 e ht)];exact e
theorem qUz:FnScope ["_law_tape_here"] ["_law_tape_here"] (qA7 sMany):=⟨rfl,rfl,rfl,by decide +kernel,rfl,by decide +kernel,by decide +kernel⟩
theorem qUe {f:Addr} {fd:FuncData} (F:Fun K "_law_many" "_law_many" sMany f fd) (nint:mg "int" = none) (hD:Has P w K mg base "_law_draw" 1 ["_law_tape_here","_law_many_here"] qEp):FnOk P w K mg base CX0 2 f fd ["_law_tape_here"] qOg:=by
 refine F.ok qUz (fun vs H Q E h => ?_) (fun cdv A outer s H vs Q E hr h => ?_)
 ·obtain⟨t,k,rfl,_⟩:=h
  rfl
 ·obtain⟨t,k,rfl,hT,hk,q⟩:=h
  refine⟨_,qA8 (qAj (qAr qAi (qAy (qA0 (qAs qB5 qA6 (qAk hD hr (Nat.le_refl _) (qA0 (pv 0) (qA0 qA6 qA3)))) (qA0 (qAs qB5 qA6 (qAk hD hr (Nat.le_refl _) (qA0 (pv 0) (qA0 qA6 qA3)))) qA3)))
   (qAl qDk (by rfl) nint PyProof.Rows.boot_int (qA0 (qBf qDb (qAk hD hr (Nat.le_refl _) (qA0 (pv 0) (qA0 qA6 qA3))) qA6 (qAt _)) qA3)) (fun _ _=>rfl))),?_⟩
  dsimp only [qBb]
  walk_at "rd"
  refine qBc hT (by omega) (by decide) (by decide) fun r1 H1 a1 b1 T1 e1 _ => ?_
  walk_at "rd"
  refine qBc T1 (by omega) (by decide) (by decide) fun r2 H2 a2 b2 T2 e2 _ => ?_
  walk_at "rd"
  refine⟨len2 (by show 2<=1000;decide),fun p hp => ?_⟩
  have np:p≠t:=T2.ne hp
  walk_at "rd"
  refine qBc (T2.ext (.laid (ts :=[]) hp) (by simp)) (by omega) (by decide) (by decide) fun r3 H3 a3 b3 T3 e3 k3 => ?_
  walk_at "rd"
  refine qE2 ?_
  walk_at "rd"
  refine .inr ⟨_,rfl,?_⟩
  have e4:Ext [t] H H3:=(e1.trans e2).trans ((Ext.laid hp).trans e3)
  have hL:SqL K H3 p [V.int (1+r1),V.int (7+r2)]:=SqL.of (by rw [k3 p np,qA1])
  cases c:decide (r3=0) with
  | true=>exact qBl hL rfl (q _ _ (by omega) (by omega) T3 e4)
  | false=>exact qBl hL rfl (q _ _ (by omega) (by omega) T3 e4)
theorem qRb:FnScope ["_law_tape_here"] ["_law_tape_here"] (qA7 qF9):=⟨rfl,rfl,rfl,by decide +kernel,rfl,by decide +kernel,by decide +kernel⟩
theorem qP8 {f:Addr} {fd:FuncData} (F:Fun K "_law_number" "_law_number" qF9 f fd) (hD:Has P w K mg base "_law_draw" 1 ["_law_tape_here","_law_many_here"] qEp):FnOk P w K mg base CX0 2 f fd ["_law_tape_here"] qIb:=by
 refine F.ok qRb (fun vs H Q E h => ?_) (fun cdv A outer s H vs Q E hr h => ?_)
 ·obtain⟨t,k,rfl,_⟩:=h
  rfl
 ·obtain⟨t,k,rfl,hT,hk,q⟩:=h
  refine⟨_,qA8 (qAj (qAr qAi (qAy (qA0 qA6 (qA0 qA6 (qA0 (qW0 qSq qA6) (qA0 qA6 (qA0 (qAs qK0 qA6 qA6) (qA0 (qAs qP5 qA6 (qAs qK0 qA6 qA6))
   (qA0 (qAs qP5 (qAk hD hr (Nat.le_refl _) (qA0 (pv 0) (qA0 qA6 qA3))) qA6) (qA0 (qAk hD hr (Nat.le_refl _) (qA0 (pv 0) (qA0 (qAs qK0 qA6 qA6) qA3))) qA3)))))))))
   (qAk hD hr (Nat.le_refl _) (qA0 (pv 0) (qA0 qA6 qA3))) (fun _ _=>rfl))),?_⟩
  dsimp only [qBb]
  walk_at "rd"
  refine qNk (by decide) (by decide) (by decide) ?_
  walk_at "rd"
  refine qNk (by decide) (by decide) (by decide) ?_
  walk_at "rd"
  refine qBc hT (by omega) (by decide) (by decide) fun r1 H1 a1 b1 T1 e1 _ => ?_
  walk_at "rd"
  refine qNk (by decide) (by decide) (by decide) ?_
  walk_at "rd"
  refine qBc T1 (by omega) (by decide) (by decide) fun r2 H2 a2 b2 T2 e2 _ => ?_
  have b2':r2<1000000:=b2
  walk_at "rd"
  refine⟨len2 (by show 8<=1000;decide),fun p hp => ?_⟩
  have np:p≠t:=T2.ne hp
  walk_at "rd"
  refine qBc (T2.ext (.laid (ts :=[]) hp) (by simp)) (by omega) (by decide) (by decide) fun r3 H3 a3 b3 T3 e3 k3 => ?_
  have e4:Ext [t] H H3:=(e1.trans e2).trans ((Ext.laid hp).trans e3)
  have hL:=SqL.of (K:=K) ((k3 p np).trans qA1)
  have e5:(10:Int)^(12:Int).toNat=1000000000000:=by decide
  have e6 : -((10:Int)^12) = -1000000000000:=by decide
  have e7:((10:Int)^12)=1000000000000:=by decide
  rw [e6,e7] at q
  obtain h | h | h | h | h | h | h | h:r3=0\/r3=1\/r3=2\/r3=3\/r3=4\/r3=5\/r3=6\/r3=7:=by omega
  all_goals
   subst h
   refine qBl hL rfl (q _ _ ?_ ?_ T3 e4)
  all_goals first | decide | omega
end
section
variable {P:Program} {w:World} {K:PySem.W.Frag} {mg:Str->Option Value} {base:Heap}
theorem qB6 {D:Ends} {σ : St} {H5:Hp} {l d p:Addr} {vs:List V} {kvs:List (Key×V)} {ns:List Int} (h2 : σ[2]? = some (some (.ref l))) (h3 : σ[3]? = some (some (.ref d))) (h7 : σ[7]? = some (some (.ref p))) (hl:H5 l=some (.lst vs)) (hd:H5 d=some (.dK kvs))
  (hp:H5 p=some (.lst (ns.map V.int))) (hz:vs.length<1000) (hz2:kvs.length<=900) (hn:ns.length<=2) (npl:p≠l) (q : ∀H6 kvs',H6 l=some (.lst (vs ++ [.ref p]))->H6 d=some (.dK kvs')->kvs'.length<=kvs.length+2->Ext [l,d] H5 H6->D.nx σ H6) :
  tSeq (tDrop (tBM K "list" qIn (tVar 2) (tCons (tVar 7) tNil))) (tDrop (tBM K "dict" qOv (tVar 3) (tCons (tComp ["_law_one"] [] (.lst []) (iList K (tVar 7)) (gName 0) [] (eApp (tTup (tCons (tVar 0) (tCons (tC (.bl true)) tNil))))) tNil))) D σ H5:=by
 have nld:l≠d:=qFy hl hd (by intro z;cases z)
 have npd:p≠d:=qFy hp hd (by intro z;cases z)
 refine qV9 (qOs (qX0 (qLi h2 (qCo hl (qOu (qLi h7 (qOp (qDg hl (qAa (by omega)) ?_))))))))
 generalize hH6:upd H5 l (.lst (vs ++ [.ref p]))=H6
 have l6:H6 l=some (.lst (vs ++ [.ref p])):=by rw [<-hH6,qA1]
 have d6:H6 d=some (.dK kvs):=by rw [<-hH6,qA4 nld.symm];exact hd
 have p6:H6 p=some (.lst (ns.map V.int)):=by rw [<-hH6,qA4 npl];exact hp
 have e6:Ext [l,d] H5 H6:=by rw [<-hH6];exact .put (by simp)
 refine qOs (qX0 (qLi h3 (qRi d6 (qOu (qT0 (qOq (qLi h7 ⟨p,rfl,⟨_,SqL.of p6⟩,fun l2 hl2 => ?_⟩)))))))
 have n2p:p≠l2:=qA2 p6 hl2
 refine qAf (xs:=ns.map V.int) (fun j σ' H'=>(∃o,σ' = [o])/\Ext [l2] H6 H' /\ ∃items,H' l2=some (.lst items)/\PairsAt H' items ((ns.take j).map fun n=>((Sum.inl n:Key),V.bl true)))
  ⟨⟨none,rfl⟩,.laid hl2,[],qA1,.nil⟩ (fun j σ' H' _ ⟨_,e,_⟩=>SqL.of (e _ _ (by simpa using n2p) p6)) ?_ ?_
 ·rintro j x σ' H' R hx ⟨⟨o,rfl⟩,e,items,hi,pr⟩ hR
  obtain⟨n,hnj,rfl⟩ : ∃n,ns[j]? = some n/\x=V.int n:=by
   rw [List.getElem?_map] at hx
   cases z:ns[j]? with
   | none=>rw [z] at hx;cases hx
   | some n=>rw [z] at hx;exact⟨n,rfl,(Option.some.inj hx).symm⟩
  walk_at "rd"
  refine iteT ?_
  walk_at "rd"
  refine⟨len2 (by show 2<=1000;decide),fun p2 hp2 => ?_⟩
  have n22:l2≠p2:=qA2 hi hp2
  have hlen:items.length<=2:=by
   have:=Paired.length pr
   rw [List.length_map,List.length_take] at this
   omega
  refine⟨items,by rw [qA4 n22];exact hi,qAa (by omega),hR _ _ ⟨⟨_,rfl⟩,?_,items ++ [.ref p2],qA1,?_⟩⟩
  ·exact e.trans ((Ext.laid hp2).trans (.put (by simp)))
  ·have hj:(ns.take (j+1))=ns.take j ++ [n]:=by rw [List.take_add_one,hnj];rfl
   rw [hj,List.map_append]
   refine Paired.snoc (PairsAt.mono (fun b ys e => ?_) pr) ⟨p2,rfl,?_⟩
   ·rw [qA4 (qFy e hi (by intro z;cases z)),qA4 (qA2 e hp2)];exact e
   ·rw [qA4 n22.symm,qA1];rfl
 ·rintro σ' H' ⟨_,e,items,hi,pr⟩
  rw [List.length_map,List.take_length] at pr
  have n2d:d≠l2:=qA2 d6 hl2
  have n2l:l≠l2:=qA2 l6 hl2
  have hmore:=Paired.length pr
  rw [List.length_map] at hmore
  refine qOp ⟨d,l2,kvs,items,_,rfl,rfl,e _ _ (by simpa using n2d) d6,hi,pr,len2 (by rw [List.length_map];omega),?_⟩
  have hml:=qEu (ns.map fun n=>((Sum.inl n:Key),V.bl true)) kvs
  rw [List.length_map] at hml
  refine q _ _ (by rw [qA4 nld];exact e _ _ (by simpa using n2l) l6) qA1 (by omega) ?_
  exact e6.trans (((e.drop hl2).mono (by simp)).trans (.put (by simp)))
abbrev qHi:Stmt:=top 27
theorem scNexts:FnScope ["_law_tape_here","_law_many_here","_law_found","_law_led","_law_k","_law_way","_law_other","_law_some"] ["_law_tape_here","_law_many_here"] (qA7 qHi):=⟨rfl,rfl,rfl,by decide +kernel,rfl,by decide +kernel,by decide +kernel⟩
theorem qRy {f:Addr} {fd:FuncData} (F:Fun K "_law_nexts" "_law_nexts" qHi f fd) (nrange:mg "range" = none) (nmax:mg "max" = none) (hD:Has P w K mg base "_law_draw" 1 ["_law_tape_here","_law_many_here"] qEp):FnOk P w K mg base CX0 2 f fd ["_law_tape_here","_law_many_here"] (qLc K):=by
 refine F.ok scNexts (fun vs H Q E h => ?_) (fun cdv A outer s H vs Q E hr h => ?_)
 ·obtain⟨t,k,m,rfl,_⟩:=h
  rfl
 ·obtain⟨t,k,m,rfl,hT,hk,hm1,hm2,q⟩:=h
  have hu:=qKl hr
  refine⟨_,qA5 (qOz (i:=2) (j:=3) rfl scNexts.nd rfl rfl (by decide) rfl rfl (qA0 (qAy qA3) (qA0 qMk qA3)) rfl)
   (qA5 (qC1 PassesOwn.never rfl (qBd rfl nrange (qA0 (pv 1) qA3)) (qA9 (i:=4) scNexts.nd rfl (Or.inl rfl))
    (qA5 (qAm (i:=5) scNexts.nd rfl (Or.inl rfl) (qAk hD hr (Nat.le_refl _) (qA0 (pv 0) (qA0 qA6 qA3))))
    (qA5 (qAm (i:=6) scNexts.nd rfl (Or.inl rfl) (qAs qB5 qA6 (qAk hD hr (Nat.le_refl _) (qA0 (pv 0) (qA0 (qAb (qKz rfl) (by rfl) nmax PyProof.Rows.boot_max (qA0 qA6 (qA0 (qAs qP5 (pv 1) qA6) qA3))) qA3)))))
    (qA5 (qAm (i:=7) scNexts.nd rfl (Or.inl rfl) (qAr qAi (qAy (qA0 (qAy (qA0 (qAs qB5 (pv 4) qA6) (qA0 (pv 6) qA3))) (qA0 (qAy (qA0 (pv 6) (qA0 (qAs qB5 (pv 4) qA6) qA3))) qA3))) (qAs qEs (pv 5) qA6) (fun _ _=>rfl)))
    (qA5 (qC6 (qAn qDb (qAs qB5 (pv 4) qA6) (pv 1) (qAt _))
      (qA8 (qAm (i:=7) scNexts.nd rfl (Or.inl rfl) (qDy (qGk (qAn qDb (pv 5) qA6 (qAt _)) (qEf (qAn qRt (pv 1) qA6 (qAt _)))).pt (qAy (qA0 (pv 6) qA3)) (qAy qA3))))
      (qA8 (qC6 (qGk (qJt (qT4 hu (qAs qB5 (pv 4) qA6) (pv 3))) (qEf (qAn qNo (pv 5) qA6 (qAt _)))).pt
       (qA8 (qAm (i:=7) scNexts.nd rfl (Or.inl rfl) (qDy (qAn qDb (pv 5) qA6 (qAt _)) (qAy (qA0 (pv 6) qA3)) (qAy qA3))))
       (qA8 (qC6 (qU1 (qAn qNo (pv 5) qA6 (qAt _)) (qOx (qAn qDb (pv 6) (qAs qB5 (pv 4) qA6) (qAt _)))).pt
        (qA8 (qAm (i:=7) scNexts.nd rfl (Or.inl rfl) (qAy (qA0 (qAs qB5 (pv 4) qA6) qA3)))) qB1)))))
    (qA5 (qBp (qE3 PySem.F.plainAttrs_list PySem.F.slot_list_append PySem.F.type_list_append qBg (pv 2) (qA0 (pv 7) qA3)))
    (qA8 (qBp (qE3 PySem.F.plainAttrs_dict PySem.F.slot_dict_update PySem.F.type_dict_update (qPl rfl) (pv 3)
     (qA0 (qBx ["_law_one"] [] rfl (.of rfl) (qAo (pv 7)) (fun _ _ _ _=>qA9 (i:=0) (by show ((["_law_one"]:List Str)).Nodup;decide) rfl (Or.inl rfl)) (fun _ _ _ _ =>.nil) (fun _ _ _ _=>qBe (qA0 (pv 0) (qA0 qDa qA3)))) qA3))))))))))
   (qA8 (qAj (pv 2)))),?_⟩
  dsimp only [qBb,qB3]
  walk_at "rd"
  refine⟨len2 (Nat.zero_le _),fun l hl => ?_⟩
  have nlt:l≠t:=hT.ne hl
  walk_at "rd"
  refine qOt fun d hd => ?_
  have nld:l≠d:=fun z=>by rw [<-z,qA1] at hd;cases hd
  rw [qA4 nld.symm] at hd
  have ndt:d≠t:=hT.ne hd
  walk_at "rd"
  refine⟨_,_,rfl,?_⟩
  walk_at "rd"
  refine⟨m,rfl,by omega,by omega,qCb (lo:=0) (n:=m.toNat) (fun i σ' H' => ∃(nx:List (List Int)) (vs:List V) (kvs:List (Key×V)) (o4 o5 o6 o7:Option V),σ' = [some (.ref t),some (.int m),some (.ref l),some (.ref d),o4,o5,o6,o7]/\nx.length=i/\(∀ns∈nx,NsOk m ns) /\
   Tape H' t (k+2*i)/\Ext [t] H H'/\H' l=some (.lst vs)/\DenL K (yo H [t,l,d] H') (nx.map intsD) vs/\H' d=some (.dK kvs)/\kvs.length<=2*i) ?_ ?_ ?_⟩
  ·refine⟨[],[],[],none,none,none,none,rfl,rfl,(fun _ h=>absurd h (by simp)),?_,?_,?_,.nil,qA1,Nat.le_refl _⟩
   ·exact (hT.ext (ts :=[]) ((Ext.laid hl).trans (.laid (by rw [qA4 nld.symm];exact hd))) (by simp)).mono (by omega)
   ·exact (Ext.laid hl).trans (.laid (by rw [qA4 nld.symm];exact hd))
   ·rw [qA4 nld,qA1]
  ·rintro i σ' H' hi ⟨nx,vs,kvs,o4,o5,o6,o7,rfl,hnl,hnx,hT',e',hl',hden,hd',hkl⟩ N_ B_ C_ R_ hN_ hC_ hR_
   have hvl:vs.length=i:=by rw [hden.len,List.length_map,hnl]
   walk_at "rd"
   refine qBc hT' (by omega) (by decide) (by decide) fun r1 H1 a1 b1 T1 e1 k1 => ?_
   walk_at "rd"
   refine⟨_,_,rfl,?_⟩
   walk_at "rd"
   refine qBc T1 (by omega) (by split <;> omega) (by split <;> omega) fun r2 H2 a2 b2 T2 e2 k2 => ?_
   have l2:H2 l=some (.lst vs):=by rw [k2 l nlt,k1 l nlt];exact hl'
   have d2:H2 d=some (.dK kvs):=by rw [k2 d ndt,k1 d ndt];exact hd'
   have den2:DenL K (yo H [t,l,d] H2) (nx.map intsD) vs:=hden.mono ((e1.trans e2).mono (by simp)).young
   walk_at "rd"
   refine⟨len2 (by show 2<=1000;decide),fun p1 hp1 => ?_⟩
   walk_at "rd"
   refine⟨len2 (by show 2<=1000;decide),fun p2 hp2 => ?_⟩
   walk_at "rd"
   refine⟨len2 (by show 2<=1000;decide),fun p3 hp3 => ?_⟩
   have n12:p1≠p2:=qA2 qA1 hp2
   have n23:p2≠p3:=qA2 qA1 hp3
   have n13:p1≠p3:=qA2 (by rw [qA4 n12,qA1]) hp3
   generalize hH5:upd (upd (upd H2 p1 (HO.lst [V.int (0 + ↑i+1),V.int (1+r2)])) p2 (HO.lst [V.int (1+r2),V.int (0 + ↑i+1)])) p3 (HO.lst [V.ref p1,V.ref p2])=H5
   have hp2':H2 p2=none:=by rw [qA4 n12.symm] at hp2;exact hp2
   have e5:Ext [] H2 H5:=by
    rw [<-hH5]
    exact (Ext.laid hp1).trans ((Ext.laid hp2).trans (.laid hp3))
   have q1:H5 p1=some (.lst ([0+(i:Int)+1,1+r2].map V.int)):=by rw [<-hH5,qA4 n13,qA4 n12,qA1];rfl
   have q2:H5 p2=some (.lst ([1+r2,0+(i:Int)+1].map V.int)):=by rw [<-hH5,qA4 n23,qA1];rfl
   have q3:SqL K H5 p3 [V.ref p1,V.ref p2]:=SqL.of (by rw [<-hH5,qA1])
   have fr : ∀p,H2 p=none->p≠t/\p≠l/\p≠d:=fun p hp=>⟨T2.ne hp,(qA2 l2 hp).symm,(qA2 d2 hp).symm⟩
   have fin : ∀(p:Addr) (ns:List Int) (H6:Hp),Ext [] H5 H6->H6 p=some (.lst (ns.map V.int))->H2 p=none->NsOk m ns -> ∀(H7:Hp) (kvs':List (Key×V)),H7 l=some (.lst (vs ++ [.ref p]))->H7 d=some (.dK kvs')->kvs'.length<=kvs.length+2->Ext [l,d] H6 H7 -> ∀o4 o5 o6 o7:Option V,
     ∃(nx:List (List Int)) (vs:List V) (kvs:List (Key×V)) (p4 p5 p6 p7:Option V),[some (V.ref t),some (.int m),some (.ref l),some (.ref d),o4,o5,o6,o7] = [some (.ref t),some (.int m),some (.ref l),some (.ref d),p4,p5,p6,p7]/\nx.length=i+1/\(∀ns∈nx,NsOk m ns) /\
      Tape H7 t (k+2*(i+1))/\Ext [t] H H7/\H7 l=some (.lst vs)/\DenL K (yo H [t,l,d] H7) (nx.map intsD) vs/\H7 d=some (.dK kvs)/\kvs.length<=2*(i+1):=by
    intro p ns H6 e6 hp hn hns H7 kvs' l7 d7 hk7 e7 o4 o5 o6 o7
    obtain⟨npt,npl,npd⟩:=fr p hn
    have e27:Ext [l,d] H2 H7:=((e5.trans e6).mono (by simp)).trans e7
    refine⟨nx ++ [ns],vs ++ [.ref p],kvs',o4,o5,o6,o7,rfl,by rw [List.length_append,hnl];rfl,fun z hz => ?_,?_,?_,l7,?_,d7,by omega⟩
    ·rcases List.mem_append.mp hz with y | y
     ·exact hnx z y
     ·rw [List.mem_singleton.mp y];exact hns
    ·exact (T2.ext e27 (by simp [nlt.symm,ndt.symm])).mono (by omega)
    ·have E7:Ext [l,d,t] H H7:=(e'.mono (by simp)).trans (((e1.trans e2).mono (by simp)).trans (e27.mono (by simp)))
     exact (E7.drop hl).drop hd
    ·rw [List.map_append]
     refine DenL.append (den2.mono (e27.mono (by simp)).young) (.cons (.list (SqL.of ?_) (DenL.ofInts ns)) .nil)
     rw [qBq ((e'.trans (e1.trans e2)).none (by simpa using npt) hn) (by simp [npt,npl,npd])]
     exact e7 _ _ (by simp [npl,npd]) hp
   have hr2:1+r2<=1\/1+r2<=m - 1:=by
    by_cases c:m - 1>1
    ·rw [if_pos c] at b2;omega
    ·rw [if_neg c] at b2;omega
   have l5:=e5 _ _ (by simp) l2
   have d5:=e5 _ _ (by simp) d2
   obtain⟨p0,ns0,h0,hp0,hn0,hat⟩ : ∃p0 ns0,H5 p0=some (.lst (ns0.map V.int))/\H2 p0=none/\(ns0 = [0+(i:Int)+1,1+r2]\/ns0 = [1+r2,0+(i:Int)+1])/\atI [V.ref p1,V.ref p2] (r1%2)=some (.ref p0):=by
    have hm:=Int.emod_two_eq r1
    rcases hm with c | c
    ·exact⟨p1,_,q1,hp1,.inl rfl,by rw [c];rfl⟩
    ·exact⟨p2,_,q2,hp2',.inr rfl,by rw [c];rfl⟩
   walk_at "rd"
   refine qGj (by decide) (qBl q3 hat ?_)
   walk_at "rd"
   refine qE2 ?_
   walk_at "rd"
   have nsl : ∀ {ns},NsOk m ns->ns.length<=2:=by
    rintro ns (h | ⟨x,h,_⟩ | ⟨x,y,h,_⟩) <;> subst h <;> simp
   refine ite2 (fun g => ?_) (fun g => ?_)
   ·have g:=of_decide_eq_true g
    walk_at "rd"
    refine qE2 ?_
    walk_at "rd"
    refine ite2 (fun g2 => ?_) (fun g2 => ?_)
    ·walk_at "rd"
     refine ite2 (fun g3 => ?_) (fun g3 => ?_)
     ·have g3:=of_decide_eq_true g3
      walk_at "rd"
      refine⟨len2 (by first | exact Nat.zero_le _ | (show 1<=1000;decide)),fun p hp => ?_⟩
      have hf:H2 p=none:=by
       cases z:H2 p with
       | none=>rfl
       | some o=>rw [e5 _ _ (by simp) z] at hp;cases hp
      have e6:Ext [] H5 (upd H5 p (.lst (([1+r2]:List Int).map V.int))) :=.laid hp
      have hns:NsOk m [1+r2]:=(.inr (.inl ⟨_,rfl,by omega,by omega⟩))
      obtain⟨_,npl,_⟩:=fr p hf
      refine qL6 ?_
      refine qB6 (l:=l) (d:=d) (p:=p) (ns :=[1+r2]) rfl rfl rfl (e6 _ _ (by simp) l5) (e6 _ _ (by simp) d5) qA1 (by omega) (by omega) (nsl hns) npl ?_
      exact fun H7 kvs' l7 d7 hk7 e7=>hN_ _ _ <| fin p [1+r2] _ e6 qA1 hf hns H7 kvs' l7 d7 hk7 e7 _ _ _ _
     ·walk_at "rd"
      refine⟨len2 (by first | exact Nat.zero_le _ | (show 1<=1000;decide)),fun p hp => ?_⟩
      have hf:H2 p=none:=by
       cases z:H2 p with
       | none=>rfl
       | some o=>rw [e5 _ _ (by simp) z] at hp;cases hp
      have e6:Ext [] H5 (upd H5 p (.lst (([]:List Int).map V.int))) :=.laid hp
      have hns:NsOk m []:=(.inl rfl)
      obtain⟨_,npl,_⟩:=fr p hf
      refine qL6 ?_
      refine qB6 (l:=l) (d:=d) (p:=p) (ns :=[]) rfl rfl rfl (e6 _ _ (by simp) l5) (e6 _ _ (by simp) d5) qA1 (by omega) (by omega) (nsl hns) npl ?_
      exact fun H7 kvs' l7 d7 hk7 e7=>hN_ _ _ <| fin p [] _ e6 qA1 hf hns H7 kvs' l7 d7 hk7 e7 _ _ _ _
    ·refine iteF ?_
     walk_at "rd"
     refine⟨len2 (by first | exact Nat.zero_le _ | (show 1<=1000;decide)),fun p hp => ?_⟩
     have hf:H2 p=none:=by
      cases z:H2 p with
      | none=>rfl
      | some o=>rw [e5 _ _ (by simp) z] at hp;cases hp
     have e6:Ext [] H5 (upd H5 p (.lst (([]:List Int).map V.int))) :=.laid hp
     have hns:NsOk m []:=(.inl rfl)
     obtain⟨_,npl,_⟩:=fr p hf
     refine qL6 ?_
     refine qB6 (l:=l) (d:=d) (p:=p) (ns :=[]) rfl rfl rfl (e6 _ _ (by simp) l5) (e6 _ _ (by simp) d5) qA1 (by omega) (by omega) (nsl hns) npl ?_
     exact fun H7 kvs' l7 d7 hk7 e7=>hN_ _ _ <| fin p [] _ e6 qA1 hf hns H7 kvs' l7 d7 hk7 e7 _ _ _ _
   ·have g : ¬(0+(i:Int)+1=m):=fun z=>g (decide_eq_true z)
    walk_at "rd"
    refine⟨d,_,rfl,DGet.k (k:=Sum.inl _) d5,?_⟩
    refine qR0 ?_
    refine ite2 (fun g2 => ?_) (fun g2 => ?_)
    ·walk_at "rd"
     refine ite2 (fun g3 => ?_) (fun g3 => ?_)
     ·walk_at "rd"
      refine qE2 ?_
      walk_at "rd"
      refine ite2 (fun g4 => ?_) (fun g4 => ?_)
      ·walk_at "rd"
       refine⟨len2 (by first | exact Nat.zero_le _ | (show 1<=1000;decide)),fun p hp => ?_⟩
       have hf:H2 p=none:=by
        cases z:H2 p with
        | none=>rfl
        | some o=>rw [e5 _ _ (by simp) z] at hp;cases hp
       have e6:Ext [] H5 (upd H5 p (.lst (([1+r2]:List Int).map V.int))) :=.laid hp
       have hns:NsOk m [1+r2]:=(.inr (.inl ⟨_,rfl,by omega,by omega⟩))
       obtain⟨_,npl,_⟩:=fr p hf
       refine qL6 ?_
       refine qB6 (l:=l) (d:=d) (p:=p) (ns :=[1+r2]) rfl rfl rfl (e6 _ _ (by simp) l5) (e6 _ _ (by simp) d5) qA1 (by omega) (by omega) (nsl hns) npl ?_
       exact fun H7 kvs' l7 d7 hk7 e7=>hN_ _ _ <| fin p [1+r2] _ e6 qA1 hf hns H7 kvs' l7 d7 hk7 e7 _ _ _ _
      ·walk_at "rd"
       refine⟨len2 (by first | exact Nat.zero_le _ | (show 1<=1000;decide)),fun p hp => ?_⟩
       have hf:H2 p=none:=by
        cases z:H2 p with
        | none=>rfl
        | some o=>rw [e5 _ _ (by simp) z] at hp;cases hp
       have e6:Ext [] H5 (upd H5 p (.lst (([]:List Int).map V.int))) :=.laid hp
       have hns:NsOk m []:=(.inl rfl)
       obtain⟨_,npl,_⟩:=fr p hf
       refine qL6 ?_
       refine qB6 (l:=l) (d:=d) (p:=p) (ns :=[]) rfl rfl rfl (e6 _ _ (by simp) l5) (e6 _ _ (by simp) d5) qA1 (by omega) (by omega) (nsl hns) npl ?_
       exact fun H7 kvs' l7 d7 hk7 e7=>hN_ _ _ <| fin p [] _ e6 qA1 hf hns H7 kvs' l7 d7 hk7 e7 _ _ _ _
     ·walk_at "rd"
      refine ite2 (fun g5 => ?_) (fun g5 => ?_)
      ·refine iteT ?_
       walk_at "rd"
       refine⟨len2 (by first | exact Nat.zero_le _ | (show 1<=1000;decide)),fun p hp => ?_⟩
       have hf:H2 p=none:=by
        cases z:H2 p with
        | none=>rfl
        | some o=>rw [e5 _ _ (by simp) z] at hp;cases hp
       have e6:Ext [] H5 (upd H5 p (.lst (([0+(i:Int)+1]:List Int).map V.int))) :=.laid hp
       have hns:NsOk m [0+(i:Int)+1]:=(.inr (.inl ⟨_,rfl,by omega,by omega⟩))
       obtain⟨_,npl,_⟩:=fr p hf
       refine qL6 ?_
       refine qB6 (l:=l) (d:=d) (p:=p) (ns :=[0+(i:Int)+1]) rfl rfl rfl (e6 _ _ (by simp) l5) (e6 _ _ (by simp) d5) qA1 (by omega) (by omega) (nsl hns) npl ?_
       exact fun H7 kvs' l7 d7 hk7 e7=>hN_ _ _ <| fin p [0+(i:Int)+1] _ e6 qA1 hf hns H7 kvs' l7 d7 hk7 e7 _ _ _ _
      ·walk_at "rd"
       refine qE2 ?_
       walk_at "rd"
       refine ite2 (fun g6 => ?_) (fun g6 => ?_)
       ·walk_at "rd"
        refine⟨len2 (by first | exact Nat.zero_le _ | (show 1<=1000;decide)),fun p hp => ?_⟩
        have hf:H2 p=none:=by
         cases z:H2 p with
         | none=>rfl
         | some o=>rw [e5 _ _ (by simp) z] at hp;cases hp
        have e6:Ext [] H5 (upd H5 p (.lst (([0+(i:Int)+1]:List Int).map V.int))) :=.laid hp
        have hns:NsOk m [0+(i:Int)+1]:=(.inr (.inl ⟨_,rfl,by omega,by omega⟩))
        obtain⟨_,npl,_⟩:=fr p hf
        refine qL6 ?_
        refine qB6 (l:=l) (d:=d) (p:=p) (ns :=[0+(i:Int)+1]) rfl rfl rfl (e6 _ _ (by simp) l5) (e6 _ _ (by simp) d5) qA1 (by omega) (by omega) (nsl hns) npl ?_
        exact fun H7 kvs' l7 d7 hk7 e7=>hN_ _ _ <| fin p [0+(i:Int)+1] _ e6 qA1 hf hns H7 kvs' l7 d7 hk7 e7 _ _ _ _
       ·have g6 : ¬(1+r2=0+(i:Int)+1):=fun z=>g6 (decide_eq_true z)
        obtain⟨_,npl,_⟩:=fr p0 hp0
        have hns:NsOk m ns0:=by
         rcases hn0 with h | h
         ·exact .inr (.inr ⟨_,_,h,by omega,by omega,by omega,by omega,by omega⟩)
         ·exact .inr (.inr ⟨_,_,h,by omega,by omega,by omega,by omega,by omega⟩)
        refine qEq ?_
        refine qB6 (l:=l) (d:=d) (p:=p0) (ns:=ns0) rfl rfl rfl l5 d5 h0 (by omega) (by omega) (nsl hns) npl ?_
        exact fun H7 kvs' l7 d7 hk7 e7=>hN_ _ _ <| fin p0 ns0 _ (fun _ _ _ h=>h) h0 hp0 hns H7 kvs' l7 d7 hk7 e7 _ _ _ _
    ·refine iteF ?_
     walk_at "rd"
     refine ite2 (fun g5 => ?_) (fun g5 => ?_)
     ·refine iteT ?_
      walk_at "rd"
      refine⟨len2 (by first | exact Nat.zero_le _ | (show 1<=1000;decide)),fun p hp => ?_⟩
      have hf:H2 p=none:=by
       cases z:H2 p with
       | none=>rfl
       | some o=>rw [e5 _ _ (by simp) z] at hp;cases hp
      have e6:Ext [] H5 (upd H5 p (.lst (([0+(i:Int)+1]:List Int).map V.int))) :=.laid hp
      have hns:NsOk m [0+(i:Int)+1]:=(.inr (.inl ⟨_,rfl,by omega,by omega⟩))
      obtain⟨_,npl,_⟩:=fr p hf
      refine qL6 ?_
      refine qB6 (l:=l) (d:=d) (p:=p) (ns :=[0+(i:Int)+1]) rfl rfl rfl (e6 _ _ (by simp) l5) (e6 _ _ (by simp) d5) qA1 (by omega) (by omega) (nsl hns) npl ?_
      exact fun H7 kvs' l7 d7 hk7 e7=>hN_ _ _ <| fin p [0+(i:Int)+1] _ e6 qA1 hf hns H7 kvs' l7 d7 hk7 e7 _ _ _ _
     ·walk_at "rd"
      refine qE2 ?_
      walk_at "rd"
      refine ite2 (fun g6 => ?_) (fun g6 => ?_)
      ·walk_at "rd"
       refine⟨len2 (by first | exact Nat.zero_le _ | (show 1<=1000;decide)),fun p hp => ?_⟩
       have hf:H2 p=none:=by
        cases z:H2 p with
        | none=>rfl
        | some o=>rw [e5 _ _ (by simp) z] at hp;cases hp
       have e6:Ext [] H5 (upd H5 p (.lst (([0+(i:Int)+1]:List Int).map V.int))) :=.laid hp
       have hns:NsOk m [0+(i:Int)+1]:=(.inr (.inl ⟨_,rfl,by omega,by omega⟩))
       obtain⟨_,npl,_⟩:=fr p hf
       refine qL6 ?_
       refine qB6 (l:=l) (d:=d) (p:=p) (ns :=[0+(i:Int)+1]) rfl rfl rfl (e6 _ _ (by simp) l5) (e6 _ _ (by simp) d5) qA1 (by omega) (by omega) (nsl hns) npl ?_
       exact fun H7 kvs' l7 d7 hk7 e7=>hN_ _ _ <| fin p [0+(i:Int)+1] _ e6 qA1 hf hns H7 kvs' l7 d7 hk7 e7 _ _ _ _
      ·have g6 : ¬(1+r2=0+(i:Int)+1):=fun z=>g6 (decide_eq_true z)
       obtain⟨_,npl,_⟩:=fr p0 hp0
       have hns:NsOk m ns0:=by
        rcases hn0 with h | h
        ·exact .inr (.inr ⟨_,_,h,by omega,by omega,by omega,by omega,by omega⟩)
        ·exact .inr (.inr ⟨_,_,h,by omega,by omega,by omega,by omega,by omega⟩)
       refine qEq ?_
       refine qB6 (l:=l) (d:=d) (p:=p0) (ns:=ns0) rfl rfl rfl l5 d5 h0 (by omega) (by omega) (nsl hns) npl ?_
       exact fun H7 kvs' l7 d7 hk7 e7=>hN_ _ _ <| fin p0 ns0 _ (fun _ _ _ h=>h) h0 hp0 hns H7 kvs' l7 d7 hk7 e7 _ _ _ _
  ·rintro σ' H' ⟨nx,vs,kvs,o4,o5,o6,o7,rfl,hnl,hnx,hT',e',hl',hden,hd',hkl⟩
   walk_at "rd"
   refine q l nx H' hl (hT'.mono (by omega)) e' ⟨by omega,hnx⟩ (.list (SqL.of ?_) (hden.mono (qO7 (by simp))))
   rw [qBq hl (by simpa using nlt)];exact hl'
end
section
variable {P:Program} {w:World} {K:PySem.W.Frag} {mg:Str->Option Value} {base:Heap}
abbrev qHl:Stmt:=top 29
theorem scDeeds:FnScope ["_law_tape_here","_law_most","_law_boxes_here","_law_first","_law_works_here","_law_found","_law_turn","_law_way","_law_n","_law_box","_law_other","_law_called"] ["_law_tape_here","_law_most","_law_boxes_here","_law_first","_law_works_here"] (qA7 qHl):=⟨rfl,rfl,rfl,by decide +kernel,rfl,by decide +kernel,by decide +kernel⟩
theorem qS1 {f:Addr} {fd:FuncData} (F:Fun K "_law_deeds" "_law_deeds" qHl f fd) (nrange:mg "range" = none) (nint:mg "int" = none) (nlen:mg "len" = none) (hD:Has P w K mg base "_law_draw" 1 ["_law_tape_here","_law_many_here"] qEp) (hN:Has P w K mg base "_law_number" 2 ["_law_tape_here"] qIb) :
  FnOk P w K mg base CX0 3 f fd ["_law_tape_here","_law_most","_law_boxes_here","_law_first","_law_works_here"] (qG1 K):=by
 refine F.ok scDeeds (fun vs H Q E h => ?_) (fun cdv A outer s H vs Q E hr h => ?_)
 ·obtain⟨t,b,k,most,first,works,bs,rfl,_⟩:=h
  rfl
 ·obtain⟨t,b,k,most,first,works,bs,rfl,hT,hk,hm1,hm2,hf1,hf2,hw1,hw2,hb,nbt,hB,q⟩:=h
  refine⟨_,qA5 (qAm (i:=5) scDeeds.nd rfl (Or.inl rfl) (qAy qA3))
   (qA5 (qC1 PassesOwn.never rfl (qBd rfl nrange (qA0 (qAk hD hr (by decide) (qA0 (pv 0) (qA0 (qAs qB5 qA6 (qAr qAi (qAy (qA0 (pv 1) (qA0 qA6 qA3))) (qAl qDk (by rfl) nint PyProof.Rows.boot_int (qA0 (qBf qDb (qAk hD hr (by decide) (qA0 (pv 0) (qA0 qA6 qA3))) qA6 (qAt _)) qA3)) (fun _ _=>rfl))) qA3))) qA3)) (qA9 (i:=6) scDeeds.nd rfl (Or.inl rfl))
    (qA5 (qOz (i:=7) (j:=8) rfl scDeeds.nd rfl rfl (by decide) rfl rfl (qA0 (qAk hD hr (by decide) (qA0 (pv 0) (qA0 qA6 qA3))) (qA0 (qAk hN hr (by decide) (qA0 (pv 0) qA3)) qA3)) rfl)
    (qA5 (qAm (i:=9) scDeeds.nd rfl (Or.inl rfl) (qAr qAi (pv 2) (qAk hD hr (by decide) (qA0 (pv 0) (qA0 (qAb qAw (by rfl) nlen PySem.boot_len (qA0 (pv 2) qA3)) qA3))) (fun _ _=>rfl)))
    (qA5 (qAm (i:=10) scDeeds.nd rfl (Or.inl rfl) (qAr qAi (pv 2) (qAk hD hr (by decide) (qA0 (pv 0) (qA0 (qAb qAw (by rfl) nlen PySem.boot_len (qA0 (pv 2) qA3)) qA3))) (fun _ _=>rfl)))
    (qA5 (qAm (i:=11) scDeeds.nd rfl (Or.inl rfl) (qAr qAi (qAy (qA0 (qAs qB5 (qAs qB5 (pv 3) qA6) (qAk hD hr (by decide) (qA0 (pv 0) (qA0 qA6 qA3)))) (qA0 (qAk hD hr (by decide) (qA0 (pv 0) (qA0 (pv 4) qA3))) qA3))) (qAl qDk (by rfl) nint PyProof.Rows.boot_int (qA0 (qBf qDb (qAk hD hr (by decide) (qA0 (pv 0) (qA0 qA6 qA3))) qA6 (qAt _)) qA3)) (fun _ _=>rfl)))
    (qA8 (qC6 (qGk (qAn qDb (pv 7) qA6 (qAt _)) (qEf (qAn qNo (pv 11) (pv 4) (qAt _)))).pt
     (qA8 (qBp (qE3 PySem.F.plainAttrs_list PySem.F.slot_list_append PySem.F.type_list_append qBg (pv 5) (qA0 (qBe (qA0 qCg (qA0 (pv 11) qA3))) qA3))))
     (qA8 (qBp (qE3 PySem.F.plainAttrs_list PySem.F.slot_list_append PySem.F.type_list_append qBg (pv 5) (qA0 (qAr qAi (qAy (qA0 (qBe (qA0 qCg (qA0 (pv 9) (qA0 (pv 8) qA3)))) (qA0 (qBe (qA0 qCg (qA0 (pv 9) (qA0 (pv 10) qA3)))) (qA0 (qBe (qA0 qCg (qA0 (pv 9) qA3))) qA3)))) (qAs qEs (pv 7) qA6) (fun _ _=>rfl)) qA3)))))))))))
   (qA8 (qAj (pv 5)))),?_⟩
  dsimp only [qBb,qB3]
  walk_at "rd"
  refine⟨len2 (Nat.zero_le _),fun l hl => ?_⟩
  have nlt:l≠t:=hT.ne hl
  have nlb:l≠b:=(qA2 hb hl).symm
  have T0:Tape (upd H l (.lst [])) t k:=hT.ext (ts :=[]) (.laid hl) (by simp)
  walk_at "rd"
  refine⟨len2 (by show 2<=1000;decide),fun p hp => ?_⟩
  have npt:p≠t:=T0.ne hp
  have npl:p≠l:=fun z=>by rw [z,qA1] at hp;cases hp
  walk_at "rd"
  refine qBc (T0.ext (ts :=[]) (.laid hp) (by simp)) (by omega) (by decide) (by decide) fun r1 H1 a1 b1 T1 e1 k1 => ?_
  walk_at "rd"
  refine qE2 ?_
  walk_at "rd"
  refine .inr ⟨_,rfl,?_⟩
  have hpL:SqL K H1 p [V.int most,V.int 12]:=SqL.of (by rw [k1 p npt,qA1])
  obtain⟨mo,hmo,mo0,mo1⟩ : ∃mo:Int,atI [V.int most,V.int 12] (if decide (r1=0)=true then 1 else 0)=some (.int mo)/\0<=mo/\mo<=12:=by
   cases decide (r1=0)
   ·exact⟨most,rfl,hm1,hm2⟩
   ·exact⟨12,rfl,by decide,by decide⟩
  refine qBl hpL hmo ?_
  walk_at "rd"
  refine qBc T1 (by omega) (by omega) (by omega) fun r2 H2 a2 b2 T2 e2 k2 => ?_
  have l2:H2 l=some (.lst []):=by rw [k2 l nlt,k1 l nlt,qA4 npl.symm,qA1]
  have E2:Ext [t] H H2:=(Ext.laid hl).trans ((Ext.laid hp).trans (e1.trans e2))
  walk_at "rd"
  refine⟨r2,rfl,by omega,by omega,qCb (lo:=0) (n:=r2.toNat) (fun i σ' H' => ∃(ds:List Deed) (vs:List V) (o6 o7 o8 o9 o10 o11:Option V),σ' = [some (.ref t),some (.int most),some (.ref b),some (.int first),some (.int works),some (.ref l),o6,o7,o8,o9,o10,o11]/\ds.length=i/\(∀d∈ds,qI8 works d) /\
   Tape H' t (k+2+10*i)/\Ext [t] H H'/\H' l=some (.lst vs)/\DenEL (yo H [t,l] H') (ds.map deedD) vs) ?_ ?_ ?_⟩
  ·exact⟨[],[],none,none,none,none,none,none,rfl,rfl,(fun _ h=>absurd h (by simp)),T2.mono (by omega),E2,l2,.nil⟩
  ·rintro i σ' H' hi ⟨ds,vs,o6,o7,o8,o9,o10,o11,rfl,hdl,hds,hT',e',hl',hden⟩ N_ B_ C_ R_ hN_ hC_ hR_
   have hvl:vs.length=i:=by rw [hden.len,List.length_map,hdl]
   walk_at "rd"
   refine qBc hT' (by omega) (by decide) (by decide) fun r3 H3 a3 b3 T3 e3 _ => ?_
   walk_at "rd"
   refine qVg T3 (by omega) fun n H4 n0 n1 T4 e4 => ?_
   walk_at "rd"
   refine⟨_,_,rfl,?_⟩
   have E4:Ext [t] H' H4:=e3.trans e4
   have hbt:b ∉ [t]:=by simpa using nbt
   have hltn:l ∉ [t]:=by simpa using nlt
   walk_at "rd"
   refine⟨b,_,rfl,.inl (SqL.of (E4 _ _ hbt (e' _ _ hbt hb))),?_⟩
   rw [List.length_map]
   walk_at "rd"
   refine qBc T4 (by omega) (by have:=hB.one;omega) (by have:=hB.few;omega) fun r5 H5 a5 b5 T5 e5 _ => ?_
   have E5:Ext [t] H' H5:=E4.trans e5
   obtain⟨bx,hbx,ebx⟩:=qJ9 (ns:=bs) a5 b5
   refine qBl (SqL.of (E5 _ _ hbt (e' _ _ hbt hb))) ebx ?_
   walk_at "rd"
   refine⟨b,_,rfl,.inl (SqL.of (E5 _ _ hbt (e' _ _ hbt hb))),?_⟩
   rw [List.length_map]
   walk_at "rd"
   refine qBc T5 (by omega) (by have:=hB.one;omega) (by have:=hB.few;omega) fun r6 H6 a6 b6 T6 e6 _ => ?_
   have E6:Ext [t] H' H6:=E5.trans e6
   obtain⟨ox,hox,eox⟩:=qJ9 (ns:=bs) a6 b6
   refine qBl (SqL.of (E6 _ _ hbt (e' _ _ hbt hb))) eox ?_
   walk_at "rd"
   refine qBc T6 (by omega) (by decide) (by decide) fun r7 H7 a7 b7 T7 e7 _ => ?_
   walk_at "rd"
   refine qBc T7 (by omega) (by omega) (by omega) fun r8 H8 a8 b8 T8 e8 _ => ?_
   walk_at "rd"
   refine⟨len2 (by show 2<=1000;decide),fun p1 hp1 => ?_⟩
   have np1:p1≠t:=T8.ne hp1
   walk_at "rd"
   refine qBc (T8.ext (ts :=[]) (.laid hp1) (by simp)) (by omega) (by decide) (by decide) fun r9 H9 a9 b9 T9 e9 k9 => ?_
   walk_at "rd"
   refine qE2 ?_
   walk_at "rd"
   refine .inr ⟨_,rfl,?_⟩
   have E9:Ext [t] H' H9:=(E6.trans (e7.trans e8)).trans ((Ext.laid hp1).trans e9)
   have hL9:SqL K H9 p1 [V.int (first+1+r7),V.int r8]:=SqL.of (by rw [k9 p1 np1,qA1])
   obtain⟨ca,hca,ca0⟩ : ∃ca:Int,atI [V.int (first+1+r7),V.int r8] (if decide (r9=0)=true then 1 else 0)=some (.int ca)/\0<=ca:=by
    cases decide (r9=0)
    ·exact⟨_,rfl,by omega⟩
    ·exact⟨_,rfl,by omega⟩
   refine qBl hL9 hca ?_
   have l9:H9 l=some (.lst vs):=E9 _ _ hltn hl'
   have fin : ∀(d:Deed) (H6:Hp) (p:Addr),qI8 works d->Ext [] H9 H6->p≠t->p≠l->DenE (yo H [t,l] H6) (deedD d) (.ref p) -> ∀o6 o7 o8 o9 o10 o11:Option V,∃(ds:List Deed) (vs':List V) (p6 p7 p8 p9 p10 p11:Option V),[some (V.ref t),some (.int most),some (.ref b),some (.int first),some (.int works),some (.ref l),o6,o7,o8,o9,o10,o11] = [some (V.ref t),some (.int most),some (.ref b),some (.int first),some (.int works),some (.ref l),p6,p7,p8,p9,p10,p11]/\ds.length=i+1/\(∀d∈ds,qI8 works d) /\
     Tape (upd H6 l (.lst (vs ++ [.ref p]))) t (k+2+10*(i+1))/\Ext [t] H (upd H6 l (.lst (vs ++ [.ref p])))/\(upd H6 l (.lst (vs ++ [.ref p]))) l=some (.lst vs')/\DenEL (yo H [t,l] (upd H6 l (.lst (vs ++ [.ref p])))) (ds.map deedD) vs':=by
    intro d H6 p hd e6 npt npl hden6 o6 o7 o8 o9 o10 o11
    have E10:Ext [l,t] H9 (upd H6 l (.lst (vs ++ [.ref p]))):=(e6.mono (by simp)).trans (.put (by simp))
    have E11:Ext [l,t] H' (upd H6 l (.lst (vs ++ [.ref p]))):=(E9.mono (by simp)).trans E10
    refine⟨ds ++ [d],vs ++ [.ref p],o6,o7,o8,o9,o10,o11,rfl,by rw [List.length_append,hdl];rfl,fun z hz => ?_,?_,?_,qA1,?_⟩
    ·rcases List.mem_append.mp hz with y | y
     ·exact hds z y
     ·rw [List.mem_singleton.mp y];exact hd
    ·exact ((T9.ext e6 (by simp)).ext (ts :=[l]) (.put (by simp)) (by simpa using nlt.symm)).mono (by omega)
    ·exact ((e'.mono (by simp)).trans E11).drop hl
    ·rw [List.map_append]
     exact DenEL.append (hden.mono (E11.mono (by simp)).young) (.cons (hden6.mono (Ext.put (by simp)).young) .nil)
   have sz:vs.length<sizeLine:=qAa (by omega)
   walk_at "rd"
   refine qE2 ?_
   walk_at "rd"
   refine ite2 (fun g => ?_) (fun g => ?_)
   ·walk_at "rd"
    refine ite2 (fun g2 => ?_) (fun g2 => ?_)
    ·have g2:=of_decide_eq_true g2
     walk_at "rd"
     refine qCo l9 ?_
     walk_at "rd"
     refine⟨len2 (by show 2<=1000;decide),fun p hp => ?_⟩
     have npt:=T9.ne hp
     have hfresh:=hp
     have npl:p≠l:=(qA2 l9 hp).symm
     walk_at "rd"
     refine qDg (by rw [qA4 npl.symm];exact l9) sz ?_
     refine L2.qCt hN_ ?_
     refine fin (.call ca) _ p ⟨ca0,g2⟩ (.laid hp) npt npl (.tuple ?_ (.cons .str (.cons .int .nil))) _ _ _ _ _ _
     rw [qBq ((e'.trans E9).none (by simpa using npt) hfresh) (by simp [npt,npl]),qA1]
    ·walk_at "rd"
     refine qCo l9 ?_
     walk_at "rd"
     refine⟨len2 (by show 3<=1000;decide),fun s1 hs1 => ?_⟩
     walk_at "rd"
     refine⟨len2 (by show 3<=1000;decide),fun s2 hs2 => ?_⟩
     walk_at "rd"
     refine⟨len2 (by show 2<=1000;decide),fun s3 hs3 => ?_⟩
     walk_at "rd"
     refine⟨len2 (by show 3<=1000;decide),fun s4 hs4 => ?_⟩
     have e12:s1≠s2:=qA2 qA1 hs2
     have e13:s1≠s3:=qA2 (by rw [qA4 e12,qA1]) hs3
     have e23:s2≠s3:=qA2 qA1 hs3
     have e14:s1≠s4:=qA2 (by rw [qA4 e13,qA4 e12,qA1]) hs4
     have e24:s2≠s4:=qA2 (by rw [qA4 e23,qA1]) hs4
     have e34:s3≠s4:=qA2 qA1 hs4
     have f2:H9 s2=none:=by rw [qA4 e12.symm] at hs2;exact hs2
     have f3:H9 s3=none:=by rw [qA4 e23.symm,qA4 e13.symm] at hs3;exact hs3
     have E0:=(Ext.laid (ts :=[]) (o :=.tup [V.str "set",.int bx,.int n]) hs1).trans ((Ext.laid (o :=.tup [V.str "add",.int bx,.int ox]) hs2).trans ((Ext.laid (o :=.tup [V.str "tell",.int bx]) hs3).trans (Ext.laid (o :=.lst [V.ref s1,.ref s2,.ref s3]) hs4)))
     have l10:=E0 _ _ (by simp) l9
     have hbx':=hB.all _ hbx
     have hox':=hB.all _ hox
     walk_at "rd"
     refine qGj (by decide) ?_
     have h3:r3%3=0\/r3%3=1\/r3%3=2:=by omega
     have q4:SqL K (upd (upd (upd (upd H9 s1 (.tup [V.str "set",.int bx,.int n])) s2 (.tup [V.str "add",.int bx,.int ox])) s3 (.tup [V.str "tell",.int bx])) s4 (.lst [V.ref s1,.ref s2,.ref s3])) s4 [V.ref s1,.ref s2,.ref s3]:=SqL.of qA1
     rcases h3 with h | h | h
     ·refine qBl (v:=V.ref s1) q4 (by rw [h];rfl) ?_
      walk_at "rd"
      have npt:=T9.ne hs1
      have hfresh:=hs1
      have npl:s1≠l:=(qA2 l9 hs1).symm
      refine qDg l10 sz ?_
      refine L2.qCt hN_ ?_
      refine fin (.set bx n) _ s1 ⟨hbx'.1,hbx'.2,n0,n1⟩ E0 npt npl (.tuple ?_ (.cons .str (.cons .int (.cons .int .nil)))) _ _ _ _ _ _
      rw [qBq ((e'.trans E9).none (by simpa using npt) hfresh) (by simp [npt,npl]),qA4 e14,qA4 e13,qA4 e12,qA1]
     ·refine qBl (v:=V.ref s2) q4 (by rw [h];rfl) ?_
      walk_at "rd"
      have npt:=T9.ne f2
      have hfresh:=f2
      have npl:s2≠l:=(qA2 l9 f2).symm
      refine qDg l10 sz ?_
      refine L2.qCt hN_ ?_
      refine fin (.add bx ox) _ s2 ⟨hbx'.1,hbx'.2,hox'.1,hox'.2⟩ E0 npt npl (.tuple ?_ (.cons .str (.cons .int (.cons .int .nil)))) _ _ _ _ _ _
      rw [qBq ((e'.trans E9).none (by simpa using npt) hfresh) (by simp [npt,npl]),qA4 e24,qA4 e23,qA1]
     ·refine qBl (v:=V.ref s3) q4 (by rw [h];rfl) ?_
      walk_at "rd"
      have npt:=T9.ne f3
      have hfresh:=f3
      have npl:s3≠l:=(qA2 l9 f3).symm
      refine qDg l10 sz ?_
      refine L2.qCt hN_ ?_
      refine fin (.tell bx) _ s3 ⟨hbx'.1,hbx'.2⟩ E0 npt npl (.tuple ?_ (.cons .str (.cons .int .nil))) _ _ _ _ _ _
      rw [qBq ((e'.trans E9).none (by simpa using npt) hfresh) (by simp [npt,npl]),qA4 e34,qA1]
   ·refine iteF ?_
    walk_at "rd"
    refine qCo l9 ?_
    walk_at "rd"
    refine⟨len2 (by show 3<=1000;decide),fun s1 hs1 => ?_⟩
    walk_at "rd"
    refine⟨len2 (by show 3<=1000;decide),fun s2 hs2 => ?_⟩
    walk_at "rd"
    refine⟨len2 (by show 2<=1000;decide),fun s3 hs3 => ?_⟩
    walk_at "rd"
    refine⟨len2 (by show 3<=1000;decide),fun s4 hs4 => ?_⟩
    have e12:s1≠s2:=qA2 qA1 hs2
    have e13:s1≠s3:=qA2 (by rw [qA4 e12,qA1]) hs3
    have e23:s2≠s3:=qA2 qA1 hs3
    have e14:s1≠s4:=qA2 (by rw [qA4 e13,qA4 e12,qA1]) hs4
    have e24:s2≠s4:=qA2 (by rw [qA4 e23,qA1]) hs4
    have e34:s3≠s4:=qA2 qA1 hs4
    have f2:H9 s2=none:=by rw [qA4 e12.symm] at hs2;exact hs2
    have f3:H9 s3=none:=by rw [qA4 e23.symm,qA4 e13.symm] at hs3;exact hs3
    have E0:=(Ext.laid (ts :=[]) (o :=.tup [V.str "set",.int bx,.int n]) hs1).trans ((Ext.laid (o :=.tup [V.str "add",.int bx,.int ox]) hs2).trans ((Ext.laid (o :=.tup [V.str "tell",.int bx]) hs3).trans (Ext.laid (o :=.lst [V.ref s1,.ref s2,.ref s3]) hs4)))
    have l10:=E0 _ _ (by simp) l9
    have hbx':=hB.all _ hbx
    have hox':=hB.all _ hox
    walk_at "rd"
    refine qGj (by decide) ?_
    have h3:r3%3=0\/r3%3=1\/r3%3=2:=by omega
    have q4:SqL K (upd (upd (upd (upd H9 s1 (.tup [V.str "set",.int bx,.int n])) s2 (.tup [V.str "add",.int bx,.int ox])) s3 (.tup [V.str "tell",.int bx])) s4 (.lst [V.ref s1,.ref s2,.ref s3])) s4 [V.ref s1,.ref s2,.ref s3]:=SqL.of qA1
    rcases h3 with h | h | h
    ·refine qBl (v:=V.ref s1) q4 (by rw [h];rfl) ?_
     walk_at "rd"
     have npt:=T9.ne hs1
     have hfresh:=hs1
     have npl:s1≠l:=(qA2 l9 hs1).symm
     refine qDg l10 sz ?_
     refine L2.qCt hN_ ?_
     refine fin (.set bx n) _ s1 ⟨hbx'.1,hbx'.2,n0,n1⟩ E0 npt npl (.tuple ?_ (.cons .str (.cons .int (.cons .int .nil)))) _ _ _ _ _ _
     rw [qBq ((e'.trans E9).none (by simpa using npt) hfresh) (by simp [npt,npl]),qA4 e14,qA4 e13,qA4 e12,qA1]
    ·refine qBl (v:=V.ref s2) q4 (by rw [h];rfl) ?_
     walk_at "rd"
     have npt:=T9.ne f2
     have hfresh:=f2
     have npl:s2≠l:=(qA2 l9 f2).symm
     refine qDg l10 sz ?_
     refine L2.qCt hN_ ?_
     refine fin (.add bx ox) _ s2 ⟨hbx'.1,hbx'.2,hox'.1,hox'.2⟩ E0 npt npl (.tuple ?_ (.cons .str (.cons .int (.cons .int .nil)))) _ _ _ _ _ _
     rw [qBq ((e'.trans E9).none (by simpa using npt) hfresh) (by simp [npt,npl]),qA4 e24,qA4 e23,qA1]
    ·refine qBl (v:=V.ref s3) q4 (by rw [h];rfl) ?_
     walk_at "rd"
     have npt:=T9.ne f3
     have hfresh:=f3
     have npl:s3≠l:=(qA2 l9 f3).symm
     refine qDg l10 sz ?_
     refine L2.qCt hN_ ?_
     refine fin (.tell bx) _ s3 ⟨hbx'.1,hbx'.2⟩ E0 npt npl (.tuple ?_ (.cons .str (.cons .int .nil))) _ _ _ _ _ _
     rw [qBq ((e'.trans E9).none (by simpa using npt) hfresh) (by simp [npt,npl]),qA4 e34,qA1]
  ·rintro σ' H' ⟨ds,vs,o6,o7,o8,o9,o10,o11,rfl,hdl,hds,hT',e',hl',hden⟩
   walk_at "rd"
   refine q l ds H' hl (hT'.mono (by omega)) e' hds (by omega) (.list ?_ (hden.mono (qO7 (by simp))))
   rw [qBq hl (by simpa using nlt)];exact hl'
end
section
variable {P:Program} {w:World} {K:PySem.W.Frag} {mg:Str->Option Value} {base:Heap}
abbrev sWork:Stmt:=top 30
theorem scWork:FnScope ["_law_tape_here","_law_many_here","_law_most","_law_first","_law_works_here","_law_left","_law_size_here","_law_boxes_here","_law_found","_law_there","_law_end"] ["_law_tape_here","_law_many_here","_law_most","_law_first","_law_works_here"] (qA7 sWork):=⟨rfl,rfl,rfl,by decide +kernel,rfl,by decide +kernel,by decide +kernel⟩
theorem qU9 {f:Addr} {fd:FuncData} (F:Fun K "_law_work" "_law_work" sWork f fd) (nrange:mg "range" = none) (nlist:mg "list" = none) (nlen:mg "len" = none) (hD:Has P w K mg base "_law_draw" 1 ["_law_tape_here","_law_many_here"] qEp)
  (hX:Has P w K mg base "_law_nexts" 2 ["_law_tape_here","_law_many_here"] (qLc K)) (hE:Has P w K mg base "_law_deeds" 3 ["_law_tape_here","_law_most","_law_boxes_here","_law_first","_law_works_here"] (qG1 K)) :
  FnOk P w K mg base CX0 4 f fd ["_law_tape_here","_law_many_here","_law_most","_law_first","_law_works_here"] (qL8 K):=by
 refine F.ok scWork (fun vs H Q E h => ?_) (fun cdv A outer s H vs Q E hr h => ?_)
 ·obtain⟨t,k,m,most,first,works,rfl,_⟩:=h
  rfl
 ·obtain⟨t,k,m,most,first,works,rfl,hT,hk,m1,m2,hm1,hm2,hf1,hf2,hw1,hw2,q⟩:=h
  refine⟨_,qA5 (qAm (i:=5) scWork.nd rfl (Or.inr rfl) (qAl (qD9 hr.hd) (by rfl) nlist PyProof.Rows.boot_list (qA0 (qAl qEl (by rfl) nrange PyProof.Rows.boot_range (qA0 qA6 qA3)) qA3)))
   (qA5 (qAm (i:=6) scWork.nd rfl (Or.inl rfl) (qAs qB5 qA6 (qAk hD hr (by decide) (qA0 (pv 0) (qA0 (qAr qAi (qAy (qA0 qA6 (qA0 qA6 (qA0 qA6 qA3)))) (qAk hD hr (by decide) (qA0 (pv 0) (qA0 qA6 qA3))) (fun _ _=>rfl)) qA3)))))
   (qA5 (qRn (i:=7) ["_law_k"] [5,0] rfl (.of rfl) scWork.nd rfl (Or.inl rfl) (qBd rfl nrange (qA0 (pv 6) qA3)) (fun _ _ _ _=>qA9 (i:=0) (by show ((["_law_k","_law_left","_law_tape_here"]:List Str)).Nodup;decide) rfl (Or.inl rfl)) (fun _ _ _ _ =>.nil)
     (fun _ _ _ _=>qW3 K rfl PySem.F.plainAttrs_list PySem.F.slot_list_pop PySem.F.type_list_pop qS6 (pv 1) (qA0 (qAk hD hr (by decide) (qA0 (pv 2) (qA0 (qAb (qG7 K rfl) (by rfl) nlen PySem.boot_len (qA0 (pv 1) qA3)) qA3))) qA3)))
   (qA5 (qAm (i:=8) scWork.nd rfl (Or.inl rfl) (qAy qA3))
   (qA5 (qC1 PassesOwn.never rfl (qAo (qAk hX hr (by decide) (qA0 (pv 0) (qA0 (pv 1) qA3)))) (qA9 (i:=9) scWork.nd rfl (Or.inl rfl))
    (qA5 (qAm (i:=10) scWork.nd rfl (Or.inl rfl) (qDy (qAn (qW8 hr) (pv 9) (qAy qA3) (qAt _)) (qBe (qA0 qCg qA3)) (qDy (qAn qDb (qAb qAw (by rfl) nlen PySem.boot_len (qA0 (pv 9) qA3)) qA6 (qAt _))
      (qBe (qA0 qCg (qA0 (qAr qAi (pv 9) qA6 (fun _ _=>rfl)) qA3))) (qBe (qA0 qCg (qA0 (qAr qAi (pv 9) qA6 (fun _ _=>rfl)) (qA0 (qAr qAi (pv 9) qA6 (fun _ _=>rfl)) qA3)))))))
    (qA8 (qBp (qE3 PySem.F.plainAttrs_list PySem.F.slot_list_append PySem.F.type_list_append qBg (pv 8) (qA0 (qBe (qA0 (qAk hE hr (by decide) (qA0 (pv 0) (qA0 (pv 2) (qA0 (pv 7) (qA0 (pv 3) (qA0 (pv 4) qA3)))))) (qA0 (pv 10) qA3))) qA3))))))
   (qA8 (qAj (pv 8))))))),?_⟩
  dsimp only [qBb,qB3]
  walk_at "rd"
  refine⟨8,rfl,fun pr hpr => ?_⟩
  walk_at "rd"
  refine⟨pr,8,rfl,qA1,by decide,fun lf hlf => ?_⟩
  have nrl:pr≠lf:=qA2 qA1 hlf
  have hlf0:H lf=none:=by rw [qA4 nrl.symm] at hlf;exact hlf
  have nlt:lf≠t:=hT.ne hlf0
  have EG:=(Ext.laid (ts :=[]) (o :=.rng 0 8) hpr).trans (.laid (o :=.lst (([0,1,2,3,4,5,6,7]:List Int).map V.int)) hlf)
  generalize hG:upd (upd H pr (.rng 0 8)) lf (.lst (([0,1,2,3,4,5,6,7]:List Int).map V.int))=G at EG
  have hG':upd (upd H pr (.rng 0 8)) lf (.lst ((List.range 8).map fun (i:Nat)=>V.int (i:Int)))=G:=hG
  have lG:G lf=some (.lst (([0,1,2,3,4,5,6,7]:List Int).map V.int)):=by rw [<-hG,qA1]
  have TG:=hT.ext EG (by simp)
  first | rw [hG'] | erw [hG']
  clear hG hG'
  walk_at "rd"
  refine⟨len2 (by show 3<=1000;decide),fun p hp => ?_⟩
  have npt:p≠t:=TG.ne hp
  have npl:p≠lf:=(qA2 lG hp).symm
  walk_at "rd"
  refine qBc (TG.ext (ts :=[]) (.laid hp) (by simp)) (by omega) (by decide) (by decide) fun r1 H1 a1 b1 T1 e1 k1 => ?_
  have hpL:SqL K H1 p (([3,3,8]:List Int).map V.int):=SqL.of (by rw [k1 p npt,qA1];rfl)
  obtain⟨n8,hn8,en8⟩:=qJ9 (ns :=[3,3,8]) a1 b1
  have hn8':3<=n8/\n8<=8:=by
   simp only [List.mem_cons,List.not_mem_nil,or_false] at hn8
   omega
  refine qBl hpL en8 ?_
  walk_at "rd"
  refine qBc T1 (by omega) (by omega) (by omega) fun r2 H2 a2 b2 T2 e2 k2 => ?_
  have l2:H2 lf=some (.lst (([0,1,2,3,4,5,6,7]:List Int).map V.int)):=by rw [k2 lf nlt,k1 lf nlt,qA4 npl.symm];exact lG
  have E2:Ext [t] H H2:=(EG.mono (by simp)).trans ((Ext.laid hp).trans (e1.trans e2))
  walk_at "rd"
  refine⟨1+r2,rfl,by omega,by omega,fun bx hbx => ?_⟩
  have nbt:bx≠t:=T2.ne hbx
  have nbl:bx≠lf:=(qA2 l2 hbx).symm
  refine qCv (lo:=0) (n:=(1+r2).toNat) (fun i σ' H' => ∃(o:Option V) (left bs:List Int),σ' = [o,some (.ref lf),some (.ref t)]/\left.length+i=8/\bs.length=i/\(∀b∈left,0<=b/\b<8)/\(∀b∈bs,0<=b/\b<8)/\H' lf=some (.lst (left.map V.int))/\H' bx=some (.lst (bs.map V.int))/\Tape H' t (k+2+i)/\Ext [t] H H') ?_ ?_ ?_
  ·refine⟨none,[0,1,2,3,4,5,6,7],[],rfl,rfl,rfl,by decide,(fun _ h=>absurd h (by simp)),?_,qA1,?_,E2.trans (.laid hbx)⟩
   ·rw [qA4 nbl.symm];exact l2
   ·exact T2.ext (ts :=[]) (.laid hbx) (by simp)
  ·rintro i σ' H' R hi ⟨o,left,bs,rfl,hll,hbl,hleft,hbs,hL,hBx,T',E'⟩ hR
   walk_at "rd"
   refine iteT ?_
   walk_at "rd"
   refine qCo hL ?_
   walk_at "rd"
   refine⟨lf,_,rfl,.inl (SqL.of hL),?_⟩
   rw [List.length_map]
   walk_at "rd"
   refine qBc T' (by omega) (by omega) (by omega) fun r3 H3 a3 b3 T3 e3 k3 => ?_
   have l3:H3 lf=some (.lst (left.map V.int)):=by rw [k3 lf nlt];exact hL
   have b3x:H3 bx=some (.lst (bs.map V.int)):=by rw [k3 bx nbt];exact hBx
   obtain⟨j,rfl⟩:=Int.eq_ofNat_of_zero_le a3
   have hj:j<left.length:=by omega
   walk_at "rd"
   refine⟨lf,left.map V.int,(j:Int),j,V.int left[j],rfl,rfl,l3,by omega,by omega,?_,by rw [List.getElem?_map,List.getElem?_eq_getElem hj];rfl,?_⟩
   ·rw [List.length_map]
    exact qUw hj
   ·refine⟨bs.map V.int,by rw [qA4 nbl];exact b3x,qAa (by rw [List.length_map];omega),hR _ _ ?_⟩
    have hmem:left[j]∈left:=List.getElem_mem hj
    refine⟨_,left.eraseIdx j,bs ++ [left[j]],rfl,?_,?_,fun b hb=>hleft b (List.mem_of_mem_eraseIdx hb),fun b hb => ?_,?_,?_,?_,?_⟩
    ·rw [List.length_eraseIdx,if_pos hj];omega
    ·rw [List.length_append,hbl];rfl
    ·rcases List.mem_append.mp hb with y | y
     ·exact hbs b y
     ·rw [List.mem_singleton.mp y];exact hleft _ hmem
    ·rw [qA4 nbl.symm,qA1,qK9]
    ·rw [qA1,List.map_append];rfl
    ·exact ((T3.ext (ts :=[lf]) (.put (by simp)) (by simpa using nlt.symm)).ext (ts :=[bx]) (.put (by simp)) (by simpa using nbt.symm)).mono (by omega)
    ·have hbx0:H bx=none:=by
      cases z:H bx with
      | none=>rfl
      | some o=>rw [E2 _ _ (by simpa using nbt) z] at hbx;cases hbx
     have E4:Ext [lf,bx,t] H (upd (upd H3 lf (.lst ((left.map V.int).eraseIdx j))) bx (.lst (bs.map V.int ++ [V.int left[j]]))):=(E'.mono (by simp)).trans ((e3.mono (by simp)).trans ((Ext.put (by simp)).trans (.put (by simp))))
     exact (E4.drop hlf0).drop hbx0
  ·rintro σ' H3 ⟨o,left,bs,rfl,hll,hbl,hleft,hbs,hL,hBx,T3,E3⟩
   have hB:BsOk bs:=⟨by omega,by omega,hbs⟩
   walk_at "rd"
   refine⟨len2 (Nat.zero_le _),fun l hl => ?_⟩
   have nlT:l≠t:=T3.ne hl
   have nlb:l≠bx:=(qA2 hBx hl).symm
   have hlH:H l=none:=E3.none (by simpa using nlT) hl
   walk_at "rd"
   refine⟨t,_,m,rfl,T3.ext (ts :=[]) (.laid hl) (by simp),by omega,m1,m2,fun nl nx H4 hnl T4 e4 hNx hDn => ?_⟩
   obtain⟨a,vs,ea,hSq,hDL⟩:=hDn.ofList
   cases ea
   have nnl:nl≠l:=(qA2 qA1 hnl).symm
   have hlen:=hDL.len
   rw [List.length_map] at hlen
   have hnm:(nx.length:Int)=m:=hNx.1
   have l4:H4 l=some (.lst []):=e4 _ _ (by simpa using nlT) qA1
   have E4:Ext [t] H H4:=E3.trans ((Ext.laid hl).trans e4)
   have apart:Same (yo (upd H3 l (.lst [])) [t] H4) (yo (upd H3 l (.lst [])) [l,t] H4):=qM8 (H0:=H) (by simp [qA1])
   have hSq4:=Same.seq apart hSq
   have hDL4:=hDL.mono apart
   have bx4:H4 bx=some (.lst (bs.map V.int)):=e4 _ _ (by simpa using nbt) (by rw [qA4 nlb.symm];exact hBx)
   refine⟨nl,rfl,⟨vs,yo_same.seq hSq4⟩,qCx (xs:=vs) (fun i σ' H' => ∃(wk:List Blk) (ws:List V) (o9 o10:Option V),σ' = [some (.ref t),some (.int m),some (.int most),some (.int first),some (.int works),some (.ref lf),some (.int (1+r2)),some (.ref bx),some (.ref l),o9,o10]/\wk.length=i /\
    (∀b∈wk,BlkOk m works b/\b.ds.length<=12)/\Tape H' t (k+45+140*i)/\Ext [l,t] H4 H'/\H' l=some (.lst ws)/\DenEL (yo H [l,t] H') (wk.map blkD) ws) ?_ ?_ ?_ ?_⟩
   ·exact⟨[],[],none,none,rfl,rfl,(fun _ h=>absurd h (by simp)),T4.mono (by omega),.refl _ _,l4,.nil⟩
   ·rintro i σ' H' hi ⟨wk,ws,o9,o10,rfl,hwl,hwk,T',e',hl',hden⟩
    exact yo_same.seq (Same.seq e'.young hSq4)
   ·rintro i x σ' H' hx ⟨wk,ws,o9,o10,rfl,hwl,hwk,T',e',hl',hden⟩ N_ B_ C_ R_ hN_ hC_ hR_
    obtain⟨dd,hdd,hDx⟩:=hDL4.get hx
    have hi:i<vs.length:=(List.getElem?_eq_some_iff.mp hx).1
    obtain⟨ns,hns,rfl⟩ : ∃ns,nx[i]? = some ns/\dd=intsD ns:=by
     rw [List.getElem?_map] at hdd
     cases z:nx[i]? with
     | none=>rw [z] at hdd;cases hdd
     | some n=>rw [z] at hdd;exact⟨n,rfl,(Option.some.inj hdd).symm⟩
    have hok:NsOk m ns:=hNx.2 ns (List.mem_of_getElem? hns)
    obtain⟨c,zs,rfl,hc,hcs⟩:=hDx.ofList
    have hzs:=hcs.ints
    subst hzs
    have hwl':ws.length=i:=by rw [hden.len,List.length_map,hwl]
    have hc':SqL K H' c (ns.map V.int):=yo_same.seq (Same.seq e'.young hc)
    have tail : ∀(en:Addr) (H6:Hp),Ext [] H' H6->H' en=none->DenE (yo H [l,t] H6) (endD ns) (.ref en) -> ∀D:Ends,(∀(H7:Hp) (o9 o10:Option V),(∃(wk:List Blk) (ws:List V) (p9 p10:Option V),[some (V.ref t),some (.int m),some (.int most),some (.int first),some (.int works),some (.ref lf),some (.int (1+r2)),some (.ref bx),some (.ref l),o9,o10] = [some (.ref t),some (.int m),some (.int most),some (.int first),some (.int works),some (.ref lf),some (.int (1+r2)),some (.ref bx),some (.ref l),p9,p10]/\wk.length=i+1 /\
      (∀b∈wk,BlkOk m works b/\b.ds.length<=12)/\Tape H7 t (k+45+140*(i+1))/\Ext [l,t] H4 H7/\H7 l=some (.lst ws)/\DenEL (yo H [l,t] H7) (wk.map blkD) ws)->D.nx [some (V.ref t),some (.int m),some (.int most),some (.int first),some (.int works),some (.ref lf),some (.int (1+r2)),some (.ref bx),some (.ref l),o9,o10] H7) ->
      tDrop (tBM K "list" qIn (tVar 8) (tCons (tTup (tCons (tCall (qG1 K) [] E0 (tCons (tVar 0) (tCons (tVar 2) (tCons (tVar 7) (tCons (tVar 3) (tCons (tVar 4) tNil)))))) (tCons (tVar 10) tNil))) tNil)) D [some (V.ref t),some (.int m),some (.int most),some (.int first),some (.int works),some (.ref lf),some (.int (1+r2)),some (.ref bx),some (.ref l),some (.ref c),some (.ref en)] H6:=by
     intro en H6 e6 hen hDe D hD
     have l6:=e6 _ _ (by simp) hl'
     walk_at "rd"
     refine qCo l6 ?_
     walk_at "rd"
     refine⟨t,bx,_,most,first,works,bs,rfl,T'.ext e6 (by simp),by omega,hm1,hm2,hf1,hf2,hw1,hw2,e6 _ _ (by simp) (e' _ _ (by simp [nbt,nlb.symm]) bx4),nbt,hB,fun dl ds H7 hdl T7 e7 hds hdf hDd => ?_⟩
     have l7:=e7 _ _ (by simpa using nlT) l6
     have ndl:dl≠l:=(qA2 l6 hdl).symm
     have EH:Ext [l,t] H H6:=(E4.mono (by simp)).trans (e'.trans (e6.mono (by simp)))
     have hDd':DenE (yo H [l,t] H7) (.list (ds.map deedD)) (.ref dl):=(hDd.mono (qM8 (H0:=H) (us :=[l,t]) (by simp [l6]))).mono (qR1 EH (by simp))
     walk_at "rd"
     refine⟨len2 (by show 2<=1000;decide),fun p hp => ?_⟩
     have npl:p≠l:=(qA2 l7 hp).symm
     have npt:p≠t:=T7.ne hp
     walk_at "rd"
     refine qDg (by rw [qA4 npl.symm];exact l7) (qAa (by omega)) ?_
     refine hD _ _ _ ⟨wk ++ [⟨ds,ns⟩],ws ++ [.ref p],_,_,rfl,by rw [List.length_append,hwl];rfl,fun b hb => ?_,?_,?_,qA1,?_⟩
     ·rcases List.mem_append.mp hb with y | y
      ·exact hwk b y
      ·rw [List.mem_singleton.mp y];exact⟨⟨hok,hds,Nat.le_trans hdf (by decide)⟩,hdf⟩
     ·exact ((T7.ext (ts :=[]) (.laid hp) (by simp)).ext (ts :=[l]) (.put (by simp)) (by simpa using nlT.symm)).mono (by omega)
     ·exact e'.trans ((e6.mono (by simp)).trans ((e7.mono (by simp)).trans ((Ext.laid hp).trans (.put (by simp)))))
     ·have E7:Ext [l,t] H7 (upd (upd H7 p (.tup [.ref dl,.ref en])) l (.lst (ws ++ [.ref p]))):=(Ext.laid hp).trans (.put (by simp))
      have E67:Ext [l,t] H6 (upd (upd H7 p (.tup [.ref dl,.ref en])) l (.lst (ws ++ [.ref p]))):=(e7.mono (by simp)).trans E7
      rw [List.map_append]
      refine DenEL.append (hden.mono ((e6.mono (by simp)).trans E67).young) (.cons (.tuple ?_ (.cons (hDd'.mono E7.young) (.cons (hDe.mono E67.young) .nil))) .nil)
      rw [qBq ((EH.trans (e7.mono (by simp))).none (by simp [npl,npt]) hp) (by simp [npl,npt]),qA4 npl,qA1]
    have nT : ∀ {en:Addr},H' en=none->en≠t/\en≠l/\H en=none:=fun {en} h=>by
     have a1:=T'.ne h
     have a2:=(qA2 hl' h).symm
     exact⟨a1,a2,((E4.mono (us :=[l,t]) (by simp)).trans e').none (by simp [a1,a2]) h⟩
    walk_at "rd"
    refine⟨len2 (Nat.zero_le _),fun e0 he0 => ?_⟩
    have E0:Ext [] H' (upd H' e0 (.lst [])) :=.laid he0
    have hc0:SqL K (upd H' e0 (.lst [])) c (ns.map V.int):=Same.seq (fun b o h=>E0 b o (by simp) h) hc'
    rcases hok with h | ⟨x,h,_⟩ | ⟨x,y,h,_⟩
    ·subst h
     refine⟨intsD [],.list [],.list hc0 (DenL.ofInts []),.list (SqL.of qA1) .nil,rfl,rfl,?_⟩
     walk_at "rd"
     refine iteT ?_
     walk_at "rd"
     refine⟨len2 (by show 1<=1000;decide),fun en hen => ?_⟩
     have hen':=E0.none (by simp) hen
     obtain⟨z1,z2,z3⟩:=nT hen'
     refine qL6 (tail en _ (E0.trans (.laid hen)) hen' (.tuple ?_ (.cons .str .nil)) _ fun H7 o9 o10 h=>hN_ _ _ h)
     rw [qBq z3 (by simp [z1,z2]),qA1]
    ·subst h
     refine⟨intsD [x],.list [],.list hc0 (DenL.ofInts [x]),.list (SqL.of qA1) .nil,rfl,rfl,?_⟩
     walk_at "rd"
     refine iteF ?_
     walk_at "rd"
     refine⟨c,_,rfl,.inl hc0,?_⟩
     walk_at "rd"
     refine qE2 ?_
     walk_at "rd"
     refine iteT ?_
     walk_at "rd"
     refine⟨len2 (by show 2<=1000;decide),fun en hen => ?_⟩
     have hen':=E0.none (by simp) hen
     obtain⟨z1,z2,z3⟩:=nT hen'
     refine qL6 (tail en _ (E0.trans (.laid hen)) hen' (.tuple ?_ (.cons .str (.cons .int .nil))) _ fun H7 o9 o10 h=>hN_ _ _ h)
     rw [qBq z3 (by simp [z1,z2]),qA1]
    ·subst h
     refine⟨intsD [x,y],.list [],.list hc0 (DenL.ofInts [x,y]),.list (SqL.of qA1) .nil,rfl,rfl,?_⟩
     walk_at "rd"
     refine iteF ?_
     walk_at "rd"
     refine⟨c,_,rfl,.inl hc0,?_⟩
     walk_at "rd"
     refine qE2 ?_
     walk_at "rd"
     refine iteF ?_
     walk_at "rd"
     refine⟨len2 (by show 3<=1000;decide),fun en hen => ?_⟩
     have hen':=E0.none (by simp) hen
     obtain⟨z1,z2,z3⟩:=nT hen'
     refine qL6 (tail en _ (E0.trans (.laid hen)) hen' (.tuple ?_ (.cons .str (.cons .int (.cons .int .nil)))) _ fun H7 o9 o10 h=>hN_ _ _ h)
     rw [qBq z3 (by simp [z1,z2]),qA1]
   ·rintro σ' H' ⟨wk,ws,o9,o10,rfl,hwl,hwk,T',e',hl',hden⟩
    walk_at "rd"
    have EH:Ext [l,t] H H':=(E4.mono (by simp)).trans e'
    exact q l wk ws H' hlH nlT (T'.mono (by omega)) (EH.drop hlH) ⟨by omega,fun b hb=>(hwk b hb).1⟩ (fun b hb=>(hwk b hb).2) hl' hden
end
section
variable {P:Program} {w:World} {K:PySem.W.Frag} {mg:Str->Option Value} {base:Heap}
abbrev sSize:Stmt:=top 32
theorem qUy:FnScope ["_law_works_here"] ["_law_works_here"] (qA7 sSize):=⟨rfl,rfl,rfl,by decide +kernel,rfl,by decide +kernel,by decide +kernel⟩
theorem qUd {f:Addr} {fd:FuncData} (F:Fun K "_law_size" "_law_size" sSize f fd) (nsum:mg "sum" = none) (nlen:mg "len" = none):FnOk P w K mg base CX0 1 f fd ["_law_works_here"] (qMf K):=by
 have nd2:((["_law_deeds_here","_law_end"]:List Str)).Nodup:=by decide
 refine F.ok qUy (fun vs H Q E h => ?_) (fun cdv A outer s H vs Q E hr h => ?_)
 ·obtain⟨wa,ws,rfl,_⟩:=h
  rfl
 ·obtain⟨wa,ws,rfl,hW,hl25,hl12,q⟩:=h
  refine⟨_,qA8 (qAj (qAb (qKx hr.hd) (by rfl) nsum PyProof.Rows.boot_sum (qA0 (qBx ["_law_work_here"] [] rfl (.of rfl) (qAo (pv 0)) (fun _ _ _ _=>qA9 (i:=0) (by show ((["_law_work_here"]:List Str)).Nodup;decide) rfl (Or.inl rfl)) (fun _ _ _ _ =>.nil)
   (fun _ _ _ _=>qAb (sumK K rfl hr.hd) (by rfl) nsum PyProof.Rows.boot_sum (qA0 (qBx ["_law_deeds_here","_law_end"] [] rfl (.of rfl) (qDx K rfl (pv 0)) (fun _ _ _ _=>qD8 (n:=2) K rfl rfl (qAc (qA9 (i:=0) nd2 rfl (Or.inl rfl)) (qAc (qA9 (i:=1) nd2 rfl (Or.inl rfl)) qB9))) (fun _ _ _ _ =>.nil) (fun _ _ _ _=>qAb (qG7 K rfl) (by rfl) nlen PySem.boot_len (qA0 (pv 0) qA3))) qA3))) qA3))),?_⟩
  dsimp only [qBb,qB3]
  obtain⟨wa',vs,ea,hSq,hDL⟩:=hW.ofList
  cases ea
  have hvl:vs.length=ws.length:=by rw [hDL.len,List.length_map]
  walk_at "rd"
  refine⟨wa,rfl,⟨vs,hSq⟩,fun l hl => ?_⟩
  refine qAf (xs:=vs) (fun i σ' G => ∃(o0:Option V) (ns:List Int),σ' = [o0]/\Ext [l] H G/\G l=some (.lst (ns.map V.int))/\ns.length=i) ?_ ?_ ?_ ?_
  ·exact⟨none,[],rfl,.laid hl,qA1,rfl⟩
  ·rintro i σ' G hi ⟨o0,ns,rfl,eG,hlG,hn⟩
   exact (eG.drop hl).toSame.seq hSq
  ·rintro i v σ' G R hv ⟨o0,ns,rfl,eG,hlG,hn⟩ hR
   obtain⟨dd,hdd,hDv⟩:=hDL.get hv
   obtain⟨wk,hwk,rfl⟩:=qAg hdd
   have hil:i<ws.length:=(List.getElem?_eq_some_iff.mp hwk).1
   obtain⟨wb,bs,rfl,hbs,hdbs⟩:=hDv.ofList
   have hbl:bs.length=wk.length:=by rw [hdbs.len,List.length_map]
   have h12:=hl12 wk (List.mem_of_getElem? hwk)
   have EG:=eG.drop hl
   walk_at "rd"
   refine iteT ?_
   walk_at "rd"
   refine⟨wb,rfl,⟨bs,EG.toSame.seq hbs⟩,fun l2 hl2 => ?_⟩
   have nl2:l≠l2:=qA2 hlG hl2
   refine qAf (xs:=bs) (fun j σ' G2 => ∃(o0 o1:Option V) (ms:List Int),σ' = [o0,o1]/\Ext [l2] G G2/\G2 l2=some (.lst (ms.map V.int))/\ms.length=j) ?_ ?_ ?_ ?_
   ·exact⟨none,none,[],rfl,.laid hl2,qA1,rfl⟩
   ·rintro j σ' G2 hj ⟨o0,o1,ms,rfl,e2,hl22,hm⟩
    exact (e2.drop hl2).toSame.seq (EG.toSame.seq hbs)
   ·rintro j v σ' G2 R hv ⟨o0,o1,ms,rfl,e2,hl22,hm⟩ hR
    obtain⟨dd,hdd,hDv⟩:=hdbs.get hv
    obtain⟨b,hb,rfl⟩:=qAg hdd
    have hjl:j<wk.length:=(List.getElem?_eq_some_iff.mp hb).1
    obtain⟨c,cs,rfl,hc,hcs⟩:=hDv.ofTuple
    obtain⟨vd,q1,rfl,hd1,hr1⟩:=hcs.ofCons
    obtain⟨ve,q2,rfl,hd2,hr2⟩:=hr1.ofCons
    have hr2:=hr2.ofNil
    subst hr2
    obtain⟨dl,dvs,rfl,hdl,hdvs⟩:=hd1.ofList
    have E2:=EG.trans (e2.drop hl2)
    refine qBy (E2.toSame.seqT hc) rfl ?_
    walk_at "rd"
    refine iteT ?_
    walk_at "rd"
    refine⟨dl,dvs,rfl,.inl (E2.toSame.seq hdl),?_⟩
    refine⟨_,hl22,qAa (by rw [List.length_map];omega),hR _ _ ⟨_,_,ms ++ [(dvs.length:Int)],rfl,e2.trans (.put (by simp)),?_,by simp [hm]⟩⟩
    rw [qA1,List.map_append];rfl
   ·rintro σ' G2 ⟨o0,o1,ms,rfl,e2,hl22,hm⟩
    walk_at "rd"
    refine⟨l2,ms,rfl,SqL.of hl22,?_⟩
    have E2:=e2.drop hl2
    refine⟨_,E2 _ _ (by simp) hlG,qAa (by rw [List.length_map];omega),hR _ _ ⟨_,ns ++ [ms.sum],rfl,(eG.trans (E2.mono (by simp))).trans (.put (by simp)),?_,by simp [hn]⟩⟩
    rw [qA1,List.map_append];rfl
  ·rintro σ' G ⟨o0,ns,rfl,eG,hlG,hn⟩
   walk_at "rd"
   refine⟨l,ns,rfl,SqL.of hlG,?_⟩
   exact q _ G (eG.drop hl)
end
section
variable {P:Program} {w:World} {K:PySem.W.Frag} {mg:Str->Option Value} {base:Heap}
abbrev sSlim:Stmt:=top 33
theorem qUx:FnScope ["_law_works_here"] ["_law_works_here"] (qA7 sSlim):=⟨rfl,rfl,rfl,by decide +kernel,rfl,by decide +kernel,by decide +kernel⟩
theorem qKq (xs:List V) (n:Nat):cutV xs none (some (n:Int))=xs.take n:=by
 unfold cutV
 rw [HT.sIx_none,HT.sIx_nat,List.drop_zero,Nat.sub_zero]
 by_cases h:n<=xs.length
 ·rw [Nat.min_eq_left h]
 ·rw [Nat.min_eq_right (by omega),List.take_of_length_le (Nat.le_refl _),List.take_of_length_le (by omega)]
theorem qSi (xs:List V) (n:Nat):cutV xs (some (n:Int)) none=xs.drop n:=by
 unfold cutV
 rw [HT.sIx_none,HT.sIx_nat]
 by_cases h:n<=xs.length
 ·rw [Nat.min_eq_left h,List.take_of_length_le (by rw [List.length_drop];omega)]
 ·rw [Nat.min_eq_right (by omega),Nat.sub_self,List.take_zero,List.drop_of_length_le (by omega)]
theorem dtake {G:Hp} : ∀ {ds:List PyData} {vs:List V} (n:Nat),DenEL G ds vs->DenEL G (ds.take n) (vs.take n)
 | [],vs,n,h=>by have:=h.ofNil;subst this;simpa using DenEL.nil
 | d::ds,vs,0,h=>by simpa using DenEL.nil
 | d::ds,vs,n+1,h=>by
  obtain⟨v,r,rfl,h1,h2⟩:=h.ofCons
  exact .cons h1 (dtake n h2)
theorem ddrop {G:Hp} : ∀ {ds:List PyData} {vs:List V} (n:Nat),DenEL G ds vs->DenEL G (ds.drop n) (vs.drop n)
 | [],vs,n,h=>by have:=h.ofNil;subst this;simpa using DenEL.nil
 | d::ds,vs,0,h=>h
 | d::ds,vs,n+1,h=>by
  obtain⟨v,r,rfl,h1,h2⟩:=h.ofCons
  exact ddrop n h2
theorem qUc {f:Addr} {fd:FuncData} (F:Fun K "_law_slim" "_law_slim" sSlim f fd) (hSz:Has P w K mg base "_law_size" 1 ["_law_works_here"] (qMf K)):FnOk P w K mg base CX0 2 f fd ["_law_works_here"] (qLa K):=by
 have nd2:((["_law_deeds_here","_law_end"]:List Str)).Nodup:=by decide
 refine F.ok qUx (fun vs H Q E h => ?_) (fun cdv A outer s H vs Q E hr h => ?_)
 ·obtain⟨wa,ws,rfl,_⟩:=h
  rfl
 ·obtain⟨wa,ws,rfl,hW,hok,q⟩:=h
  refine⟨_,qA5 (qC6 (qAn qW6 (qAk hSz hr (by decide) (qA0 (pv 0) qA3)) qA6 (qAt _)) (qA8 (qAj (pv 0))) qB1)
   (qA8 (qAj (qAs qMo (qC0 qIk (pv 0) qCr (qCq qA6)) (qBx ["_law_work_here"] [] rfl (.of rfl) (qAo (qC0 qIk (pv 0) (qCq qA6) qCr)) (fun _ _ _ _=>qA9 (i:=0) (by show ((["_law_work_here"]:List Str)).Nodup;decide) rfl (Or.inl rfl)) (fun _ _ _ _ =>.nil)
    (fun _ _ _ _=>qBx ["_law_deeds_here","_law_end"] [] rfl (.of rfl) (qDx K rfl (pv 0)) (fun _ _ _ _=>qD8 (n:=2) K rfl rfl (qAc (qA9 (i:=0) nd2 rfl (Or.inl rfl)) (qAc (qA9 (i:=1) nd2 rfl (Or.inl rfl)) qB9))) (fun _ _ _ _ =>.nil) (fun _ _ _ _=>qBe (qA0 (qC0 (qR9 K rfl) (pv 0) qCr (qCq qA6)) (qA0 (pv 1) qA3)))))))),?_⟩
  dsimp only [qBb,qB3]
  obtain⟨wa',vs,ea,hSq,hDL⟩:=hW.ofList
  cases ea
  have hvl:vs.length=ws.length:=by rw [hDL.len,List.length_map]
  have hfew:=hok.few
  walk_at "rd"
  refine⟨wa,ws,rfl,hW.den,hok.few,fun w hw=>by obtain⟨m,h1,h2,h3⟩:=hok.all w hw;have:=h3.len;omega,fun r H1 e1 => ?_⟩
  walk_at "rd"
  refine ite2 (fun _ => ?_) (fun _ => ?_)
  ·walk_at "rd"
   exact q wa ws H1 e1 (hW.mono e1.toSame) hok rfl
  ·walk_at "rd"
   refine⟨1,rfl,?_⟩
   refine⟨wa,vs,rfl,e1.toSame.seq hSq,fun l1 hl1 => ?_⟩
   rw [show (1:Int)=((1:Nat):Int) from rfl,qKq]
   have e2:Ext [] H1 (upd H1 l1 (.lst (vs.take 1))) :=.laid hl1
   have hl12:upd H1 l1 (.lst (vs.take 1)) l1=some (.lst (vs.take 1)):=qA1
   generalize upd H1 l1 (.lst (vs.take 1))=H2 at e2 hl12 ⊢
   walk_at "rd"
   refine⟨1,rfl,?_⟩
   walk_at "rd"
   refine⟨wa,vs,rfl,(e1.trans e2).toSame.seq hSq,fun l2 hl2 => ?_⟩
   rw [show (1:Int)=((1:Nat):Int) from rfl,qSi]
   have e3:Ext [] H2 (upd H2 l2 (.lst (vs.drop 1))) :=.laid hl2
   have hl23:upd H2 l2 (.lst (vs.drop 1)) l2=some (.lst (vs.drop 1)):=qA1
   generalize upd H2 l2 (.lst (vs.drop 1))=H3 at e3 hl23 ⊢
   have E3:=e1.trans (e2.trans e3)
   have hD3:DenEL H ((ws.drop 1).map workD) (vs.drop 1):=by rw [List.map_drop];exact ddrop 1 hDL
   have hdl:(vs.drop 1).length=(ws.drop 1).length:=by rw [List.length_drop,List.length_drop,hvl]
   refine⟨l2,rfl,⟨_,SqL.of hl23⟩,fun l hl => ?_⟩
   have nl2:l2≠l:=qA2 hl23 hl
   refine qAf (xs:=vs.drop 1) (fun i σ' G => ∃(o0:Option V) (us:List V),σ' = [o0]/\Ext [l] H3 G/\G l=some (.lst us)/\DenEL (wo [l] G) (((ws.drop 1).take i).map fun w=>workD (w.map slimB)) us) ?_ ?_ ?_ ?_
   ·exact⟨none,[],rfl,.laid hl,qA1,.nil⟩
   ·rintro i σ' G hi ⟨o0,us,rfl,eG,hlG,hus⟩
    exact SqL.of (eG _ _ (by simpa using nl2) hl23)
   ·rintro i v σ' G R hv ⟨o0,us,rfl,eG,hlG,hus⟩ hR
    obtain⟨dd,hdd,hDv⟩:=hD3.get hv
    obtain⟨wk,hwk,rfl⟩:=qAg hdd
    have hil:i<(ws.drop 1).length:=(List.getElem?_eq_some_iff.mp hwk).1
    rw [List.length_drop] at hil
    obtain⟨wb,bs,rfl,hbs,hdbs⟩:=hDv.ofList
    have hbl:bs.length=wk.length:=by rw [hdbs.len,List.length_map]
    obtain⟨m,hm1,hm2,hWk⟩:=hok.all wk (List.mem_of_mem_drop (List.mem_of_getElem? hwk))
    have hwm:=hWk.len
    have EG:=eG.drop hl
    have EHG:=E3.trans EG
    have hul:us.length=i:=by rw [hus.len,List.length_map,List.length_take,List.length_drop];omega
    walk_at "rd"
    refine iteT ?_
    walk_at "rd"
    refine⟨wb,rfl,⟨bs,EHG.toSame.seq hbs⟩,fun le hle => ?_⟩
    have nle:l≠le:=qA2 hlG hle
    refine qAf (xs:=bs) (fun j σ' G2 => ∃(o0 o1:Option V) (ts:List V),σ' = [o0,o1]/\Ext [le] G G2/\G2 le=some (.lst ts)/\DenEL (wo [l,le] G2) ((wk.take j).map fun b=>blkD (slimB b)) ts) ?_ ?_ ?_ ?_
    ·exact⟨none,none,[],rfl,.laid hle,qA1,.nil⟩
    ·rintro j σ' G2 hj ⟨o0,o1,ts,rfl,e4,hle4,hts⟩
     exact (e4.drop hle).toSame.seq (EHG.toSame.seq hbs)
    ·rintro j v σ' G2 R hv ⟨o0,o1,ts,rfl,e4,hle4,hts⟩ hR
     obtain⟨dd,hdd,hDv⟩:=hdbs.get hv
     obtain⟨b,hb,rfl⟩:=qAg hdd
     have hjl:j<wk.length:=(List.getElem?_eq_some_iff.mp hb).1
     obtain⟨c,cs,rfl,hc,hcs⟩:=hDv.ofTuple
     obtain⟨vd,q1,rfl,hd1,hr1⟩:=hcs.ofCons
     obtain⟨ve,q2,rfl,hd2,hr2⟩:=hr1.ofCons
     have hr2:=hr2.ofNil
     subst hr2
     obtain⟨dl,dvs,rfl,hdl,hdvs⟩:=hd1.ofList
     have E4:=EHG.trans (e4.drop hle)
     have htl:ts.length=j:=by rw [hts.len,List.length_map,List.length_take];omega
     refine qBy (E4.toSame.seqT hc) rfl ?_
     walk_at "rd"
     refine iteT ?_
     walk_at "rd"
     refine⟨2,rfl,?_⟩
     refine⟨dl,dvs,rfl,E4.toSame.seq hdl,fun l5 hl5 => ?_⟩
     rw [show (2:Int)=((2:Nat):Int) from rfl,qKq]
     have hl4:G2 l=some (.lst us):=e4 _ _ (by simpa using nle) hlG
     have n5:l5≠l:=(qA2 hl4 hl5).symm
     have n5e:l5≠le:=(qA2 hle4 hl5).symm
     walk_at "rd"
     refine⟨len2 (by show 2<=1000;decide),fun p5 hp5 => ?_⟩
     have n55:l5≠p5:=qA2 qA1 hp5
     have np5l:p5≠l:=(qA2 (o :=.lst us) (by rw [qA4 n5.symm];exact hl4) hp5).symm
     have np5e:p5≠le:=(qA2 (o :=.lst ts) (by rw [qA4 n5e.symm];exact hle4) hp5).symm
     have e5:Ext [] G2 (upd (upd G2 l5 (.lst (dvs.take 2))) p5 (.tup [.ref l5,ve])):=(Ext.laid hl5).trans (.laid hp5)
     refine⟨ts,e5 _ _ (by simp) hle4,qAa (by omega),hR _ _ ⟨_,_,ts ++ [.ref p5],rfl,e4.trans ((e5.mono (by simp)).trans (.put (by simp))),qA1,?_⟩⟩
     rw [qAu hb,List.map_append]
     have eF:Ext [l,le] G2 (upd (upd (upd G2 l5 (.lst (dvs.take 2))) p5 (.tup [.ref l5,ve])) le (.lst (ts ++ [.ref p5]))):=(e5.mono (by simp)).trans (.put (by simp))
     have old:Same H (wo [l,le] (upd (upd (upd G2 l5 (.lst (dvs.take 2))) p5 (.tup [.ref l5,ve])) le (.lst (ts ++ [.ref p5])))):=fun a o z=>by
      have ha1:a≠l:=fun y=>by rw [y] at z;have:=E3 _ _ (by simp) z;rw [hl] at this;cases this
      have ha2:a≠le:=fun y=>by rw [y] at z;have:=EHG _ _ (by simp) z;rw [hle] at this;cases this
      rw [qCu (by simp [ha1,ha2])]
      exact eF _ _ (by simp [ha1,ha2]) (E4 _ _ (by simp) z)
     refine DenEL.append (hts.mono eF.same) (.cons (.tuple (vs :=[.ref l5,ve]) ?_ (.cons (.list (vs:=dvs.take 2) ?_ ?_) (.cons (hd2.mono old) .nil))) .nil)
     ·rw [qCu (by simp [np5l,np5e]),qA4 np5e,qA1]
     ·rw [qCu (by simp [n5,n5e]),qA4 n5e,qA4 n55,qA1]
     ·show DenEL _ ((b.ds.take 2).map deedD) _
      rw [List.map_take]
      exact dtake 2 (hdvs.mono old)
    ·rintro σ' G2 ⟨o0,o1,ts,rfl,e4,hle4,hts⟩
     rw [hbl,List.take_length] at hts
     have E4:=e4.drop hle
     have hl4:=E4 _ _ (by simp) hlG
     refine⟨us,hl4,qAa (by omega),hR _ _ ⟨_,us ++ [.ref le],rfl,(eG.trans (E4.mono (by simp))).trans (.put (by simp)),qA1,?_⟩⟩
     have hs:Same (wo [l] G2) (wo [l] (upd G2 l (.lst (us ++ [.ref le])))):=(Ext.put (ts :=[l]) (by simp)).same
     rw [qAu hwk,List.map_append]
     refine DenEL.append ((hus.mono (E4.mono (us :=[l]) (by simp)).same).mono hs) (.cons (.list (vs:=ts) ?_ ?_) .nil)
     ·rw [qCu (by simpa using nle.symm),qA4 nle.symm];exact hle4
     ·rw [List.map_map]
      exact (hts.mono (qTv (by intro z hz;simp at hz;simp [hz]))).mono hs
   ·rintro σ' G ⟨o0,us,rfl,eG,hlG,hus⟩
    rw [hdl,List.take_length] at hus
    have EG:=eG.drop hl
    have hul:us.length=(ws.drop 1).length:=by rw [hus.len,List.length_map]
    rw [List.length_drop] at hul
    refine⟨l1,l,vs.take 1,us,rfl,rfl,(e3.trans EG) _ _ (by simp) hl12,hlG,len2 (by rw [List.length_take];omega),fun lr hlr => ?_⟩
    have EF:Ext [] H (upd G lr (.lst (vs.take 1++us))):=(E3.trans EG).trans (.laid hlr)
    refine q lr (qHc ws) _ EF (.list qA1 ?_) (qTo hok) (qG2 ws)
    unfold qHc
    rw [List.map_append,List.map_take,List.map_map]
    exact DenEL.append ((dtake 1 hDL).mono EF.toSame) ((hus.mono (qI9 _ _)).mono (Ext.laid (ts :=[]) hlr).toSame)
end
section
variable {P:Program} {w:World} {K:PySem.W.Frag} {mg:Str->Option Value} {base:Heap}
abbrev qHe:Stmt:=top 34
theorem scWorks:FnScope ["_law_tape_here","_law_most","_law_works_here","_law_found","_law_first","_law_many_here"] ["_law_tape_here","_law_most"] (qA7 qHe):=⟨rfl,rfl,rfl,by decide +kernel,rfl,by decide +kernel,by decide +kernel⟩
theorem qRu {f:Addr} {fd:FuncData} (F:Fun K "_law_works" "_law_works" qHe f fd) (nrange:mg "range" = none) (nint:mg "int" = none) (hD:Has P w K mg base "_law_draw" 1 ["_law_tape_here","_law_many_here"] qEp)
  (hM:Has P w K mg base "_law_many" 2 ["_law_tape_here"] qOg) (hW:Has P w K mg base "_law_work" 4 ["_law_tape_here","_law_many_here","_law_most","_law_first","_law_works_here"] (qL8 K)) (hS:Has P w K mg base "_law_slim" 2 ["_law_works_here"] (qLa K)) :
  FnOk P w K mg base CX0 5 f fd ["_law_tape_here","_law_most"] (qIa K):=by
 refine F.ok scWorks (fun vs H Q E h => ?_) (fun cdv A outer s H vs Q E hr h => ?_)
 ·obtain⟨t,k,most,rfl,_⟩:=h
  rfl
 ·obtain⟨t,k,most,rfl,hT,hk,hm1,hm2,q⟩:=h
  refine⟨_,qA5 (qAm (i:=2) scWorks.nd rfl (Or.inl rfl) (qAr qAi (qAy (qA0 (qAs qB5 qA6 (qAk hD hr (by decide) (qA0 (pv 0) (qA0 qA6 qA3)))) (qA0 (qAs qB5 qA6 (qAk hD hr (by decide) (qA0 (pv 0) (qA0 qA6 qA3)))) qA3)))
    (qAl qDk (by rfl) nint PyProof.Rows.boot_int (qA0 (qBf qDb (qAk hD hr (by decide) (qA0 (pv 0) (qA0 qA6 qA3))) qA6 (qAt _)) qA3)) (fun _ _=>rfl)))
   (qA5 (qAm (i:=3) scWorks.nd rfl (Or.inl rfl) (qAy qA3))
   (qA5 (qC1 PassesOwn.never rfl (qBd rfl nrange (qA0 (pv 2) qA3)) (qA9 (i:=4) scWorks.nd rfl (Or.inl rfl))
    (qA5 (qAm (i:=5) scWorks.nd rfl (Or.inl rfl) (qDy (qAn qNo (pv 2) qA6 (qAt _)) (qAk hM hr (by decide) (qA0 (pv 0) qA3)) (qAs qB5 qA6 (qAk hD hr (by decide) (qA0 (pv 0) (qA0 qA6 qA3))))))
    (qA8 (qBp (qE3 PySem.F.plainAttrs_list PySem.F.slot_list_append PySem.F.type_list_append qBg (pv 3) (qA0 (qAk hW hr (by decide) (qA0 (pv 0) (qA0 (pv 5) (qA0 (pv 1) (qA0 (pv 4) (qA0 (pv 2) qA3)))))) qA3))))))
   (qA8 (qAj (qAk hS hr (by decide) (qA0 (pv 3) qA3)))))),?_⟩
  dsimp only [qBb]
  walk_at "rd"
  refine qBc hT (by omega) (by decide) (by decide) fun r1 H1 a1 b1 T1 e1 _ => ?_
  walk_at "rd"
  refine qBc T1 (by omega) (by decide) (by decide) fun r2 H2 a2 b2 T2 e2 _ => ?_
  walk_at "rd"
  refine⟨len2 (by show 2<=1000;decide),fun p hp => ?_⟩
  have np:p≠t:=T2.ne hp
  walk_at "rd"
  refine qBc (T2.ext (.laid (ts :=[]) hp) (by simp)) (by omega) (by decide) (by decide) fun r3 H3 a3 b3 T3 e3 k3 => ?_
  walk_at "rd"
  refine qE2 ?_
  walk_at "rd"
  refine .inr ⟨_,rfl,?_⟩
  have e4:Ext [t] H H3:=(e1.trans e2).trans ((Ext.laid hp).trans e3)
  have hL:SqL K H3 p [V.int (1+r1),V.int (5+r2)]:=SqL.of (by rw [k3 p np,qA1])
  obtain⟨n,hn1,hn2,en⟩ : ∃n:Int,1<=n/\n<=10/\atI [V.int (1+r1),V.int (5+r2)] (if decide (r3=0)=true then (1:Int) else 0)=some (.int n):=by
   cases c:decide (r3=0) with
   | true=>exact⟨5+r2,by omega,by omega,rfl⟩
   | false=>exact⟨1+r1,by omega,by omega,rfl⟩
  refine qBl hL en ?_
  clear en hL k3 e3 hp np
  walk_at "rd"
  refine⟨len2 (Nat.zero_le _),fun l hl => ?_⟩
  have nlt:l≠t:=T3.ne hl
  have hlH:H l=none:=e4.none (by simpa using nlt) hl
  walk_at "rd"
  refine⟨n,rfl,by omega,by omega,qCb (lo:=0) (n:=n.toNat) (fun i σ' H' => ∃(as:List Addr) (ws:List (List Blk)) (o4 o5:Option V),σ' = [some (.ref t),some (.int most),some (.int n),some (.ref l),o4,o5]/\as.length=i/\(∀w∈ws,∃m:Int,1<=m/\m<=12/\WorkOk m n w)/\(∀w∈ws,∀b∈w,b.ds.length<=12) /\
   l∉as/\(∀a∈as,H a=none/\a≠t)/\as.Nodup/\Tape H' t (k+3+2003*i)/\Ext [l,t] H3 H'/\H' l=some (.lst (as.map V.ref))/\WorksE (yo H (l::t::as) H') H' as ws) ?_ ?_ ?_⟩
  ·exact⟨[],[],_,_,rfl,rfl,by simp,by simp,by simp,by simp,.nil,T3.ext (ts :=[]) (.laid hl) (by simp),.laid hl,qA1,.nil⟩
  ·rintro i σ' H' hi ⟨as,ws,o4,o5,rfl,hal,hws,hfew,hla,has,hnd,T',e',hl',hA⟩ N_ B_ C_ R_ hN_ hC_ hR_
   have hin:i<10:=by omega
   have EH:Ext [l,t] H H':=(e4.mono (by simp)).trans e'
   walk_at "rd"
   have fin : ∀(m:Int) (H5 H6:Hp) (a:Addr) (w1:List Blk) (bs:List V),1<=m->m<=12->Ext [t] H' H5->H5 a=none->a≠t->Tape H6 t (k+3+2003*(i+1))->Ext [t] H5 H6->WorkOk m n w1->(∀b∈w1,b.ds.length<=12)->H6 a=some (.lst bs)->DenEL (yo H5 [a,t] H6) (w1.map blkD) bs -> ∀o4 o5:Option V,
     H6 l=some (.lst (as.map V.ref)) /\ ∃(as':List Addr) (ws':List (List Blk)) (o4' o5':Option V),[some (V.ref t),some (.int most),some (.int n),some (.ref l),o4,o5] = [some (V.ref t),some (.int most),some (.int n),some (.ref l),o4',o5']/\as'.length=i+1/\(∀w∈ws',∃m:Int,1<=m/\m<=12/\WorkOk m n w)/\(∀w∈ws',∀b∈w,b.ds.length<=12) /\
     l∉as'/\(∀a∈as',H a=none/\a≠t)/\as'.Nodup/\Tape (upd H6 l (.lst (as.map V.ref ++ [V.ref a]))) t (k+3+2003*(i+1))/\Ext [l,t] H3 (upd H6 l (.lst (as.map V.ref ++ [V.ref a])))/\(upd H6 l (.lst (as.map V.ref ++ [V.ref a]))) l=some (.lst (as'.map V.ref))/\WorksE (yo H (l::t::as') (upd H6 l (.lst (as.map V.ref ++ [V.ref a])))) (upd H6 l (.lst (as.map V.ref ++ [V.ref a]))) as' ws':=by
    intro m H5 H6 a w1 bs hm1 hm2 e5 ha nat T6 e6 hw1 hf1 hba hden o4 o5
    have l5:H5 l=some (.lst (as.map V.ref)):=e5 _ _ (by simpa using nlt) hl'
    have l6:H6 l=some (.lst (as.map V.ref)):=e6 _ _ (by simpa using nlt) l5
    have nal:a≠l:=(qA2 l5 ha).symm
    have haH':H' a=none:=e5.none (by simpa using nat) ha
    have haH:H a=none:=EH.none (by simp [nal,nat]) haH'
    have naas:a∉as:=fun hm=>by
     obtain⟨j,hj,e⟩:=List.getElem_of_mem hm
     obtain⟨_,bs',_,hb',_⟩:=hA.get (i:=j) (a:=a) (by rw [List.getElem?_eq_getElem hj,e])
     rw [haH'] at hb';cases hb'
    have E6:Ext [l,t] H' (upd H6 l (.lst (as.map V.ref ++ [V.ref a]))):=(e5.mono (by simp)).trans ((e6.mono (by simp)).trans (.put (by simp)))
    refine⟨l6,as ++ [a],ws ++ [w1],o4,o5,rfl,by rw [List.length_append,hal];rfl,?_,?_,by simp [hla,nal.symm],?_,?_,?_,e'.trans E6,by rw [qA1,List.map_append];rfl,?_⟩
    ·intro w hw
     rcases List.mem_append.mp hw with z | z
     ·exact hws w z
     ·rw [List.mem_singleton.mp z];exact⟨m,hm1,hm2,hw1⟩
    ·intro w hw
     rcases List.mem_append.mp hw with z | z
     ·exact hfew w z
     ·rw [List.mem_singleton.mp z];exact hf1
    ·intro b hb
     rcases List.mem_append.mp hb with z | z
     ·exact has b z
     ·rw [List.mem_singleton.mp z];exact⟨haH,nat⟩
    ·exact List.nodup_append.mpr ⟨hnd,by simp,by intro x hx y hy;simp at hy;subst hy;intro e;subst e;exact naas hx⟩
    ·exact T6.ext (ts :=[l]) (.put (by simp)) (by simpa using nlt.symm)
    ·have key:Same (yo H (l::t::as) H') (yo H (l::t::(as ++ [a])) (upd H6 l (.lst (as.map V.ref ++ [V.ref a])))):=fun b o e=>by
      obtain⟨h1,h2,h3⟩:=qE9 e
      have nb:b≠a:=fun z=>by rw [z,haH'] at h3;cases h3
      have h2':b ∉ [l,t]:=fun z=>h2 (by rcases List.mem_cons.mp z with z | z <;> simp_all)
      rw [qBq h1 (fun z=>h2 (by
       rcases List.mem_cons.mp z with z | z
       ·simp [z]
       ·rcases List.mem_cons.mp z with z | z
        ·simp [z]
        ·rcases List.mem_append.mp z with z | z
         ·simp [z]
         ·exact absurd (by simpa using z) nb))]
      exact E6 _ _ h2' h3
     refine (hA.mono key fun b hb o e => ?_).snoc (bs:=bs) ?_ (hden.mono fun b o e => ?_)
     ·have nbl:b≠l:=fun z=>hla (z▸hb)
      exact E6 _ _ (by simp [nbl,(has b hb).2]) e
     ·rw [qA4 nal];exact hba
     ·obtain⟨h1,h2,h3⟩:=qE9 e
      have nbl:b≠l:=fun z=>by rw [z,l5] at h1;cases h1
      have nbt:b≠t:=fun z=>h2 (by simp [z])
      have nba:b≠a:=fun z=>h2 (by simp [z])
      have h1':H' b=none:=e5.none (by simpa using nbt) h1
      rw [qBq (EH.none (by simp [nbl,nbt]) h1') (by
       intro z
       rcases List.mem_cons.mp z with z | z
       ·exact nbl z
       ·rcases List.mem_cons.mp z with z | z
        ·exact nbt z
        ·rcases List.mem_append.mp z with z | z
         ·obtain⟨j,hj,e⟩:=List.getElem_of_mem z
          obtain⟨_,bs',_,hb',_⟩:=hA.get (i:=j) (a:=b) (by rw [List.getElem?_eq_getElem hj,e])
          rw [h1'] at hb';cases hb'
         ·exact nba (by simpa using z)),qA4 nbl]
      exact h3
   refine ite2 (fun hn5 => ?_) (fun hn5 => ?_)
   ·walk_at "rd"
    refine qVg T' (by omega) fun m H5 hm1' hm2' T5 e5 => ?_
    walk_at "rd"
    refine qCo (e5 _ _ (by simpa using nlt) hl') ?_
    walk_at "rd"
    refine⟨t,_,m,most,_,n,rfl,T5,by omega,hm1',hm2',hm1,hm2,by omega,by omega,by omega,by omega,fun a w1 bs H6 ha nat T6 e6 hw1 hf1 hba hden => ?_⟩
    obtain⟨l6,post⟩:=fin m H5 H6 a w1 bs hm1' hm2' e5 ha nat (T6.mono (by omega)) e6 hw1 hf1 hba hden _ _
    walk_at "rd"
    exact qDg l6 (qAa (by rw [List.length_map];omega)) (hN_ _ _ post)
   ·walk_at "rd"
    refine qBc T' (by omega) (by decide) (by decide) fun r H5 hm1' hm2' T5 e5 _ => ?_
    walk_at "rd"
    refine qCo (e5 _ _ (by simpa using nlt) hl') ?_
    walk_at "rd"
    refine⟨t,_,1+r,most,_,n,rfl,T5,by omega,by omega,by omega,hm1,hm2,by omega,by omega,by omega,by omega,fun a w1 bs H6 ha nat T6 e6 hw1 hf1 hba hden => ?_⟩
    obtain⟨l6,post⟩:=fin (1+r) H5 H6 a w1 bs (by omega) (by omega) e5 ha nat (T6.mono (by omega)) e6 hw1 hf1 hba hden _ _
    walk_at "rd"
    exact qDg l6 (qAa (by rw [List.length_map];omega)) (hN_ _ _ post)
  ·rintro σ' H' ⟨as,ws,o4,o5,rfl,hal,hws,hfew,hla,has,hnd,T',e',hl',hA⟩
   walk_at "rd"
   have hwl:=hA.len
   refine⟨l,ws,rfl,.list hl' (qNd hA yo_same),⟨by rw [show ((ws.length:Nat):Int)=n by omega];exact hws,by omega,by omega⟩,fun l2 ws2 H4 e6 dW hok2 _ => ?_⟩
   walk_at "rd"
   exact q l2 ws2 H4 (T'.ext (ts :=[]) e6 (by simp) |>.mono (by omega)) (((e4.mono (by simp)).trans e' |>.drop hlH).trans (e6.mono (by simp))) dW hok2
end
section
variable {P:Program} {w:World} {K:PySem.W.Frag} {mg:Str->Option Value} {base:Heap}
abbrev sLed:Stmt:=top 1
theorem scLed:FnScope ["starts","nexts","seen","due","place"] ["starts","nexts"] (qA7 sLed):=⟨rfl,rfl,rfl,by decide +kernel,rfl,by decide +kernel,by decide +kernel⟩
theorem qPb {f:Addr} {fd:FuncData} (F:Fun K "led_to" "led_to" sLed f fd) (nlist:mg "list" = none):FnOk P w K mg base CX0 1 f fd ["starts","nexts"] (qSx K):=by
 refine F.ok scLed (fun vs H Q E h => ?_) (fun cdv A outer s H vs Q E hr h => ?_)
 ·obtain⟨st,nd,wk,m,works,ss,rfl,_⟩:=h
  rfl
 ·obtain⟨st,nd,wk,m,works,ss,rfl,hSt,hNx,hOk,hm,hss,hsl,q⟩:=h
  have hu:=qKl hr
  refine⟨_,qA5 (qAm (i:=2) scLed.nd rfl (Or.inl rfl) qMk)
   (qA5 (qAm (i:=3) scLed.nd rfl (Or.inl rfl) (qAl qC4 (by rfl) nlist PyProof.Rows.boot_list (qA0 (pv 0) qA3)))
   (qA5 (qIq PassesOwn.never (qIp (pv 3) (fun _=>rfl))
    (qA5 (qAm (i:=4) scLed.nd rfl (Or.inl rfl) (qHr PySem.F.plainAttrs_list PySem.F.slot_list_pop PySem.F.type_list_pop qPm (pv 3)))
    (qA8 (qC6 (qJt (qGp hu (pv 4) (pv 2)))
     (qA5 (qLl hu (pv 2) (pv 4) qDa rfl)
     (qA8 (qBp (qE3 PySem.F.plainAttrs_list PySem.F.slot_list_extend PySem.F.type_list_extend qEt (pv 3) (qA0 (qMl hu (pv 1) (pv 4) (qAy qA3) ⟨rfl,rfl,rfl,rfl⟩) qA3)))))
     qB1))))
   (qA8 (qAj (pv 2))))),?_⟩
  dsimp only [qBb,qB3]
  walk_at "rd"
  have hwm:=hOk.len
  have few : ∀x,(nxt wk x).length<=2:=fun x=>(qE5 hOk x).few
  refine qOt fun d hd => ?_
  walk_at "rd"
  have E0:Ext [] H (upd H d (.dK [])) :=.laid hd
  refine⟨st,_,rfl,.inl (E0.toSame.seq hSt),fun du hdu => ?_⟩
  have nd1:d≠du:=qA2 qA1 hdu
  have hdu0:H du=none:=E0.none (by simp) hdu
  walk_at "rd"
  have st0:LedI H st nd d du wk ss [] ss (upd (upd H d (.dK [])) du (.lst (ss.map V.int))):=by
   refine⟨E0.trans (.laid hdu),?_,qA1,List.nodup_nil,(fun _ h=>absurd h (by simp)),fun x hx => ?_,(fun _ h=>absurd h (by simp)),fun s hs =>.inr hs,Nat.zero_le _,by omega⟩
   ·rw [qA4 nd1,qA1];rfl
   ·exact⟨x,hx,.refl⟩
  refine⟨LedW H st nd d du wk ss,⟨_,[],ss,none,rfl,rfl,st0⟩,?_⟩
  rintro μ σ' H' ⟨ks,due,o4,rfl,rfl,I⟩
  refine qLi (v :=.ref du) rfl ⟨!(due.map V.int).isEmpty,.inl ⟨_,SqL.of I.hdu,rfl⟩,?_⟩
  rcases List.eq_nil_or_concat due with h | ⟨init,y,h⟩
  ·subst h
   refine iteF ?_
   walk_at "rd"
   exact q d ks H' hd I.ext I.hd I.nod I.end_
  ·have h:due=init ++ [y]:=by rw [h,List.concat_eq_append]
   have he:(!(due.map V.int).isEmpty)=true:=by rw [h];simp
   rw [he]
   refine iteT ⟨fun σ' H' => ∃m',m'<(wk.length - cnt (fun x=>decide (x∈ks)) wk.length)*3+due.length/\LedW H st nd d du wk ss m' σ' H',fun _ _ h=>h,?_⟩
   obtain⟨s0,hs0,hyr⟩:=I.rd y (by rw [h];simp)
   obtain⟨y0,y1⟩:=hyr.range hOk (hss s0 hs0)
   have hc:=qH0 (fun x=>decide (x∈ks)) wk.length
   have hdl:due.length=init.length+1:=by rw [h];simp
   have hfd:=I.fewd
   have hfk:=I.few
   walk_at "rd"
   refine qCo I.hdu ?_
   refine⟨du,due.map V.int,.int y,rfl,rfl,I.hdu,by rw [h];simp,?_⟩
   have hinit:(due.map V.int).dropLast=init.map V.int:=by rw [h];simp
   rw [hinit]
   have d1:upd H' du (.lst (init.map V.int)) d=some (.dK (ks.map fun k=>((Sum.inl k:Key),V.bl true))):=by rw [qA4 nd1];exact I.hd
   have e1:Ext [] H (upd H' du (.lst (init.map V.int))):=((I.ext.mono (us :=[du]) (by simp)).trans (.put (by simp))).drop hdu0
   have u1:upd H' du (.lst (init.map V.int)) du=some (.lst (init.map V.int)):=qA1
   generalize upd H' du (.lst (init.map V.int))=H1 at *
   walk_at "rd"
   refine⟨d,_,rfl,DGet.k (k:=Sum.inl y) d1,?_⟩
   rw [qL7]
   by_cases hy:y∈ks
   ·rw [if_pos hy]
    refine qR0 (iteF ?_)
    walk_at "rd"
    refine⟨_,by rw [hdl];exact Nat.lt_succ_self _,ks,init,_,rfl,rfl,e1,d1,u1,I.nod,I.rk,fun x hx=>I.rd x (by rw [h];exact List.mem_append_left _ hx),fun k hk c hc' => ?_,?_,I.few,by omega⟩
    ·rcases I.clo k hk c hc' with z | z
     ·exact .inl z
     ·rw [h] at z
      rcases List.mem_append.mp z with z | z
      ·exact .inr z
      ·rw [List.mem_singleton.mp z];exact .inl hy
    ·intro s1 hs1
     rcases I.one s1 hs1 with z | z
     ·exact .inl z
     ·rw [h] at z
      rcases List.mem_append.mp z with z | z
      ·exact .inr z
      ·rw [List.mem_singleton.mp z];exact .inl hy
   ·rw [if_neg hy]
    refine qR0 (iteT ?_)
    walk_at "rd"
    refine⟨d,_,rfl,DPut.k (k:=Sum.inl y) d1 (qAa (by rw [List.length_map];omega)),?_⟩
    have hput:putK (ks.map fun k=>((Sum.inl k:Key),V.bl true)) (Sum.inl y) (V.bl true)=(ks ++ [y]).map fun k=>((Sum.inl k:Key),V.bl true):=by
     rw [qIo _ (by rw [qL7,if_neg hy]),List.map_append];rfl
    rw [hput]
    have d2:upd H1 d (.dK ((ks ++ [y]).map fun k=>((Sum.inl k:Key),V.bl true))) d=some (.dK ((ks ++ [y]).map fun k=>((Sum.inl k:Key),V.bl true))):=qA1
    have e2:Ext [] H (upd H1 d (.dK ((ks ++ [y]).map fun k=>((Sum.inl k:Key),V.bl true)))):=((e1.mono (us :=[d]) (by simp)).trans (.put (by simp))).drop hd
    have u2:upd H1 d (.dK ((ks ++ [y]).map fun k=>((Sum.inl k:Key),V.bl true))) du=some (.lst (init.map V.int)):=by rw [qA4 nd1.symm];exact u1
    generalize upd H1 d (.dK ((ks ++ [y]).map fun k=>((Sum.inl k:Key),V.bl true)))=H2 at *
    obtain⟨kvs,hk1,hk2⟩:=hNx
    obtain⟨c,hc1,hc2⟩:=hk2 y y0 (by omega)
    walk_at "rd"
    refine qCo u2 ?_
    walk_at "rd"
    refine⟨nd,rfl,.inl ⟨kvs,.inl (e2 _ _ (by simp) hk1)⟩,?_⟩
    walk_at "rd"
    refine⟨len2 (Nat.zero_le _),fun e0 he0 => ?_⟩
    have e3:Ext [] H2 (upd H2 e0 (.lst [])) :=.laid he0
    refine⟨some (.ref c),?_,?_⟩
    ·have:=DGet.k (k:=Sum.inl y) ((e2.trans e3) _ _ (by simp) hk1)
     rw [hc1] at this
     exact this
    walk_at "rd"
    have hnl:=few y
    have hmem : ∀x,x∈ks->x∈ks ++ [y]:=fun x hx=>List.mem_append_left _ hx
    have hlt:=qN6 (p:=fun x=>decide (x∈ks)) (q:=fun x=>decide (x∈ks ++ [y])) (x:=y) (fun i hi=>decide_eq_true (hmem i (of_decide_eq_true hi))) (decide_eq_true (by simp)) (decide_eq_false hy) wk.length y0 (by omega)
    have hle:=qH0 (fun x=>decide (x∈ks ++ [y])) wk.length
    refine⟨du,c,init.map V.int,(nxt wk y).map V.int,rfl,rfl,e3 _ _ (by simp) u2,(e2.trans e3) _ _ (by simp) hc2,len2 (by rw [List.length_map,List.length_map];omega),?_⟩
    refine⟨_,?_,ks ++ [y],init++nxt wk y,_,rfl,rfl,?_,?_,?_,?_,?_,?_,?_,?_,?_,?_⟩
    ·rw [List.length_append];omega
    ·exact (((e2.trans e3).mono (us :=[du]) (by simp)).trans (.put (by simp))).drop hdu0
    ·rw [qA4 nd1];exact e3 _ _ (by simp) d2
    ·rw [qA1,List.map_append]
    ·rw [List.nodup_append]
     refine⟨I.nod,by simp,fun x hx z hz => ?_⟩
     rw [List.mem_singleton.mp hz]
     rintro rfl
     exact hy hx
    ·intro x hx
     rcases List.mem_append.mp hx with z | z
     ·exact I.rk x z
     ·rw [List.mem_singleton.mp z];exact⟨s0,hs0,hyr⟩
    ·intro x hx
     rcases List.mem_append.mp hx with z | z
     ·exact I.rd x (by rw [h];exact List.mem_append_left _ z)
     ·exact⟨s0,hs0,.step hyr z⟩
    ·intro k hk c' hc'
     rcases List.mem_append.mp hk with z | z
     ·rcases I.clo k z c' hc' with t | t
      ·exact .inl (List.mem_append_left _ t)
      ·rw [h] at t
       rcases List.mem_append.mp t with t | t
       ·exact .inr (List.mem_append_left _ t)
       ·exact .inl (List.mem_append_right _ t)
     ·rw [List.mem_singleton.mp z] at hc'
      exact .inr (List.mem_append_right _ hc')
    ·intro s1 hs1
     rcases I.one s1 hs1 with t | t
     ·exact .inl (List.mem_append_left _ t)
     ·rw [h] at t
      rcases List.mem_append.mp t with t | t
      ·exact .inr (List.mem_append_left _ t)
      ·exact .inl (List.mem_append_right _ t)
    ·rw [List.length_append,List.length_singleton];omega
    ·rw [List.length_append];omega
structure LedT (H:Hp) (d du:Addr) (N:Pl->List Pl) (starts U ks due:List Pl) (H':Hp):Prop where
 ext:Ext [] H H'
 hd:H' d=some (.dT (trueD ks))
 hdu : ∃vs,H' du=some (.lst vs)/\PlsAt H' vs due
 nod:ks.Nodup
 rk : ∀x∈ks,∃s∈starts,RT N s x
 rd : ∀x∈due,∃s∈starts,RT N s x
 clo : ∀k∈ks,∀c∈N k,c∈ks\/c∈due
 one : ∀s∈starts,s∈ks\/s∈due
 fewd:due.length<=8000+8000*ks.length
def LedWT (H:Hp) (st nd d du:Addr) (N:Pl->List Pl) (starts U:List Pl) (μ : Nat) (σ':St) (H':Hp):Prop := ∃(ks due:List Pl) (o4:Option V),μ = (U.length - ks.length)*8001+due.length /\ σ' = [some (.ref st),some (.ref nd),some (.ref d),some (.ref du),o4]/\LedT H d du N starts U ks due H'
theorem LedT.end_ {H H':Hp} {d du:Addr} {N:Pl->List Pl} {starts U ks:List Pl} (h:LedT H d du N starts U ks [] H') (x:Pl):x∈ks ↔ ∃s∈starts,RT N s x:=by
 have key : ∀s∈starts,∀y,RT N s y->y∈ks:=by
  intro s hs y r
  induction r with
  | refl=>exact (h.one s hs).elim id fun z=>absurd z (by simp)
  | step _ hc ih=>exact (h.clo _ ih _ hc).elim id fun z=>absurd z (by simp)
 exact⟨h.rk x,fun ⟨s,hs,r⟩=>key s hs x r⟩
theorem qPa {f:Addr} {fd:FuncData} (F:Fun K "led_to" "led_to" sLed f fd) (nlist:mg "list" = none):FnOk P w K mg base CX0 1 f fd ["starts","nexts"] (qSw K):=by
 refine F.ok scLed (fun vs H Q E h => ?_) (fun cdv A outer s H vs Q E hr h => ?_)
 ·obtain⟨st,nd,svs,starts,U,N,rfl,_⟩:=h
  rfl
 ·obtain⟨st,nd,svs,starts,U,N,rfl,hSt,hPl,hNx,hsU,hcU,hN,hU,hsl,q⟩:=h
  have hu:=qKl hr
  refine⟨_,qA5 (qAm (i:=2) scLed.nd rfl (Or.inl rfl) qIu)
   (qA5 (qAm (i:=3) scLed.nd rfl (Or.inl rfl) (qAl qC4 (by rfl) nlist PyProof.Rows.boot_list (qA0 (pv 0) qA3)))
   (qA5 (qIq PassesOwn.never (qIp (pv 3) (fun _=>rfl))
    (qA5 (qAm (i:=4) scLed.nd rfl (Or.inl rfl) (qHr PySem.F.plainAttrs_list PySem.F.slot_list_pop PySem.F.type_list_pop qPm (pv 3)))
    (qA8 (qC6 (qJt (qGp hu (pv 4) (pv 2)))
     (qA5 (qLl hu (pv 2) (pv 4) qDa rfl)
     (qA8 (qBp (qE3 PySem.F.plainAttrs_list PySem.F.slot_list_extend PySem.F.type_list_extend qEt (pv 3) (qA0 (qMl hu (pv 1) (pv 4) (qAy qA3) ⟨rfl,rfl,rfl,rfl⟩) qA3)))))
     qB1))))
   (qA8 (qAj (pv 2))))),?_⟩
  dsimp only [qBb,qB3]
  walk_at "rd"
  refine (show ∀p,H p=none->_ from fun d hd => ?_)
  walk_at "rd"
  have E0:Ext [] H (upd H d (.dT [])) :=.laid hd
  refine⟨st,_,rfl,.inl (E0.toSame.seq hSt),fun du hdu => ?_⟩
  have nd1:d≠du:=qA2 qA1 hdu
  have hdu0:H du=none:=E0.none (by simp) hdu
  walk_at "rd"
  have st0:LedT H d du N starts U [] starts (upd (upd H d (.dT [])) du (.lst svs)):=by
   have e:Ext [] H (upd (upd H d (.dT [])) du (.lst svs)):=E0.trans (.laid hdu)
   refine⟨e,?_,⟨svs,qA1,hPl.mono e.tk⟩,List.nodup_nil,(fun _ h=>absurd h (by simp)),fun x hx=>⟨x,hx,.refl⟩,(fun _ h=>absurd h (by simp)),fun s hs =>.inr hs,by simp;omega⟩
   rw [qA4 nd1,qA1];rfl
  refine⟨LedWT H st nd d du N starts U,⟨_,[],starts,none,rfl,rfl,st0⟩,?_⟩
  rintro μ σ' H' ⟨ks,due,o4,rfl,rfl,I⟩
  obtain⟨dvs,hdu',hdp⟩:=I.hdu
  refine qLi (v :=.ref du) rfl ⟨!dvs.isEmpty,.inl ⟨_,SqL.of hdu',rfl⟩,?_⟩
  rcases List.eq_nil_or_concat due with h | ⟨init,y,h⟩
  ·subst h
   cases hdp
   refine iteF ?_
   walk_at "rd"
   exact q d ks H' hd I.ext I.hd I.nod I.end_
  ·have h:due=init ++ [y]:=by rw [h,List.concat_eq_append]
   rw [h] at hdp
   obtain⟨ws,v,rfl,hws,vb,rfl,hvb⟩:=hdp.last
   have he:(!(ws ++ [V.ref vb]).isEmpty)=true:=by simp
   rw [he]
   refine iteT ⟨fun σ' H' => ∃m',m'<(U.length - ks.length)*8001+due.length/\LedWT H st nd d du N starts U m' σ' H',fun _ _ h=>h,?_⟩
   obtain⟨s0,hs0,hyr⟩:=I.rd y (by rw [h];simp)
   have hyU:=hyr.within hcU (hsU s0 hs0)
   have hksU : ∀x∈ks,x∈U:=fun x hx=>by
    obtain⟨s1,hs1,r1⟩:=I.rk x hx
    exact r1.within hcU (hsU s1 hs1)
   have hkl:=qCj I.nod hksU
   have hdl:due.length=init.length+1:=by rw [h];simp
   have hfd:=I.fewd
   have hwl:=hws.len
   walk_at "rd"
   refine qCo hdu' ?_
   refine⟨du,ws ++ [V.ref vb],.ref vb,rfl,rfl,hdu',by simp,?_⟩
   rw [List.dropLast_concat]
   have d1:upd H' du (.lst ws) d=some (.dT (trueD ks)):=by rw [qA4 nd1];exact I.hd
   have e1:Ext [] H (upd H' du (.lst ws)):=((I.ext.mono (us :=[du]) (by simp)).trans (.put (by simp))).drop hdu0
   have u1:upd H' du (.lst ws) du=some (.lst ws):=qA1
   have tk1:TK H' (upd H' du (.lst ws)) :=.put (by intro ys z;rw [hdu'] at z;cases z)
   have hws1:=hws.mono tk1
   have hvb1:=tk1 _ _ hvb
   generalize upd H' du (.lst ws)=H1 at d1 e1 u1 tk1 hws1 hvb1 ⊢
   walk_at "rd"
   refine⟨d,_,rfl,DGet.t (k:=plK y) d1 hvb1,?_⟩
   rw [qF6]
   by_cases hy:y∈ks
   ·rw [if_pos hy]
    refine qR0 (iteF ?_)
    walk_at "rd"
    refine⟨_,by rw [hdl];exact Nat.lt_succ_self _,ks,init,_,rfl,rfl,e1,d1,⟨ws,u1,hws1⟩,I.nod,I.rk,fun x hx=>I.rd x (by rw [h];exact List.mem_append_left _ hx),fun k hk c hc' => ?_,fun s hs => ?_,by omega⟩
    ·rcases I.clo k hk c hc' with z | z
     ·exact .inl z
     ·rw [h] at z
      rcases List.mem_append.mp z with z | z
      ·exact .inr z
      ·rw [List.mem_singleton.mp z];exact .inl hy
    ·rcases I.one s hs with z | z
     ·exact .inl z
     ·rw [h] at z
      rcases List.mem_append.mp z with z | z
      ·exact .inr z
      ·rw [List.mem_singleton.mp z];exact .inl hy
   ·rw [if_neg hy]
    refine qR0 (iteT ?_)
    walk_at "rd"
    refine⟨d,_,rfl,DPut.t (k:=plK y) d1 hvb1 (qJp (by unfold trueD;rw [List.length_map];omega)),?_⟩
    have hput:putK (trueD ks) (plK y) (V.bl true)=trueD (ks ++ [y]):=by
     rw [qIo _ (by rw [qF6,if_neg hy])];unfold trueD;rw [List.map_append];rfl
    rw [hput]
    have d2:upd H1 d (.dT (trueD (ks ++ [y]))) d=some (.dT (trueD (ks ++ [y]))):=qA1
    have e2:Ext [] H (upd H1 d (.dT (trueD (ks ++ [y])))):=((e1.mono (us :=[d]) (by simp)).trans (.put (by simp))).drop hd
    have u2:upd H1 d (.dT (trueD (ks ++ [y]))) du=some (.lst ws):=by rw [qA4 nd1.symm];exact u1
    have tk2:TK H1 (upd H1 d (.dT (trueD (ks ++ [y])))) :=.put (by intro ys z;rw [d1] at z;cases z)
    have hws2:=hws1.mono tk2
    have hvb2:=tk2 _ _ hvb1
    generalize upd H1 d (.dT (trueD (ks ++ [y])))=H2 at d2 e2 u2 tk2 hws2 hvb2 ⊢
    have hNx2:=hNx.mono e2
    obtain⟨kvs,hk1,hk2⟩:=hNx2
    have hnod:(ks ++ [y]).Nodup:=by
     rw [List.nodup_append]
     refine⟨I.nod,by simp,fun x hx z hz => ?_⟩
     rw [List.mem_singleton.mp hz]
     rintro rfl
     exact hy hx
    have hkl2:=qCj (l2:=U) hnod fun x hx=>by
     rcases List.mem_append.mp hx with z | z
     ·exact hksU x z
     ·rw [List.mem_singleton.mp z];exact hyU
    rw [List.length_append,List.length_singleton] at hkl2
    have hNy:=hN y
    walk_at "rd"
    refine qCo u2 ?_
    walk_at "rd"
    refine⟨nd,rfl,.inr ⟨kvs,.inl hk1⟩,?_⟩
    walk_at "rd"
    refine⟨len2 (Nat.zero_le _),fun e0 he0 => ?_⟩
    have e3:Ext [] H2 (upd H2 e0 (.lst [])) :=.laid he0
    have u3:=e3 _ _ (by simp) u2
    have d3:=e3 _ _ (by simp) d2
    have hws3:=hws2.mono e3.tk
    have EE:Ext [] H (upd H2 e0 (.lst [])):=e2.trans e3
    have he03:upd H2 e0 (.lst []) e0=some (.lst []):=qA1
    have fin : ∀(c:Addr) (cvs:List V) (H3:Hp),H3=upd H2 e0 (.lst [])->H3 c=some (.lst cvs)->PlsAt H3 cvs (N y) -> ∀R:St->Hp->Prop,(∀ σ' H',(∃m',m'<(U.length - ks.length)*8001+due.length/\LedWT H st nd d du N starts U m' σ' H')->R σ' H') -> ∀o4:Option V,
      qOw (.ref du) [.ref c] H3 (fun _ H4=>R [some (.ref st),some (.ref nd),some (.ref d),some (.ref du),o4] H4):=by
     rintro c cvs H3 rfl hc hcp R hR o4
     have hcl:=hcp.len
     refine⟨du,c,ws,cvs,rfl,rfl,u3,hc,by rw [sizeLine_eq];omega,hR _ _ ?_⟩
     have tk4:TK (upd H2 e0 (.lst [])) (upd (upd H2 e0 (.lst [])) du (.lst (ws++cvs))) :=.put (by intro ys z;rw [u3] at z;cases z)
     refine⟨_,?_,ks ++ [y],init++N y,_,rfl,rfl,?_,?_,⟨ws++cvs,qA1,(hws3.append hcp).mono tk4⟩,hnod,?_,?_,?_,?_,?_⟩
     ·rw [List.length_append,List.length_append,List.length_singleton];omega
     ·exact ((EE.mono (us :=[du]) (by simp)).trans (.put (by simp))).drop hdu0
     ·rw [qA4 nd1];exact d3
     ·intro x hx
      rcases List.mem_append.mp hx with z | z
      ·exact I.rk x z
      ·rw [List.mem_singleton.mp z];exact⟨s0,hs0,hyr⟩
     ·intro x hx
      rcases List.mem_append.mp hx with z | z
      ·exact I.rd x (by rw [h];exact List.mem_append_left _ z)
      ·exact⟨s0,hs0,.step hyr z⟩
     ·intro k hk c' hc'
      rcases List.mem_append.mp hk with z | z
      ·rcases I.clo k z c' hc' with t | t
       ·exact .inl (List.mem_append_left _ t)
       ·rw [h] at t
        rcases List.mem_append.mp t with t | t
        ·exact .inr (List.mem_append_left _ t)
        ·exact .inl (List.mem_append_right _ t)
      ·rw [List.mem_singleton.mp z] at hc'
       exact .inr (List.mem_append_right _ hc')
     ·intro s hs
      rcases I.one s hs with t | t
      ·exact .inl (List.mem_append_left _ t)
      ·rw [h] at t
       rcases List.mem_append.mp t with t | t
       ·exact .inr (List.mem_append_left _ t)
       ·exact .inl (List.mem_append_right _ t)
     ·rw [List.length_append,List.length_append,List.length_singleton];omega
    have hvb3:=e3.tk _ _ hvb2
    rcases hk2 y with ⟨z1,z2⟩ | ⟨c,cvs,c1,c2,c3⟩
    ·refine⟨none,?_,?_⟩
     ·have:=DGet.t (k:=plK y) (e3 _ _ (by simp) hk1) hvb3
      rw [z1] at this
      exact this
     walk_at "rd"
     exact fin e0 [] _ rfl he03 (by rw [z2];exact .nil) _ (fun _ _ z=>z) _
    ·refine⟨some (.ref c),?_,?_⟩
     ·have:=DGet.t (k:=plK y) (e3 _ _ (by simp) hk1) hvb3
      rw [c1] at this
      exact this
     walk_at "rd"
     exact fin c cvs _ rfl (e3 _ _ (by simp) c2) (c3.mono e3.tk) _ (fun _ _ z=>z) _
theorem qUf {f:Addr} {fd:FuncData} (F:Fun K "led_to" "led_to" sLed f fd) (nlist:mg "list" = none):FnOk P w K mg base CX0 1 f fd ["starts","nexts"] (qMg K) :=
 ⟨fun vs H Q E h=>h.elim ((qPb (P:=P) (w:=w) (base:=base) F nlist).len vs H Q E) ((qPa (P:=P) (w:=w) (base:=base) F nlist).len vs H Q E),
   fun A outer s H args us vs Q E hr h1 h2 h3 h=>h.elim ((qPb F nlist).run A outer s H args us vs Q E hr h1 h2 h3) ((qPa F nlist).run A outer s H args us vs Q E hr h1 h2 h3)⟩
end
section
variable {P:Program} {w:World} {K:PySem.W.Frag} {mg:Str->Option Value} {base:Heap}
abbrev qF8:Stmt:=top 10
abbrev qHg:Stmt:=top 11
theorem qRa:FnScope ["deed","box"] ["deed","box"] (qA7 qF8):=⟨rfl,rfl,rfl,by decide +kernel,rfl,by decide +kernel,by decide +kernel⟩
theorem qTr:FnScope ["deed","box"] ["deed","box"] (qA7 qHg):=⟨rfl,rfl,rfl,by decide +kernel,rfl,by decide +kernel,by decide +kernel⟩
theorem qJs {ta tb:TE} {σ : St} {H:Hp} {Q:VK} (h:ta σ H fun x H1 => ∃c,x = .bl c/\if c=true then tb σ H1 Q else Q (.bl false) H1):tAndV ta tb σ H Q:=h
theorem qWp {ta tb:TE} {σ : St} {H:Hp} {Q:VK} (h:ta σ H fun x H1 => ∃c,x = .bl c/\if c=true then Q (.bl true) H1 else tb σ H1 Q):tOrV ta tb σ H Q:=h
theorem qD0 {K:PySem.W.Frag} {H:Hp} {d:Deed} {v:V} (h:Den K H (deedD d) v) : ∃p,v = .ref p/\SqT K H p (V.str (dword d)::(dargs d).map V.int):=by
 rw [deed_is] at h
 obtain⟨p,ps,rfl,hp,hps⟩:=h.ofTuple
 obtain⟨v1,q1,rfl,hv1,hq1⟩:=hps.ofCons
 have z1:=hv1.ofStr
 have z2:=hq1.ints
 subst z1 z2
 exact⟨p,rfl,hp⟩
theorem qI6 (d:Deed):atI (V.str (dword d)::(dargs d).map V.int) ((1:Nat):Int)=some (V.int (darg d)):=by
 obtain⟨r,hr⟩:=qO1 d
 rw [hr]
 exact qAq rfl
theorem qP7 {f wa:Addr} {fd:FuncData} (F:Fun K "writes_box" "writes_box" qF8 f fd) (hWr:mg "WRITING" = some (.ref wa)) (hWt:Writing K wa):FnOk P w K mg base CX0 1 f fd ["deed","box"] (qCf wrB K):=by
 refine F.ok qRa (fun vs H Q E h => ?_) (fun cdv A outer s H vs Q E hr h => ?_)
 ·obtain⟨v,d,x,rfl,_⟩:=h
  rfl
 ·obtain⟨v,d,x,rfl,hd,q⟩:=h
  refine⟨_,qA8 (qAj (qGo (qBf qCh (qAr qCw (pv 0) qA6 (fun _ _=>rfl)) (qLo (v :=.ref wa) rfl hWr rfl) rfl) (qFs (qBf qDb (qAr qCw (pv 0) qA6 (fun _ _=>rfl)) (pv 1) (qAt _))))),?_⟩
  dsimp only [qBb]
  obtain⟨p,rfl,hp⟩:=qD0 hd
  walk_at "rd"
  refine qJs ?_
  walk_at "rd"
  refine qCp hp (show atI _ ((0:Nat):Int)=some (V.str (dword d)) from qAq rfl) ?_
  walk_at "rd"
  refine⟨wa,[V.str "set",.str "add"],rfl,.inr (.inr hWt),rfl,rfl,?_⟩
  rw [if_neg Bool.false_ne_true,deed_in]
  refine⟨_,rfl,?_⟩
  have hq:=q H (.refl _ _)
  unfold wrB at hq
  cases hw:(wr d).isSome with
  | true =>
   rw [hw] at hq
   refine iteT ?_
   walk_at "rd"
   refine qCp hp (qI6 d) ?_
   walk_at "rd"
   exact qE2 hq
  | false =>
   rw [hw] at hq
   exact iteF hq
theorem qRw {f wa:Addr} {fd:FuncData} (F:Fun K "reads_box" "reads_box" qHg f fd) (hWr:mg "READING" = some (.ref wa)) (hWt:qQx K wa):FnOk P w K mg base CX0 1 f fd ["deed","box"] (qCf rdB K):=by
 refine F.ok qTr (fun vs H Q E h => ?_) (fun cdv A outer s H vs Q E hr h => ?_)
 ·obtain⟨v,d,x,rfl,_⟩:=h
  rfl
 ·obtain⟨v,d,x,rfl,hd,q⟩:=h
  refine⟨_,qA8 (qAj (qGo (qBf qCh (qAr qCw (pv 0) qA6 (fun _ _=>rfl)) (qLo (v :=.ref wa) rfl hWr rfl) rfl) (qFs (qBf qCh (pv 1) (qC0 qJr (pv 0) (qCq qA6) qCr) rfl)))),?_⟩
  dsimp only [qBb]
  obtain⟨p,rfl,hp⟩:=qD0 hd
  walk_at "rd"
  refine qJs ?_
  walk_at "rd"
  refine qCp hp (show atI _ ((0:Nat):Int)=some (V.str (dword d)) from qAq rfl) ?_
  walk_at "rd"
  refine⟨wa,[V.str "add",.str "tell"],rfl,.inr (.inr hWt),rfl,rfl,?_⟩
  rw [if_neg Bool.false_ne_true,qQc]
  refine⟨_,rfl,?_⟩
  cases hw:qMy d with
  | true =>
   refine iteT ?_
   walk_at "rd"
   refine⟨1,rfl,?_⟩
   walk_at "rd"
   refine⟨p,_,rfl,hp,?_,fun p2 hp2 => ?_⟩
   ·intro h
    have:=h.1
    revert this
    have hn:(V.str (dword d)::(dargs d).map V.int).length=(dargs d).length+1:=by simp
    have:=(qKp d).1
    rw [hn]
    unfold HT.sIx
    simp
    try omega
   rw [cut1]
   refine⟨p2,(dargs d).map V.int,rfl,.inr (SqT.of qA1),rfl,qCy _,?_⟩
   rw [if_neg Bool.false_ne_true,qE0]
   have hq:=q _ (Ext.laid (o :=.tup ((dargs d).map V.int)) hp2)
   unfold rdB at hq
   rw [hw] at hq
   exact hq
  | false =>
   have hq:=q H (.refl _ _)
   unfold rdB at hq
   rw [hw] at hq
   exact iteF hq
end
section
variable {P:Program} {w:World} {K:PySem.W.Frag} {mg:Str->Option Value} {base:Heap}
theorem qSh (xs:List V) (n:Nat):cutV xs none (some (n:Int))=xs.take n:=by
 unfold cutV
 rw [HT.sIx_none,HT.sIx_nat,List.drop_zero,Nat.sub_zero]
 by_cases h:n<=xs.length
 ·rw [Nat.min_eq_left h]
 ·rw [Nat.min_eq_right (by omega),List.take_of_length_le (Nat.le_refl _),List.take_of_length_le (by omega)]
theorem DenL.taken {K:PySem.W.Frag} {G:Hp} : ∀ {ds:List PyData} {vs:List V} (n:Nat),DenL K G ds vs->DenL K G (ds.take n) (vs.take n)
 | [],vs,n,h=>by have:=h.ofNil;subst this;simpa using DenL.nil
 | d::ds,vs,0,h=>by simpa using DenL.nil
 | d::ds,vs,n+1,h=>by
  obtain⟨v,r,rfl,h1,h2⟩:=h.ofCons
  exact .cons h1 (DenL.taken n h2)
def qMe (K:PySem.W.Frag):Sp:=fun vs H Q _ => ∃(v:V) (ds:List Deed) (x:Int),vs = [v,.int x]/\Den K H (.list (ds.map deedD)) v/\ds.length<=100 /\
 ∀(l:Addr) (us:List V) (H':Hp),H l=none->Ext [] H H'->H' l=some (.lst us)->DenL K H' ((till x ds).map deedD) us->Q (.ref l) H'
abbrev sTill:Stmt:=top 12
theorem scTill:FnScope ["deeds","box","at","deed"] ["deeds","box"] (qA7 sTill):=⟨rfl,rfl,rfl,by decide +kernel,rfl,by decide +kernel,by decide +kernel⟩
theorem qUa {f:Addr} {fd:FuncData} (F:Fun K "till_write" "till_write" sTill f fd) (nenum:mg "enumerate" = none) (nlist:mg "list" = none) (hWr:Has P w K mg base "writes_box" 1 ["deed","box"] (qCf wrB K)):FnOk P w K mg base CX0 2 f fd ["deeds","box"] (qMe K):=by
 refine F.ok scTill (fun vs H Q E h => ?_) (fun cdv A outer s H vs Q E hr h => ?_)
 ·obtain⟨v,ds,x,rfl,_⟩:=h
  rfl
 ·obtain⟨v,ds,x,rfl,hd,hl,q⟩:=h
  refine⟨_,qA5 (qC1 PassesOwn.never rfl (qEh rfl nenum (qA0 (pv 0) qA3)) (qE4 (n:=2) rfl (qAc (qA9 (i:=2) scTill.nd rfl (Or.inl rfl)) (qAc (qA9 (i:=3) scTill.nd rfl (Or.inl rfl)) qB9)))
    (qA8 (qC6 (qAx K rfl (qAk hWr hr (by decide) (qA0 (pv 3) (qA0 (pv 1) qA3))) (fun _=>rfl)) (qA8 (qAj (qC0 qIk (pv 0) qCr (qCq (qAs qB5 (pv 2) qA6))))) qB1)))
   (qA8 (qAj (qAl qC4 (by rfl) nlist PyProof.Rows.boot_list (qA0 (pv 0) qA3)))),?_⟩
  dsimp only [qBb,qB3]
  obtain⟨a,dvs,rfl,hSq,hDL⟩:=hd.ofList
  have hvl:dvs.length=ds.length:=by rw [hDL.len,List.length_map]
  walk_at "rd"
  refine⟨a,rfl,⟨dvs,hSq⟩,qN0 (xs:=dvs) (fun i σ' H' => ∃(o2 o3:Option V),σ' = [some (.ref a),some (.int x),o2,o3]/\Ext [] H H' /\ ∀e∈ds.take i,wrB x e=false) ?_ ?_ ?_ ?_⟩
  ·exact⟨_,_,rfl,.refl _ _,by simp⟩
  ·rintro i σ' H' hi ⟨o2,o3,rfl,e',hno⟩
   exact e'.toSame.seq hSq
  ·rintro i y σ' H' pt hy ⟨o2,o3,rfl,e',hno⟩ hpt
   obtain⟨dd,hdd,hDy⟩:=hDL.get hy
   obtain⟨d,hd,rfl⟩:=qAg hdd
   have hi:i<ds.length:=(List.getElem?_eq_some_iff.mp hd).1
   have e2:Ext [] H' (upd H' pt (.tup [.int i,y])) :=.laid hpt
   refine qBy (SqT.of qA1) rfl ?_
   have E2:=e'.trans e2
   generalize upd H' pt (.tup [.int i,y])=H2 at e2 E2 ⊢
   walk_at "rd"
   refine⟨y,d,x,rfl,hDy.mono E2.toSame,fun H3 e3 => ?_⟩
   refine⟨wrB x d,rfl,?_⟩
   cases hw:wrB x d with
   | true =>
    refine iteT ?_
    walk_at "rd"
    refine⟨(i:Int)+1,rfl,?_⟩
    refine⟨a,dvs,rfl,(E2.trans e3).toSame.seq hSq,fun l hl => ?_⟩
    rw [show (i:Int)+1=((i+1:Nat):Int) by omega,qSh]
    have E3:=E2.trans e3
    refine q l _ _ (E3.none (by simp) hl) (E3.trans (.laid hl)) qA1 ?_
    rw [qH8 hno hd hw,List.map_take]
    exact DenL.taken _ (hDL.mono (E3.trans (.laid hl)).toSame)
   | false =>
    refine iteF ?_
    walk_at "rd"
    refine⟨_,_,rfl,E2.trans e3,fun e he => ?_⟩
    rw [qAu hd] at he
    rcases List.mem_append.mp he with z | z
    ·exact hno e z
    ·rw [List.mem_singleton.mp z];exact hw
  ·rintro σ' H' ⟨o2,o3,rfl,e',hno⟩
   rw [hvl,List.take_length] at hno
   walk_at "rd"
   refine⟨a,dvs,rfl,.inl (e'.toSame.seq hSq),fun l hl => ?_⟩
   refine q l _ _ (e'.none (by simp) hl) (e'.trans (.laid hl)) qA1 ?_
   rw [qJh hno]
   exact hDL.mono (e'.trans (.laid hl)).toSame
end
section
variable {P:Program} {w:World} {K:PySem.W.Frag} {mg:Str->Option Value} {base:Heap}
abbrev qFg:Stmt:=top 14
theorem scBegins:FnScope ["works","number","at","box","deeds","end","met"] ["works","number","at","box"] (qA7 qFg):=⟨rfl,rfl,rfl,by decide +kernel,rfl,by decide +kernel,by decide +kernel⟩
theorem qN1 {m:Int} {ns:List Int} (h:NsOk m ns) : ∃wd:Str,endD ns = .tuple (.str wd::ns.map .int)/\True:=by
 rcases h with z | ⟨x,z,_⟩ | ⟨x,y,z,_⟩ <;> subst z
 ·exact⟨_,rfl,True.intro⟩
 ·exact⟨_,rfl,True.intro⟩
 ·exact⟨_,rfl,True.intro⟩
theorem qMn {H:Hp} {wa:Addr} {ws:List (List Blk)} {n a:Nat} {b:Blk} (hW:Den K H (qC7 ws) (.ref wa)) (hb:blkAt ws ((n:Int),(a:Int))=some b) :
  ∃(vs bs:List V) (wb pb:Addr) (dl:Addr) (dvs:List V) (ve:V),SqL K H wa vs/\atI vs (n:Int)=some (.ref wb)/\SqL K H wb bs/\atI bs (a:Int)=some (.ref pb)/\SqT K H pb [.ref dl,ve]/\SqL K H dl dvs/\DenL K H (b.ds.map deedD) dvs/\Den K H (endD b.ns) ve:=by
 rw [qCi] at hb
 cases hw:ws[n]? with
 | none=>rw [hw] at hb;cases hb
 | some w1 =>
  rw [hw] at hb
  have hb:w1[a]? = some b:=hb
  obtain⟨wa',vs,ea,hvs,hdvs⟩:=hW.ofList
  cases ea
  obtain⟨v1,hv1,hd1⟩:=hdvs.get' (i:=n) (d:=workD w1) (by rw [List.getElem?_map,hw];rfl)
  obtain⟨wb,bs,rfl,hbs,hdbs⟩:=hd1.ofList
  obtain⟨v2,hv2,hd2⟩:=hdbs.get' (i:=a) (d:=blkD b) (by rw [List.getElem?_map,hb];rfl)
  obtain⟨pb,cs,rfl,hc,hcs⟩:=hd2.ofTuple
  obtain⟨vd,q1,rfl,hdd,hr1⟩:=hcs.ofCons
  obtain⟨ve,q2,rfl,hde,hr2⟩:=hr1.ofCons
  have hr2:=hr2.ofNil
  subst hr2
  obtain⟨dl,dvs,rfl,hdl,hdd2⟩:=hdd.ofList
  exact⟨vs,bs,wb,pb,dl,dvs,ve,hvs,qAq hv1,hbs,qAq hv2,hc,hdl,hdd2,hde⟩
theorem qPh {f:Addr} {fd:FuncData} (F:Fun K "begins_met" "begins_met" qFg f fd) (nany:mg "any" = none) (hTw:Has P w K mg base "till_write" 2 ["deeds","box"] (qMe K)) (hWr:Has P w K mg base "writes_box" 1 ["deed","box"] (qCf wrB K)):FnOk P w K mg base CX0 3 f fd ["works","number","at","box"] (qIi K):=by
 refine F.ok scBegins (fun vs H Q E h => ?_) (fun cdv A outer s H vs Q E hr h => ?_)
 ·obtain⟨wa,ws,n,b,x,rfl,_⟩:=h
  rfl
 ·obtain⟨wa,ws,n,a,x,rfl,hW,hok,hpl,q⟩:=h
  refine⟨_,qA5 (qJu (qAr qAi (qAr qAi (pv 0) (pv 1) (fun _ _=>rfl)) (pv 2) (fun _ _=>rfl)) (qE4 (n:=2) rfl (qAc (qA9 (i:=4) scBegins.nd rfl (Or.inl rfl)) (qAc (qA9 (i:=5) scBegins.nd rfl (Or.inl rfl)) qB9))))
   (qA5 (qRn (i:=6) ["deed"] [] rfl (.of rfl) scBegins.nd rfl (Or.inl rfl) (qAo (qAk hTw hr (by decide) (qA0 (pv 4) (qA0 (pv 3) qA3)))) (fun _ _ _ _=>qA9 (i:=0) (by show ((["deed"]:List Str)).Nodup;decide) rfl (Or.inl rfl)) (fun _ _ _ _ =>.cons (qAn qDb (qAr (qDh K rfl) (pv 0) qA6 (fun _ _=>rfl)) qCg (qAt _)) .nil) (fun _ _ _ _=>qBe (qA0 (qAr (qDh K rfl) (pv 0) qA6 (fun _ _=>rfl)) (qA0 qA6 qA3))))
   (qA5 (qC6 (qGl (qAx K rfl (qAb (qH3 hr.hd) (by rfl) nany PyProof.Rows.boot_any (qA0 (qBx ["deed"] [3] rfl (.of rfl) (qAo (pv 4)) (fun _ _ _ _=>qA9 (i:=0) (by show ((["deed","box"]:List Str)).Nodup;decide) rfl (Or.inl rfl)) (fun _ _ _ _ =>.nil) (fun _ _ _ _=>qAk hWr hr (by decide) (qA0 (pv 0) (qA0 (pv 1) qA3)))) qA3)) (fun _=>rfl)))
    (qA8 (qBp (qE3 PySem.F.plainAttrs_list PySem.F.slot_list_extend PySem.F.type_list_extend qEt (pv 6) (qA0 (qBx ["to"] [1] rfl (.of rfl) (qT2 (qC0 qJr (pv 5) (qCq qA6) qCr)) (fun _ _ _ _=>qA9 (i:=0) (by show ((["to","number"]:List Str)).Nodup;decide) rfl (Or.inl rfl)) (fun _ _ _ _ =>.nil) (fun _ _ _ _=>qBe (qA0 (pv 1) (qA0 (pv 0) qA3)))) qA3)))) qB1)
   (qA8 (qAj (pv 6))))),?_⟩
  dsimp only [qBb,qB3]
  obtain⟨b,hb⟩:=mem_places.mp hpl
  obtain⟨m,n',w1,hp1,hw1,hm,hm1,hm2,hbok⟩:=hok.blk hb
  obtain⟨vs,bs,wb,pb,dl,dvs,ve,s1,s2,s3,s4,s5,s6,s7,s8⟩:=qMn hW hb
  walk_at "rd"
  refine qBl s1 s2 ?_
  walk_at "rd"
  refine qBl s3 s4 ?_
  refine qBy s5 rfl ?_
  walk_at "rd"
  have hds:=hbok.few
  refine⟨.ref dl,b.ds,x,rfl,.list s6 s7,by omega,fun lt tvs H1 hlt e1 hlt1 hden1 => ?_⟩
  have htl:tvs.length=(till x b.ds).length:=by rw [hden1.len,List.length_map]
  have htl2:=qDp x b.ds
  refine⟨lt,rfl,⟨_,SqL.of hlt1⟩,fun l hl => ?_⟩
  have nltl:lt≠l:=qA2 hlt1 hl
  refine qAf (xs:=tvs) (fun j σ' G => ∃(o0:Option V) (us:List V),σ' = [o0]/\Ext [l] H1 G/\G l=some (.lst us)/\PlsAt G us ((((till x b.ds).take j).filterMap qC5).map fun c=>(c,0))) ?_ ?_ ?_ ?_
  ·exact⟨none,[],rfl,.laid hl,qA1,.nil⟩
  ·rintro j σ' G hj ⟨o0,us,rfl,eG,hlG,hus⟩
   exact SqL.of (eG _ _ (by simpa using nltl) hlt1)
  ·rintro j y σ' G R hy ⟨o0,us,rfl,eG,hlG,hus⟩ hR
   obtain⟨dd,hdd,hDy⟩:=hden1.get hy
   obtain⟨d,hd,rfl⟩:=qAg hdd
   obtain⟨p,rfl,hp⟩:=qD0 hDy
   have hpG:=(eG.drop hl).toSame.seqT hp
   have hjl:j<(till x b.ds).length:=(List.getElem?_eq_some_iff.mp hd).1
   have hul:=hus.len
   have hfl:=List.length_filterMap_le qC5 ((till x b.ds).take j)
   rw [List.length_take] at hfl
   rw [List.length_map] at hul
   have htake:((till x b.ds).take (j+1)).filterMap qC5=((till x b.ds).take j).filterMap qC5 ++ [d].filterMap qC5:=by rw [qAu hd,List.filterMap_append]
   walk_at "rd"
   refine qCp hpG (show atI _ ((0:Nat):Int)=some (V.str (dword d)) from qAq rfl) ?_
   walk_at "rd"
   refine qRj ?_
   rw [qKo]
   walk_at "rd"
   cases hw:qHz d with
   | true =>
    refine iteT (iteT ?_)
    walk_at "rd"
    refine qCp hpG (qI6 d) ?_
    walk_at "rd"
    refine⟨len2 (by show 2<=1000;decide),fun p2 hp2 => ?_⟩
    have np2:p2≠l:=(qA2 hlG hp2).symm
    have tk:TK G (upd (upd G p2 (.tup [.int (darg d),.int 0])) l (.lst (us ++ [.ref p2]))):=(Ext.laid hp2).tk.trans (.put (by intro ys z;rw [qA4 np2.symm,hlG] at z;cases z))
    refine⟨us,by rw [qA4 np2.symm];exact hlG,qAa (by omega),hR _ _ ⟨_,us ++ [.ref p2],rfl,eG.trans ((Ext.laid hp2).trans (.put (by simp))),qA1,?_⟩⟩
    rw [htake,List.filterMap_cons,qQk d hw,List.map_append]
    exact (hus.mono tk).append (.one (by rw [qA4 np2,qA1]))
   | false =>
    refine iteF (iteF (hR _ _ ⟨_,us,rfl,eG,hlG,?_⟩))
    have hn:qC5 d=none:=by
     unfold qHz at hw
     cases z:qC5 d with
     | none=>rfl
     | some y=>rw [z] at hw;cases hw
    rw [htake,List.filterMap_cons,hn,List.filterMap_nil,List.append_nil]
    exact hus
  ·rintro σ' G ⟨o0,us,rfl,eG,hlG,hus⟩
   rw [htl,List.take_length] at hus
   have EG:Ext [] H G:=e1.trans (eG.drop hl)
   have hlH:H l=none:=e1.none (by simp) hl
   have hul:=hus.len
   have hfl:=List.length_filterMap_le qC5 (till x b.ds)
   rw [List.length_map] at hul
   walk_at "rd"
   have s6G:=EG.toSame.seq s6
   refine⟨dl,rfl,⟨_,s6G⟩,fun lc hlc => ?_⟩
   have nlc:l≠lc:=qA2 hlG hlc
   refine qAf (xs:=dvs) (fun j σ' G2 => ∃(o0:Option V),σ' = [o0,some (.int x)]/\Ext [lc] G G2/\G2 lc=some (.lst (((b.ds.take j).map (wrB x)).map V.bl))) ?_ ?_ ?_ ?_
   ·exact⟨none,rfl,.laid hlc,qA1⟩
   ·rintro j σ' G2 hj ⟨o0,rfl,e2,hlc2⟩
    exact (e2.drop hlc).toSame.seq s6G
   ·rintro j y σ' G2 R hy ⟨o0,rfl,e2,hlc2⟩ hR
    obtain⟨dd,hdd,hDy⟩:=s7.get hy
    obtain⟨d,hd,rfl⟩:=qAg hdd
    have hjl:j<b.ds.length:=(List.getElem?_eq_some_iff.mp hd).1
    walk_at "rd"
    refine iteT ?_
    walk_at "rd"
    refine⟨y,d,x,rfl,hDy.mono (EG.trans (e2.drop hlc)).toSame,fun H3 e3 => ?_⟩
    refine⟨_,e3 _ _ (by simp) hlc2,qAa (by rw [List.length_map,List.length_map,List.length_take];omega),hR _ _ ⟨_,rfl,e2.trans ((e3.mono (by simp)).trans (.put (by simp))),?_⟩⟩
    rw [qA1,qAu hd,List.map_append,List.map_append];rfl
   ·rintro σ' G2 ⟨o0,rfl,e2,hlc2⟩
    have hdvl:dvs.length=b.ds.length:=by rw [s7.len,List.length_map]
    rw [hdvl,List.take_length] at hlc2
    walk_at "rd"
    refine⟨lc,b.ds.map (wrB x),rfl,SqL.of hlc2,?_⟩
    refine⟨wrote x b.ds,?_,?_⟩
    ·have e:(b.ds.map (wrB x)).any id=wrote x b.ds:=by unfold wrote;rw [List.any_map];rfl
     rw [e];rfl
    have EG2:Ext [] G G2:=e2.drop hlc
    have hl2:=EG2 _ _ (by simp) hlG
    have hus2:=hus.mono EG2.tk
    have hmet:metOf ws x ((n:Int),(a:Int))=metB x n b:=by unfold metOf;rw [hb]
    cases hw:wrote x b.ds with
    | true =>
     refine iteF ?_
     walk_at "rd"
     refine q l us G2 hlH (EG.trans EG2) hl2 ?_
     rw [hmet]
     unfold metB
     rw [hw,if_pos rfl,List.append_nil]
     exact hus2
    | false =>
     refine iteT ?_
     walk_at "rd"
     refine qCo hl2 ?_
     walk_at "rd"
     obtain⟨wd,hwd,_⟩:=qN1 hbok.ns
     rw [hwd] at s8
     obtain⟨en,es',rfl,hen,hes⟩:=s8.ofTuple
     obtain⟨v3,r3,rfl,hd3,hr3⟩:=hes.ofCons
     have e3:=hd3.ofStr
     subst e3
     have e4:=hr3.ints
     subst e4
     have hnf:=hbok.ns.few
     refine⟨1,rfl,?_⟩
     walk_at "rd"
     refine⟨en,_,rfl,(EG.trans EG2).toSame.seqT hen,?_,fun p hp => ?_⟩
     ·intro h
      have:=h.1
      revert this
      have hn:(V.str wd::b.ns.map V.int).length=b.ns.length+1:=by simp
      rw [hn]
      unfold HT.sIx
      simp
      try omega
     rw [cut1]
     have e3:Ext [] G2 (upd G2 p (.tup (b.ns.map V.int))) :=.laid hp
     have hl3:=e3 _ _ (by simp) hl2
     have hus3:=hus2.mono e3.tk
     have hp3:upd G2 p (.tup (b.ns.map V.int)) p=some (.tup (b.ns.map V.int)):=qA1
     generalize upd G2 p (.tup (b.ns.map V.int))=G3 at e3 hl3 hus3 hp3 ⊢
     refine⟨p,rfl,⟨_,SqT.of hp3⟩,fun le hle => ?_⟩
     have npl:p≠le:=qA2 hp3 hle
     have nle:l≠le:=qA2 hl3 hle
     refine qMr (xs:=b.ns.map V.int) (fun j σ' G4 => ∃(o0:Option V) (ts:List V),σ' = [o0,some (.int n)]/\Ext [le] G3 G4/\G4 le=some (.lst ts)/\PlsAt G4 ts ((b.ns.take j).map fun t=>((n:Int),t))) ?_ ?_ ?_ ?_
     ·exact⟨none,[],rfl,.laid hle,qA1,.nil⟩
     ·rintro j σ' G4 hj ⟨o0,ts,rfl,e4,hle4,hts⟩
      exact SqT.of (e4 _ _ (by simpa using npl) hp3)
     ·rintro j y σ' G4 R hy ⟨o0,ts,rfl,e4,hle4,hts⟩ hR
      obtain⟨t,ht,rfl⟩:=qAg hy
      have hj:j<b.ns.length:=(List.getElem?_eq_some_iff.mp ht).1
      have htl:=hts.len
      rw [List.length_map,List.length_take] at htl
      walk_at "rd"
      refine iteT ?_
      walk_at "rd"
      refine⟨len2 (by show 2<=1000;decide),fun p2 hp2 => ?_⟩
      have np2:p2≠le:=(qA2 hle4 hp2).symm
      have tk:TK G4 (upd (upd G4 p2 (.tup [.int n,.int t])) le (.lst (ts ++ [.ref p2]))):=(Ext.laid hp2).tk.trans (.put (by intro ys z;rw [qA4 np2.symm,hle4] at z;cases z))
      refine⟨ts,by rw [qA4 np2.symm];exact hle4,qAa (by omega),hR _ _ ⟨_,ts ++ [.ref p2],rfl,e4.trans ((Ext.laid hp2).trans (.put (by simp))),qA1,?_⟩⟩
      rw [qAu ht,List.map_append]
      exact (hts.mono tk).append (.one (by rw [qA4 np2,qA1]))
     ·rintro σ' G4 ⟨o0,ts,rfl,e4,hle4,hts⟩
      rw [List.length_map,List.take_length] at hts
      have htl:=hts.len
      rw [List.length_map] at htl
      have EG4:=e4.drop hle
      have hl4:=EG4 _ _ (by simp) hl3
      walk_at "rd"
      refine⟨l,le,us,ts,rfl,rfl,hl4,hle4,len2 (by omega),?_⟩
      walk_at "rd"
      have tk:TK G4 (upd G4 l (.lst (us++ts))) :=.put (by intro ys z;rw [hl4] at z;cases z)
      refine q l (us++ts) _ hlH ?_ qA1 ?_
      ·exact ((((EG.trans EG2).trans (e3.trans EG4)).mono (us :=[l]) (by simp)).trans (.put (by simp))).drop hlH
      ·rw [hmet]
       unfold metB
       rw [hw,if_neg Bool.false_ne_true]
       exact ((hus3.mono EG4.tk).append hts).mono tk
end
section
variable {P:Program} {w:World} {K:PySem.W.Frag} {mg:Str->Option Value} {base:Heap}
def qB2 (ws:List (List Blk)) (n:Nat):List Pl:=(List.range n).flatMap fun (n:Nat)=>(List.range ((ws[n]?).getD []).length).map fun (a:Nat)=>((n:Int),(a:Int))
theorem qIs {ws:List (List Blk)} {n:Nat} {w:List Blk} (h:ws[n]? = some w):qB2 ws (n+1)=qB2 ws n++(List.range w.length).map fun (a:Nat)=>((n:Int),(a:Int)):=by
 unfold qB2
 rw [List.range_succ,List.flatMap_append]
 simp [h]
theorem qRg (n a:Nat):((List.range (a+1)).map fun (a:Nat)=>((n:Int),(a:Int)))=((List.range a).map fun (a:Nat)=>((n:Int),(a:Int))) ++ [((n:Int),(a:Int))]:=by
 rw [List.range_succ,List.map_append];rfl
theorem qV8 {t u:TS} {D:Ends} {σ : St} {H:Hp} (C:St->Hp->Prop) (h2 : ∀ σ' H',C σ' H'->u D σ' H') (h1:(∀ σ' H',C σ' H'->u D σ' H')->t { D with nx:=u D } σ H):tSeq t u D σ H:=h1 h2
theorem qWx {td ty tx:TE} {σ : St} {H:Hp} {Q:VK} (h:td σ H fun x H1 => ∃a,x = .ref a/\IsD H1 a/\ty σ H1 fun y H2=>tx σ H2 fun z H3 => ∃kvs k b,y = .ref b/\H3 a=some (.dT kvs)/\H3 b=some (.tup (k.map kV))/\kvs.length<sizeLine /\
 (∀v,valV kvs k=some v->Q v H3)/\(valV kvs k=none->Q z (upd H3 a (.dT (putK kvs k z))))):qSs td ty tx σ H Q:=h
theorem qSf (ws:List (List Blk)) (n a:Nat) (hn:n<ws.length):(qB2 ws n++(List.range a).map fun (a:Nat)=>((n:Int),(a:Int))).Nodup:=by
 have row : ∀(k l:Nat),((List.range l).map fun (a:Nat)=>((k:Int),(a:Int))).Nodup:=fun k l=>List.Pairwise.map _ (fun x y h z=>h (by have:=(Prod.mk.inj z).2;omega)) List.nodup_range
 have fst : ∀(k:Nat) (p:Pl),p∈qB2 ws k->p.1<(k:Int):=fun k p hp=>by
  obtain⟨j,hj,h⟩:=List.mem_flatMap.mp hp
  obtain⟨b,_,rfl⟩:=List.mem_map.mp h
  have:=List.mem_range.mp hj
  show (j:Int)<k
  omega
 have all : ∀k:Nat,(qB2 ws k).Nodup:=by
  intro k
  induction k with
  | zero=>exact List.nodup_nil
  | succ k ih =>
   unfold qB2 at ih ⊢
   rw [List.range_succ,List.flatMap_append,List.nodup_append]
   refine⟨ih,by simpa using row k _,fun x hx y hy e => ?_⟩
   have h1:=fst k x hx
   simp only [List.flatMap_cons,List.flatMap_nil,List.append_nil] at hy
   obtain⟨b,_,rfl⟩:=List.mem_map.mp hy
   rw [e] at h1
   have h1:(k:Int)<k:=h1
   omega
 rw [List.nodup_append]
 refine⟨all n,row n a,fun x hx y hy e => ?_⟩
 have h1:=fst n x hx
 obtain⟨b,_,rfl⟩:=List.mem_map.mp hy
 rw [e] at h1
 have h1:(n:Int)<n:=h1
 omega
abbrev qHn:Stmt:=top 15
theorem scAwait:FnScope ["works","box","readers","behind","number","work","at","deeds","end","place"] ["works","box"] (qA7 qHn):=⟨rfl,rfl,rfl,by decide +kernel,rfl,by decide +kernel,by decide +kernel⟩
theorem qS3 {f:Addr} {fd:FuncData} (F:Fun K "awaiting" "awaiting" qHn f fd) (nenum:mg "enumerate" = none) (nany:mg "any" = none) (hTw:Has P w K mg base "till_write" 2 ["deeds","box"] (qMe K)) (hRd:Has P w K mg base "reads_box" 1 ["deed","box"] (qCf rdB K))
  (hBg:Has P w K mg base "begins_met" 3 ["works","number","at","box"] (qIi K)) (hLd:Has P w K mg base "led_to" 1 ["starts","nexts"] (qMg K)):FnOk P w K mg base CX0 4 f fd ["works","box"] (qLe K):=by
 refine F.ok scAwait (fun vs H Q E h => ?_) (fun cdv A outer s H vs Q E hr h => ?_)
 ·obtain⟨wa,ws,x,rfl,_⟩:=h
  rfl
 ·obtain⟨wa,ws,x,rfl,hW,hok,q⟩:=h
  have hu:=qKl hr
  refine⟨_,qA5 (qAm (i:=2) scAwait.nd rfl (Or.inl rfl) (qAy qA3))
   (qA5 (qAm (i:=3) scAwait.nd rfl (Or.inl rfl) qIu)
   (qA5 (qC1 PassesOwn.never rfl (qEh rfl nenum (qA0 (pv 0) qA3)) (qE4 (n:=2) rfl (qAc (qA9 (i:=4) scAwait.nd rfl (Or.inl rfl)) (qAc (qA9 (i:=5) scAwait.nd rfl (Or.inl rfl)) qB9)))
    (qA8 (qC1 PassesOwn.never rfl (qEh rfl nenum (qA0 (pv 5) qA3)) (qE4 (n:=2) rfl (qAc (qA9 (i:=6) scAwait.nd rfl (Or.inl rfl)) (qAc (qE4 (n:=2) rfl (qAc (qA9 (i:=7) scAwait.nd rfl (Or.inl rfl)) (qAc (qA9 (i:=8) scAwait.nd rfl (Or.inl rfl)) qB9))) qB9)))
     (qA5 (qC6 (qAx K rfl (qAb (qH3 hr.hd) (by rfl) nany PyProof.Rows.boot_any (qA0 (qBx ["deed"] [1] rfl (.of rfl) (qAo (qAk hTw hr (by decide) (qA0 (pv 7) (qA0 (pv 1) qA3)))) (fun _ _ _ _=>qA9 (i:=0) (by show ((["deed","box"]:List Str)).Nodup;decide) rfl (Or.inl rfl)) (fun _ _ _ _ =>.nil) (fun _ _ _ _=>qAk hRd hr (by decide) (qA0 (pv 0) (qA0 (pv 1) qA3)))) qA3)) (fun _=>rfl))
      (qA8 (qBp (qE3 PySem.F.plainAttrs_list PySem.F.slot_list_append PySem.F.type_list_append qBg (pv 2) (qA0 (qBe (qA0 (pv 4) (qA0 (pv 6) qA3))) qA3)))) qB1)
     (qA8 (qC1 PassesOwn.never rfl (qAo (qAk hBg hr (by decide) (qA0 (pv 0) (qA0 (pv 4) (qA0 (pv 6) (qA0 (pv 1) qA3)))))) (qA9 (i:=9) scAwait.nd rfl (Or.inl rfl))
      (qA8 (qBp (qE3 PySem.F.plainAttrs_list PySem.F.slot_list_append PySem.F.type_list_append qBg (qRq hu (pv 3) (pv 9) (qAy qA3) ⟨rfl,rfl,rfl,rfl⟩) (qA0 (qBe (qA0 (pv 4) (qA0 (pv 6) qA3))) qA3))))))))))
   (qA8 (qAj (qAk hLd hr (by decide) (qA0 (pv 2) (qA0 (pv 3) qA3))))))),?_⟩
  dsimp only [qBb,qB3]
  walk_at "rd"
  refine⟨len2 (Nat.zero_le _),fun rd hrd => ?_⟩
  walk_at "rd"
  refine (show ∀p,_=none->_ from fun nd hnd => ?_)
  walk_at "rd"
  have nrn:rd≠nd:=qA2 qA1 hnd
  have hndH:H nd=none:=by rw [qA4 nrn.symm] at hnd;exact hnd
  have E1:Ext [] H (upd (upd H rd (.lst [])) nd (.dT [])):=(Ext.laid hrd).trans (.laid hnd)
  have rd1:upd (upd H rd (.lst [])) nd (.dT []) rd=some (.lst []):=by rw [qA4 nrn,qA1]
  have nd1:upd (upd H rd (.lst [])) nd (.dT []) nd=some (.dT []):=qA1
  generalize upd (upd H rd (.lst [])) nd (.dT [])=H1 at E1 rd1 nd1 ⊢
  obtain⟨wa',vs,ea,hSq,hDL⟩:=hW.ofList
  cases ea
  have hvl:vs.length=ws.length:=by rw [hDL.len,List.length_map]
  have pfew:=qHq hok
  have extH : ∀ {G:Hp},Ext [rd,nd] H1 G->Ext [] H G:=fun {G} e=>(((E1.mono (us :=[rd,nd]) (by simp)).trans e).drop hrd).drop hndH
  refine⟨wa,rfl,⟨vs,E1.toSame.seq hSq⟩,qEv (xs:=vs) (fun n σ' G => ∃(rvs:List V) (o4 o5 o6 o7 o8 o9:Option V),σ' = [some (.ref wa),some (.int x),some (.ref rd),some (.ref nd),o4,o5,o6,o7,o8,o9]/\Ext [rd,nd] H1 G/\G rd=some (.lst rvs)/\PlsAt G rvs ((qB2 ws n).filter (qBv ws x)) /\
   NexB G nd (qB4 ws x (qB2 ws n)) (fun c=>H1 c=none) (22*(qB2 ws n).length)) ?_ ?_ ?_ ?_⟩
  ·refine⟨[],_,_,_,_,_,_,rfl,.refl _ _,rd1,.nil,[],nd1,Nat.zero_le _,fun p =>.inl ⟨rfl,rfl⟩,fun p q c h => ?_⟩
   cases h
  ·rintro n σ' G hn ⟨rvs,o4,o5,o6,o7,o8,o9,rfl,eG,hrG,hrp,hN⟩
   exact (extH eG).toSame.seq hSq
  ·rintro n y σ' G pt hy ⟨rvs,o4,o5,o6,o7,o8,o9,rfl,eG,hrG,hrp,hN⟩ hpt N_ B_ C_ R_ hN_ hC_ hR_
   obtain⟨dd,hdd,hDy⟩:=hDL.get hy
   obtain⟨wk,hwk,rfl⟩:=qAg hdd
   obtain⟨wb,bs,rfl,hbs,hdbs⟩:=hDy.ofList
   have hbl:bs.length=wk.length:=by rw [hdbs.len,List.length_map]
   obtain⟨m,hm1,hm2,hWk⟩:=hok.all wk (List.mem_of_getElem? hwk)
   have hwm:=hWk.len
   have hsub : ∀p∈qB2 ws n,p∈places ws:=fun p hp=>by
    unfold qB2 at hp;unfold places
    obtain⟨k,hk,h⟩:=List.mem_flatMap.mp hp
    have hnl:n<ws.length:=(List.getElem?_eq_some_iff.mp hwk).1
    exact List.mem_flatMap.mpr ⟨k,List.mem_range.mpr (by have:=List.mem_range.mp hk;omega),h⟩
   have e2:Ext [] G (upd G pt (.tup [.int n,.ref wb])) :=.laid hpt
   refine qBy (SqT.of qA1) rfl ?_
   have eG2:Ext [rd,nd] H1 (upd G pt (.tup [.int n,.ref wb])):=eG.trans (e2.mono (by simp))
   have hr2:=e2 _ _ (by simp) hrG
   have hrp2:=hrp.mono e2.tk
   have hN2:=hN.mono e2 (by simp) (by simp) e2.tk
   generalize upd G pt (.tup [.int n,.ref wb])=G2 at e2 eG2 hr2 hrp2 hN2 ⊢
   walk_at "rd"
   refine⟨wb,rfl,⟨bs,(extH eG2).toSame.seq hbs⟩,qEv (xs:=bs) (fun a σ' G' => ∃(rvs:List V) (o6 o7 o8 o9:Option V),σ' = [some (.ref wa),some (.int x),some (.ref rd),some (.ref nd),some (.int n),some (.ref wb),o6,o7,o8,o9]/\Ext [rd,nd] H1 G'/\G' rd=some (.lst rvs)/\PlsAt G' rvs ((qB2 ws n++(List.range a).map fun (a:Nat)=>((n:Int),(a:Int))).filter (qBv ws x)) /\
    NexB G' nd (qB4 ws x (qB2 ws n++(List.range a).map fun (a:Nat)=>((n:Int),(a:Int)))) (fun c=>H1 c=none) (22*(qB2 ws n++(List.range a).map fun (a:Nat)=>((n:Int),(a:Int))).length)) ?_ ?_ ?_ ?_⟩
   ·refine⟨rvs,_,_,_,_,rfl,eG2,hr2,?_,?_⟩
    ·simpa using hrp2
    ·simpa using hN2
   ·rintro a σ' G' ha ⟨rvs,o6,o7,o8,o9,rfl,e',hr',hrp',hN'⟩
    exact (extH e').toSame.seq hbs
   ·rintro a v σ' G' pt2 hv ⟨rvs,o6,o7,o8,o9,rfl,e',hr',hrp',hN'⟩ hpt2 N_ B_ C_ R_ hN_ hC_ hR_
    obtain⟨dd,hdd,hDv⟩:=hdbs.get hv
    obtain⟨b,hb,rfl⟩:=qAg hdd
    have hbok:=hWk.blk b (List.mem_of_getElem? hb)
    obtain⟨pb,cs,rfl,hc,hcs⟩:=hDv.ofTuple
    obtain⟨vd,q1,rfl,hdd1,hr1⟩:=hcs.ofCons
    obtain⟨ve,q2,rfl,hde,hr2'⟩:=hr1.ofCons
    have hr2':=hr2'.ofNil
    subst hr2'
    have hblk:blkAt ws ((n:Int),(a:Int))=some b:=by rw [qCi,hwk];exact hb
    have hpl:((n:Int),(a:Int))∈places ws:=mem_places.mpr ⟨b,hblk⟩
    generalize hdn:(qB2 ws n++(List.range a).map fun (a:Nat)=>((n:Int),(a:Int)))=dn at hrp' hN'
    have hsub2 : ∀p∈dn,p∈places ws:=fun p hp=>by
     rw [<-hdn] at hp
     rcases List.mem_append.mp hp with z | z
     ·exact hsub p z
     ·obtain⟨a',ha',rfl⟩:=List.mem_map.mp z
      have ha1:a<wk.length:=(List.getElem?_eq_some_iff.mp hb).1
      have ha2:=List.mem_range.mp ha'
      exact mem_places.mpr ⟨wk[a'],by rw [qCi,hwk];exact List.getElem?_eq_getElem (by omega)⟩
    have hrl:=hrp'.len
    have e3:Ext [] G' (upd G' pt2 (.tup [.int a,.ref pb])) :=.laid hpt2
    refine qBy (SqT.of qA1) rfl ?_
    have e3':Ext [rd,nd] H1 (upd G' pt2 (.tup [.int a,.ref pb])):=e'.trans (e3.mono (by simp))
    have hr3:=e3 _ _ (by simp) hr'
    have hrp3:=hrp'.mono e3.tk
    have hN3:=hN'.mono e3 (by simp) (by simp) e3.tk
    generalize upd G' pt2 (.tup [.int a,.ref pb])=G3 at e3 e3' hr3 hrp3 hN3 ⊢
    walk_at "rd"
    refine qBy ((extH e3').toSame.seqT hc) rfl ?_
    with_reducible refine L2.qLk ?_
    with_reducible refine L2.qL6 ?_
    with_reducible refine L2.qLk ?_
    with_reducible refine L2.qL6 ?_
    with_reducible refine L2.qOr ?_
    with_reducible refine L2.qOr ?_
    have hfin:qB2 ws n++(List.range (a+1)).map (fun (a:Nat)=>((n:Int),(a:Int)))=dn ++ [((n:Int),(a:Int))]:=by rw [qRg,<-List.append_assoc,hdn]
    have hdl:dn.length<=300:=by
     have:=qCj (l1:=dn) (l2:=places ws) (by rw [<-hdn];exact qSf ws n a (List.getElem?_eq_some_iff.mp hwk).1) hsub2
     omega
    with_reducible refine qV8 (fun σ' G => ∃(rvs:List V),σ' = [some (.ref wa),some (.int x),some (.ref rd),some (.ref nd),some (.int n),some (.ref wb),some (.int a),some vd,some ve,o9]/\Ext [rd,nd] H1 G/\G rd=some (.lst rvs)/\PlsAt G rvs ((dn ++ [((n:Int),(a:Int))]).filter (qBv ws x))/\NexB G nd (qB4 ws x dn) (fun c=>H1 c=none) (22*dn.length)) ?_ (fun hC => ?_)
    ·rintro σ' G4 ⟨rvs,rfl,e4,hr4,hrp4,hN4⟩
     walk_at "rd"
     refine⟨wa,ws,n,a,x,rfl,hW.mono (extH e4).toSame,hok,hpl,fun lm us H5 hlm e5 hlm5 hus => ?_⟩
     have e45:Ext [rd,nd] H1 H5:=e4.trans (e5.mono (by simp))
     have hml:=qLu hok x ((n:Int),(a:Int))
     have hul:=hus.len
     refine⟨lm,rfl,⟨_,SqL.of hlm5⟩,qCx (xs:=us) (fun j σ' G => ∃(o9:Option V),σ' = [some (.ref wa),some (.int x),some (.ref rd),some (.ref nd),some (.int n),some (.ref wb),some (.int a),some vd,some ve,o9]/\Ext [rd,nd] H1 G/\G lm=some (.lst us)/\PlsAt G us (metOf ws x ((n:Int),(a:Int)))/\G rd=some (.lst rvs)/\PlsAt G rvs ((dn ++ [((n:Int),(a:Int))]).filter (qBv ws x)) /\
      NexB G nd (qBa ws x dn ((n:Int),(a:Int)) ((metOf ws x ((n:Int),(a:Int))).take j)) (fun c=>H1 c=none/\c≠lm) (22*dn.length+j)) ?_ ?_ ?_ ?_⟩
     ·refine⟨_,rfl,e45,hlm5,hus,e5 _ _ (by simp) hr4,hrp4.mono e5.tk,?_⟩
      rw [List.take_zero,qL4]
      obtain⟨kvs,z⟩:=hN4
      refine⟨kvs,e5 _ _ (by simp) z.at_,z.few,fun p => ?_,z.one⟩
      rcases z.all p with y | ⟨c,vs,h1,h2,h3,h4⟩
      ·exact .inl y
      ·exact .inr ⟨c,vs,h1,⟨h2,qA2 h3 hlm⟩,e5 _ _ (by simp) h3,h4.mono e5.tk⟩
     ·rintro j σ' G hj ⟨o9,rfl,e6,hlm6,hus6,hr6,hrp6,hN6⟩
      exact SqL.of hlm6
     ·rintro j v σ' G hv ⟨o9,rfl,e6,hlm6,hus6,hr6,hrp6,kvs,hN6⟩ N_ B_ C_ R_ hN_ hC_ hR_
      obtain⟨r,hr,rb,rfl,hrb⟩:=hus6.get hv
      have hjl:j<(metOf ws x ((n:Int),(a:Int))).length:=(List.getElem?_eq_some_iff.mp hr).1
      have hkf:=hN6.few
      walk_at "rd"
      refine qWx ?_
      walk_at "rd"
      refine⟨nd,rfl,.inr ⟨kvs,.inl hN6.at_⟩,?_⟩
      walk_at "rd"
      refine⟨len2 (Nat.zero_le _),fun e0 he0 => ?_⟩
      have e7:Ext [] G (upd G e0 (.lst [])) :=.laid he0
      have hN7:=hN6.mono e7 (by simp) (by simp) e7.tk
      have he07:upd G e0 (.lst []) e0=some (.lst []):=qA1
      have he0H1:H1 e0=none:=by
       by_cases z1:e0=rd
       ·rw [z1,hr6] at he0;cases he0
       ·by_cases z2:e0=nd
        ·rw [z2,hN6.at_] at he0;cases he0
        ·exact e6.none (by simp [z1,z2]) he0
      have he0lm:e0≠lm:=(qA2 hlm6 he0).symm
      have hlm7:=e7 _ _ (by simp) hlm6
      have hr7:=e7 _ _ (by simp) hr6
      have hus7:=hus6.mono e7.tk
      have hrp7:=hrp6.mono e7.tk
      have e67:Ext [rd,nd] H1 (upd G e0 (.lst [])):=e6.trans (e7.mono (by simp))
      have hrb7:=e7.tk _ _ hrb
      have hfr : ∀(p:Pl) (c:Addr),valV kvs (plK p)=some (.ref c)->c≠e0:=fun p c hc=>by
       rcases hN6.all p with z | ⟨c',vs',h1,_,h3,_⟩
       ·rw [z.1] at hc;cases hc
       ·rw [h1] at hc;cases hc;exact qA2 h3 he0
      generalize upd G e0 (.lst [])=G7 at e7 hN7 he07 hlm7 hr7 hus7 hrp7 e67 hrb7 ⊢
      have put : ∀(G8:Hp) (kv:List (List Key×V)) (c:Addr) (cvs:List V),NexK G8 nd (qBa ws x dn ((n:Int),(a:Int)) ((metOf ws x ((n:Int),(a:Int))).take j)) (fun c=>H1 c=none/\c≠lm) (22*dn.length+j+1) kv->valV kv (plK r)=some (.ref c)->G8 c=some (.lst cvs)->PlsAt G8 cvs (qBa ws x dn ((n:Int),(a:Int)) ((metOf ws x ((n:Int),(a:Int))).take j) r)->Ext [rd,nd] H1 G8->G8 lm=some (.lst us)->PlsAt G8 us (metOf ws x ((n:Int),(a:Int)))->G8 rd=some (.lst rvs)->PlsAt G8 rvs ((dn ++ [((n:Int),(a:Int))]).filter (qBv ws x)) ->
        ∀(pt:Addr),G8 pt=none -> ∀o9:Option V,cvs.length<100000/\(∃(o9':Option V),[some (V.ref wa),some (.int x),some (.ref rd),some (.ref nd),some (.int n),some (.ref wb),some (.int a),some vd,some ve,o9] = [some (V.ref wa),some (.int x),some (.ref rd),some (.ref nd),some (.int n),some (.ref wb),some (.int a),some vd,some ve,o9']/\Ext [rd,nd] H1 (upd (upd G8 pt (.tup [.int n,.int a])) c (.lst (cvs ++ [.ref pt])))/\(upd (upd G8 pt (.tup [.int n,.int a])) c (.lst (cvs ++ [.ref pt]))) lm=some (.lst us)/\PlsAt (upd (upd G8 pt (.tup [.int n,.int a])) c (.lst (cvs ++ [.ref pt]))) us (metOf ws x ((n:Int),(a:Int)))/\(upd (upd G8 pt (.tup [.int n,.int a])) c (.lst (cvs ++ [.ref pt]))) rd=some (.lst rvs)/\PlsAt (upd (upd G8 pt (.tup [.int n,.int a])) c (.lst (cvs ++ [.ref pt]))) rvs ((dn ++ [((n:Int),(a:Int))]).filter (qBv ws x)) /\
         NexB (upd (upd G8 pt (.tup [.int n,.int a])) c (.lst (cvs ++ [.ref pt]))) nd (qBa ws x dn ((n:Int),(a:Int)) ((metOf ws x ((n:Int),(a:Int))).take (j+1))) (fun c=>H1 c=none/\c≠lm) (22*dn.length+(j+1))):=by
       intro G8 kv c cvs hK hc hcv hcp e8 hlm8 hus8 hr8 hrp8 pt hpt o9
       have e9:Ext [] G8 (upd G8 pt (.tup [.int n,.int a])) :=.laid hpt
       have hK9:=hK.mono e9 (by simp) (by simp) e9.tk
       have hc9:=e9 _ _ (by simp) hcv
       have hK10:=hK9.app (p:=((n:Int),(a:Int))) (pt:=pt) hc hc9 (hcp.mono e9.tk) qA1
       have hcok:H1 c=none/\c≠lm:=by
        rcases hK.all r with z | ⟨c',_,h1,h2,_⟩
        ·rw [z.1] at hc;cases hc
        ·rw [h1] at hc;cases hc;exact h2
       have tk:TK G8 (upd (upd G8 pt (.tup [.int n,.int a])) c (.lst (cvs ++ [.ref pt]))):=e9.tk.trans (.put (by intro ys z;rw [hc9] at z;cases z))
       have nrc:rd≠c:=fun z=>by rw [<-z,rd1] at hcok;cases hcok.1
       have hcl:=hcp.len
       have hbl2:(qBa ws x dn ((n:Int),(a:Int)) ((metOf ws x ((n:Int),(a:Int))).take j) r).length<=22*dn.length+22:=by
        unfold qBa
        rw [List.length_append,List.length_map]
        have h1:=qFq hok x r dn
        have h2:=List.length_filter_le (fun y=>decide (y=r)) ((metOf ws x ((n:Int),(a:Int))).take j)
        rw [List.length_take] at h2
        omega
       refine⟨by omega,o9,rfl,?_,?_,hus8.mono tk,?_,hrp8.mono tk,?_⟩
       ·exact ((e8.trans (e9.mono (by simp))).mono (us :=[c,rd,nd]) (by simp)).trans (.put (by simp)) |>.drop hcok.1
       ·rw [qA4 hcok.2.symm];exact e9 _ _ (by simp) hlm8
       ·rw [qA4 nrc];exact e9 _ _ (by simp) hr8
       ·rw [qAu hr,qJ7];exact⟨kv,hK10⟩
      refine⟨kvs,plK r,rb,rfl,hN7.at_,hrb7,qJp (by omega),fun v hv => ?_,fun hv => ?_⟩
      ·rcases hN7.all r with z | ⟨c,cvs,h1,h2,h3,h4⟩
       ·rw [z.1] at hv;cases hv
       ·rw [h1] at hv;cases hv
        refine qCo h3 ?_
        walk_at "rd"
        refine⟨len2 (by show 2<=1000;decide),fun pt hpt => ?_⟩
        obtain⟨hlt,post⟩:=put G7 kvs c cvs ⟨hN7.at_,by have:=hN7.few;omega,hN7.all,hN7.one⟩ h1 h3 h4 e67 hlm7 hus7 hr7 hrp7 pt hpt _
        walk_at "rd"
        exact qDg (Ext.laid (ts :=[]) hpt _ _ (by simp) h3) (qJp (by omega)) (hN_ _ _ post)
      ·have hK8:=hN7.new hv he07 ⟨he0H1,he0lm⟩ hfr
       have n0d:e0≠nd:=qFy he07 hN7.at_ (by intro z;cases z)
       have tk8:TK G7 (upd G7 nd (.dT (putK kvs (plK r) (.ref e0)))) :=.put (by intro ys z;rw [hN7.at_] at z;cases z)
       have h08:upd G7 nd (.dT (putK kvs (plK r) (.ref e0))) e0=some (.lst []):=by rw [qA4 n0d];exact he07
       have hN0:qBa ws x dn ((n:Int),(a:Int)) ((metOf ws x ((n:Int),(a:Int))).take j) r = []:=by
        rcases hN7.all r with z | ⟨c,cvs,h1,_⟩
        ·exact z.2
        ·rw [h1] at hv;cases hv
       have nlm:lm≠nd:=qFy hlm7 hN7.at_ (by intro z;cases z)
       refine qCo h08 ?_
       walk_at "rd"
       refine⟨len2 (by show 2<=1000;decide),fun pt hpt => ?_⟩
       obtain⟨hlt,post⟩:=put _ _ e0 [] hK8 (by rw [qEn,if_pos rfl]) h08 (by rw [hN0];exact .nil) (e67.trans (.put (by simp))) (by rw [qA4 nlm];exact hlm7) (hus7.mono tk8) (by rw [qA4 nrn];exact hr7) (hrp7.mono tk8) pt hpt _
       walk_at "rd"
       exact qDg (xs :=[]) (Ext.laid (ts :=[]) hpt _ _ (by simp) h08) (qJp (by simp)) (hN_ _ _ post)
     ·rintro σ' G ⟨o9,rfl,e6,hlm6,hus6,hr6,hrp6,hN6⟩
      rw [hul,List.take_length,qJ8] at hN6
      refine L2.qCt hN_ ?_
      refine⟨rvs,_,_,_,_,rfl,e6,hr6,?_,?_⟩
      ·rw [hfin];exact hrp6
      ·rw [hfin]
       obtain⟨kvs,z⟩:=hN6
       refine⟨kvs,z.at_,?_,fun p => ?_,z.one⟩
       ·have:=z.few;rw [List.length_append,List.length_singleton];omega
       ·rcases z.all p with y | ⟨c,vs,h1,h2,h3,h4⟩
        ·exact .inl y
        ·exact .inr ⟨c,vs,h1,h2.1,h3,h4⟩
    ·have hra:qBv ws x ((n:Int),(a:Int))=readB x b:=by unfold qBv;rw [hblk]
     have hds:=hbok.few
     have htl2:=qDp x b.ds
     walk_at "rd"
     refine⟨vd,b.ds,x,rfl,hdd1.mono (extH e3').toSame,by omega,fun lt tvs H4 hlt e4 hlt4 hden4 => ?_⟩
     have htl:tvs.length=(till x b.ds).length:=by rw [hden4.len,List.length_map]
     refine⟨lt,rfl,⟨_,SqL.of hlt4⟩,fun lc hlc => ?_⟩
     have nlc:lt≠lc:=qA2 hlt4 hlc
     refine qAf (xs:=tvs) (fun j σ' G => ∃(o0:Option V),σ' = [o0,some (.int x)]/\Ext [lc] H4 G/\G lc=some (.lst ((((till x b.ds).take j).map (rdB x)).map V.bl))) ?_ ?_ ?_ ?_
     ·exact⟨none,rfl,.laid hlc,qA1⟩
     ·rintro j σ' G hj ⟨o0,rfl,e5,hlc5⟩
      exact SqL.of (e5 _ _ (by simpa using nlc) hlt4)
     ·rintro j y σ' G R hy ⟨o0,rfl,e5,hlc5⟩ hR
      obtain⟨dd,hdd,hDy⟩:=hden4.get hy
      obtain⟨d,hd,rfl⟩:=qAg hdd
      have hjl:j<(till x b.ds).length:=(List.getElem?_eq_some_iff.mp hd).1
      walk_at "rd"
      refine iteT ?_
      walk_at "rd"
      refine⟨y,d,x,rfl,hDy.mono (e5.drop hlc).toSame,fun H6 e6 => ?_⟩
      refine⟨_,e6 _ _ (by simp) hlc5,qAa (by rw [List.length_map,List.length_map,List.length_take];omega),hR _ _ ⟨_,rfl,e5.trans ((e6.mono (by simp)).trans (.put (by simp))),?_⟩⟩
      rw [qA1,qAu hd,List.map_append,List.map_append];rfl
     ·rintro σ' G ⟨o0,rfl,e5,hlc5⟩
      rw [htl,List.take_length] at hlc5
      have e35:Ext [] G3 G:=e4.trans (e5.drop hlc)
      have hr5:=e35 _ _ (by simp) hr3
      have hrp5:=hrp3.mono e35.tk
      have hN5:=hN3.mono e35 (by simp) (by simp) e35.tk
      have e5':Ext [rd,nd] H1 G:=e3'.trans (e35.mono (by simp))
      have hfl:=List.length_filter_le (qBv ws x) dn
      walk_at "rd"
      refine⟨lc,(till x b.ds).map (rdB x),rfl,SqL.of hlc5,?_⟩
      refine⟨readB x b,?_,?_⟩
      ·have e:((till x b.ds).map (rdB x)).any id=readB x b:=by unfold readB;rw [List.any_map];rfl
       rw [e];rfl
      cases hw:readB x b with
      | true =>
       refine iteT ?_
       walk_at "rd"
       refine qCo hr5 ?_
       walk_at "rd"
       refine⟨len2 (by show 2<=1000;decide),fun p2 hp2 => ?_⟩
       have np2:p2≠rd:=(qA2 hr5 hp2).symm
       with_reducible refine L2.qOp ?_
       refine qDg (xs:=rvs) (by rw [qA4 np2.symm];exact hr5) (qAa (by omega)) ?_
       have tk:TK G (upd (upd G p2 (.tup [.int n,.int a])) rd (.lst (rvs ++ [.ref p2]))):=(Ext.laid hp2).tk.trans (.put (by intro ys z;rw [qA4 np2.symm,hr5] at z;cases z))
       have e6:Ext [rd] G (upd (upd G p2 (.tup [.int n,.int a])) rd (.lst (rvs ++ [.ref p2]))):=(Ext.laid hp2).trans (.put (by simp))
       have hnot : ∀z ∈ [rd],¬H1 z=none:=fun z hz y=>by
        have e:z=rd:=by simpa using hz
        rw [e,rd1] at y;cases y
       refine hC _ _ ⟨rvs ++ [.ref p2],rfl,e5'.trans (e6.mono (by simp)),qA1,?_,hN5.mono e6 (by simpa using nrn.symm) hnot tk⟩
       rw [List.filter_append,List.filter_cons,if_pos (by rw [hra,hw]),List.filter_nil]
       exact (hrp5.mono tk).append (.one (by rw [qA4 np2,qA1]))
      | false =>
       refine iteF ?_
       with_reducible refine L2.qEq ?_
       refine hC _ _ ⟨rvs,rfl,e5',hr5,?_,hN5⟩
       rw [List.filter_append,List.filter_cons,if_neg (by rw [hra,hw];exact Bool.false_ne_true),List.filter_nil,List.append_nil]
       exact hrp5
   ·rintro σ' G' ⟨rvs,o6,o7,o8,o9,rfl,e',hr',hrp',hN'⟩
    rw [hbl] at hrp' hN'
    rw [<-qIs hwk] at hrp' hN'
    walk_at "rd"
    exact⟨rvs,_,_,_,_,_,_,rfl,e',hr',hrp',hN'⟩
  ·rintro σ' G ⟨rvs,o4,o5,o6,o7,o8,o9,rfl,eG,hrG,hrp,hN⟩
   rw [hvl] at hrp hN
   have hrp:PlsAt G rvs ((places ws).filter (qBv ws x)):=hrp
   have hN:NexB G nd (qB4 ws x (places ws)) (fun c=>H1 c=none) (22*(places ws).length):=hN
   have hfl:=List.length_filter_le (qBv ws x) (places ws)
   walk_at "rd"
   refine .inr ⟨rd,nd,rvs,(places ws).filter (qBv ws x),places ws,qB4 ws x (places ws),rfl,SqL.of hrG,hrp,hN.toT,fun p hp=>(List.mem_filter.mp hp).1,fun p hp z hz=>(mem_behind.mp hz).1,fun p=>by have:=qFq hok x p (places ws);omega,by omega,by omega,fun d ks H' hd e5 hd5 hnod hks => ?_⟩
   exact q d ks H' ((extH eG).none (by simp) hd) ((extH eG).trans e5) hd5 hnod fun p=>by rw [hks,qQt]
end
section
variable {P:Program} {w:World} {K:PySem.W.Frag} {mg:Str->Option Value} {base:Heap}
abbrev qFa:Stmt:=top 37
theorem qRc:FnScope ["_law_deed","_law_box"] ["_law_deed","_law_box"] (qA7 qFa):=⟨rfl,rfl,rfl,by decide +kernel,rfl,by decide +kernel,by decide +kernel⟩
def isAdd:Deed->Bool
 | .add _ _=>true
 | _=>false
def qQ4:Deed->Bool
 | .tell _=>true
 | _=>false
theorem qR2 (d:Deed):decide (dword d = "add")=isAdd d:=by
 cases d with
 | add _ _=>exact decide_eq_true rfl
 | set _ _=>exact decide_eq_false (show ¬("set" : Str) = "add" by decide)
 | call _=>exact decide_eq_false (show ¬("call" : Str) = "add" by decide)
 | tell _=>exact decide_eq_false (show ¬("tell" : Str) = "add" by decide)
 | save _=>exact decide_eq_false (show ¬("save" : Str) = "add" by decide)
 | back _=>exact decide_eq_false (show ¬("back" : Str) = "add" by decide)
theorem qO9 (d:Deed):decide (dword d = "tell")=qQ4 d:=by
 cases d with
 | tell _=>exact decide_eq_true rfl
 | set _ _=>exact decide_eq_false (show ¬("set" : Str) = "tell" by decide)
 | call _=>exact decide_eq_false (show ¬("call" : Str) = "tell" by decide)
 | add _ _=>exact decide_eq_false (show ¬("add" : Str) = "tell" by decide)
 | save _=>exact decide_eq_false (show ¬("save" : Str) = "tell" by decide)
 | back _=>exact decide_eq_false (show ¬("back" : Str) = "tell" by decide)
theorem qT9 (x:Int) (d:Deed):rdB x d=(isAdd d&&decide (x∈dargs d)||(qQ4 d&&decide (darg d=x))):=by
 cases d with
 | tell b =>
  show (true&&decide (x ∈ [b]))=(false&&_||(true&&decide (b=x)))
  rw [Bool.true_and,Bool.false_and,Bool.false_or,Bool.true_and]
  have:(x ∈ [b])↔b=x:=by simp [eq_comm]
  simp only [this]
 | add b o=>show (true&&_)=(true&&_||(false&&_));simp [dargs]
 | set b o=>rfl
 | call b=>rfl
 | save b=>rfl
 | back b=>rfl
theorem qP9 {f:Addr} {fd:FuncData} (F:Fun K "_law_reads" "_law_reads" qFa f fd):FnOk P w K mg base CX0 1 f fd ["_law_deed","_law_box"] (qCf rdB K):=by
 refine F.ok qRc (fun vs H Q E h => ?_) (fun cdv A outer s H vs Q E hr h => ?_)
 ·obtain⟨v,d,x,rfl,_⟩:=h
  rfl
 ·obtain⟨v,d,x,rfl,hd,q⟩:=h
  refine⟨_,qA8 (qAj (qX2 (qGo (qBf qDb (qAr qCw (pv 0) qA6 (fun _ _=>rfl)) qCg (qAt _)) (qFs (qBf qCh (pv 1) (qC0 qJr (pv 0) (qCq qA6) qCr) rfl)))
   (qFs (qGo (qBf qDb (qAr qCw (pv 0) qA6 (fun _ _=>rfl)) qCg (qAt _)) (qFs (qBf qDb (qAr qCw (pv 0) qA6 (fun _ _=>rfl)) (pv 1) (qAt _))))))),?_⟩
  dsimp only [qBb]
  obtain⟨p,rfl,hp⟩:=qD0 hd
  have tail : ∀H',Ext [] H H'->(isAdd d&&decide (x∈dargs d))=false -> ∀Q':VK,(∀H',Ext [] H H'->Q' (.bl (rdB x d)) H')->tAndV (tOp rEq (tOp (rIxT K) (tVar 0) (tC (V.int 0))) (tC (V.str "tell"))) (tOp rEq (tOp (rIxT K) (tVar 0) (tC (V.int 1))) (tVar 1)) [some (.ref p),some (.int x)] H' Q':=by
   intro H' e' hno Q' hQ
   have hp':=e'.toSame.seqT hp
   refine qJs ?_
   walk_at "rd"
   refine qCp hp' (show atI _ ((0:Nat):Int)=some (V.str (dword d)) from qAq rfl) ?_
   walk_at "rd"
   refine qRj ?_
   rw [qO9]
   refine⟨_,rfl,?_⟩
   have hq:=hQ H' e'
   rw [qT9,hno,Bool.false_or] at hq
   cases hw:qQ4 d with
   | true =>
    rw [hw] at hq
    refine iteT ?_
    walk_at "rd"
    refine qCp hp' (qI6 d) ?_
    walk_at "rd"
    exact qE2 hq
   | false =>
    rw [hw] at hq
    exact iteF hq
  walk_at "rd"
  refine qWp (qJs ?_)
  walk_at "rd"
  refine qCp hp (show atI _ ((0:Nat):Int)=some (V.str (dword d)) from qAq rfl) ?_
  walk_at "rd"
  refine qRj ?_
  rw [qR2]
  refine⟨_,rfl,?_⟩
  cases hw:isAdd d with
  | true =>
   refine iteT ?_
   walk_at "rd"
   refine⟨1,rfl,?_⟩
   walk_at "rd"
   refine⟨p,_,rfl,hp,?_,fun p2 hp2 => ?_⟩
   ·intro h
    have:=h.1
    revert this
    have hn:(V.str (dword d)::(dargs d).map V.int).length=(dargs d).length+1:=by simp
    have:=(qKp d).1
    rw [hn]
    unfold HT.sIx
    simp
    try omega
   rw [cut1]
   refine⟨p2,(dargs d).map V.int,rfl,.inr (SqT.of qA1),rfl,qCy _,?_⟩
   rw [if_neg Bool.false_ne_true,qE0]
   refine⟨_,rfl,?_⟩
   cases hx:decide (x∈dargs d) with
   | true =>
    refine iteT ?_
    have hq:=q _ (Ext.laid (o :=.tup ((dargs d).map V.int)) hp2)
    rw [qT9,hw,hx] at hq
    exact hq
   | false =>
    refine iteF ?_
    exact tail _ (.laid hp2) (by rw [hx,Bool.and_false]) _ q
  | false =>
   refine iteF ?_
   refine⟨_,rfl,iteF ?_⟩
   exact tail H (.refl _ _) (by rw [hw];rfl) _ q
end
section
variable {P:Program} {w:World} {K:PySem.W.Frag} {mg:Str->Option Value} {base:Heap}
structure GoI (H:Hp) (d du:Addr) (ws:List (List Blk)) (x:Int) (p0:Pl) (ks due:List Pl) (H':Hp):Prop where
 ext:Ext [] H H'
 hd:H' d=some (.dT (trueD ks))
 hdu : ∃vs,H' du=some (.lst vs)/\PlsAt H' vs due
 nod:ks.Nodup
 rk : ∀y∈ks,RT (metOf ws x) p0 y
 rd : ∀y∈due,RT (metOf ws x) p0 y
 clo : ∀k∈ks,qBv ws x k=false /\ ∀c∈metOf ws x k,c∈ks\/c∈due
 one:p0∈ks\/p0∈due
 fewd:due.length<=1+22*ks.length
theorem GoI.end_ {H H':Hp} {d du:Addr} {ws:List (List Blk)} {x:Int} {p0:Pl} {ks:List Pl} (h:GoI H d du ws x p0 ks [] H'):askB ws x p0=false:=by
 have key : ∀y,RT (metOf ws x) p0 y->y∈ks:=by
  intro y r
  induction r with
  | refl=>exact h.one.elim id fun z=>absurd z (by simp)
  | step _ hc ih=>exact ((h.clo _ ih).2 _ hc).elim id fun z=>absurd z (by simp)
 rw [Bool.eq_false_iff]
 intro hb
 obtain⟨q,r,hq⟩:=askB_iff.mp hb
 rw [(h.clo q (key q r)).1] at hq
 cases hq
abbrev qDt:Stmt:=top 39
theorem scIsAsked:FnScope ["_law_works_here","_law_number_here","_law_block","_law_box","_law_met","_law_waiting","_law_place","_law_deeds_here","_law_end","_law_open_yet","_law_deed"] ["_law_works_here","_law_number_here","_law_block","_law_box"] (qA7 qDt):=⟨rfl,rfl,rfl,by decide +kernel,rfl,by decide +kernel,by decide +kernel⟩
def GoW (H:Hp) (wa d du:Addr) (ws:List (List Blk)) (x:Int) (n b:Nat) (μ : Nat) (σ':St) (H':Hp):Prop := ∃(ks due:List Pl) (o6 o7 o8 o9 o10:Option V),μ = ((places ws).length - ks.length)*24+due.length /\
 σ' = [some (.ref wa),some (.int n),some (.int b),some (.int x),some (.ref d),some (.ref du),o6,o7,o8,o9,o10]/\GoI H d du ws x ((n:Int),(b:Int)) ks due H'
theorem qNs {f:Addr} {fd:FuncData} (F:Fun K "_law_is_asked" "_law_is_asked" qDt f fd) (hRd:Has P w K mg base "_law_reads" 1 ["_law_deed","_law_box"] (qCf rdB K)):FnOk P w K mg base CX0 2 f fd ["_law_works_here","_law_number_here","_law_block","_law_box"] (qGg K):=by
 refine F.ok scIsAsked (fun vs H Q E h => ?_) (fun cdv A outer s H vs Q E hr h => ?_)
 ·obtain⟨wa,ws,n,b,x,rfl,_⟩:=h
  rfl
 ·obtain⟨wa,ws,n,b,x,rfl,hW,hok,hpl,q⟩:=h
  have hu:=qKl hr
  refine⟨_,qA5 (qOz (i:=4) (j:=5) rfl scIsAsked.nd rfl rfl (by decide) rfl rfl (qA0 qIu (qA0 (qAy (qA0 (qBe (qA0 (pv 1) (qA0 (pv 2) qA3))) qA3)) qA3)) rfl)
   (qA5 (qIq PassesOwn.never (qAn (qK2 hr) (pv 5) (qAy qA3) (qAt _))
    (qA5 (qAm (i:=6) scIsAsked.nd rfl (Or.inr rfl) (qHr PySem.F.plainAttrs_list PySem.F.slot_list_pop PySem.F.type_list_pop qPm (pv 5)))
    (qA8 (qC6 (qJt (qGp hu (pv 6) (pv 4)))
     (qA5 (qLl hu (pv 4) (pv 6) qDa rfl)
     (qA5 (qJu (qAr qAi (qAr qAi (pv 0) (qAr qCw (pv 6) qA6 (fun _ _=>rfl)) (fun _ _=>rfl)) (qAr qCw (pv 6) qA6 (fun _ _=>rfl)) (fun _ _=>rfl)) (qE4 (n:=2) rfl (qAc (qA9 (i:=7) scIsAsked.nd rfl (Or.inl rfl)) (qAc (qA9 (i:=8) scIsAsked.nd rfl (Or.inl rfl)) qB9))))
     (qA5 (qAm (i:=9) scIsAsked.nd rfl (Or.inl rfl) qDa)
     (qA5 (qC1 PassesOwn.never rfl (qAo (pv 7)) (qA9 (i:=10) scIsAsked.nd rfl (Or.inl rfl))
      (qA5 (qC6 (qGk (qAx K rfl (pv 9) (fun _=>rfl)) (qEf (qAx K rfl (qAk hRd hr (by decide) (qA0 (pv 10) (qA0 (pv 3) qA3))) (fun _=>rfl)))).pt (qA8 (qAj qDa)) qB1)
      (qA5 (qC6 (qGk (qAx K rfl (pv 9) (fun _=>rfl)) (qEf (qAn qDb (qAr qCw (pv 10) qA6 (fun _ _=>rfl)) qCg (qAt _)))).pt (qA8 (qBp (qE3 PySem.F.plainAttrs_list PySem.F.slot_list_append PySem.F.type_list_append qBg (pv 5) (qA0 (qBe (qA0 (qAr qCw (pv 10) qA6 (fun _ _=>rfl)) (qA0 qA6 qA3))) qA3)))) qB1)
      (qA8 (qC6 (qGk (qAn qCh (qAr qCw (pv 10) qA6 (fun _ _=>rfl)) (qBe (qA0 qCg (qA0 qCg qA3))) rfl) (qEf (qAn qDb (qAr qCw (pv 10) qA6 (fun _ _=>rfl)) (pv 3) (qAt _)))).pt (qA8 (qAm (i:=9) scIsAsked.nd rfl (Or.inl rfl) qDa)) qB1)))))
     (qA8 (qC6 (qAx K rfl (pv 9) (fun _=>rfl)) (qA8 (qBp (qE3 PySem.F.plainAttrs_list PySem.F.slot_list_extend PySem.F.type_list_extend qEt (pv 5) (qA0 (qBx ["_law_to"] [6] rfl (.of rfl) (qT2 (qC0 qJr (pv 8) (qCq qA6) qCr)) (fun _ _ _ _=>qA9 (i:=0) (by show ((["_law_to","_law_place"]:List Str)).Nodup;decide) rfl (Or.inl rfl)) (fun _ _ _ _ =>.nil) (fun _ _ _ _=>qBe (qA0 (qAr (qDh K rfl) (pv 1) qA6 (fun _ _=>rfl)) (qA0 (pv 0) qA3)))) qA3)))) qB1))))))
     qB1))))
   (qA8 (qAj qDa))),?_⟩
  dsimp only [qBb,qB3]
  walk_at "rd"
  refine (show ∀p,_=none->_ from fun d hd => ?_)
  walk_at "rd"
  refine⟨len2 (by show 2<=1000;decide),fun p hp => ?_⟩
  walk_at "rd"
  refine⟨len2 (by show 1<=1000;decide),fun du hdu => ?_⟩
  have e0:Ext [] H (upd H d (.dT [])) :=.laid hd
  have E1:Ext [] H (upd (upd (upd H d (.dT [])) p (.tup [.int n,.int b])) du (.lst [.ref p])):=e0.trans ((Ext.laid hp).trans (.laid hdu))
  have npd:p≠du:=qA2 qA1 hdu
  have hduH:H du=none:=(e0.trans (.laid hp)).none (by simp) hdu
  have ndp:d≠p:=qA2 qA1 hp
  have ndu:d≠du:=qA2 (o :=.dT []) (by rw [qA4 ndp,qA1]) hdu
  refine⟨_,_,rfl,?_⟩
  have pfew:=qHq hok
  have st0:GoI H d du ws x ((n:Int),(b:Int)) [] [((n:Int),(b:Int))] (upd (upd (upd H d (.dT [])) p (.tup [.int n,.int b])) du (.lst [.ref p])):=by
   refine⟨E1,by rw [qA4 ndu,qA4 ndp,qA1];rfl,⟨[.ref p],qA1,.one (by rw [qA4 npd,qA1])⟩,List.nodup_nil,(fun _ h=>absurd h (by simp)),fun y hy=>by rw [List.mem_singleton.mp hy];exact .refl,(fun _ h=>absurd h (by simp)),.inr (List.mem_singleton.mpr rfl),by simp⟩
  generalize upd (upd (upd H d (.dT [])) p (.tup [.int n,.int b])) du (.lst [.ref p])=H1 at st0 ⊢
  walk_at "rd"
  refine⟨GoW H wa d du ws x n b,⟨_,[],_,_,_,_,_,_,rfl,rfl,st0⟩,?_⟩
  rintro μ σ' H' ⟨ks,due,o6,o7,o8,o9,o10,rfl,rfl,I⟩
  obtain⟨dvs,hdu',hdp⟩:=I.hdu
  walk_at "rd"
  refine⟨len2 (Nat.zero_le _),fun en0 hen0 => ?_⟩
  have e2:Ext [] H' (upd H' en0 (.lst [])) :=.laid hen0
  have hdu2:=e2 _ _ (by simp) hdu'
  have hdp2:=hdp.mono e2.tk
  have hd2:=e2 _ _ (by simp) I.hd
  have ext2:=I.ext.trans e2
  refine⟨qHt due,.list [],.list (SqL.of hdu2) hdp2.den,.list (SqL.of qA1) .nil,qJx due,rfl,?_⟩
  rw [if_pos rfl,qIz]
  generalize upd H' en0 (.lst [])=H2 at e2 hdu2 hdp2 hd2 ext2 ⊢
  walk_at "rd"
  rcases List.eq_nil_or_concat due with h | ⟨init,y,h⟩
  ·subst h
   rw [decide_eq_true rfl]
   refine iteF ?_
   walk_at "rd"
   have hq:=q H2 ext2
   rw [I.end_] at hq
   exact hq
  ·have h:due=init ++ [y]:=by rw [h,List.concat_eq_append]
   rw [decide_eq_false (by rw [h];simp)]
   rw [h] at hdp2
   obtain⟨wvs,v,rfl,hws,vb,rfl,hvb⟩:=hdp2.last
   refine iteT ⟨fun σ' H' => ∃m',m'<((places ws).length - ks.length)*24+due.length/\GoW H wa d du ws x n b m' σ' H',fun _ _ h=>h,?_⟩
   have hyr:=I.rd y (by rw [h];simp)
   have hcU : ∀p∈places ws,∀q∈metOf ws x p,q∈places ws:=fun p _ q hq=>qPo hok hq
   have hyU:=hyr.within hcU hpl
   have hksU : ∀z∈ks,z∈places ws:=fun z hz=>(I.rk z hz).within hcU hpl
   have hkl:=qCj I.nod hksU
   have hdl:due.length=init.length+1:=by rw [h];simp
   have hfd:=I.fewd
   have hwl:=hws.len
   walk_at "rd"
   refine qCo hdu2 ?_
   refine⟨du,wvs ++ [V.ref vb],.ref vb,rfl,rfl,hdu2,by simp,?_⟩
   rw [List.dropLast_concat]
   have d3:upd H2 du (.lst wvs) d=some (.dT (trueD ks)):=by rw [qA4 ndu];exact hd2
   have e3:Ext [] H (upd H2 du (.lst wvs)):=((ext2.mono (us :=[du]) (by simp)).trans (.put (by simp))).drop hduH
   have u3:upd H2 du (.lst wvs) du=some (.lst wvs):=qA1
   have tk3:TK H2 (upd H2 du (.lst wvs)) :=.put (by intro ys z;rw [hdu2] at z;cases z)
   have hws3:=hws.mono tk3
   have hvb3:=tk3 _ _ hvb
   generalize upd H2 du (.lst wvs)=H3 at d3 e3 u3 tk3 hws3 hvb3 ⊢
   walk_at "rd"
   refine⟨d,_,rfl,DGet.t (k:=plK y) d3 hvb3,?_⟩
   rw [qF6]
   by_cases hy:y∈ks
   ·rw [if_pos hy]
    refine qR0 (iteF ?_)
    walk_at "rd"
    refine⟨_,by rw [hdl];exact Nat.lt_succ_self _,ks,init,_,_,_,_,_,rfl,rfl,e3,d3,⟨wvs,u3,hws3⟩,I.nod,I.rk,fun z hz=>I.rd z (by rw [h];exact List.mem_append_left _ hz),fun k hk=>⟨(I.clo k hk).1,fun c hc' => ?_⟩,?_,by omega⟩
    ·rcases (I.clo k hk).2 c hc' with z | z
     ·exact .inl z
     ·rw [h] at z
      rcases List.mem_append.mp z with z | z
      ·exact .inr z
      ·rw [List.mem_singleton.mp z];exact .inl hy
    ·rcases I.one with z | z
     ·exact .inl z
     ·rw [h] at z
      rcases List.mem_append.mp z with z | z
      ·exact .inr z
      ·rw [List.mem_singleton.mp z];exact .inl hy
   ·rw [if_neg hy]
    refine qR0 (iteT ?_)
    walk_at "rd"
    refine⟨d,_,rfl,DPut.t (k:=plK y) d3 hvb3 (qJp (by unfold trueD;rw [List.length_map];omega)),?_⟩
    have hput:putK (trueD ks) (plK y) (V.bl true)=trueD (ks ++ [y]):=by
     rw [qIo _ (by rw [qF6,if_neg hy])];unfold trueD;rw [List.map_append];rfl
    rw [hput]
    have d4:upd H3 d (.dT (trueD (ks ++ [y]))) d=some (.dT (trueD (ks ++ [y]))):=qA1
    have e4:Ext [] H (upd H3 d (.dT (trueD (ks ++ [y])))):=((e3.mono (us :=[d]) (by simp)).trans (.put (by simp))).drop hd
    have u4:upd H3 d (.dT (trueD (ks ++ [y]))) du=some (.lst wvs):=by rw [qA4 ndu.symm];exact u3
    have tk4:TK H3 (upd H3 d (.dT (trueD (ks ++ [y])))) :=.put (by intro ys z;rw [d3] at z;cases z)
    have hws4:=hws3.mono tk4
    have hvb4:=tk4 _ _ hvb3
    generalize upd H3 d (.dT (trueD (ks ++ [y])))=H4 at d4 e4 u4 tk4 hws4 hvb4 ⊢
    have hnod:(ks ++ [y]).Nodup:=by
     rw [List.nodup_append]
     refine⟨I.nod,by simp,fun z hz z' hz' => ?_⟩
     rw [List.mem_singleton.mp hz']
     rintro rfl
     exact hy hz
    have hkl2:=qCj (l2:=places ws) hnod fun z hz=>by
     rcases List.mem_append.mp hz with t | t
     ·exact hksU z t
     ·rw [List.mem_singleton.mp t];exact hyU
    rw [List.length_append,List.length_singleton] at hkl2
    obtain⟨bk,hbk⟩:=mem_places.mp hyU
    obtain⟨yn,ya,w1,hy2,hw1,hb1⟩:=qFp hbk
    subst hy2
    obtain⟨m,n',w1',hp1,hw1',hm,hm1,hm2,hbok⟩:=hok.blk hbk
    obtain⟨wv,bs,wb,pb,dl,ds,ve,s1,s2,s3,s4,s5,s6,s7,s8⟩:=qMn hW hbk
    have hra:qBv ws x ((yn:Int),(ya:Int))=readB x bk:=by unfold qBv;rw [hbk]
    have hmet:metOf ws x ((yn:Int),(ya:Int))=metB x yn bk:=by unfold metOf;rw [hbk]
    have hml:=qLu hok x ((yn:Int),(ya:Int))
    have hdsl:ds.length=bk.ds.length:=by rw [s7.len,List.length_map]
    have hds14:=hbok.few
    walk_at "rd"
    refine qCp (SqT.of hvb4) (show atI _ ((0:Nat):Int)=some (V.int yn) from qAq rfl) ?_
    refine qBl (e4.toSame.seq s1) s2 ?_
    walk_at "rd"
    refine qCp (SqT.of hvb4) (show atI _ ((1:Nat):Int)=some (V.int ya) from qAq rfl) ?_
    refine qBl (e4.toSame.seq s3) s4 ?_
    refine qBy (e4.toSame.seqT s5) rfl ?_
    walk_at "rd"
    refine⟨dl,rfl,⟨_,e4.toSame.seq s6⟩,qCx (xs:=ds) (fun j σ' G => ∃(cvs:List V) (o10:Option V),σ' = [some (.ref wa),some (.int n),some (.int b),some (.int x),some (.ref d),some (.ref du),some (.ref vb),some (.ref dl),some ve,some (.bl (!wrote x (bk.ds.take j))),o10]/\Ext [] H G/\G d=some (.dT (trueD (ks ++ [((yn:Int),(ya:Int))])))/\G du=some (.lst cvs) /\
     PlsAt G cvs (init++(((till x (bk.ds.take j)).filterMap qC5).map fun c=>(c,0)))/\G vb=some (.tup [.int yn,.int ya])/\(till x (bk.ds.take j)).any (rdB x)=false) ?_ ?_ ?_ ?_⟩
    ·refine⟨wvs,_,rfl,e4,d4,u4,?_,hvb4,rfl⟩
     simpa [till] using hws4
    ·rintro j σ' G hj ⟨cvs,o10,rfl,eG,hdG,huG,hcp,hvG,hno⟩
     exact eG.toSame.seq s6
    ·rintro j v σ' G hv ⟨cvs,o10,rfl,eG,hdG,huG,hcp,hvG,hno⟩ N_ B_ C_ R_ hN_ hC_ hR_
     obtain⟨dd,hdd,hDv⟩:=s7.get hv
     obtain⟨de,hde,rfl⟩:=qAg hdd
     have hjl:j<bk.ds.length:=(List.getElem?_eq_some_iff.mp hde).1
     obtain⟨pd,rfl,hpd⟩:=qD0 hDv
     have hcl:=hcp.len
     have hfl:=List.length_filterMap_le qC5 (till x (bk.ds.take j))
     have htl:=qDp x (bk.ds.take j)
     rw [List.length_take] at htl
     rw [List.length_append,List.length_map] at hcl
     have htk:bk.ds.take (j+1)=bk.ds.take j ++ [de]:=qAu hde
     have third : ∀(G5:Hp) (fl:Bool) (D:Ends),Ext [] H G5->(∀G6,Ext [] G5 G6->D.nx [some (V.ref wa),some (.int n),some (.int b),some (.int x),some (.ref d),some (.ref du),some (.ref vb),some (.ref dl),some ve,some (.bl (fl && !wrB x de)),some (.ref pd)] G6) ->
       tIfS (tAnd (tTest (tOp (rIn K false) (tOp (rIxT K) (tVar 10) (tC (V.int 0))) (tTup (tCons (tC (V.str "set")) (tCons (tC (V.str "add")) tNil))))) (tTest (tOp rEq (tOp (rIxT K) (tVar 10) (tC (V.int 1))) (tVar 3)))) (tAsg (tC (V.bl false)) (gName 9)) tNext D [some (V.ref wa),some (.int n),some (.int b),some (.int x),some (.ref d),some (.ref du),some (.ref vb),some (.ref dl),some ve,some (.bl fl),some (.ref pd)] G5:=by
      intro G5 fl D e5 hD
      have hp5:=e5.toSame.seqT hpd
      with_reducible refine L2.qX8 ?_
      with_reducible refine L2.qVn ?_
      walk_at "rd"
      refine qCp hp5 (show atI _ ((0:Nat):Int)=some (V.str (dword de)) from qAq rfl) ?_
      walk_at "rd"
      refine⟨len2 (by show 2<=1000;decide),fun pt hpt => ?_⟩
      have e6:Ext [] G5 (upd G5 pt (.tup [.str "set",.str "add"])) :=.laid hpt
      refine⟨pt,[V.str "set",.str "add"],rfl,.inr (SqT.of qA1),rfl,rfl,?_⟩
      rw [if_neg Bool.false_ne_true,deed_in]
      refine⟨_,rfl,?_⟩
      have hq:=hD _ e6
      have hp6:=e6.toSame.seqT hp5
      generalize upd G5 pt (.tup [.str "set",.str "add"])=G6 at e6 hq hp6 ⊢
      unfold wrB at hq
      cases hw:(wr de).isSome with
      | true =>
       rw [hw] at hq
       refine iteT ?_
       walk_at "rd"
       refine qCp hp6 (qI6 de) ?_
       walk_at "rd"
       refine qE2 ?_
       refine⟨_,rfl,?_⟩
       cases hx:decide (darg de=x) with
       | true =>
        rw [hx] at hq
        refine iteT ?_
        walk_at "rd"
        simpa using hq
       | false =>
        rw [hx] at hq
        refine iteF ?_
        with_reducible refine L2.qEq ?_
        simpa using hq
      | false =>
       rw [hw] at hq
       refine iteF (iteF ?_)
       with_reducible refine L2.qEq ?_
       simpa using hq
     cases hwt:wrote x (bk.ds.take j) with
     | true =>
      have hw1:wrote x (bk.ds.take (j+1))=true:=by rw [htk,qDn,hwt];rfl
      have ht1:till x (bk.ds.take (j+1))=till x (bk.ds.take j):=by rw [htk,qD3 hwt]
      walk_at "rd"
      refine⟨false,rfl,iteF (iteF ?_)⟩
      walk_at "rd"
      refine⟨false,rfl,iteF (iteF ?_)⟩
      with_reducible refine L2.qEq ?_
      refine third G false _ eG fun G6 e6=>hN_ _ _ ⟨cvs,some (.ref pd),?_,eG.trans e6,e6 _ _ (by simp) hdG,e6 _ _ (by simp) huG,?_,e6 _ _ (by simp) hvG,?_⟩
      ·rw [hw1];rfl
      ·rw [ht1];exact hcp.mono e6.tk
      ·rw [ht1];exact hno
     | false =>
      have hw1:wrote x (bk.ds.take (j+1))=wrB x de:=by rw [htk,qDn,hwt];rfl
      have ht1:till x (bk.ds.take (j+1))=till x (bk.ds.take j) ++ [de]:=by rw [htk,qD4 hwt]
      walk_at "rd"
      refine⟨true,rfl,iteT ?_⟩
      walk_at "rd"
      refine⟨.ref pd,de,x,rfl,hDv.mono eG.toSame,fun G2 eG2 => ?_⟩
      refine⟨rdB x de,rfl,?_⟩
      cases hrd:rdB x de with
      | true =>
       refine iteT ?_
       walk_at "rd"
       have hask:askB ws x ((n:Int),(b:Int))=true:=askB_iff.mpr ⟨_,hyr,by rw [hra];unfold readB;exact List.any_eq_true.mpr ⟨de,qR5 hwt hde,hrd⟩⟩
       have hq:=q G2 (eG.trans eG2)
       rw [hask] at hq
       exact hq
      | false =>
       refine iteF ?_
       have E2:=eG.trans eG2
       have hd2':=eG2 _ _ (by simp) hdG
       have hu2':=eG2 _ _ (by simp) huG
       have hcp2:=hcp.mono eG2.tk
       have hv2':=eG2 _ _ (by simp) hvG
       have hpd2:=E2.toSame.seqT hpd
       have hno1:(till x (bk.ds.take (j+1))).any (rdB x)=false:=by rw [ht1,List.any_append,hno];simp [hrd]
       walk_at "rd"
       refine⟨true,rfl,iteT ?_⟩
       walk_at "rd"
       refine qCp hpd2 (show atI _ ((0:Nat):Int)=some (V.str (dword de)) from qAq rfl) ?_
       walk_at "rd"
       refine qRj ?_
       rw [qKo]
       walk_at "rd"
       cases hcl2:qHz de with
       | true =>
        refine iteT ?_
        walk_at "rd"
        refine qCo hu2' ?_
        walk_at "rd"
        refine qCp hpd2 (qI6 de) ?_
        walk_at "rd"
        refine⟨len2 (by show 2<=1000;decide),fun p2 hp2 => ?_⟩
        have np2:p2≠du:=(qA2 hu2' hp2).symm
        with_reducible refine L2.qOp ?_
        refine qDg (xs:=cvs) (by rw [qA4 np2.symm];exact hu2') (by rw [sizeLine_eq];omega) ?_
        have tk:TK G2 (upd (upd G2 p2 (.tup [.int (darg de),.int 0])) du (.lst (cvs ++ [.ref p2]))):=(Ext.laid hp2).tk.trans (.put (by intro ys z;rw [qA4 np2.symm,hu2'] at z;cases z))
        have ndd:d≠p2:=qA2 hd2' hp2
        have E5:Ext [] H (upd (upd G2 p2 (.tup [.int (darg de),.int 0])) du (.lst (cvs ++ [.ref p2]))):=((E2.mono (us :=[du]) (by simp)).trans ((Ext.laid hp2).trans (.put (by simp)))).drop hduH
        refine third _ true _ E5 fun G6 e6=>hN_ _ _ ⟨cvs ++ [.ref p2],some (.ref pd),?_,E5.trans e6,e6 _ _ (by simp) (by rw [qA4 ndu,qA4 ndd];exact hd2'),e6 _ _ (by simp) qA1,?_,e6.tk _ _ (tk _ _ hv2'),hno1⟩
        ·rw [hw1];rfl
        ·rw [ht1,List.filterMap_append,List.map_append,<-List.append_assoc,List.filterMap_cons,qQk de hcl2]
         exact ((hcp2.mono tk).append (.one (p:=(darg de,0)) (by rw [qA4 np2,qA1]))).mono e6.tk
       | false =>
        refine iteF ?_
        with_reducible refine L2.qEq ?_
        have hn:qC5 de=none:=by
         unfold qHz at hcl2
         cases z:qC5 de with
         | none=>rfl
         | some y=>rw [z] at hcl2;cases hcl2
        refine third _ true _ E2 fun G6 e6=>hN_ _ _ ⟨cvs,some (.ref pd),?_,E2.trans e6,e6 _ _ (by simp) hd2',e6 _ _ (by simp) hu2',?_,e6 _ _ (by simp) hv2',hno1⟩
        ·rw [hw1];rfl
        ·rw [ht1,List.filterMap_append,List.filterMap_cons,hn,List.filterMap_nil,List.append_nil]
         exact hcp2.mono e6.tk
    ·rintro σ' G ⟨cvs,o10,rfl,eG,hdG,huG,hcp,hvG,hno⟩
     rw [hdsl,List.take_length] at hcp hno ⊢
     have hnr:qBv ws x ((yn:Int),(ya:Int))=false:=by rw [hra];exact hno
     have hcl:=hcp.len
     have hfl:=List.length_filterMap_le qC5 (till x bk.ds)
     have htl:=qDp x bk.ds
     rw [List.length_append,List.length_map] at hcl
     have fin : ∀(G6:Hp) (cvs6:List V),Ext [] H G6->G6 d=some (.dT (trueD (ks ++ [((yn:Int),(ya:Int))])))->G6 du=some (.lst cvs6)->PlsAt G6 cvs6 (init++metOf ws x ((yn:Int),(ya:Int))) -> ∀o6 o7 o8 o9 o10:Option V,
       ∃m',m'<((places ws).length - ks.length)*24+due.length/\GoW H wa d du ws x n b m' [some (.ref wa),some (.int n),some (.int b),some (.int x),some (.ref d),some (.ref du),o6,o7,o8,o9,o10] G6:=by
      intro G6 cvs6 e6 hd6 hu6 hp6 o6 o7 o8 o9 o10
      refine⟨_,?_,ks ++ [((yn:Int),(ya:Int))],init++metOf ws x ((yn:Int),(ya:Int)),o6,o7,o8,o9,o10,rfl,rfl,e6,hd6,⟨cvs6,hu6,hp6⟩,hnod,?_,?_,?_,?_,?_⟩
      ·rw [List.length_append,List.length_append,List.length_singleton];omega
      ·intro z hz
       rcases List.mem_append.mp hz with t | t
       ·exact I.rk z t
       ·rw [List.mem_singleton.mp t];exact hyr
      ·intro z hz
       rcases List.mem_append.mp hz with t | t
       ·exact I.rd z (by rw [h];exact List.mem_append_left _ t)
       ·exact .step hyr t
      ·intro k hk
       rcases List.mem_append.mp hk with t | t
       ·refine⟨(I.clo k t).1,fun c hc' => ?_⟩
        rcases (I.clo k t).2 c hc' with r | r
        ·exact .inl (List.mem_append_left _ r)
        ·rw [h] at r
         rcases List.mem_append.mp r with r | r
         ·exact .inr (List.mem_append_left _ r)
         ·exact .inl (List.mem_append_right _ r)
       ·rw [List.mem_singleton.mp t]
        exact⟨hnr,fun c hc' =>.inr (List.mem_append_right _ hc')⟩
      ·rcases I.one with r | r
       ·exact .inl (List.mem_append_left _ r)
       ·rw [h] at r
        rcases List.mem_append.mp r with r | r
        ·exact .inr (List.mem_append_left _ r)
        ·exact .inl (List.mem_append_right _ r)
      ·rw [List.length_append,List.length_append,List.length_singleton];omega
     walk_at "rd"
     cases hwt:wrote x bk.ds with
     | true =>
      refine⟨false,rfl,iteF ?_⟩
      with_reducible refine L2.qEq ?_
      refine fin G cvs eG hdG huG ?_ _ _ _ _ _
      rw [hmet]
      unfold metB qH2
      rw [hwt,if_pos rfl,List.append_nil]
      exact hcp
     | false =>
      refine⟨true,rfl,iteT ?_⟩
      walk_at "rd"
      refine qCo huG ?_
      walk_at "rd"
      obtain⟨wd,hwd,_⟩:=qN1 hbok.ns
      rw [hwd] at s8
      obtain⟨en,es',rfl,hen,hes⟩:=s8.ofTuple
      obtain⟨v3,r3,rfl,hd3',hr3⟩:=hes.ofCons
      have ee3:=hd3'.ofStr
      subst ee3
      have ee4:=hr3.ints
      subst ee4
      have hnf:=hbok.ns.few
      refine⟨1,rfl,?_⟩
      walk_at "rd"
      refine⟨en,_,rfl,eG.toSame.seqT hen,?_,fun pp hpp => ?_⟩
      ·intro hh
       have:=hh.1
       revert this
       have hn:(V.str wd::bk.ns.map V.int).length=bk.ns.length+1:=by simp
       rw [hn]
       unfold HT.sIx
       simp
       try omega
      rw [cut1]
      have e5:Ext [] G (upd G pp (.tup (bk.ns.map V.int))) :=.laid hpp
      have hu5:=e5 _ _ (by simp) huG
      have hd5:=e5 _ _ (by simp) hdG
      have hv5:=e5 _ _ (by simp) hvG
      have hcp5:=hcp.mono e5.tk
      have hpp5:upd G pp (.tup (bk.ns.map V.int)) pp=some (.tup (bk.ns.map V.int)):=qA1
      generalize upd G pp (.tup (bk.ns.map V.int))=G5 at e5 hu5 hd5 hv5 hcp5 hpp5 ⊢
      refine⟨pp,rfl,⟨_,SqT.of hpp5⟩,fun le hle => ?_⟩
      have npl:pp≠le:=qA2 hpp5 hle
      have nvl:vb≠le:=qA2 hv5 hle
      refine qMr (xs:=bk.ns.map V.int) (fun j σ' G6 => ∃(o0:Option V) (ts:List V),σ' = [o0,some (.ref vb)]/\Ext [le] G5 G6/\G6 le=some (.lst ts)/\PlsAt G6 ts ((bk.ns.take j).map fun t=>((yn:Int),t))) ?_ ?_ ?_ ?_
      ·exact⟨none,[],rfl,.laid hle,qA1,.nil⟩
      ·rintro j σ' G6 hj ⟨o0,ts,rfl,e6,hle6,hts⟩
       exact SqT.of (e6 _ _ (by simpa using npl) hpp5)
      ·rintro j yy σ' G6 R hyy ⟨o0,ts,rfl,e6,hle6,hts⟩ hR
       obtain⟨t,ht,rfl⟩:=qAg hyy
       have hj:j<bk.ns.length:=(List.getElem?_eq_some_iff.mp ht).1
       have htl:=hts.len
       rw [List.length_map,List.length_take] at htl
       walk_at "rd"
       refine iteT ?_
       walk_at "rd"
       refine qCp (SqT.of (e6 _ _ (by simpa using nvl) hv5)) (show atI _ ((0:Nat):Int)=some (V.int yn) from qAq rfl) ?_
       walk_at "rd"
       refine⟨len2 (by show 2<=1000;decide),fun p2 hp2 => ?_⟩
       have np2:p2≠le:=(qA2 hle6 hp2).symm
       have tk:TK G6 (upd (upd G6 p2 (.tup [.int yn,.int t])) le (.lst (ts ++ [.ref p2]))):=(Ext.laid hp2).tk.trans (.put (by intro ys z;rw [qA4 np2.symm,hle6] at z;cases z))
       refine⟨ts,by rw [qA4 np2.symm];exact hle6,qAa (by omega),hR _ _ ⟨_,ts ++ [.ref p2],rfl,e6.trans ((Ext.laid hp2).trans (.put (by simp))),qA1,?_⟩⟩
       rw [qAu ht,List.map_append]
       exact (hts.mono tk).append (.one (by rw [qA4 np2,qA1]))
      ·rintro σ' G6 ⟨o0,ts,rfl,e6,hle6,hts⟩
       rw [List.length_map,List.take_length] at hts
       have htl:=hts.len
       rw [List.length_map] at htl
       have E6:=e6.drop hle
       have hu6:=E6 _ _ (by simp) hu5
       have hd6:=E6 _ _ (by simp) hd5
       walk_at "rd"
       refine⟨du,le,cvs,ts,rfl,rfl,hu6,hle6,by rw [sizeLine_eq];omega,?_⟩
       have tk:TK G6 (upd G6 du (.lst (cvs++ts))) :=.put (by intro ys z;rw [hu6] at z;cases z)
       refine fin _ (cvs++ts) (((((eG.trans e5).trans E6).mono (us :=[du]) (by simp)).trans (.put (by simp))).drop hduH) (by rw [qA4 ndu];exact hd6) qA1 ?_ _ _ _ _ _
       rw [hmet]
       unfold metB qH2
       rw [hwt,if_neg Bool.false_ne_true,<-List.append_assoc]
       exact ((hcp5.mono E6.tk).append hts).mono tk
end
section
variable {P:Program} {w:World} {K:PySem.W.Frag} {mg:Str->Option Value} {base:Heap}
def qWl (K:PySem.W.Frag):Sp:=fun vs H Q _ => ∃(a:Addr) (wk:List Blk),vs = [.ref a]/\Den K H (workD wk) (.ref a)/\(∀b∈wk,b.ns.length<=2)/\wk.length<=12 /\
 ∀(d:Addr) (H':Hp),H d=none->Ext [] H H'->Nex H' d wk->Q (.ref d) H'
abbrev sNx:Stmt:=top 6
theorem scNx:FnScope ["work"] ["work"] (qA7 sNx):=⟨rfl,rfl,rfl,by decide +kernel,rfl,by decide +kernel,by decide +kernel⟩
theorem qX5 {f:Addr} {fd:FuncData} (F:Fun K "nexts_of" "nexts_of" sNx f fd) (nlist:mg "list" = none) (nenum:mg "enumerate" = none):FnOk P w K mg base CX0 1 f fd ["work"] (qWl K):=by
 refine F.ok scNx (fun vs H Q E h => ?_) (fun cdv A outer s H vs Q E hr h => ?_)
 ·obtain⟨a,w,rfl,_⟩:=h
  rfl
 ·obtain⟨a,wk,rfl,hW,hns,hwl,q⟩:=h
  have nd3:((["at","deeds","end"]:List Str)).Nodup:=by decide
  refine⟨_,qA8 (qAj (qU4 ["at","deeds","end"] [] rfl (.of rfl) (qEh rfl nenum (qA0 (pv 0) qA3)) (fun _ _ _ _=>qD8 (n:=2) K rfl rfl (qAc (qA9 (i:=0) nd3 rfl (Or.inl rfl)) (qAc (qD8 (n:=2) K rfl rfl (qAc (qA9 (i:=1) nd3 rfl (Or.inl rfl)) (qAc (qA9 (i:=2) nd3 rfl (Or.inl rfl)) qB9))) qB9))) (fun _ _ _ _ =>.nil)
   (fun _ _ _ _=>pv 0) (fun _ _ _ _=>qAl (qMt K rfl) (by rfl) nlist PyProof.Rows.boot_list (qA0 (qC0 (qOi K rfl) (pv 2) (qCq qA6) qCr) qA3)))),?_⟩
  dsimp only [qBb,qB3]
  obtain⟨a',vs,ea,hSq,hDL⟩:=hW.ofList
  cases ea
  have hvl:vs.length=wk.length:=by rw [hDL.len,List.length_map]
  walk_at "rd"
  refine⟨a,rfl,⟨vs,hSq⟩,fun d hd => ?_⟩
  refine qKa (xs:=vs) (fun i σ' H' => ∃(kvs:List (Key×V)) (o0 o1 o2:Option V),σ' = [o0,o1,o2]/\Ext [d] H H'/\H' d=some (.dK kvs)/\kvs.length<=i /\ ∀k:Int,0<=k->k<i -> ∃c,valV kvs (Sum.inl k)=some (.ref c)/\c≠d/\H' c=some (.lst ((nxt wk k).map V.int))) ?_ ?_ ?_ ?_
  ·exact⟨[],none,none,none,rfl,.laid hd,qA1,Nat.le_refl _,fun k h0 h1=>absurd h1 (by omega)⟩
  ·rintro i σ' H' hi ⟨kvs,o0,o1,o2,rfl,e',hd',hkl,hk⟩
   exact (e'.drop hd).toSame.seq hSq
  ·rintro i x σ' H' pt R hx ⟨kvs,o0,o1,o2,rfl,e',hd',hkl,hk⟩ hpt hR
   obtain⟨dd,hdd,hDx⟩:=hDL.get hx
   obtain⟨b,hb,rfl⟩:=qAg hdd
   have hi:i<wk.length:=(List.getElem?_eq_some_iff.mp hb).1
   have hb2:=hns b (List.mem_of_getElem? hb)
   obtain⟨c,us,rfl,hc,hcs⟩:=hDx.ofTuple
   obtain⟨v1,r1,rfl,hd1,hr1⟩:=hcs.ofCons
   obtain⟨v2,r2,rfl,hd2,hr2⟩:=hr1.ofCons
   have hr2:=hr2.ofNil
   subst hr2
   obtain⟨wd,hwd⟩:=qQb hb2
   rw [hwd] at hd2
   obtain⟨en,es',rfl,hen,hes⟩:=hd2.ofTuple
   obtain⟨v3,r3,rfl,hd3,hr3⟩:=hes.ofCons
   have e3:=hd3.ofStr
   subst e3
   have e4:=hr3.ints
   subst e4
   have npt:pt≠d:=(qA2 hd' hpt).symm
   have e1:Ext [d] H (upd H' pt (.tup [.int i,.ref c])):=e'.trans (.laid hpt)
   have es:Same H (upd H' pt (.tup [.int i,.ref c])):=(e1.drop hd).toSame
   have hd1':upd H' pt (.tup [.int i,.ref c]) d=some (.dK kvs):=by rw [qA4 npt.symm];exact hd'
   have hpt1:SqT K (upd H' pt (.tup [.int i,.ref c])) pt [.int i,.ref c]:=SqT.of qA1
   have hk1:Ext [] H' (upd H' pt (.tup [.int i,.ref c])) :=.laid hpt
   generalize upd H' pt (.tup [.int i,.ref c])=H1 at *
   refine qBy hpt1 rfl ?_
   walk_at "rd"
   refine qBy (es.seqT hc) rfl ?_
   walk_at "rd"
   refine iteT ?_
   walk_at "rd"
   refine⟨1,rfl,?_⟩
   walk_at "rd"
   refine⟨en,_,rfl,es.seqT hen,?_,fun p hp => ?_⟩
   ·intro h
    have:=h.1
    revert this
    have hn:(V.str wd::b.ns.map V.int).length=b.ns.length+1:=by simp
    rw [hn]
    unfold HT.sIx
    simp
    try omega
   have hcut:cutV (V.str wd::b.ns.map V.int) (some 1) none=b.ns.map V.int:=by
    match hh:b.ns,hb2 with
    | [],_=>rfl
    | [x],_=>rfl
    | [x,y],_=>rfl
   rw [hcut]
   have npl:p≠d:=(qA2 hd1' hp).symm
   walk_at "rd"
   refine⟨p,_,rfl,.inr (SqT.of qA1),fun l2 hl2 => ?_⟩
   have e2:Ext [] H1 (upd (upd H1 p (.tup (b.ns.map V.int))) l2 (.lst (b.ns.map V.int))):=(Ext.laid hp).trans (.laid hl2)
   have hl2s:upd (upd H1 p (.tup (b.ns.map V.int))) l2 (.lst (b.ns.map V.int)) l2=some (.lst (b.ns.map V.int)):=qA1
   have n2:l2≠d:=(qA2 (Ext.laid (ts :=[]) hp _ _ (by simp) hd1') hl2).symm
   generalize upd (upd H1 p (.tup (b.ns.map V.int))) l2 (.lst (b.ns.map V.int))=H2 at *
   refine⟨kvs,Sum.inl (i:Int),rfl,e2 _ _ (by simp) hd1',qAa (by omega),hR _ _ ⟨_,_,_,_,rfl,?_,qA1,?_,fun k k0 k1 => ?_⟩⟩
   ·exact e1.trans ((e2.mono (by simp)).trans (.put (by simp)))
   ·have:=qBh kvs (Sum.inl (i:Int):Key) (.ref l2)
    omega
   ·rw [qEn]
    by_cases z:k=(i:Int)
    ·subst z
     rw [if_pos rfl]
     refine⟨l2,rfl,n2,?_⟩
     rw [qA4 n2,hl2s,qPj hb]
    ·rw [if_neg (fun y=>z (Sum.inl.inj y))]
     obtain⟨c',h1,h2,h3⟩:=hk k k0 (by omega)
     exact⟨c',h1,h2,by rw [qA4 h2];exact (hk1.trans e2) _ _ (by simp) h3⟩
  ·rintro σ' H' ⟨kvs,o0,o1,o2,rfl,e',hd',hkl,hk⟩
   rw [hvl] at hk
   refine q d H' hd (e'.drop hd) ⟨kvs,hd',fun k k0 k1 => ?_⟩
   obtain⟨c,h1,_,h3⟩:=hk k k0 k1
   exact⟨c,h1,h3⟩
end
section
variable {P:Program} {w:World} {K:PySem.W.Frag} {mg:Str->Option Value} {base:Heap}
def NsAt (l:Addr) (H:Hp):List V->List (List Int)->Prop:=Paired fun v ns => ∃b,v = .ref b/\b≠l/\H b=some (.lst (ns.map V.int))
def qLd (K:PySem.W.Frag):Sp:=fun vs H Q _ => ∃(a:Addr) (w:List Blk),vs = [.ref a]/\Den K H (workD w) (.ref a)/\(∀b∈w,b.ns.length<=2)/\w.length<=12 /\
 ∀(l:Addr) (us:List V) (H':Hp),H l=none->Ext [] H H'->H' l=some (.lst us)->NsAt l H' us (w.map Blk.ns)->Q (.ref l) H'
theorem NsAt.mono {l:Addr} {H H':Hp} {us:List V} {ns:List (List Int)} (h:NsAt l H us ns) (e:Ext [l] H H'):NsAt l H' us ns:=Paired.mapP h fun _ _ ⟨b,h1,h2,h3⟩=>⟨b,h1,h2,e _ _ (by simpa using h2) h3⟩
theorem NsAt.len {l:Addr} {H:Hp} {us:List V} {ns:List (List Int)} (h:NsAt l H us ns):us.length=ns.length:=Paired.length h
theorem NsAt.get {l:Addr} {H:Hp} : ∀ {us:List V} {wk:List Blk},NsAt l H us (wk.map Blk.ns) -> ∀ {x:Int},0<=x->x<wk.length -> ∃c,atI us x=some (.ref c)/\H c=some (.lst ((nxt wk x).map V.int)):=by
 have key : ∀ {us:List V} {wk:List Blk} {i:Nat} {b:Blk},NsAt l H us (wk.map Blk.ns)->wk[i]? = some b -> ∃c,us[i]? = some (.ref c)/\H c=some (.lst (b.ns.map V.int)):=by
  intro us wk
  induction wk generalizing us with
  | nil=>intro i b _ h;simp at h
  | cons b0 r ih =>
   intro i b h hb
   cases h with
   | cons a t =>
    obtain⟨c,rfl,_,hc⟩:=a
    cases i with
    | zero=>simp at hb;subst hb;exact⟨c,rfl,hc⟩
    | succ i =>
     obtain⟨c',h1,h2⟩:=ih t (by simpa using hb)
     exact⟨c',by simpa using h1,h2⟩
 intro us wk h x h0 h1
 obtain⟨i,rfl⟩:=Int.eq_ofNat_of_zero_le h0
 have hi:i<wk.length:=by omega
 obtain⟨c,h2,h3⟩:=key h (List.getElem?_eq_getElem hi)
 exact⟨c,qAq h2,by rw [qPj (List.getElem?_eq_getElem hi)];exact h3⟩
abbrev sEnds:Stmt:=top 35
theorem qV0:FnScope ["_law_work_here"] ["_law_work_here"] (qA7 sEnds):=⟨rfl,rfl,rfl,by decide +kernel,rfl,by decide +kernel,by decide +kernel⟩
theorem qUg {f:Addr} {fd:FuncData} (F:Fun K "_law_ends" "_law_ends" sEnds f fd) (nlist:mg "list" = none):FnOk P w K mg base CX0 1 f fd ["_law_work_here"] (qLd K):=by
 refine F.ok qV0 (fun vs H Q E h => ?_) (fun cdv A outer s H vs Q E hr h => ?_)
 ·obtain⟨a,w,rfl,_⟩:=h
  rfl
 ·obtain⟨a,wk,rfl,hW,hns,hwl,q⟩:=h
  have nd2:((["_law_deeds_here","_law_end"]:List Str)).Nodup:=by decide
  refine⟨_,qA8 (qAj (qBx ["_law_deeds_here","_law_end"] [] rfl (.of rfl) (qAo (pv 0)) (fun _ _ _ _=>qD8 (n:=2) K rfl rfl (qAc (qA9 (i:=0) nd2 rfl (Or.inl rfl)) (qAc (qA9 (i:=1) nd2 rfl (Or.inl rfl)) qB9))) (fun _ _ _ _ =>.nil)
   (fun _ _ _ _=>qAl (qMt K rfl) (by rfl) nlist PyProof.Rows.boot_list (qA0 (qC0 (qOi K rfl) (pv 1) (qCq qA6) qCr) qA3)))),?_⟩
  dsimp only [qBb,qB3]
  obtain⟨a',vs,ea,hSq,hDL⟩:=hW.ofList
  cases ea
  have hvl:vs.length=wk.length:=by rw [hDL.len,List.length_map]
  walk_at "rd"
  refine⟨a,rfl,⟨vs,hSq⟩,fun l hl => ?_⟩
  refine qAf (xs:=vs) (fun i σ' H' => ∃(ws:List V) (o0 o1:Option V),σ' = [o0,o1]/\Ext [l] H H'/\H' l=some (.lst ws)/\NsAt l H' ws ((wk.take i).map Blk.ns)) ?_ ?_ ?_ ?_
  ·exact⟨[],none,none,rfl,.laid hl,qA1,.nil⟩
  ·rintro i σ' H' hi ⟨ws,o0,o1,rfl,e',hl',hden⟩
   exact (e'.drop hl).toSame.seq hSq
  ·rintro i x σ' H' R hx ⟨ws,o0,o1,rfl,e',hl',hden⟩ hR
   have es:Same H H':=(e'.drop hl).toSame
   obtain⟨dd,hdd,hDx⟩:=hDL.get hx
   obtain⟨b,hb,rfl⟩ : ∃b,wk[i]? = some b/\dd=blkD b:=by
    rw [List.getElem?_map] at hdd
    cases z:wk[i]? with
    | none=>rw [z] at hdd;cases hdd
    | some n=>rw [z] at hdd;exact⟨n,rfl,(Option.some.inj hdd).symm⟩
   have hi:i<wk.length:=(List.getElem?_eq_some_iff.mp hb).1
   have hb2:=hns b (List.mem_of_getElem? hb)
   obtain⟨c,us,rfl,hc,hcs⟩:=hDx.ofTuple
   obtain⟨v1,r1,rfl,hd1,hr1⟩:=hcs.ofCons
   obtain⟨v2,r2,rfl,hd2,hr2⟩:=hr1.ofCons
   have hr2:=hr2.ofNil
   subst hr2
   obtain⟨wd,hwd⟩:=qQb hb2
   rw [hwd] at hd2
   obtain⟨en,es',rfl,hen,hes⟩:=hd2.ofTuple
   obtain⟨v3,r3,rfl,hd3,hr3⟩:=hes.ofCons
   have e3:=hd3.ofStr
   subst e3
   have e4:=hr3.ints
   subst e4
   refine qBy (es.seqT hc) rfl ?_
   walk_at "rd"
   refine iteT ?_
   walk_at "rd"
   refine⟨1,rfl,?_⟩
   walk_at "rd"
   refine⟨en,_,rfl,es.seqT hen,?_,fun p hp => ?_⟩
   ·intro h
    have:=h.1
    revert this
    have hn:(V.str wd::b.ns.map V.int).length=b.ns.length+1:=by simp
    rw [hn]
    unfold HT.sIx
    simp
    try omega
   have hcut:cutV (V.str wd::b.ns.map V.int) (some 1) none=b.ns.map V.int:=by
    match hh:b.ns,hb2 with
    | [],_=>rfl
    | [x],_=>rfl
    | [x,y],_=>rfl
   rw [hcut]
   have npl:p≠l:=(qA2 hl' hp).symm
   walk_at "rd"
   refine⟨p,_,rfl,.inr (SqT.of qA1),fun l2 hl2 => ?_⟩
   have l':upd H' p (.tup (b.ns.map V.int)) l=some (.lst ws):=by rw [qA4 npl.symm];exact hl'
   have n2:l2≠l:=(qA2 l' hl2).symm
   have hwsl:ws.length=i:=by rw [hden.len,List.length_map,List.length_take];omega
   refine⟨ws,by rw [qA4 n2.symm];exact l',qAa (by omega),hR _ _ ⟨ws ++ [.ref l2],_,_,rfl,?_,qA1,?_⟩⟩
   ·exact e'.trans ((Ext.laid hp).trans ((Ext.laid hl2).trans (.put (by simp))))
   ·have ht:wk.take (i+1)=wk.take i ++ [b]:=by rw [List.take_add_one,hb];rfl
    have E2:Ext [l] H' (upd (upd (upd H' p (.tup (b.ns.map V.int))) l2 (.lst (b.ns.map V.int))) l (.lst (ws ++ [.ref l2]))):=(Ext.laid hp).trans ((Ext.laid hl2).trans (.put (by simp)))
    rw [ht,List.map_append]
    exact Paired.snoc (hden.mono E2) ⟨l2,rfl,n2,by rw [qA4 n2,qA1]⟩
  ·rintro σ' H' ⟨ws,o0,o1,rfl,e',hl',hden⟩
   rw [hvl,List.take_length] at hden
   exact q l ws H' hl (e'.drop hl) hl' hden
end
section
variable {P:Program} {w:World} {K:PySem.W.Frag} {mg:Str->Option Value} {base:Heap}
theorem anyK (K:PySem.W.Frag) {X:Cx} (h:X.K=K) (hh:X.A.handled=none):CallR X (.builtin "any") (rAnyB K):=h▸qH3 hh
abbrev qDq:Stmt:=top 13
theorem qOk:FnScope ["work","box"] ["work","box"] (qA7 qDq):=⟨rfl,rfl,rfl,by decide +kernel,rfl,by decide +kernel,by decide +kernel⟩
theorem qNp {f:Addr} {fd:FuncData} (F:Fun K "writers" "writers" qDq f fd) (nenum:mg "enumerate" = none) (nany:mg "any" = none) (hWr:Has P w K mg base "writes_box" 1 ["deed","box"] (qCf wrB K)):FnOk P w K mg base CX0 2 f fd ["work","box"] (qBu K):=by
 have nd3:((["at","deeds","end","box"]:List Str)).Nodup:=by decide
 refine F.ok qOk (fun vs H Q E h => ?_) (fun cdv A outer s H vs Q E hr h => ?_)
 ·obtain⟨wa,wk,m,works,x,rfl,_⟩:=h
  rfl
 ·obtain⟨wa,wk,m,works,x,rfl,hW,hOk,hm,q⟩:=h
  refine⟨_,qA8 (qAj (qBx ["at","deeds","end"] [1] rfl (.of rfl) (qEh rfl nenum (qA0 (pv 0) qA3)) (fun _ _ _ _=>qD8 (n:=2) K rfl rfl (qAc (qA9 (i:=0) nd3 rfl (Or.inl rfl)) (qAc (qD8 (n:=2) K rfl rfl (qAc (qA9 (i:=1) nd3 rfl (Or.inl rfl)) (qAc (qA9 (i:=2) nd3 rfl (Or.inl rfl)) qB9))) qB9)))
   (fun _ _ _ _ =>.cons (qAx K rfl (qAb (anyK K rfl hr.hd) (by rfl) nany PyProof.Rows.boot_any (qA0 (qBx ["deed"] [3] rfl (.of rfl) (qDx K rfl (pv 1)) (fun _ _ _ _=>qA9 (i:=0) (by show ((["deed","box"]:List Str)).Nodup;decide) rfl (Or.inl rfl)) (fun _ _ _ _ =>.nil) (fun _ _ _ _=>qAk hWr hr (by decide) (qA0 (pv 0) (qA0 (pv 1) qA3)))) qA3)) (fun _=>rfl)) .nil) (fun _ _ _ _=>pv 0))),?_⟩
  dsimp only [qBb,qB3]
  obtain⟨a',vs,ea,hSq,hDL⟩:=hW.ofList
  cases ea
  have hvl:vs.length=wk.length:=by rw [hDL.len,List.length_map]
  have hwm:=hOk.len
  walk_at "rd"
  refine⟨wa,rfl,⟨vs,hSq⟩,fun l hl => ?_⟩
  refine qKa (xs:=vs) (fun i σ' H' => ∃(o0 o1 o2:Option V),σ' = [o0,o1,o2,some (.int x)]/\Ext [l] H H'/\H' l=some (.lst ((wrTo wk x i).map V.int))) ?_ ?_ ?_ ?_
  ·exact⟨none,none,none,rfl,.laid hl,qA1⟩
  ·rintro i σ' H' hi ⟨o0,o1,o2,rfl,e',hl'⟩
   exact (e'.drop hl).toSame.seq hSq
  ·rintro i y σ' H' pt R hy ⟨o0,o1,o2,rfl,e',hl'⟩ hpt hR
   obtain⟨dd,hdd,hDx⟩:=hDL.get hy
   obtain⟨b,hb,rfl⟩:=qAg hdd
   have hi:i<wk.length:=(List.getElem?_eq_some_iff.mp hb).1
   obtain⟨c,us,rfl,hc,hcs⟩:=hDx.ofTuple
   obtain⟨v1,r1,rfl,hd1,hr1⟩:=hcs.ofCons
   obtain⟨v2,r2,rfl,hd2,hr2⟩:=hr1.ofCons
   have hr2:=hr2.ofNil
   subst hr2
   obtain⟨dl,dvs,rfl,hdl,hdvs⟩:=hd1.ofList
   have hbok:=hOk.blk b (List.mem_of_getElem? hb)
   have npt:pt≠l:=(qA2 hl' hpt).symm
   have e1:Ext [l] H (upd H' pt (.tup [.int i,.ref c])):=e'.trans (.laid hpt)
   have es:Same H (upd H' pt (.tup [.int i,.ref c])):=(e1.drop hl).toSame
   have hl1:upd H' pt (.tup [.int i,.ref c]) l=some (.lst ((wrTo wk x i).map V.int)):=by rw [qA4 npt.symm];exact hl'
   have hpt1:SqT K (upd H' pt (.tup [.int i,.ref c])) pt [.int i,.ref c]:=SqT.of qA1
   generalize upd H' pt (.tup [.int i,.ref c])=H1 at *
   refine qBy hpt1 rfl ?_
   walk_at "rd"
   refine qBy (es.seqT hc) rfl ?_
   walk_at "rd"
   refine⟨dl,rfl,⟨dvs,es.seq hdl⟩,fun lc hlc => ?_⟩
   have nlc:l≠lc:=qA2 hl1 hlc
   refine qAf (xs:=dvs) (fun j σ' G2 => ∃(o0:Option V),σ' = [o0,some (.int x)]/\Ext [lc] H1 G2/\G2 lc=some (.lst (((b.ds.take j).map (wrB x)).map V.bl))) ?_ ?_ ?_ ?_
   ·exact⟨none,rfl,.laid hlc,qA1⟩
   ·rintro j σ' G2 hj ⟨o0,rfl,e2,hlc2⟩
    exact (e2.drop hlc).toSame.seq (es.seq hdl)
   ·rintro j y σ' G2 R2 hy ⟨o0,rfl,e2,hlc2⟩ hR2
    obtain⟨dd,hdd,hDy⟩:=hdvs.get hy
    obtain⟨d,hd,rfl⟩:=qAg hdd
    have hjl:j<b.ds.length:=(List.getElem?_eq_some_iff.mp hd).1
    walk_at "rd"
    refine iteT ?_
    walk_at "rd"
    refine⟨y,d,x,rfl,(hDy.mono es).mono (e2.drop hlc).toSame,fun H3 e3 => ?_⟩
    refine⟨_,e3 _ _ (by simp) hlc2,qAa (by rw [List.length_map,List.length_map,List.length_take];have:=hbok.few;omega),hR2 _ _ ⟨_,rfl,e2.trans ((e3.mono (by simp)).trans (.put (by simp))),?_⟩⟩
    rw [qA1,qAu hd,List.map_append,List.map_append];rfl
   ·rintro σ' G2 ⟨o0,rfl,e2,hlc2⟩
    have hdvl:dvs.length=b.ds.length:=by rw [hdvs.len,List.length_map]
    rw [hdvl,List.take_length] at hlc2
    walk_at "rd"
    refine⟨lc,b.ds.map (wrB x),rfl,SqL.of hlc2,?_⟩
    refine⟨wrote x b.ds,?_,?_⟩
    ·have e:(b.ds.map (wrB x)).any id=wrote x b.ds:=by unfold wrote;rw [List.any_map];rfl
     rw [e];rfl
    have E2:Ext [] H1 G2:=e2.drop hlc
    have hl2:=E2 _ _ (by simp) hl1
    have hs:=qJe wk x i
    have hll:=qC9 wk x i
    rw [qQ8 hb] at hs
    cases hw:wrote x b.ds with
    | true =>
     rw [hw,if_pos rfl] at hs
     refine iteT (iteT ?_)
     walk_at "rd"
     refine⟨_,hl2,qAa (by rw [List.length_map];omega),hR _ _ ⟨_,_,_,rfl,(e1.trans (E2.mono (by simp))).trans (.put (by simp)),?_⟩⟩
     rw [qA1,hs,List.map_append];rfl
    | false =>
     rw [hw,if_neg Bool.false_ne_true] at hs
     refine iteF (iteF (hR _ _ ⟨_,_,_,rfl,e1.trans (E2.mono (by simp)),?_⟩))
     rw [hs];exact hl2
  ·rintro σ' H' ⟨o0,o1,o2,rfl,e',hl'⟩
   rw [hvl] at hl'
   exact q l H' hl (e'.drop hl) hl'
end
section
variable {P:Program} {w:World} {K:PySem.W.Frag} {mg:Str->Option Value} {base:Heap}
abbrev qDs:Stmt:=top 38
theorem inK (K:PySem.W.Frag) {X:Cx} (h:X.K=K):OpR X (compareOp .In) (rIn K false):=h▸qCh
theorem qOl:FnScope ["_law_work_here","_law_box"] ["_law_work_here","_law_box"] (qA7 qDs):=⟨rfl,rfl,rfl,by decide +kernel,rfl,by decide +kernel,by decide +kernel⟩
theorem qNr {f:Addr} {fd:FuncData} (F:Fun K "_law_writes" "_law_writes" qDs f fd) (nrange:mg "range" = none) (nlen:mg "len" = none) (nany:mg "any" = none):FnOk P w K mg base CX0 1 f fd ["_law_work_here","_law_box"] (qBu K):=by
 have nd3:((["_law_b","_law_box","_law_work_here"]:List Str)).Nodup:=by decide
 refine F.ok qOl (fun vs H Q E h => ?_) (fun cdv A outer s H vs Q E hr h => ?_)
 ·obtain⟨wa,wk,m,works,x,rfl,_⟩:=h
  rfl
 ·obtain⟨wa,wk,m,works,x,rfl,hW,hOk,hm,q⟩:=h
  refine⟨_,qA8 (qAj (qBx ["_law_b"] [1,0] rfl (.of rfl) (qBd rfl nrange (qA0 (qAb qAw (by rfl) nlen PySem.boot_len (qA0 (pv 0) qA3)) qA3)) (fun _ _ _ _=>qA9 (i:=0) nd3 rfl (Or.inl rfl))
   (fun _ _ _ _ =>.cons (qAx K rfl (qAb (anyK K rfl hr.hd) (by rfl) nany PyProof.Rows.boot_any (qA0 (qBx ["_law_one"] [1] rfl (.of rfl) (qDx K rfl (qAr (qDh K rfl) (qAr (qMx K rfl) (pv 2) (pv 0) (fun _ _=>rfl)) qA6 (fun _ _=>rfl))) (fun _ _ _ _=>qA9 (i:=0) (by show ((["_law_one","_law_box"]:List Str)).Nodup;decide) rfl (Or.inl rfl)) (fun _ _ _ _ =>.nil)
    (fun _ _ _ _=>qGo (qBf (inK K rfl) (qAr (qDh K rfl) (pv 0) qA6 (fun _ _=>rfl)) (qBe (qA0 qCg (qA0 qCg qA3))) rfl) (qFs (qBf qDb (qAr (qDh K rfl) (pv 0) qA6 (fun _ _=>rfl)) (pv 1) (qAt _))))) qA3)) (fun _=>rfl)) .nil) (fun _ _ _ _=>pv 0))),?_⟩
  dsimp only [qBb,qB3]
  obtain⟨a',vs,ea,hSq,hDL⟩:=hW.ofList
  cases ea
  have hvl:vs.length=wk.length:=by rw [hDL.len,List.length_map]
  have hwm:=hOk.len
  walk_at "rd"
  refine⟨wa,_,rfl,.inl hSq,?_⟩
  walk_at "rd"
  refine⟨_,rfl,by omega,by omega,fun l hl => ?_⟩
  refine qCv (lo:=0) (n:=(vs.length:Int).toNat) (fun i σ' H' => ∃(o0:Option V),σ' = [o0,some (.int x),some (.ref wa)]/\Ext [l] H H'/\H' l=some (.lst ((wrTo wk x i).map V.int))) ?_ ?_ ?_
  ·exact⟨none,rfl,.laid hl,qA1⟩
  ·rintro i σ' H1 R hi ⟨o0,rfl,e1,hl1⟩ hR
   have hi:i<wk.length:=by omega
   obtain⟨b,hb⟩ : ∃b,wk[i]? = some b:=⟨wk[i],List.getElem?_eq_getElem hi⟩
   have es:Same H H1:=(e1.drop hl).toSame
   obtain⟨y,hy,hDx⟩:=hDL.get' (i:=i) (d:=blkD b) (by rw [List.getElem?_map,hb];rfl)
   obtain⟨c,us,rfl,hc,hcs⟩:=hDx.ofTuple
   obtain⟨v1,r1,rfl,hd1,hr1⟩:=hcs.ofCons
   obtain⟨v2,r2,rfl,hd2,hr2⟩:=hr1.ofCons
   have hr2:=hr2.ofNil
   subst hr2
   obtain⟨dl,dvs,rfl,hdl,hdvs⟩:=hd1.ofList
   have hbok:=hOk.blk b (List.mem_of_getElem? hb)
   walk_at "rd"
   refine qBl (es.seq hSq) (show atI vs (0+(i:Int))=some (.ref c) by rw [Int.zero_add];exact qAq hy) ?_
   walk_at "rd"
   refine qCp (es.seqT hc) (show atI _ ((0:Nat):Int)=some (V.ref dl) from qAq rfl) ?_
   walk_at "rd"
   refine⟨dl,rfl,⟨dvs,es.seq hdl⟩,fun lc hlc => ?_⟩
   have nlc:l≠lc:=qA2 hl1 hlc
   refine qAf (xs:=dvs) (fun j σ' G2 => ∃(o0:Option V),σ' = [o0,some (.int x)]/\Ext [lc] H1 G2/\G2 lc=some (.lst (((b.ds.take j).map (wrB x)).map V.bl))) ?_ ?_ ?_ ?_
   ·exact⟨none,rfl,.laid hlc,qA1⟩
   ·rintro j σ' G2 hj ⟨o0,rfl,e2,hlc2⟩
    exact (e2.drop hlc).toSame.seq (es.seq hdl)
   ·rintro j y σ' G2 R2 hy ⟨o0,rfl,e2,hlc2⟩ hR2
    obtain⟨dd,hdd,hDy⟩:=hdvs.get hy
    obtain⟨d,hd,rfl⟩:=qAg hdd
    obtain⟨p,rfl,hp0⟩:=qD0 hDy
    have hp:=(e2.drop hlc).toSame.seqT (es.seqT hp0)
    have hjl:j<b.ds.length:=(List.getElem?_eq_some_iff.mp hd).1
    walk_at "rd"
    refine iteT ?_
    walk_at "rd"
    refine qJs ?_
    walk_at "rd"
    refine qCp hp (show atI _ ((0:Nat):Int)=some (V.str (dword d)) from qAq rfl) ?_
    walk_at "rd"
    refine⟨len2 (by show 2<=1000;decide),fun pt hpt => ?_⟩
    have e6:Ext [] G2 (upd G2 pt (.tup [.str "set",.str "add"])) :=.laid hpt
    refine⟨pt,[V.str "set",.str "add"],rfl,.inr (SqT.of qA1),rfl,rfl,?_⟩
    rw [if_neg Bool.false_ne_true,deed_in]
    refine⟨_,rfl,?_⟩
    have hp6:=e6.toSame.seqT hp
    generalize upd G2 pt (.tup [.str "set",.str "add"])=G6 at e6 hp6 ⊢
    have fin : ∃xs:List V,G6 lc=some (.lst xs)/\xs.length<sizeLine/\R2 [some (.ref p),some (.int x)] (upd G6 lc (.lst (xs ++ [.bl (wrB x d)]))):=by
     refine⟨_,e6 _ _ (by simp) hlc2,qAa (by rw [List.length_map,List.length_map,List.length_take];have:=hbok.few;omega),hR2 _ _ ⟨_,rfl,e2.trans ((e6.mono (by simp)).trans (.put (by simp))),?_⟩⟩
     rw [qA1,qAu hd,List.map_append,List.map_append];rfl
    unfold wrB at fin
    cases hw:(wr d).isSome with
    | true =>
     rw [hw] at fin
     refine iteT ?_
     walk_at "rd"
     refine qCp hp6 (qI6 d) ?_
     walk_at "rd"
     refine qE2 ?_
     exact fin
    | false =>
     rw [hw] at fin
     exact iteF fin
   ·rintro σ' G2 ⟨o0,rfl,e2,hlc2⟩
    have hdvl:dvs.length=b.ds.length:=by rw [hdvs.len,List.length_map]
    rw [hdvl,List.take_length] at hlc2
    walk_at "rd"
    refine⟨lc,b.ds.map (wrB x),rfl,SqL.of hlc2,?_⟩
    refine⟨wrote x b.ds,?_,?_⟩
    ·have e:(b.ds.map (wrB x)).any id=wrote x b.ds:=by unfold wrote;rw [List.any_map];rfl
     rw [e];rfl
    have E2:Ext [] H1 G2:=e2.drop hlc
    have hl2:=E2 _ _ (by simp) hl1
    have hs:=qJe wk x i
    have hll:=qC9 wk x i
    rw [qQ8 hb] at hs
    cases hw:wrote x b.ds with
    | true =>
     rw [hw,if_pos rfl] at hs
     refine iteT (iteT ?_)
     walk_at "rd"
     refine⟨_,hl2,qAa (by rw [List.length_map];omega),hR _ _ ⟨_,rfl,(e1.trans (E2.mono (by simp))).trans (.put (by simp)),?_⟩⟩
     rw [qA1,hs,List.map_append,Int.zero_add];rfl
    | false =>
     rw [hw,if_neg Bool.false_ne_true] at hs
     refine iteF (iteF (hR _ _ ⟨_,rfl,e1.trans (E2.mono (by simp)),?_⟩))
     rw [hs];exact hl2
  ·rintro σ' H' ⟨o0,rfl,e',hl'⟩
   rw [Int.toNat_natCast,hvl] at hl'
   exact q l H' hl (e'.drop hl) hl'
end
section
variable {P:Program} {w:World} {K:PySem.W.Frag} {mg:Str->Option Value} {base:Heap}
abbrev qDu:Stmt:=top 17
theorem scAwaited:FnScope ["works","number","box","waiting"] ["works","number","box"] (qA7 qDu):=⟨rfl,rfl,rfl,by decide +kernel,rfl,by decide +kernel,by decide +kernel⟩
theorem qNt {f:Addr} {fd:FuncData} (F:Fun K "awaited" "awaited" qDu f fd) (nrange:mg "range" = none) (nlen:mg "len" = none) (hAw:Has P w K mg base "awaiting" 4 ["works","box"] (qLe K)):FnOk P w K mg base CX0 5 f fd ["works","number","box"] (qGi K):=by
 refine F.ok scAwaited (fun vs H Q E h => ?_) (fun cdv A outer s H vs Q E hr h => ?_)
 ·obtain⟨wa,ws,n,wk,x,rfl,_⟩:=h
  rfl
 ·obtain⟨wa,ws,n,wk,x,rfl,hW,hok,hwk,q⟩:=h
  have hu:=qKl hr
  refine⟨_,qA5 (qAm (i:=3) scAwaited.nd rfl (Or.inr rfl) (qAk hAw hr (by decide) (qA0 (pv 0) (qA0 (pv 2) qA3))))
   (qA8 (qAj (qBx ["at"] [1,3] rfl (.of rfl) (qBd rfl nrange (qA0 (qAb qAw (by rfl) nlen PySem.boot_len (qA0 (qAr qAi (pv 0) (pv 1) (fun _ _=>rfl)) qA3)) qA3)) (fun _ _ _ _=>qA9 (i:=0) (by show ((["at","number","waiting"]:List Str)).Nodup;decide) rfl (Or.inl rfl)) (fun _ _ _ _ =>.cons (qJt (qT4 hu (qBe (qA0 (pv 1) (qA0 (pv 0) qA3))) (pv 2))) .nil) (fun _ _ _ _=>pv 0)))),?_⟩
  dsimp only [qBb,qB3]
  obtain⟨a',vs,ea,hSq,hDL⟩:=hW.ofList
  cases ea
  obtain⟨vw,hvw,hDw⟩:=hDL.get' (i:=n) (d:=workD wk) (by rw [List.getElem?_map,hwk];rfl)
  obtain⟨wb,bs,rfl,hbs,hdbs⟩:=hDw.ofList
  have hbl:bs.length=wk.length:=by rw [hdbs.len,List.length_map]
  obtain⟨m,hm1,hm2,hWk⟩:=hok.all wk (List.mem_of_getElem? hwk)
  have hwm:=hWk.len
  walk_at "rd"
  refine⟨wa,ws,x,rfl,hW,hok,fun d ks H1 hd e1 hd1 hnod hks => ?_⟩
  walk_at "rd"
  refine qBl (e1.toSame.seq hSq) (qAq hvw) ?_
  walk_at "rd"
  refine⟨wb,_,rfl,.inl (e1.toSame.seq hbs),?_⟩
  walk_at "rd"
  refine⟨_,rfl,by omega,by omega,fun l hl => ?_⟩
  have nld:d≠l:=qA2 hd1 hl
  refine qCv (lo:=0) (n:=(bs.length:Int).toNat) (fun i σ' G => ∃(o0:Option V),σ' = [o0,some (.int n),some (.ref d)]/\Ext [l] H1 G/\G l=some (.lst ((qBo ws x n i).map V.int))) ?_ ?_ ?_
  ·exact⟨none,rfl,.laid hl,qA1⟩
  ·rintro i σ' G R hi ⟨o0,rfl,e2,hlG⟩ hR
   have hi:i<wk.length:=by omega
   have hd2:G d=some (.dT (trueD ks)):=(e2.drop hl) _ _ (by simp) hd1
   have hal:=qNe ws x n i
   walk_at "rd"
   refine⟨len2 (by show 2<=1000;decide),fun p hp => ?_⟩
   have e4:Ext [] G (upd G p (.tup [.int (n:Int),.int (0+(i:Int))])) :=.laid hp
   have hp4:upd G p (.tup [.int (n:Int),.int (0+(i:Int))]) p=some (.tup [.int (n:Int),.int (0+(i:Int))]):=qA1
   have hd4:=e4 _ _ (by simp) hd2
   have hl4:=e4 _ _ (by simp) hlG
   generalize upd G p (.tup [.int (n:Int),.int (0+(i:Int))])=G4 at e4 hp4 hd4 hl4 ⊢
   walk_at "rd"
   refine⟨d,_,rfl,DGet.t (k:=plK ((n:Int),0+(i:Int))) hd4 hp4,?_⟩
   rw [qF6]
   have hask:askB ws x ((n:Int),(i:Int))=decide (((n:Int),(0+(i:Int)))∈ks):=by
    rw [Bool.eq_iff_iff,askB_iff,decide_eq_true_iff,hks,Int.zero_add]
   by_cases hm:((n:Int),(0+(i:Int)))∈ks
   ·rw [if_pos hm]
    refine qR0 (iteT (iteT ?_))
    walk_at "rd"
    refine⟨_,hl4,qAa (by rw [List.length_map];omega),hR _ _ ⟨_,rfl,(e2.trans (e4.mono (by simp))).trans (.put (by simp)),?_⟩⟩
    rw [qA1,qGb,hask,decide_eq_true hm,if_pos rfl,List.map_append,Int.zero_add];rfl
   ·rw [if_neg hm]
    refine qR0 (iteF (iteF (hR _ _ ⟨_,rfl,e2.trans (e4.mono (by simp)),?_⟩)))
    rw [hl4,qGb,hask,decide_eq_false hm,if_neg Bool.false_ne_true]
  ·rintro σ' G ⟨o0,rfl,e2,hlG⟩
   rw [Int.toNat_natCast,hbl] at hlG
   exact q l G (e1.none (by simp) hl) (e1.trans (e2.drop hl)) hlG
end
section
variable {P:Program} {w:World} {K:PySem.W.Frag} {mg:Str->Option Value} {base:Heap}
abbrev qDr:Stmt:=top 16
theorem scReached:FnScope ["works","number","box","nexts","starts"] ["works","number","box"] (qA7 qDr):=⟨rfl,rfl,rfl,by decide +kernel,rfl,by decide +kernel,by decide +kernel⟩
theorem qNq {f:Addr} {fd:FuncData} (F:Fun K "reached" "reached" qDr f fd) (nsort:mg "sorted" = none) (hX:Has P w K mg base "nexts_of" 1 ["work"] (qWl K)) (hWs:Has P w K mg base "writers" 2 ["work","box"] (qBu K)) (hLd:Has P w K mg base "led_to" 1 ["starts","nexts"] (qMg K)):FnOk P w K mg base CX0 3 f fd ["works","number","box"] (qGf K):=by
 have nd3:((["at","to","nexts"]:List Str)).Nodup:=by decide
 refine F.ok scReached (fun vs H Q E h => ?_) (fun cdv A outer s H vs Q E hr h => ?_)
 ·obtain⟨wa,ws,n,wk,x,rfl,_⟩:=h
  rfl
 ·obtain⟨wa,ws,n,wk,x,rfl,hW,hok,hwk,q⟩:=h
  have hu:=qKl hr
  refine⟨_,qA5 (qAm (i:=3) scReached.nd rfl (Or.inr rfl) (qAk hX hr (by decide) (qA0 (qAr qAi (pv 0) (pv 1) (fun _ _=>rfl)) qA3)))
   (qA5 (qVy (i:=4) ["at","to"] [3] rfl (.of rfl) scReached.nd rfl (Or.inl rfl) (qAo (qAk hWs hr (by decide) (qA0 (qAr qAi (pv 0) (pv 1) (fun _ _=>rfl)) (qA0 (pv 2) qA3)))) (fun _ _ _ _=>qA9 (i:=0) nd3 rfl (Or.inl rfl)) (fun _ _ _ _ =>.nil)
    (fun _ _ _ _=>qDx K rfl (qLp hu (pv 2) (pv 0) (fun _ _=>rfl))) (fun _ _ _ _=>qA9 (i:=1) nd3 rfl (Or.inl rfl)) (fun _ _ _ _ =>.nil) (fun _ _ _ _=>pv 1))
   (qA8 (qAj (qAb (qI3 hr.hd) (by rfl) nsort PyProof.Rows.boot_sorted (qA0 (qAk hLd hr (by decide) (qA0 (pv 4) (qA0 (pv 3) qA3))) qA3))))),?_⟩
  dsimp only [qBb,qB3]
  obtain⟨a',vs,ea,hSq,hDL⟩:=hW.ofList
  cases ea
  obtain⟨vw,hvw,hDw⟩:=hDL.get' (i:=n) (d:=workD wk) (by rw [List.getElem?_map,hwk];rfl)
  obtain⟨wb,bs,rfl,hbs,hdbs⟩:=hDw.ofList
  obtain⟨m,hm1,hm2,hWk⟩:=hok.all wk (List.mem_of_getElem? hwk)
  have hwm:=hWk.len
  walk_at "rd"
  refine qBl hSq (qAq hvw) ?_
  walk_at "rd"
  refine⟨wb,wk,rfl,hDw,fun b hb=>(hWk.blk b hb).ns.few,by omega,fun nd H1 hnd e1 hNx => ?_⟩
  walk_at "rd"
  refine qBl (e1.toSame.seq hSq) (qAq hvw) ?_
  walk_at "rd"
  refine⟨wb,wk,m,_,x,rfl,hDw.mono e1.toSame,hWk,hm2,fun lw H2 hlw e2 hlw2 => ?_⟩
  walk_at "rd"
  refine⟨lw,rfl,⟨_,SqL.of hlw2⟩,fun l hl => ?_⟩
  have nlw:lw≠l:=qA2 hlw2 hl
  refine qAf (xs:=(wrTo wk x wk.length).map V.int) (fun i σ' G => ∃(o0 o1:Option V),σ' = [o0,o1,some (.ref nd)]/\Ext [l] H2 G/\G l=some (.lst ((((wrTo wk x wk.length).take i).flatMap (nxt wk)).map V.int))) ?_ ?_ ?_ ?_
  ·exact⟨none,none,rfl,.laid hl,qA1⟩
  ·rintro i σ' G hi ⟨o0,o1,rfl,e3,hlG⟩
   exact SqL.of (e3 _ _ (by simpa using nlw) hlw2)
  ·rintro i v σ' G R hv ⟨o0,o1,rfl,e3,hlG⟩ hR
   obtain⟨y,hy,rfl⟩:=qAg hv
   obtain⟨k,rfl,hk,hkw⟩:=mem_wrTo.mp (List.mem_of_getElem? hy)
   obtain⟨kvs,hq0,hq2⟩:=hNx.mono e2
   obtain⟨c,hc1,hc0⟩:=hq2 k (by omega) (by omega)
   have ncl:c≠l:=qA2 hc0 hl
   have hq1:=(e3.drop hl) _ _ (by simp) hq0
   have hc2:=(e3.drop hl) _ _ (by simp) hc0
   walk_at "rd"
   refine iteT ?_
   unfold bNext
   walk_at "rd"
   refine⟨nd,.ref c,rfl,?_,?_⟩
   ·have:=DGet.k (k:=Sum.inl (k:Int)) hq1
    rw [hc1] at this
    exact this
   have hll:=qEw (nxt wk) (fun a=>(qE5 hWk a).few) ((wrTo wk x wk.length).take i)
   have hwl:=qC9 wk x wk.length
   have hn2:=(qE5 hWk (k:Int)).few
   rw [List.length_take] at hll
   refine⟨c,rfl,⟨_,SqL.of hc2⟩,?_⟩
   refine qAf (xs:=(nxt wk (k:Int)).map V.int) (fun j σ' G2 => ∃(o1:Option V),σ' = [some (.int k),o1,some (.ref nd)]/\Ext [l] G G2/\G2 l=some (.lst ((((wrTo wk x wk.length).take i).flatMap (nxt wk)++(nxt wk (k:Int)).take j).map V.int))) ?_ ?_ ?_ ?_
   ·exact⟨_,rfl,.refl _ _,by rw [hlG,List.take_zero,List.append_nil]⟩
   ·rintro j σ' G2 hj ⟨o1,rfl,e4,hl4⟩
    exact SqL.of (e4 _ _ (by simpa using ncl) hc2)
   ·rintro j v σ' G2 R2 hv ⟨o1,rfl,e4,hl4⟩ hR2
    obtain⟨z,hz,rfl⟩:=qAg hv
    walk_at "rd"
    refine iteT ?_
    walk_at "rd"
    refine⟨_,hl4,qAa (by rw [List.length_map,List.length_append,List.length_take];omega),hR2 _ _ ⟨_,rfl,e4.trans (.put (by simp)),?_⟩⟩
    rw [qA1,qAu hz,<-List.append_assoc,List.map_append,List.map_append,List.map_append];rfl
   ·rintro σ' G2 ⟨o1,rfl,e4,hl4⟩
    rw [List.length_map,List.take_length] at hl4
    refine hR _ _ ⟨_,_,rfl,e3.trans e4,?_⟩
    rw [hl4,qAu hy,List.flatMap_append,List.flatMap_cons,List.flatMap_nil,List.append_nil]
  ·rintro σ' G ⟨o0,o1,rfl,e3,hlG⟩
   rw [List.length_map,List.take_length] at hlG
   have E3:=e3.drop hl
   have hll:=qEw (nxt wk) (fun a=>(qE5 hWk a).few) (wrTo wk x wk.length)
   have hwl:=qC9 wk x wk.length
   walk_at "rd"
   refine .inl ⟨l,nd,wk,m,_,qBk wk x,rfl,SqL.of hlG,hNx.mono (e2.trans E3),hWk,hm2,fun s hs => ?_,by unfold qBk;omega,fun d ks H4 hd e4 hd4 hnod hks => ?_⟩
   ·obtain⟨y,_,hy2⟩:=List.mem_flatMap.mp hs
    have:=(qE5 hWk y).range s hy2
    exact⟨by omega,this.2⟩
   walk_at "rd"
   refine⟨d,ks,_,rfl,hd4,by rw [List.map_map];rfl,?_,fun ls ns hls hp hso => ?_⟩
   ·have:ks.length<=((List.range wk.length).map fun (i:Nat)=>(i:Int)).length:=qCj hnod fun y hy=>by
     obtain⟨s,hs,r⟩:=(hks y).mp hy
     obtain⟨z,_,hz⟩:=List.mem_flatMap.mp hs
     have h1:=(qE5 hWk z).range s hz
     have:=r.range hWk ⟨by omega,h1.2⟩
     exact List.mem_map.mpr ⟨y.toNat,List.mem_range.mpr (by omega),by omega⟩
    rw [List.length_map,List.length_range] at this
    omega
   have EF:Ext [] H H4:=e1.trans ((e2.trans E3).trans e4)
   exact q ls ns _ (EF.none (by simp) hls) (EF.trans (.laid hls)) qA1 hso (hp.symm.nodup hnod) fun y=>by rw [hp.mem_iff,hks]
end
section
variable {P:Program} {w:World} {K:PySem.W.Frag} {mg:Str->Option Value} {base:Heap}
abbrev qFf:Stmt:=top 40
theorem scBehind:FnScope ["_law_work_here","_law_box","_law_found","_law_nexts_here","_law_block","_law_turn"] ["_law_work_here","_law_box"] (qA7 qFf):=⟨rfl,rfl,rfl,by decide +kernel,rfl,by decide +kernel,by decide +kernel⟩
theorem qPg {f:Addr} {fd:FuncData} (F:Fun K "_law_behind" "_law_behind" qFf f fd) (nrange:mg "range" = none) (nlen:mg "len" = none) (nlist:mg "list" = none) (nset:mg "set" = none) (nsort:mg "sorted" = none)
  (hEn:Has P w K mg base "_law_ends" 1 ["_law_work_here"] (qLd K)) (hLw:Has P w K mg base "_law_writes" 1 ["_law_work_here","_law_box"] (qBu K)):FnOk P w K mg base CX0 2 f fd ["_law_work_here","_law_box"] (qIh K):=by
 refine F.ok scBehind (fun vs H Q E h => ?_) (fun cdv A outer s H vs Q E hr h => ?_)
 ·obtain⟨wa,wk,m,works,x,rfl,_⟩:=h
  rfl
 ·obtain⟨wa,wk,m,works,x,rfl,hW,hOk,hm,q⟩:=h
  refine⟨_,qA5 (qJu (qBe (qA0 (qAy qA3) (qA0 (qAk hEn hr (by decide) (qA0 (pv 0) qA3)) qA3))) (qE4 (n:=2) rfl (qAc (qA9 (i:=2) scBehind.nd rfl (Or.inr rfl)) (qAc (qA9 (i:=3) scBehind.nd rfl (Or.inl rfl)) qB9))))
   (qA5 (qC1 PassesOwn.never rfl (qAo (qAk hLw hr (by decide) (qA0 (pv 0) (qA0 (pv 1) qA3)))) (qA9 (i:=4) scBehind.nd rfl (Or.inl rfl))
    (qA8 (qAm (i:=2) scBehind.nd rfl (Or.inr rfl) (qAs qMo (pv 2) (qAr qAi (pv 3) (pv 4) (fun _ _=>rfl))))))
   (qA5 (qC1 PassesOwn.never rfl (qBd rfl nrange (qA0 (qAb qAw (by rfl) nlen PySem.boot_len (qA0 (pv 0) qA3)) qA3)) (qA9 (i:=5) scBehind.nd rfl (Or.inl rfl))
    (qA8 (qC1 PassesOwn.never rfl (qAo (qAl qC4 (by rfl) nlist PyProof.Rows.boot_list (qA0 (pv 2) qA3))) (qA9 (i:=4) scBehind.nd rfl (Or.inl rfl))
     (qA8 (qAm (i:=2) scBehind.nd rfl (Or.inr rfl) (qAs qMo (pv 2) (qBx ["_law_to"] [2] rfl (.of rfl) (qAo (qAr qAi (pv 3) (pv 4) (fun _ _=>rfl))) (fun _ _ _ _=>qA9 (i:=0) (by show ((["_law_to","_law_found"]:List Str)).Nodup;decide) rfl (Or.inl rfl)) (fun _ _ _ _ =>.cons (qAn (qWa K rfl) (pv 0) (pv 1) rfl) .nil) (fun _ _ _ _=>pv 0))))))))
   (qA8 (qAj (qAb (qD1 hr.hd) (by rfl) nsort PyProof.Rows.boot_sorted (qA0 (qAl (qDj hr.hd) (by rfl) nset PyProof.Rows.boot_set (qA0 (pv 2) qA3)) qA3)))))),?_⟩
  dsimp only [qBb,qB3]
  obtain⟨a',vs,ea,hSq,hDL⟩:=hW.ofList
  cases ea
  have hvl:vs.length=wk.length:=by rw [hDL.len,List.length_map]
  have hwm:=hOk.len
  have few : ∀y,(nxt wk y).length<=2:=fun y=>(qE5 hOk y).few
  have hss:(qBk wk x).length<=24:=by
   have h1:=qEw (nxt wk) few (wrTo wk x wk.length)
   have h2:=qC9 wk x wk.length
   unfold qBk;omega
  have hrg : ∀y,(∃s∈qBk wk x,Reach (nxt wk) s y)->0<=y/\y<(wk.length:Int):=by
   rintro y ⟨s,hs,r⟩
   obtain⟨z,_,hz⟩:=List.mem_flatMap.mp hs
   have h1:=(qE5 hOk z).range s hz
   have:=r.range hOk ⟨by omega,h1.2⟩
   omega
  walk_at "rd"
  refine⟨len2 (Nat.zero_le _),fun p1 hp1 => ?_⟩
  have e0:Ext [] H (upd H p1 (.lst [])) :=.laid hp1
  have hp10:upd H p1 (.lst []) p1=some (.lst []):=qA1
  generalize upd H p1 (.lst [])=H0 at e0 hp10 ⊢
  walk_at "rd"
  refine⟨wa,wk,rfl,hW.mono e0.toSame,fun b hb=>(hOk.blk b hb).ns.few,by omega,fun n us H1 hn e1 hn1 hN1 => ?_⟩
  walk_at "rd"
  refine⟨len2 (by show 2<=1000;decide),fun p3 hp3 => ?_⟩
  have e2:Ext [] H1 (upd H1 p3 (.tup [.ref p1,.ref n])) :=.laid hp3
  have hp32:SqT K (upd H1 p3 (.tup [.ref p1,.ref n])) p3 [.ref p1,.ref n]:=SqT.of qA1
  generalize upd H1 p3 (.tup [.ref p1,.ref n])=H2 at e2 hp32 ⊢
  refine qBy hp32 rfl ?_
  have hn2:=e2 _ _ (by simp) hn1
  have hN2:NsAt n H2 us (wk.map Blk.ns):=hN1.mono (e2.mono (by simp))
  have E2:Ext [] H H2:=e0.trans (e1.trans e2)
  have hp12:=(e1.trans e2) _ _ (by simp) hp10
  walk_at "rd"
  refine⟨wa,wk,m,works,x,rfl,hW.mono E2.toSame,hOk,hm,fun lw H3 hlw e3 hlw3 => ?_⟩
  walk_at "rd"
  have hwl:=qC9 wk x wk.length
  refine⟨lw,rfl,⟨_,SqL.of hlw3⟩,qCx (xs:=(wrTo wk x wk.length).map V.int) (fun i σ' G => ∃(pf:Addr) (o4 o5:Option V),σ' = [some (.ref wa),some (.int x),some (.ref pf),some (.ref n),o4,o5]/\Ext [] H3 G/\G pf=some (.lst ((((wrTo wk x wk.length).take i).flatMap (nxt wk)).map V.int))) ?_ ?_ ?_ ?_⟩
  ·exact⟨p1,_,_,rfl,.refl _ _,e3 _ _ (by simp) hp12⟩
  ·rintro i σ' G hi ⟨pf,o4,o5,rfl,eG,hpf⟩
   exact SqL.of (eG _ _ (by simp) hlw3)
  ·rintro i v σ' G hv ⟨pf,o4,o5,rfl,eG,hpf⟩ N_ B_ C_ R_ hN_ hC_ hR_
   obtain⟨y,hy,rfl⟩:=qAg hv
   obtain⟨k,rfl,hk,hkw⟩:=mem_wrTo.mp (List.mem_of_getElem? hy)
   have EG:=e3.trans eG
   obtain⟨c,hat,hc⟩:=(hN2.mono (EG.mono (by simp))).get (x:=(k:Int)) (by omega) (by omega)
   have hll:=qEw (nxt wk) few ((wrTo wk x wk.length).take i)
   have hn2':=few (k:Int)
   rw [List.length_take] at hll
   walk_at "rd"
   refine qBl (SqL.of (EG _ _ (by simp) hn2)) hat ?_
   refine⟨pf,c,_,_,rfl,rfl,hpf,hc,len2 (by rw [List.length_map,List.length_map];omega),fun f1 hf1 => ?_⟩
   walk_at "rd"
   refine⟨f1,_,_,rfl,eG.trans (.laid hf1),?_⟩
   rw [qA1,qAu hy,List.flatMap_append,List.map_append]
   simp
  ·rintro σ' G ⟨pf,o4,o5,rfl,eG,hpf⟩
   rw [List.length_map,List.take_length] at hpf
   have EG:=e3.trans eG
   have hpf:G pf=some (.lst ((qBk wk x).map V.int)):=hpf
   walk_at "rd"
   refine⟨wa,vs,rfl,.inl ((E2.trans EG).toSame.seq hSq),?_⟩
   rw [hvl]
   walk_at "rd"
   refine⟨_,rfl,by omega,by omega,qCb (lo:=0) (n:=(wk.length:Int).toNat) (fun t σ' G1 => ∃(pf:Addr) (Fs:List Int) (o4 o5:Option V),σ' = [some (.ref wa),some (.int x),some (.ref pf),some (.ref n),o4,o5]/\Ext [] G G1/\G1 pf=some (.lst (Fs.map V.int))/\BehI (nxt wk) (qBk wk x) wk.length Fs/\Lays (nxt wk) (qBk wk x) t Fs) ?_ ?_ ?_⟩
   ·exact⟨pf,_,_,_,rfl,.refl _ _,hpf,.start _ _ _,.zero fun _ h=>h⟩
   ·rintro t σ' G1 ht ⟨pf,Fs,o4,o5,rfl,e4,hpf1,hI,hL⟩ N_ B_ C_ R_ hN_ hC_ hR_
    walk_at "rd"
    refine⟨pf,_,rfl,.inl (SqL.of hpf1),fun ls hls => ?_⟩
    have e5:Ext [] G1 (upd G1 ls (.lst (Fs.map V.int))) :=.laid hls
    have hls2:upd G1 ls (.lst (Fs.map V.int)) ls=some (.lst (Fs.map V.int)):=qA1
    have hpf2:=e5 _ _ (by simp) hpf1
    generalize upd G1 ls (.lst (Fs.map V.int))=G2 at e5 hls2 hpf2 ⊢
    refine⟨ls,rfl,⟨_,SqL.of hls2⟩,qCx (xs:=Fs.map V.int) (fun i σ' G3 => ∃(pf:Addr) (Fs':List Int) (o4:Option V),σ' = [some (.ref wa),some (.int x),some (.ref pf),some (.ref n),o4,some (.int (0+t))]/\Ext [] G2 G3/\G3 pf=some (.lst (Fs'.map V.int))/\BehI (nxt wk) (qBk wk x) wk.length Fs'/\(∀y∈Fs,y∈Fs') /\ ∀b∈Fs.take i,∀c∈nxt wk b,c∈Fs') ?_ ?_ ?_ ?_⟩
    ·exact⟨pf,Fs,_,rfl,.refl _ _,hpf2,hI,fun _ h=>h,fun b hb=>absurd hb (by simp)⟩
    ·rintro i σ' G3 hi ⟨pf,Fs',o4,rfl,e6,hpf3,hI3,hsub,hcl⟩
     exact SqL.of (e6 _ _ (by simp) hls2)
    ·rintro i v σ' G3 hv ⟨pf,Fs',o4,rfl,e6,hpf3,hI3,hsub,hcl⟩ N_ B_ C_ R_ hN_ hC_ hR_
     obtain⟨y,hy,rfl⟩:=qAg hv
     have hyF:=List.mem_of_getElem? hy
     obtain⟨y0,y1⟩:=hrg y (hI.rk y hyF)
     have E3:=EG.trans (e4.trans (e5.trans e6))
     obtain⟨c,hat,hc⟩:=(hN2.mono (E3.mono (by simp))).get (x:=y) y0 y1
     have hFl:=hI3.len
     have hcn:=qH0 (fun x=>decide (x∈Fs')) wk.length
     have hf:=few y
     walk_at "rd"
     refine qBl (SqL.of (E3 _ _ (by simp) hn2)) hat ?_
     refine⟨c,rfl,⟨_,SqL.of hc⟩,fun lc hlc => ?_⟩
     refine qAf (xs:=(nxt wk y).map V.int) (fun k σ' H3 => ∃(o0:Option V),σ' = [o0,some (.ref pf)]/\Ext [lc] G3 H3/\H3 lc=some (.lst ((((nxt wk y).take k).filter fun x => !decide (x∈Fs')).map V.int))) ?_ ?_ ?_ ?_
     ·exact⟨none,rfl,.laid hlc,qA1⟩
     ·rintro k σ' H3 hk ⟨o0,rfl,e7,h3⟩
      exact SqL.of ((e7.drop hlc) _ _ (by simp) hc)
     ·rintro k v σ' H3 R hv ⟨o0,rfl,e7,h3⟩ hR
      obtain⟨z,hz,rfl⟩:=qAg hv
      have hk:k<(nxt wk y).length:=(List.getElem?_eq_some_iff.mp hz).1
      walk_at "rd"
      refine qVe (SqL.of ((e7.drop hlc) _ _ (by simp) hpf3)) ?_
      walk_at "rd"
      by_cases g2:z∈Fs'
      ·rw [decide_eq_true g2]
       refine iteF (iteF (hR _ _ ⟨_,rfl,e7,?_⟩))
       rw [qAu hz,List.filter_append]
       simpa [g2] using h3
      ·rw [decide_eq_false g2]
       refine iteT (iteT ?_)
       walk_at "rd"
       have hl3:((((nxt wk y).take k).filter fun x => !decide (x∈Fs')).map V.int).length<=2:=by
        rw [List.length_map]
        refine Nat.le_trans (List.length_filter_le _ _) ?_
        rw [List.length_take];omega
       refine⟨_,h3,qAa (by omega),hR _ _ ⟨_,rfl,e7.trans (.put (by simp)),?_⟩⟩
       rw [qAu hz,List.filter_append,qA1]
       simp [g2]
     ·rintro σ' H3 ⟨o0,rfl,e7,h3⟩
      rw [List.length_map,List.take_length] at h3
      have e7':=e7.drop hlc
      have hfl:=List.length_filter_le (fun x => !decide (x∈Fs')) (nxt wk y)
      refine⟨pf,lc,_,_,rfl,rfl,e7' _ _ (by simp) hpf3,h3,len2 (by rw [List.length_map,List.length_map];omega),fun f1 hf1 => ?_⟩
      walk_at "rd"
      refine⟨f1,grow (nxt wk) Fs' y,_,rfl,e6.trans (e7'.trans (.laid hf1)),?_,hI3.grow (hsub y hyF) few hrg,fun z hz=>mem_grow.mpr (.inl (hsub z hz)),fun b hb c hc => ?_⟩
      ·rw [qA1];unfold grow;rw [List.map_append]
      ·rw [qAu hy] at hb
       rcases List.mem_append.mp hb with z | z
       ·exact mem_grow.mpr (.inl (hcl b z c hc))
       ·rw [List.mem_singleton.mp z] at hc
        exact mem_grow.mpr (.inr hc)
    ·rintro σ' G3 ⟨pf,Fs',o4,rfl,e6,hpf3,hI3,hsub,hcl⟩
     rw [List.length_map,List.take_length] at hcl
     walk_at "rd"
     exact⟨pf,Fs',_,_,rfl,e4.trans (e5.trans e6),hpf3,hI3,hL.succ hsub hcl⟩
   ·rintro σ' G1 ⟨pf,Fs,o4,o5,rfl,e4,hpf1,hI,hL⟩
    rw [Int.toNat_natCast] at hL
    have hFl:=hI.len
    have hcn:=qH0 (fun x=>decide (x∈Fs)) wk.length
    have hal:=qCc Fs
    walk_at "rd"
    refine⟨pf,Fs,rfl,SqL.of hpf1,by omega,fun ls hls => ?_⟩
    walk_at "rd"
    refine⟨ls,qB7 Fs,rfl,qA1,by omega,fun lx ns hlx hp hso => ?_⟩
    have EF:Ext [] H (upd G1 ls (setO w (qB7 Fs))):=(E2.trans (EG.trans e4)).trans (.laid hls)
    exact q lx ns _ (EF.none (by simp) hlx) (EF.trans (.laid hlx)) qA1 hso (hp.symm.nodup (qDm Fs)) fun y=>by rw [hp.mem_iff,qBm,hL.all hI hrg]
end
section
variable {P:Program} {w:World} {K:PySem.W.Frag} {mg:Str->Option Value} {base:Heap}
abbrev sBusy:Stmt:=top 18
theorem scBusy:FnScope ["works","number","box","waited","between"] ["works","number","box"] (qA7 sBusy):=⟨rfl,rfl,rfl,by decide +kernel,rfl,by decide +kernel,by decide +kernel⟩
theorem qUi {f:Addr} {fd:FuncData} (F:Fun K "busy" "busy" sBusy f fd) (nsort:mg "sorted" = none) (nset:mg "set" = none) (hAw:Has P w K mg base "awaited" 5 ["works","number","box"] (qGi K)) (hRe:Has P w K mg base "reached" 3 ["works","number","box"] (qGf K)) (hWr:Has P w K mg base "writers" 2 ["work","box"] (qBu K)) :
  FnOk P w K mg base CX0 6 f fd ["works","number","box"] (qGh K):=by
 refine F.ok scBusy (fun vs H Q E h => ?_) (fun cdv A outer s H vs Q E hr h => ?_)
 ·obtain⟨wa,ws,n,wk,x,rfl,_⟩:=h
  rfl
 ·obtain⟨wa,ws,n,wk,x,rfl,hW,hok,hwk,q⟩:=h
  refine⟨_,qA5 (qAm (i:=3) scBusy.nd rfl (Or.inr rfl) (qAk hAw hr (by decide) (qA0 (pv 0) (qA0 (pv 1) (qA0 (pv 2) qA3)))))
   (qA5 (qRn (i:=4) ["at"] [3] rfl (.of rfl) scBusy.nd rfl (Or.inl rfl) (qAo (qAk hRe hr (by decide) (qA0 (pv 0) (qA0 (pv 1) (qA0 (pv 2) qA3))))) (fun _ _ _ _=>qA9 (i:=0) (by show ((["at","waited"]:List Str)).Nodup;decide) rfl (Or.inl rfl)) (fun _ _ _ _ =>.cons (qAn (inK K rfl) (pv 0) (pv 1) rfl) .nil) (fun _ _ _ _=>pv 0))
   (qA8 (qAj (qAb (qD1 hr.hd) (by rfl) nsort PyProof.Rows.boot_sorted (qA0 (qAs qW5
    (qAl (qDj hr.hd) (by rfl) nset PyProof.Rows.boot_set (qA0 (qAk hWr hr (by decide) (qA0 (qAr qAi (pv 0) (pv 1) (fun _ _=>rfl)) (qA0 (pv 2) qA3))) qA3))
    (qAl (qDj hr.hd) (by rfl) nset PyProof.Rows.boot_set (qA0 (pv 4) qA3))) qA3))))),?_⟩
  dsimp only [qBb,qB3,qK4,qTe]
  obtain⟨a',vs,ea,hSq,hDL⟩:=hW.ofList
  cases ea
  obtain⟨vw,hvw,hDw⟩:=hDL.get' (i:=n) (d:=workD wk) (by rw [List.getElem?_map,hwk];rfl)
  obtain⟨m,hm1,hm2,hWk⟩:=hok.all wk (List.mem_of_getElem? hwk)
  have hwm:=hWk.len
  walk_at "rd"
  refine⟨wa,ws,n,wk,x,rfl,hW,hok,hwk,fun la H1 hla e1 hla1 => ?_⟩
  walk_at "rd"
  refine⟨wa,ws,n,wk,x,rfl,hW.mono e1.toSame,hok,hwk,fun lr ns H2 hlr e2 hlr2 hp hd hy => ?_⟩
  have hrg : ∀y∈ns,0<=y/\y<m:=fun y hy'=>qDd hWk ((hy y).mp hy')
  have hnl:=qG3 hp hd hrg
  have hla2:=e2 _ _ (by simp) hla1
  walk_at "rd"
  refine⟨lr,rfl,⟨_,SqL.of hlr2⟩,fun lc hlc => ?_⟩
  refine qAf (xs:=ns.map V.int) (fun j σ' G => ∃(o0:Option V),σ' = [o0,some (.ref la)]/\Ext [lc] H2 G/\G lc=some (.lst (((ns.take j).filter fun y=>decide (y∈qBo ws x n wk.length)).map V.int))) ?_ ?_ ?_ ?_
  ·exact⟨none,rfl,.laid hlc,qA1⟩
  ·rintro j σ' G hj ⟨o0,rfl,e3,hlc3⟩
   exact SqL.of (e3 _ _ (by simpa using qA2 hlr2 hlc) hlr2)
  ·rintro j v σ' G R hv ⟨o0,rfl,e3,hlc3⟩ hR
   obtain⟨y,hy',rfl⟩:=qAg hv
   have hjl:j<ns.length:=(List.getElem?_eq_some_iff.mp hy').1
   have htk:ns.take (j+1)=ns.take j ++ [y]:=by rw [List.take_add_one,hy'];rfl
   have hfl:=List.length_filter_le (fun y=>decide (y∈qBo ws x n wk.length)) (ns.take j)
   rw [List.length_take] at hfl
   walk_at "rd"
   refine⟨la,_,rfl,.inl (SqL.of (e3 _ _ (by simpa using qA2 hla2 hlc) hla2)),rfl,qCy _,?_⟩
   rw [if_neg Bool.false_ne_true,qE0]
   walk_at "rd"
   by_cases hc:y∈qBo ws x n wk.length
   ·rw [decide_eq_true hc]
    refine iteT (iteT ?_)
    walk_at "rd"
    refine⟨_,hlc3,qAa (by rw [List.length_map];omega),hR _ _ ⟨_,rfl,e3.trans (.put (by simp)),?_⟩⟩
    rw [qA1,htk,List.filter_append,List.filter_cons,decide_eq_true hc,if_pos rfl,List.filter_nil,List.map_append];rfl
   ·rw [decide_eq_false hc]
    refine iteF (iteF (hR _ _ ⟨_,rfl,e3,?_⟩))
    rw [hlc3,htk,List.filter_append,List.filter_cons,decide_eq_false hc,if_neg Bool.false_ne_true,List.filter_nil,List.append_nil]
  ·rintro σ' G ⟨o0,rfl,e3,hlc3⟩
   rw [List.length_map,List.take_length] at hlc3
   generalize hF:ns.filter (fun y=>decide (y∈qBo ws x n wk.length))=F at hlc3
   have hFm : ∀y,y∈F↔y∈ns/\y∈qBo ws x n wk.length:=fun y=>by rw [<-hF,List.mem_filter,decide_eq_true_eq]
   have hFl:F.length<=ns.length:=by rw [<-hF];exact List.length_filter_le _ _
   have E3:Ext [] H2 G:=e3.drop hlc
   have dW3:=hW.mono (e1.trans (e2.trans E3)).toSame
   have hwl:=qC9 wk x wk.length
   walk_at "rd"
   refine qBl ((e1.trans (e2.trans E3)).toSame.seq hSq) (qAq hvw) ?_
   walk_at "rd"
   obtain⟨wb,bs,rfl,hbs,hdbs⟩:=hDw.ofList
   refine⟨wb,wk,m,_,x,rfl,(Den.list hbs hdbs).mono (e1.trans (e2.trans E3)).toSame,hWk,hm2,fun lw H4 hlw e4 hlw4 => ?_⟩
   walk_at "rd"
   refine⟨lw,wrTo wk x wk.length,rfl,SqL.of hlw4,by omega,fun s1 hs1 => ?_⟩
   have X5:Ext [] H4 (upd H4 s1 (setO w (qB7 (wrTo wk x wk.length)))) :=.laid hs1
   have hs15:(upd H4 s1 (setO w (qB7 (wrTo wk x wk.length)))) s1=some (setO w (qB7 (wrTo wk x wk.length))):=qA1
   generalize upd H4 s1 (setO w (qB7 (wrTo wk x wk.length)))=H5 at X5 hs15 ⊢
   walk_at "rd"
   refine⟨lc,F,rfl,SqL.of ((e4.trans X5) _ _ (by simp) hlc3),by omega,fun s2 hs2 => ?_⟩
   have hal1:=qCc (wrTo wk x wk.length)
   have hal2:=qCc F
   walk_at "rd"
   refine⟨s1,s2,_,_,rfl,rfl,qA2 hs15 hs2,by rw [qA4 (qA2 hs15 hs2)];exact hs15,qA1,qMh hm2 fun y hy'=>qDo hWk ((qBm _).mp hy'),qMh hm2 fun y hy'=>hrg y ((hFm y).mp ((qBm _).mp hy')).1,by omega,fun s3 us hs3 hun hus => ?_⟩
   have X6:Ext [] H5 (upd H5 s2 (setO w (qB7 F))) :=.laid hs2
   generalize upd H5 s2 (setO w (qB7 F))=H6 at X6 hs3 ⊢
   have hub : ∀y∈us,0<=y/\y<m:=fun y hy'=>by
    rcases (hus y).mp hy' with z | z
    ·exact qDo hWk ((qBm _).mp z)
    ·exact hrg y ((hFm y).mp ((qBm _).mp z)).1
   walk_at "rd"
   refine⟨s3,us,rfl,qA1,?_,fun lx nx hlx hpx hso => ?_⟩
   ·have:=qK5 12 hun fun y hy'=>by have:=hub y hy';omega
    omega
   ·have EF:Ext [] H (upd H6 s3 (setO w us)):=(e1.trans (e2.trans (E3.trans (e4.trans (X5.trans X6))))).trans (.laid hs3)
    refine q lx nx _ (EF.none (by simp) hlx) (EF.trans (.laid hlx)) qA1 hso (hpx.symm.nodup hun) fun y => ?_
    rw [hpx.mem_iff,hus,qBm,qBm,hFm,hy]
    rfl
end
section
variable {P:Program} {w:World} {K:PySem.W.Frag} {mg:Str->Option Value} {base:Heap}
abbrev qHj:Stmt:=top 41
theorem scLBusy:FnScope ["_law_works_here","_law_number_here","_law_box","_law_work_here","_law_both"] ["_law_works_here","_law_number_here","_law_box"] (qA7 qHj):=⟨rfl,rfl,rfl,by decide +kernel,rfl,by decide +kernel,by decide +kernel⟩
theorem qRz {f:Addr} {fd:FuncData} (F:Fun K "_law_busy" "_law_busy" qHj f fd) (nsort:mg "sorted" = none) (nset:mg "set" = none) (hB:Has P w K mg base "_law_behind" 2 ["_law_work_here","_law_box"] (qIh K)) (hA:Has P w K mg base "_law_is_asked" 2 ["_law_works_here","_law_number_here","_law_block","_law_box"] (qGg K)) (hWr:Has P w K mg base "_law_writes" 1 ["_law_work_here","_law_box"] (qBu K)) :
  FnOk P w K mg base CX0 3 f fd ["_law_works_here","_law_number_here","_law_box"] (qGh K):=by
 refine F.ok scLBusy (fun vs H Q E h => ?_) (fun cdv A outer s H vs Q E hr h => ?_)
 ·obtain⟨wa,ws,n,wk,x,rfl,_⟩:=h
  rfl
 ·obtain⟨wa,ws,n,wk,x,rfl,hW,hok,hwk,q⟩:=h
  refine⟨_,qA5 (qAm (i:=3) scLBusy.nd rfl (Or.inl rfl) (qAr qAi (pv 0) (pv 1) (fun _ _=>rfl)))
   (qA5 (qRn (i:=4) ["_law_b"] [0,1,2] rfl (.of rfl) scLBusy.nd rfl (Or.inl rfl) (qAo (qAk hB hr (by decide) (qA0 (pv 3) (qA0 (pv 2) qA3)))) (fun _ _ _ _=>qA9 (i:=0) (by show ((["_law_b","_law_works_here","_law_number_here","_law_box"]:List Str)).Nodup;decide) rfl (Or.inl rfl)) (fun _ _ _ _ =>.cons (qAx K rfl (qAk hA hr (by decide) (qA0 (pv 1) (qA0 (pv 2) (qA0 (pv 0) (qA0 (pv 3) qA3))))) (fun _=>rfl)) .nil) (fun _ _ _ _=>pv 0))
   (qA8 (qAj (qAb (qD1 hr.hd) (by rfl) nsort PyProof.Rows.boot_sorted (qA0 (qAl (qDj hr.hd) (by rfl) nset PyProof.Rows.boot_set (qA0 (qAs qMo (qAk hWr hr (by decide) (qA0 (pv 3) (qA0 (pv 2) qA3))) (pv 4)) qA3)) qA3))))),?_⟩
  dsimp only [qBb,qB3,qK4,qTe]
  obtain⟨a',vs,ea,hSq,hDL⟩:=hW.ofList
  cases ea
  obtain⟨vw,hvw,hDw⟩:=hDL.get' (i:=n) (d:=workD wk) (by rw [List.getElem?_map,hwk];rfl)
  obtain⟨wb,bs,rfl,hbs,hdbs⟩:=hDw.ofList
  obtain⟨m,hm1,hm2,hWk⟩:=hok.all wk (List.mem_of_getElem? hwk)
  have hwm:=hWk.len
  have hDw:Den K H (workD wk) (.ref wb) :=.list hbs hdbs
  walk_at "rd"
  refine qBl hSq (qAq hvw) ?_
  walk_at "rd"
  refine⟨wb,wk,m,_,x,rfl,hDw,hWk,hm2,fun lr ns H2 hlr e2 hlr2 hp hd hy => ?_⟩
  have hrg : ∀y∈ns,0<=y/\y<m:=fun y hy'=>qDd hWk ((hy y).mp hy')
  have hnl:=qG3 hp hd hrg
  walk_at "rd"
  refine⟨lr,rfl,⟨_,SqL.of hlr2⟩,fun lc hlc => ?_⟩
  have dW2:=hW.mono e2.toSame
  refine qAf (xs:=ns.map V.int) (fun j σ' G => ∃(o0:Option V),σ' = [o0,some (.ref wa),some (.int n),some (.int x)]/\Ext [lc] H2 G/\G lc=some (.lst (((ns.take j).filter fun y=>decide (y∈qBo ws x n wk.length)).map V.int))) ?_ ?_ ?_ ?_
  ·exact⟨none,rfl,.laid hlc,qA1⟩
  ·rintro j σ' G hj ⟨o0,rfl,e3,hlc3⟩
   exact SqL.of (e3 _ _ (by simpa using qA2 hlr2 hlc) hlr2)
  ·rintro j v σ' G R hv ⟨o0,rfl,e3,hlc3⟩ hR
   obtain⟨y,hy',rfl⟩:=qAg hv
   have hjl:j<ns.length:=(List.getElem?_eq_some_iff.mp hy').1
   have htk:ns.take (j+1)=ns.take j ++ [y]:=by rw [List.take_add_one,hy'];rfl
   have hfl:=List.length_filter_le (fun y=>decide (y∈qBo ws x n wk.length)) (ns.take j)
   rw [List.length_take] at hfl
   obtain⟨y0,y1⟩:=hrg y (List.mem_of_getElem? hy')
   obtain⟨b,rfl⟩ : ∃b:Nat,y=(b:Int):=⟨y.toNat,by omega⟩
   have hbl:b<wk.length:=by omega
   have hpl:((n:Int),(b:Int))∈places ws:=by
    refine mem_places.mpr ?_
    rw [qCi,hwk]
    exact⟨_,List.getElem?_eq_getElem hbl⟩
   have hiff:((b:Int)∈qBo ws x n wk.length)↔askB ws x ((n:Int),(b:Int))=true:=by
    rw [qNu]
    constructor
    ·rintro⟨a,ha,_,h⟩
     rw [show b=a by omega];exact h
    ·exact fun h=>⟨b,rfl,hbl,h⟩
   walk_at "rd"
   refine⟨wa,ws,n,b,x,rfl,dW2.mono (e3.drop hlc).toSame,hok,hpl,fun G6 e6 => ?_⟩
   have hlc6:=e6 _ _ (by simp) hlc3
   refine⟨askB ws x ((n:Int),(b:Int)),rfl,?_⟩
   cases hask:askB ws x ((n:Int),(b:Int)) with
   | true =>
    have hc:=hiff.mpr hask
    refine iteT (iteT ?_)
    walk_at "rd"
    refine⟨_,hlc6,qAa (by rw [List.length_map];omega),hR _ _ ⟨_,rfl,(e3.trans (e6.mono (by simp))).trans (.put (by simp)),?_⟩⟩
    rw [qA1,htk,List.filter_append,List.filter_cons,decide_eq_true hc,if_pos rfl,List.filter_nil,List.map_append];rfl
   | false =>
    have hc : ¬(b:Int)∈qBo ws x n wk.length:=fun z=>by rw [hiff.mp z] at hask;cases hask
    refine iteF (iteF (hR _ _ ⟨_,rfl,e3.trans (e6.mono (by simp)),?_⟩))
    rw [hlc6,htk,List.filter_append,List.filter_cons,decide_eq_false hc,if_neg Bool.false_ne_true,List.filter_nil,List.append_nil]
  ·rintro σ' G ⟨o0,rfl,e3,hlc3⟩
   rw [List.length_map,List.take_length] at hlc3
   generalize hF:ns.filter (fun y=>decide (y∈qBo ws x n wk.length))=F at hlc3
   have hFm : ∀y,y∈F↔y∈ns/\y∈qBo ws x n wk.length:=fun y=>by rw [<-hF,List.mem_filter,decide_eq_true_eq]
   have hFl:F.length<=ns.length:=by rw [<-hF];exact List.length_filter_le _ _
   have E3:Ext [] H2 G:=e3.drop hlc
   have hwl:=qC9 wk x wk.length
   walk_at "rd"
   refine⟨wb,wk,m,_,x,rfl,hDw.mono (e2.trans E3).toSame,hWk,hm2,fun lw H4 hlw e4 hlw4 => ?_⟩
   walk_at "rd"
   refine⟨lw,lc,_,_,rfl,rfl,hlw4,e4 _ _ (by simp) hlc3,len2 (by rw [List.length_map,List.length_map];omega),fun f1 hf1 => ?_⟩
   rw [<-List.map_append]
   have X5:Ext [] H4 (upd H4 f1 (.lst ((wrTo wk x wk.length++F).map V.int))) :=.laid hf1
   have hf15:(upd H4 f1 (.lst ((wrTo wk x wk.length++F).map V.int))) f1=some (.lst ((wrTo wk x wk.length++F).map V.int)):=qA1
   generalize upd H4 f1 (.lst ((wrTo wk x wk.length++F).map V.int))=H5 at X5 hf15 ⊢
   walk_at "rd"
   have hal:=qCc (wrTo wk x wk.length++F)
   rw [List.length_append] at hal
   refine⟨f1,_,rfl,SqL.of hf15,by rw [List.length_append];omega,fun s1 hs1 => ?_⟩
   walk_at "rd"
   refine⟨s1,_,rfl,qA1,by omega,fun lx nx hlx hpx hso => ?_⟩
   have EF:Ext [] H (upd H5 s1 (setO w (qB7 (wrTo wk x wk.length++F)))):=(e2.trans (E3.trans (e4.trans X5))).trans (.laid hs1)
   refine q lx nx _ (EF.none (by simp) hlx) (EF.trans (.laid hlx)) qA1 hso (hpx.symm.nodup (qDm _)) fun y => ?_
   rw [hpx.mem_iff,qBm,List.mem_append,hFm,hy]
   rfl
end
section
variable {P:Program} {w:World} {K:PySem.W.Frag} {mg:Str->Option Value} {base:Heap}
abbrev qFb:Stmt:=top 42
theorem qRd:FnScope ["_law_work_here"] ["_law_work_here"] (qA7 qFb):=⟨rfl,rfl,rfl,by decide +kernel,rfl,by decide +kernel,by decide +kernel⟩
theorem qPc {f:Addr} {fd:FuncData} (F:Fun K "_law_boxes" "_law_boxes" qFb f fd) (nrange:mg "range" = none) (hWr:Has P w K mg base "_law_writes" 1 ["_law_work_here","_law_box"] (qBu K)) :
  FnOk P w K mg base CX0 2 f fd ["_law_work_here"] (qIg K):=by
 refine F.ok qRd (fun vs H Q E h => ?_) (fun cdv A outer s H vs Q E hr h => ?_)
 ·obtain⟨wa,wk,m,works,rfl,_⟩:=h
  rfl
 ·obtain⟨wa,wk,m,works,rfl,hW,hOk,hm,q⟩:=h
  refine⟨_,qA8 (qAj (qBx ["_law_box"] [0] rfl (.of rfl) (qBd rfl nrange (qA0 qA6 qA3)) (fun _ _ _ _=>qA9 (i:=0) (by show ((["_law_box","_law_work_here"]:List Str)).Nodup;decide) rfl (Or.inl rfl)) (fun _ _ _ _ =>.cons (qAn (neDK K rfl hr) (qAk hWr hr (by decide) (qA0 (pv 1) (qA0 (pv 0) qA3))) (qAy qA3) (qAt _)) .nil) (fun _ _ _ _=>pv 0))),?_⟩
  try dsimp only [qBb,qB3,qK4,qTe]
  have hwm:=hOk.len
  walk_at "rd"
  refine⟨8,rfl,by decide,by decide,fun lc hlc => ?_⟩
  refine qCv (lo:=0) (n:=(8:Int).toNat) (fun j σ' G => ∃(o0:Option V),σ' = [o0,some (.ref wa)]/\Ext [lc] H G/\G lc=some (.lst ((boxTo wk j).map V.int))) ?_ ?_ ?_
  ·exact⟨none,rfl,.laid hlc,qA1⟩
  ·rintro j σ' G R hj ⟨o0,rfl,e3,hlc3⟩ hR
   have hj8:j<8:=hj
   have hbl:=qQp wk j
   walk_at "rd"
   refine⟨wa,wk,m,works,(j:Int),by show [V.ref wa,V.int (0+(j:Int))] = [V.ref wa,V.int (j:Int)];rw [Int.zero_add],hW.mono (e3.drop hlc).toSame,hOk,hm,fun lw G4 hlw e4 hlw4 => ?_⟩
   walk_at "rd"
   refine⟨len2 (Nat.zero_le _),fun le hle => ?_⟩
   have X5:Ext [] G4 (upd G4 le (.lst [])) :=.laid hle
   have hle5:(upd G4 le (.lst [])) le=some (.lst []):=qA1
   generalize upd G4 le (.lst [])=G5 at X5 hle5 ⊢
   have hwl:=qC9 wk (j:Int) wk.length
   obtain⟨t1,t2,t3⟩:=qDi (ns:=wrTo wk (j:Int) wk.length) (fun n hn=>by have:=qDo hOk hn;omega) (by omega)
   have tS:=qCd t1 t3 ⟨_,rfl⟩
   obtain⟨z1,z2,z3⟩:=qDi (ns :=[]) (fun n hn=>by cases hn) (by decide)
   have zS:=qCd z1 z3 ⟨_,rfl⟩
   refine⟨intsD (wrTo wk (j:Int) wk.length),intsD [],.list (SqL.of (X5 _ _ (by simp) hlw4)) (DenL.ofInts _),.list (SqL.of hle5) (DenL.ofInts _),tS,zS,?_⟩
   rw [if_pos rfl]
   have hev:PyData.eqv (intsD (wrTo wk (j:Int) wk.length)) (intsD [])=decide (wrTo wk (j:Int) wk.length = []):=by
    cases wrTo wk (j:Int) wk.length with
    | nil=>rfl
    | cons a r=>simp [intsD,PyData.eqv,PyData.eqvAll]
   rw [hev]
   walk_at "rd"
   have hlc5:=(e4.trans X5) _ _ (by simp) hlc3
   by_cases hc:wrTo wk (j:Int) wk.length = []
   ·rw [decide_eq_true hc]
    refine iteF (iteF (hR _ _ ⟨_,rfl,e3.trans ((e4.trans X5).mono (by simp)),?_⟩))
    rw [hlc5,qI5,if_pos hc]
   ·rw [decide_eq_false hc]
    refine iteT (iteT ?_)
    walk_at "rd"
    refine⟨_,hlc5,qAa (by rw [List.length_map];omega),hR _ _ ⟨_,rfl,(e3.trans ((e4.trans X5).mono (by simp))).trans (.put (by simp)),?_⟩⟩
    rw [qA1,qI5,if_neg hc,List.map_append,Int.zero_add];rfl
  ·rintro σ' G ⟨o0,rfl,e3,hlc3⟩
   exact q lc G hlc (e3.drop hlc) hlc3
end
section
variable {P:Program} {w:World} {K:PySem.W.Frag} {mg:Str->Option Value} {base:Heap}
theorem r_bn {wi2:TI} {g2:TG} {tts2:List TT} {B:TB} {σ : St} {H:Hp} {Q:St->Hp->Prop} (h:wi2 σ H fun J H1=>LoopT J g2 (tAll tts2) B σ H1 Q):bNext wi2 g2 tts2 B σ H Q:=h
theorem r_ea {w:World} {te:TE} {l:Addr} {σ : St} {H:Hp} {Q:St->Hp->Prop} (h:te σ H fun v H1 => ∃ns n,v = .int n/\H1 l=some (setO w ns)/\ns.length+1<4096/\Q σ (upd H1 l (setO w (addN ns n)))):eAdd w te l σ H Q:=h
def dword:Deed->Str
 | .set _ _ => "set"
 | .add _ _ => "add"
 | .tell _ => "tell"
 | .call _ => "call"
 | .save _ => "save"
 | .back _ => "back"
def darg:Deed->Int
 | .set b _=>b
 | .add b _=>b
 | .tell b=>b
 | .call b=>b
 | .save b=>b
 | .back b=>b
def dmore:Deed->List Int
 | .set _ n =>[n]
 | .add _ n =>[n]
 | _ =>[]
theorem deed_is (d:Deed):deedD d = .tuple (.str (dword d) :: .int (darg d)::(dmore d).map .int):=by cases d <;> rfl
theorem deed_in (d:Deed):inV (V.str (dword d)) [V.str "set",.str "add"]=(wr d).isSome:=by cases d <;> first | rfl | (show inV (V.str _) _=_;simp only [dword,wr];decide)
theorem deed_wr (d:Deed) (h:(wr d).isSome=true):wr d=some (darg d):=by cases d <;> first | rfl | cases h
def Writing (K:PySem.W.Frag) (wa:Addr):Prop := ∃(o:Obj) (its:Array Value) (n:Nat),K.lookup wa=some o/\o.cls = .type "tuple" /\ o.data = .seq its n/\its.size<=sizeLine/\Vals [V.str "set",.str "add"] its.toList
theorem qJd {w:List Blk} {i:Nat} {b:Blk} (h:w[i]? = some b):qBz (w.take (i+1))=qBz (w.take i)++b.ds.filterMap wr:=by
 unfold qBz;rw [qAu h,List.flatMap_append];simp
theorem few8 {ns:List Int} (hn:ns.Nodup) (h : ∀b∈ns,0<=b/\b<8):ns.length<=8:=by
 have:=qCj (l2:=(List.range 8).map fun (j:Nat)=>(j:Int)) hn fun b hb=>by
  have:=h b hb
  exact List.mem_map.mpr ⟨b.toNat,List.mem_range.mpr (by omega),by omega⟩
 simpa using this
abbrev qHm:Stmt:=top 7
theorem qTu:FnScope ["work"] ["work"] (qA7 qHm):=⟨rfl,rfl,rfl,by decide +kernel,rfl,by decide +kernel,by decide +kernel⟩
theorem qS2 {f wa:Addr} {fd:FuncData} (F:Fun K "boxes_in" "boxes_in" qHm f fd) (nsort:mg "sorted" = none) (hWr:mg "WRITING" = some (.ref wa)) (hWt:Writing K wa) :
  FnOk P w K mg base CX0 1 f fd ["work"] (qDe K):=by
 have nd3:((["deeds","end","deed"]:List Str)).Nodup:=by decide
 refine F.ok qTu (fun vs H Q E h => ?_) (fun cdv A outer s H vs Q E hr h => ?_)
 ·obtain⟨a,w,m,works,rfl,_⟩:=h
  rfl
 ·obtain⟨a,wk,m,works,rfl,hW,hOk,hm,q⟩:=h
  refine⟨_,qA8 (qAj (qAb (qD1 hr.hd) (by rfl) nsort PyProof.Rows.boot_sorted (qA0
   (qW1 ["deeds","end","deed"] [] w rfl rfl (.of rfl) (qAo (pv 0)) (fun _ _ _ _=>qD8 (n:=2) K rfl rfl (qAc (qA9 (i:=0) nd3 rfl (Or.inl rfl)) (qAc (qA9 (i:=1) nd3 rfl (Or.inl rfl)) qB9))) (fun _ _ _ _ =>.nil)
    (fun _ _ _ _=>qDx K rfl (pv 0)) (fun _ _ _ _=>qA9 (i:=2) nd3 rfl (Or.inl rfl)) (fun _ _ _ _ =>.cons (qAn (inK K rfl) (qAr (qDh K rfl) (pv 2) qA6 (fun _ _=>rfl)) (qLo (v :=.ref wa) rfl hWr rfl) rfl) .nil) (fun _ _ _ _=>qAr (qDh K rfl) (pv 2) qA6 (fun _ _=>rfl))) qA3))),?_⟩
  dsimp only [qBb,qB3]
  walk_at "rd"
  obtain⟨a',vs,ea,hSq,hDL⟩:=hW.ofList
  cases ea
  have hvl:vs.length=wk.length:=by rw [hDL.len,List.length_map]
  refine⟨a,rfl,⟨vs,hSq⟩,fun l hl => ?_⟩
  have e1:Ext [] H (upd H l (setO w [])) :=.laid hl
  have hrange : ∀ {i:Nat} {b:Int},b∈qBz (wk.take i)->0<=b/\b<8:=fun {i b} hb=>qBt hOk (by
   obtain⟨k,hk,hb⟩:=List.mem_flatMap.mp hb
   exact List.mem_flatMap.mpr ⟨k,List.mem_of_mem_take hk,hb⟩)
  refine qAf (xs:=vs) (fun i σ' H' => ∃(o0 o1 o2:Option V) (ns:List Int),σ' = [o0,o1,o2]/\Ext [l] (upd H l (setO w [])) H'/\H' l=some (setO w ns)/\ns.Nodup /\ ∀b,b∈ns↔b∈qBz (wk.take i)) ?_ ?_ ?_ ?_
  ·exact⟨none,none,none,[],rfl,.refl _ _,qA1,.nil,fun b=>by simp [qBz]⟩
  ·rintro i σ' H' hi ⟨o0,o1,o2,ns,rfl,e',hl',hnd,hmem⟩
   exact (((e1.mono (us :=[l]) (by simp)).trans e').drop hl).toSame.seq hSq
  ·rintro i x σ' H' R hx ⟨o0,o1,o2,ns,rfl,e',hl',hnd,hmem⟩ hR
   have EH:Ext [] H H':=((e1.mono (us :=[l]) (by simp)).trans e').drop hl
   obtain⟨dd,hdd,hDx⟩:=hDL.get hx
   obtain⟨b,hb,rfl⟩:=qAg hdd
   obtain⟨c,cs,rfl,hc,hcs⟩:=hDx.ofTuple
   obtain⟨vd,r1,rfl,hd1,hr1⟩:=hcs.ofCons
   obtain⟨ve,r2,rfl,hd2,hr2⟩:=hr1.ofCons
   have hr2:=hr2.ofNil
   subst hr2
   obtain⟨dl,dvs,rfl,hdl,hdvs⟩:=hd1.ofList
   have hdvl:dvs.length=b.ds.length:=by rw [hdvs.len,List.length_map]
   have hbok:=hOk.blk b (List.mem_of_getElem? hb)
   refine qBy (EH.toSame.seqT hc) rfl ?_
   walk_at "rd"
   refine iteT ?_
   refine r_bn ?_
   walk_at "rd"
   refine⟨dl,rfl,⟨dvs,EH.toSame.seq hdl⟩,?_⟩
   refine qAf (xs:=dvs) (fun j σ' G => ∃(o2:Option V) (ns:List Int),σ' = [some (.ref dl),some ve,o2]/\Ext [l] H' G/\G l=some (setO w ns)/\ns.Nodup /\ ∀x,x∈ns↔x∈qBz (wk.take i)\/x∈(b.ds.take j).filterMap wr) ?_ ?_ ?_ ?_
   ·exact⟨o2,ns,rfl,.refl _ _,hl',hnd,fun x=>by rw [hmem];simp⟩
   ·rintro j σ' G hj ⟨o2,ns,rfl,eG,hlG,hnd,hmem⟩
    exact (((EH.mono (us :=[l]) (by simp)).trans eG).drop hl).toSame.seq hdl
   ·rintro j x σ' G R hx ⟨o2,ns,rfl,eG,hlG,hnd,hmem⟩ hR
    have EG:Ext [] H G:=((EH.mono (us :=[l]) (by simp)).trans eG).drop hl
    obtain⟨dd,hdd,hDx⟩:=hdvs.get hx
    obtain⟨d,hd,rfl⟩:=qAg hdd
    have hdok:=hbok.ds d (List.mem_of_getElem? hd)
    rw [deed_is] at hDx
    obtain⟨p,ps,rfl,hp,hps⟩:=hDx.ofTuple
    obtain⟨v1,q1,rfl,hv1,hq1⟩:=hps.ofCons
    obtain⟨v2,q2,rfl,hv2,hq2⟩:=hq1.ofCons
    have z1:=hv1.ofStr
    have z2:=hv2.ofInt
    subst z1 z2
    have hpG:=EG.toSame.seqT hp
    have htake:(b.ds.take (j+1)).filterMap wr=(b.ds.take j).filterMap wr ++ [d].filterMap wr:=by rw [qAu hd,List.filterMap_append]
    have hin8 : ∀x∈ns,0<=x/\x<8:=fun x hx=>by
     rcases (hmem x).mp hx with z | z
     ·exact hrange z
     ·obtain⟨d',hd',e⟩:=List.mem_filterMap.mp z
      exact qM9 (hbok.ds d' (List.mem_of_mem_take hd')) e
    have h8:=few8 hnd hin8
    walk_at "rd"
    refine qCp hpG (show atI _ ((0:Nat):Int)=some (V.str (dword d)) from qAq rfl) ?_
    walk_at "rd"
    refine⟨wa,[V.str "set",.str "add"],rfl,.inr (.inr hWt),rfl,rfl,?_⟩
    rw [if_neg Bool.false_ne_true,deed_in]
    walk_at "rd"
    cases hw:(wr d).isSome with
    | true =>
     refine iteT (iteT ?_)
     refine r_ea ?_
     walk_at "rd"
     refine qCp hpG (show atI _ ((1:Nat):Int)=some (V.int (darg d)) from qAq rfl) ?_
     refine⟨ns,darg d,rfl,hlG,by omega,hR _ _ ⟨_,addN ns (darg d),rfl,eG.trans (.put (by simp)),qA1,qBs hnd,fun x => ?_⟩⟩
     rw [qIw,hmem,htake,List.mem_append,List.filterMap_cons,deed_wr d hw]
     simp [or_assoc]
    | false =>
     refine iteF (iteF (hR _ _ ⟨_,ns,rfl,eG,hlG,hnd,fun x => ?_⟩))
     have hn:wr d=none:=by cases z:wr d with
      | none=>rfl
      | some y=>rw [z] at hw;cases hw
     rw [hmem,htake,List.filterMap_cons,hn]
     simp
   ·rintro σ' G ⟨o2,ns,rfl,eG,hlG,hnd,hmem⟩
    rw [hdvl,List.take_length] at hmem
    refine hR _ _ ⟨_,_,_,ns,rfl,e'.trans eG,hlG,hnd,fun x => ?_⟩
    rw [hmem,qJd hb,List.mem_append]
  ·rintro σ' H' ⟨o0,o1,o2,ns,rfl,e',hl',hnd,hmem⟩
   rw [hvl,List.take_length] at hmem
   have EH:Ext [] H H':=((e1.mono (us :=[l]) (by simp)).trans e').drop hl
   have h8:=few8 hnd fun x hx=>qBt hOk ((hmem x).mp hx)
   walk_at "rd"
   refine⟨l,ns,rfl,hl',by omega,fun l2 ns' hl2 hp hs => ?_⟩
   have hb:=qJm hOk hmem hnd hp hs
   subst hb
   exact q l2 _ (EH.none (by simp) hl2) (EH.trans (.laid hl2)) qA1
end
end Fs
local macro_rules | `(tactic| walk_at "re") => `(tactic| repeat (with_reducible first | (refine L2.qV7 ?_; intro NN_ hNN_) | walk_at "q1" | refine L2.qCt (by assumption) ?_ | refine L2.qWf (by assumption) ?_ | (refine L2.qWv ?_; intro NA_ NB_ hNA_ hNB_) | walk_at "q2"))
namespace Fs
open PySem L2
section
variable {P:Program} {w:World} {K:PySem.W.Frag} {mg:Str->Option Value} {base:Heap}
abbrev qHk:Stmt:=top 4
theorem qTt:FnScope ["thing"] ["thing"] (qA7 qHk):=⟨rfl,rfl,rfl,by decide +kernel,rfl,by decide +kernel,by decide +kernel⟩
theorem qS0 {f:Addr} {fd:FuncData} (F:Fun K "is_number" "is_number" qHk f fd) (nisi:mg "isinstance" = none) (nint:mg "int" = none) (nbool:mg "bool" = none):FnOk P w K mg base CX0 1 f fd ["thing"] qId:=by
 refine F.ok qTt (fun vs H Q E h => ?_) (fun cdv A outer s H vs Q E hr h => ?_)
 ·obtain⟨n,rfl,_⟩:=h
  rfl
 ·obtain⟨n,rfl,q⟩:=h
  refine⟨_,(qA8 (qAj (qGo (qAb qF1 (by rfl) nisi (by decide +kernel) (qA0 (pv 0) (qA0 (qGn (v :=.ty "int") rfl nint PyProof.Rows.boot_int rfl) qA3))) (qFs (qW2 (qAb qF1 (by rfl) nisi (by decide +kernel) (qA0 (pv 0) (qA0 (qGn (v :=.ty "bool") rfl nbool PyProof.Rows.boot_bool rfl) qA3)))))))),?_⟩
  dsimp only [qBb,qB3,qFn]
  walk_at "re"
  refine qT1 ?_
  walk_at "re"
  refine⟨_,"int",_,true,rfl,.int n,qLx K,true,rfl,iteT ?_⟩
  refine qVd ?_
  walk_at "re"
  exact⟨_,"bool",_,false,rfl,.int n,qKh K,false,rfl,q⟩
end
section
variable {P:Program} {w:World} {K:PySem.W.Frag} {mg:Str->Option Value} {base:Heap}
abbrev qFd:Stmt:=top 5
theorem qRf:FnScope ["thing","low","beyond"] ["thing","low","beyond"] (qA7 qFd):=⟨rfl,rfl,rfl,by decide +kernel,rfl,by decide +kernel,by decide +kernel⟩
theorem qPe {f:Addr} {fd:FuncData} (F:Fun K "is_number_from" "is_number_from" qFd f fd) (hN:Has P w K mg base "is_number" 1 ["thing"] qId):FnOk P w K mg base CX0 2 f fd ["thing","low","beyond"] qIe:=by
 refine F.ok qRf (fun vs H Q E h => ?_) (fun cdv A outer s H vs Q E hr h => ?_)
 ·obtain⟨n,lo,hi,rfl,_⟩:=h
  rfl
 ·obtain⟨n,lo,hi,rfl,h1,h2,q⟩:=h
  refine⟨_,(qA8 (qAj (qGo (qAk hN hr (by decide) (qA0 (pv 0) qA3)) (qFs (qRr qW6 qNo (pv 1) (pv 0) (pv 2)))))),?_⟩
  walk_at "re"
  refine qT1 ?_
  walk_at "re"
  refine⟨n,rfl,true,rfl,iteT ?_⟩
  refine qRl ?_
  walk_at "re"
  rw [decide_eq_true h1]
  refine iteT ?_
  walk_at "re"
  rw [decide_eq_true h2]
  exact q
end
section
variable {P:Program} {w:World} {K:PySem.W.Frag} {mg:Str->Option Value} {base:Heap}
abbrev qFe:Stmt:=top 20
theorem scInside:FnScope ["works","number","box","thing","many"] ["works","number","box","thing"] (qA7 qFe):=⟨rfl,rfl,rfl,by decide +kernel,rfl,by decide +kernel,by decide +kernel⟩
theorem qPf {f:Addr} {fd:FuncData} (F:Fun K "is_inside" "is_inside" qFe f fd) (nlen:mg "len" = none) (nisi:mg "isinstance" = none) (nlist:mg "list" = none) (nall:mg "all" = none) (nset:mg "set" = none) (nsorted:mg "sorted" = none) (hF:Has P w K mg base "is_number_from" 2 ["thing","low","beyond"] qIe) (hB:Has P w K mg base "busy" 6 ["works","number","box"] (qGh K)):FnOk P w K mg base CX0 7 f fd ["works","number","box","thing"] (qIf K):=by
 refine F.ok scInside (fun vs H Q E h => ?_) (fun cdv A outer s H vs Q E hr h => ?_)
 ·obtain⟨wa,l,ws,n,wk,x,ns,rfl,_⟩:=h
  rfl
 ·obtain⟨wa,l,ws,n,wk,x,ns,rfl,hW,hok,hwk,hl,⟨hrise,hrg,hnl,hbusy⟩,q⟩:=h
  refine⟨_,(qA5 (qAm (i:=4) scInside.nd rfl (Or.inr rfl) (qAb qAw (by rfl) nlen PySem.boot_len (qA0 (qAr qAi (pv 0) (pv 1) (fun _ _=>rfl)) qA3)))
   (qA5 (qC6 (PW.pt (qU1 (qGl (qAx K rfl (qAb qF1 (by rfl) nisi (by decide +kernel) (qA0 (pv 3) (qA0 (qGn (v :=.ty "list") rfl nlist PyProof.Rows.boot_list rfl) qA3))) (fun _=>rfl))) (qOx (qGl (qAx K rfl (qAb (qD2 hr.hd) (by rfl) nall (by decide +kernel) (qA0 (qBx ["at"] [4] rfl (.of rfl) (qAo (pv 3)) (fun _ _ _ _=>(qA9 (i:=0) (by show (((["at","many"]:List Str))).Nodup;decide) rfl (Or.inl rfl))) (fun _ _ _ _ =>.nil) (fun _ _ _ _=>(qAk hF hr (by decide) (qA0 (pv 0) (qA0 qA6 (qA0 (pv 1) qA3)))))) qA3)) (fun _=>rfl)))))) (qA8 (qAj qDa)) qB1)
   (qA5 (qC6 (qAn (qK2 hr) (pv 3) (qAb (qD1 hr.hd) (by rfl) nsorted PyProof.Rows.boot_sorted (qA0 (qAl (qDj hr.hd) (by rfl) nset PyProof.Rows.boot_set (qA0 (pv 3) qA3)) qA3)) (qAt _)) (qA8 (qAj qDa)) qB1)
   (qA8 (qAj (qAb (qD2 hr.hd) (by rfl) nall (by decide +kernel) (qA0 (qBx ["at"] [3] rfl (.of rfl) (qAo (qAk hB hr (by decide) (qA0 (pv 0) (qA0 (pv 1) (qA0 (pv 2) qA3))))) (fun _ _ _ _=>(qA9 (i:=0) (by show (((["at","thing"]:List Str))).Nodup;decide) rfl (Or.inl rfl))) (fun _ _ _ _ =>.nil) (fun _ _ _ _=>(qBf (inK K rfl) (pv 0) (pv 1) rfl))) qA3))))))),?_⟩
  dsimp only [qBb,qB3,qFn,qK4,qTe]
  obtain⟨a',vs,ea,hSq,hDL⟩:=hW.ofList
  cases ea
  obtain⟨vw,hvw,hDw⟩:=hDL.get' (i:=n) (d:=workD wk) (by rw [List.getElem?_map,hwk];rfl)
  obtain⟨m,hm1,hm2,hWk⟩:=hok.all wk (List.mem_of_getElem? hwk)
  have hwm:=hWk.len
  obtain⟨wl,us,rfl,hSw,hDw'⟩:=hDw.ofList
  have hul:us.length=wk.length:=by rw [hDw'.len,List.length_map]
  walk_at "re"
  refine qBl hSq (qAq hvw) ?_
  walk_at "re"
  refine⟨wl,us,rfl,.inl hSw,?_⟩
  walk_at "re"
  refine⟨_,"list",_,true,rfl,.lst hl,qS9 K,true,rfl,iteF ?_⟩
  walk_at "re"
  refine⟨l,rfl,⟨_,SqL.of hl⟩,fun lc hlc => ?_⟩
  refine qAf (xs:=ns.map V.int) (fun j σ' G => ∃(o0:Option V),σ' = [o0,some (.int us.length)]/\Ext [lc] H G/\G lc=some (.lst (List.replicate j (V.bl true)))) ?_ ?_ ?_ ?_
  ·exact⟨none,rfl,.laid hlc,qA1⟩
  ·rintro j σ' G hj ⟨o0,rfl,e3,hlc3⟩
   exact SqL.of (e3 _ _ (by simpa using qA2 hl hlc) hl)
  ·rintro j v σ' G R hv ⟨o0,rfl,e3,hlc3⟩ hR
   obtain⟨y,hy',rfl⟩:=qAg hv
   have hjl:j<ns.length:=(List.getElem?_eq_some_iff.mp hy').1
   have hyr:=hrg y (List.mem_of_getElem? hy')
   walk_at "re"
   refine iteT ?_
   walk_at "re"
   refine⟨y,0,us.length,rfl,hyr.1,by omega,?_⟩
   refine⟨_,hlc3,qAa (by rw [List.length_replicate];omega),hR _ _ ⟨_,rfl,e3.trans (.put (by simp)),?_⟩⟩
   rw [qA1,List.replicate_succ']
  ·rintro σ' G ⟨o0,rfl,e3,hlc3⟩
   have eG:=e3.drop hlc
   have hlG:=eG _ _ (by simp) hl
   walk_at "re"
   refine qHp hlc3 ?_
   refine⟨true,rfl,iteF ?_⟩
   clear hlc3 e3 hlc
   walk_at "re"
   refine⟨l,ns,rfl,SqL.of hlG,by omega,fun ls hls => ?_⟩
   have hal:=qCc ns
   walk_at "re"
   refine⟨ls,qB7 ns,rfl,qA1,by omega,fun l2 ns' hl2 hp hsr => ?_⟩
   have e4:Ext [] G (upd (upd G ls (setO w (qB7 ns))) l2 (.lst (ns'.map V.int))):=(Ext.laid hls).trans (.laid hl2)
   have hl24:(upd (upd G ls (setO w (qB7 ns))) l2 (.lst (ns'.map V.int))) l2=some (.lst (ns'.map V.int)):=qA1
   generalize upd (upd G ls (setO w (qB7 ns))) l2 (.lst (ns'.map V.int))=G4 at e4 hl24 ⊢
   have hns:ns'=ns:=by
    refine qFh ?_ hrise fun y=>by rw [hp.mem_iff,qBm]
    exact (hsr.and (hp.nodup_iff.mpr (qDm ns))).imp fun {a b} z=>by obtain⟨z1,z2⟩:=z;omega
   subst hns
   obtain⟨t1,t2,t3⟩:=qDi (ns:=ns') (fun n hn=>by have:=hrg n hn;omega) (by omega)
   have tS:=qCd t1 t3 ⟨_,rfl⟩
   have hlG4:=e4 _ _ (by simp) hlG
   refine⟨intsD ns',intsD ns',.list (SqL.of hlG4) (DenL.ofInts _),.list (SqL.of hl24) (DenL.ofInts _),tS,tS,?_⟩
   rw [if_pos rfl,qG9 _ (qEc t1)]
   walk_at "re"
   refine iteF ?_
   have eH:=eG.trans e4
   walk_at "re"
   refine⟨wa,ws,n,wk,x,rfl,hW.mono eH.toSame,hok,hwk,fun lb bs H5 hlb e5 hlb5 hp hd hy => ?_⟩
   have hbl:bs.length<=12:=by
    have:=qG3 hp hd fun y hy'=>qE1 hWk ((hy y).mp hy')
    omega
   have hl5:=e5 _ _ (by simp) hlG4
   refine⟨lb,rfl,⟨_,SqL.of hlb5⟩,fun lc hlc => ?_⟩
   refine qAf (xs:=bs.map V.int) (fun j σ' G => ∃(o0:Option V),σ' = [o0,some (.ref l)]/\Ext [lc] H5 G/\G lc=some (.lst (List.replicate j (V.bl true)))) ?_ ?_ ?_ ?_
   ·exact⟨none,rfl,.laid hlc,qA1⟩
   ·rintro j σ' G hj ⟨o0,rfl,e3,hlc3⟩
    exact SqL.of (e3 _ _ (by simpa using qA2 hlb5 hlc) hlb5)
   ·rintro j v σ' G R hv ⟨o0,rfl,e3,hlc3⟩ hR
    obtain⟨y,hy',rfl⟩:=qAg hv
    have hjl:j<bs.length:=(List.getElem?_eq_some_iff.mp hy').1
    have hyr:=hbusy y ((hy y).mp (List.mem_of_getElem? hy'))
    walk_at "re"
    refine iteT ?_
    walk_at "re"
    refine⟨l,_,rfl,.inl (SqL.of (e3 _ _ (by simpa using qA2 hl5 hlc) hl5)),rfl,qCy _,?_⟩
    rw [if_neg Bool.false_ne_true,qE0,decide_eq_true hyr]
    refine⟨_,hlc3,qAa (by rw [List.length_replicate];omega),hR _ _ ⟨_,rfl,e3.trans (.put (by simp)),?_⟩⟩
    rw [qA1,List.replicate_succ']
   ·rintro σ' G ⟨o0,rfl,e3,hlc3⟩
    walk_at "re"
    refine qHp hlc3 ?_
    exact q _ ((eH.trans e5).trans (e3.drop hlc))
end
section
variable {P:Program} {w:World} {K:PySem.W.Frag} {mg:Str->Option Value} {base:Heap}
abbrev qFc:Stmt:=top 21
theorem qRe:FnScope ["works","number","thing"] ["works","number","thing"] (qA7 qFc):=⟨rfl,rfl,rfl,by decide +kernel,rfl,by decide +kernel,by decide +kernel⟩
theorem qPd {f:Addr} {fd:FuncData} (F:Fun K "is_plan" "is_plan" qFc f fd) (nisi:mg "isinstance" = none) (ndict:mg "dict" = none) (nall:mg "all" = none) (nsorted:mg "sorted" = none) (hN:Has P w K mg base "is_number" 1 ["thing"] qId) (hX:Has P w K mg base "boxes_in" 1 ["work"] (qDe K)) (hI:Has P w K mg base "is_inside" 7 ["works","number","box","thing"] (qIf K)):FnOk P w K mg base CX0 8 f fd ["works","number","thing"] (qIc K):=by
 refine F.ok qRe (fun vs H Q E h => ?_) (fun cdv A outer s H vs Q E hr h => ?_)
 ·obtain⟨wa,d,ws,n,wk,as,ls,rfl,_⟩:=h
  rfl
 ·obtain⟨wa,d,ws,n,wk,as,ls,rfl,hW,hok,hwk,⟨hd,hLs,hal,hand,hnda⟩,hIn,q⟩:=h
  refine⟨_,(qA5 (qC6 (PW.pt (qU1 (qGl (qAx K rfl (qAb qF1 (by rfl) nisi (by decide +kernel) (qA0 (pv 2) (qA0 (qGn (v :=.ty "dict") rfl ndict PyProof.Rows.boot_dict rfl) qA3))) (fun _=>rfl))) (qOx (qGl (qAx K rfl (qP3 (qAb (qD2 hr.hd) (by rfl) nall (by decide +kernel) (qA0 (qBx ["box"] [] rfl (.of rfl) (qU3 (pv 2)) (fun _ _ _ _=>(qA9 (i:=0) (by show (((["box"]:List Str))).Nodup;decide) rfl (Or.inl rfl))) (fun _ _ _ _ =>.nil) (fun _ _ _ _=>(qAk hN hr (by decide) (qA0 (pv 0) qA3)))) qA3))) (fun _=>rfl)))))) (qA8 (qAj qDa)) qB1)
   (qA5 (qC6 (qAn (qK2 hr) (qAb (qI3 hr.hd) (by rfl) nsorted PyProof.Rows.boot_sorted (qA0 (pv 2) qA3)) (qAk hX hr (by decide) (qA0 (qAr qAi (pv 0) (pv 1) (fun _ _=>rfl)) qA3)) (qAt _)) (qA8 (qAj qDa)) qB1)
   (qA8 (qAj (qP3 (qAb (qD2 hr.hd) (by rfl) nall (by decide +kernel) (qA0 (qBx ["box","inside"] [0,1] rfl (.of rfl) (qU2 (qHr PySem.F.plainAttrs_dict PySem.F.slot_dict_items PySem.F.type_dict_items qMq (pv 2))) (fun _ _ _ _=>(qD8 (n:=2) K rfl rfl (qAc (qA9 (i:=0) (by show (((["box","inside","works","number"]:List Str))).Nodup;decide) rfl (Or.inl rfl)) (qAc (qA9 (i:=1) (by show (((["box","inside","works","number"]:List Str))).Nodup;decide) rfl (Or.inl rfl)) qB9)))) (fun _ _ _ _ =>.nil) (fun _ _ _ _=>(qAk hI hr (by decide) (qA0 (pv 2) (qA0 (pv 3) (qA0 (pv 0) (qA0 (pv 1) qA3))))))) qA3))))))),?_⟩
  dsimp only [qBb,qB3,qFn,qK4,qTe]
  obtain⟨a',vs,ea,hSq,hDL⟩:=hW.ofList
  cases ea
  obtain⟨vw,hvw,hDw⟩:=hDL.get' (i:=n) (d:=workD wk) (by rw [List.getElem?_map,hwk];rfl)
  obtain⟨m,hm1,hm2,hWk⟩:=hok.all wk (List.mem_of_getElem? hwk)
  have hwm:=hWk.len
  obtain⟨wl,us,rfl,hSw,hDw'⟩:=hDw.ofList
  have hbl:=qF2 wk
  have hkl:=qEr hal
  have nfz : ∀o u,H d≠some (.frz o u):=fun o u z=>by rw [hd] at z;cases z
  walk_at "re"
  refine⟨_,"dict",_,true,rfl,.dK hd,qMv K,true,rfl,iteF ?_⟩
  walk_at "re"
  refine qSy ?_
  walk_at "re"
  refine⟨d,_,rfl,hd,fun o lc hlc => ?_⟩
  have hdf:(upd H d (.frz o (.dK (planK (boxes wk) as)))) d=some (.frz o (.dK (planK (boxes wk) as))):=qA1
  refine qPr (fun j σ' G => ∃(o0:Option V),σ' = [o0]/\Ext [lc] (upd H d (.frz o (.dK (planK (boxes wk) as)))) G/\G lc=some (.lst (List.replicate j (V.bl true)))) ?_ ?_ ?_ ?_
  ·exact⟨none,rfl,.laid hlc,qA1⟩
  ·rintro j σ' G hj ⟨o0,rfl,e3,hlc3⟩
   exact e3 _ _ (by simpa using qA2 hdf hlc) hdf
  ·rintro j k v σ' G R hv ⟨o0,rfl,e3,hlc3⟩ hR
   obtain⟨b,a,hb,ha,rfl,rfl⟩:=qMj hv
   have hjl:j<(boxes wk).length:=(List.getElem?_eq_some_iff.mp hb).1
   walk_at "re"
   refine iteT ?_
   walk_at "re"
   refine⟨b,rfl,?_⟩
   refine⟨_,hlc3,qAa (by rw [List.length_replicate];omega),hR _ _ ⟨_,rfl,e3.trans (.put (by simp)),?_⟩⟩
   rw [qA1,List.replicate_succ']
  ·rintro σ' G ⟨o0,rfl,e3,hlc3⟩
   have eF:=e3.drop hlc
   walk_at "re"
   refine qHp hlc3 ?_
   refine⟨d,o,_,eF _ _ (by simp) hdf,nfz,?_⟩
   have eG:Ext [] H (upd G d (.dK (planK (boxes wk) as))):=eF.thawed hd
   clear hlc3 e3 hlc eF hdf
   generalize upd G d (.dK (planK (boxes wk) as))=G1 at eG ⊢
   refine⟨true,rfl,iteF ?_⟩
   have hd1:=eG _ _ (by simp) hd
   walk_at "re"
   refine⟨d,boxes wk,_,rfl,hd1,qDw hal,by omega,fun l1 ns' hl1 hp hsr => ?_⟩
   have hns:ns'=boxes wk:=by
    refine qFh ?_ (qBn wk) fun y=>hp.mem_iff
    exact (hsr.and (hp.nodup_iff.mpr ((qBn wk).imp fun h=>by omega))).imp fun {a b} z=>by obtain⟨z1,z2⟩:=z;omega
   subst hns
   have e2:Ext [] G1 (upd G1 l1 (.lst ((boxes wk).map V.int))) :=.laid hl1
   have hl12:(upd G1 l1 (.lst ((boxes wk).map V.int))) l1=some (.lst ((boxes wk).map V.int)):=qA1
   generalize upd G1 l1 (.lst ((boxes wk).map V.int))=G2 at e2 hl12 ⊢
   have e02:=eG.trans e2
   walk_at "re"
   refine qBl (e02.toSame.seq hSq) (qAq hvw) ?_
   walk_at "re"
   refine⟨wl,wk,m,ws.length,rfl,hDw.mono e02.toSame,hWk,hm2,fun l3 G3 hl3 e3 hl33 => ?_⟩
   obtain⟨t1,t2,t3⟩:=qDi (ns:=boxes wk) (fun n hn=>by have:=qN9 hWk hn;omega) (by omega)
   have tS:=qCd t1 t3 ⟨_,rfl⟩
   refine⟨intsD (boxes wk),intsD (boxes wk),.list (SqL.of (e3 _ _ (by simp) hl12)) (DenL.ofInts _),.list (SqL.of hl33) (DenL.ofInts _),tS,tS,?_⟩
   rw [if_pos rfl,qG9 _ (qEc t1)]
   have e03:=e02.trans e3
   walk_at "re"
   refine iteF ?_
   walk_at "re"
   refine qSy ?_
   walk_at "re"
   refine qTw ?_
   have hd3:=e03 _ _ (by simp) hd
   walk_at "re"
   refine qRi hd3 ?_
   refine⟨d,_,rfl,rfl,hd3,fun p hp => ?_⟩
   have eP:Ext [] G3 (upd G3 p (viewO d)) :=.laid hp
   have hpP:(upd G3 p (viewO d)) p=some (viewO d):=qA1
   generalize upd G3 p (viewO d)=GP at eP hpP ⊢
   have e0P:=e03.trans eP
   have hdP:=e0P _ _ (by simp) hd
   refine⟨p,d,_,rfl,hpP,hdP,fun o lc hlc => ?_⟩
   have hdf:(upd GP d (.frz o (.dK (planK (boxes wk) as)))) d=some (.frz o (.dK (planK (boxes wk) as))):=qA1
   have eF0:Ext [d] GP (upd GP d (.frz o (.dK (planK (boxes wk) as)))) :=.put (by simp)
   have hWF:Den K (upd GP d (.frz o (.dK (planK (boxes wk) as)))) (qC7 ws) (.ref wa):=Den.beside hdP eF0 (hW.mono e0P.toSame)
   have hLF:ListsAt (upd GP d (.frz o (.dK (planK (boxes wk) as)))) as ls:=(hLs.mono fun a _ ob e=>e0P _ _ (by simp) e).mono fun a ha ob e=>eF0 _ _ (fun z=>hnda ((List.mem_singleton.mp z)▸ha)) e
   refine qNw (fun j σ' G => ∃(o0 o1:Option V),σ' = [o0,o1,some (.ref wa),some (.int n)]/\Ext [lc] (upd GP d (.frz o (.dK (planK (boxes wk) as)))) G/\G lc=some (.lst (List.replicate j (V.bl true)))) ?_ ?_ ?_ ?_
   ·exact⟨none,none,rfl,.laid hlc,qA1⟩
   ·rintro j σ' G hj ⟨o0,o1,rfl,e3,hlc3⟩
    exact e3 _ _ (by simpa using qA2 hdf hlc) hdf
   ·rintro j k v σ' G p R hv ⟨o0,o1,rfl,e3,hlc3⟩ hp hR
    obtain⟨b,a,hb,ha,rfl,rfl⟩:=qMj hv
    have hjl:j<(boxes wk).length:=(List.getElem?_eq_some_iff.mp hb).1
    have eT:Ext [] G (upd G p (.tup [V.int b,.ref a])) :=.laid hp
    have hpT:(upd G p (.tup [V.int b,.ref a])) p=some (.tup [V.int b,.ref a]):=qA1
    show gTup K 2 _ (.ref p) _ (upd G p (.tup [V.int b,.ref a])) _
    generalize upd G p (.tup [V.int b,.ref a])=GT at eT hpT ⊢
    refine qBy (SqT.of hpT) rfl ?_
    walk_at "re"
    refine iteT ?_
    have eFT:=(e3.drop hlc).trans eT
    obtain⟨ns,hns,hlA⟩:=(hLF.mono fun a _ ob e=>eFT _ _ (by simp) e).get ha
    walk_at "re"
    refine⟨wa,a,ws,n,wk,b,ns,rfl,hWF.mono eFT.toSame,hok,hwk,hlA,hIn j b ns hb hns,fun H' e' => ?_⟩
    refine⟨_,e' _ _ (by simp) (eT _ _ (by simp) hlc3),qAa (by rw [List.length_replicate];omega),hR _ _ ⟨_,_,rfl,(e3.trans ((eT.trans e').mono (by simp))).trans (.put (by simp)),?_⟩⟩
    rw [qA1,List.replicate_succ']
   ·rintro σ' G ⟨o0,o1,rfl,e3,hlc3⟩
    have eF:=e3.drop hlc
    walk_at "re"
    refine qHp hlc3 ?_
    exact⟨d,o,_,eF _ _ (by simp) hdf,nfz,q _ (e0P.trans (eF.thawed hdP))⟩
end
section
variable {P:Program} {w:World} {K:PySem.W.Frag} {mg:Str->Option Value} {base:Heap}
abbrev qHh:Stmt:=top 22
theorem qTs:FnScope ["work"] ["work"] (qA7 qHh):=⟨rfl,rfl,rfl,by decide +kernel,rfl,by decide +kernel,by decide +kernel⟩
theorem qRx {f:Addr} {fd:FuncData} (F:Fun K "plain_plan" "plain_plan" qHh f fd) (nlist:mg "list" = none) (nrange:mg "range" = none) (nlen:mg "len" = none) (hX:Has P w K mg base "boxes_in" 1 ["work"] (qDe K)):FnOk P w K mg base CX0 2 f fd ["work"] (qLb K):=by
 refine F.ok qTs (fun vs H Q E h => ?_) (fun cdv A outer s H vs Q E hr h => ?_)
 ·obtain⟨wa,wk,m,works,rfl,_⟩:=h
  rfl
 ·obtain⟨wa,wk,m,works,rfl,hW,hOk,hm,q⟩:=h
  refine⟨_,(qA8 (qAj (qU4 ["box"] [0] rfl (.of rfl) (qAo (qAk hX hr (by decide) (qA0 (pv 0) qA3))) (fun _ _ _ _=>(qA9 (i:=0) (by show (((["box","work"]:List Str))).Nodup;decide) rfl (Or.inl rfl))) (fun _ _ _ _ =>.nil) (fun _ _ _ _=>(pv 0)) (fun _ _ _ _=>(qAl (qD9 hr.hd) (by rfl) nlist PyProof.Rows.boot_list (qA0 (qAl qEl (by rfl) nrange PyProof.Rows.boot_range (qA0 (qAb (qG7 K rfl) (by rfl) nlen PySem.boot_len (qA0 (pv 1) qA3)) qA3)) qA3)))))),?_⟩
  dsimp only [qBb,qB3,qFn,qK4,qTe]
  have hwm:=hOk.len
  have hbl:=qF2 wk
  obtain⟨wl,us,e,hSw,hDw'⟩:=hW.ofList
  cases e
  have hul:us.length=wk.length:=by rw [hDw'.len,List.length_map]
  walk_at "re"
  refine⟨wa,wk,m,works,rfl,hW,hOk,hm,fun lb H1 hlb e1 hlb1 => ?_⟩
  refine⟨lb,rfl,⟨_,SqL.of hlb1⟩,fun lc hlc => ?_⟩
  refine qAf (xs:=(boxes wk).map V.int) (fun j σ' G => ∃(o0:Option V) (as:List Addr),σ' = [o0,some (.ref wa)]/\Ext [lc] H1 G/\PlanAt G lc ((boxes wk).take j) as ((qEg wk).take j) /\ ∀a∈as,H1 a=none) ?_ ?_ ?_ ?_
  ·exact⟨none,[],rfl,.laid hlc,⟨qA1,.nil,rfl,.nil,by simp⟩,by simp⟩
  ·rintro j σ' G hj ⟨o0,as,rfl,e3,hP,hn⟩
   exact SqL.of (e3 _ _ (by simpa using qA2 hlb1 hlc) hlb1)
  ·rintro j v σ' G R hv ⟨o0,as,rfl,e3,hP,hn⟩ hR
   obtain⟨b,hb,rfl⟩:=qAg hv
   have hjl:j<(boxes wk).length:=(List.getElem?_eq_some_iff.mp hb).1
   walk_at "re"
   refine iteT ?_
   walk_at "re"
   refine⟨wa,us,rfl,.inl ((e1.trans (e3.drop hlc)).toSame.seq hSw),?_⟩
   refine⟨us.length,rfl,fun lr hlr => ?_⟩
   have eR:Ext [] G (upd G lr (.rng 0 us.length)) :=.laid hlr
   have hlrR:(upd G lr (.rng 0 us.length)) lr=some (.rng 0 us.length):=qA1
   generalize upd G lr (.rng 0 us.length)=GR at eR hlrR ⊢
   walk_at "re"
   refine⟨lr,us.length,rfl,hlrR,by omega,fun la hla => ?_⟩
   have eA:Ext [] GR (upd GR la (.lst ((List.range us.length).map fun (i:Nat)=>V.int (i:Int)))) :=.laid hla
   have hlaA:(upd GR la (.lst ((List.range us.length).map fun (i:Nat)=>V.int (i:Int)))) la=some (.lst (((List.range wk.length).map fun (k:Nat)=>(k:Int)).map V.int)):=by rw [qA1,hul,List.map_map];rfl
   generalize upd GR la (.lst ((List.range us.length).map fun (i:Nat)=>V.int (i:Int)))=GA at eA hlaA ⊢
   have eGA:=eR.trans eA
   have hP2:=hP.snoc eGA (eR.none (by simp) hla) hlaA (qHo (qBn wk) hb)
   have hlen:=qEr hP.len
   rw [List.length_take] at hlen
   refine⟨_,Sum.inl b,rfl,eGA _ _ (by simp) hP.dict,qAa (by omega),hR _ _ ⟨_,as ++ [la],rfl,(e3.trans (eGA.mono (by simp))).trans (.put (by simp)),?_,fun a ha => ?_⟩⟩
   ·have t1:(boxes wk).take (j+1)=(boxes wk).take j ++ [b]:=by rw [List.take_add_one,hb];rfl
    have t2:(qEg wk).take (j+1)=(qEg wk).take j ++ [(List.range wk.length).map fun (k:Nat)=>(k:Int)]:=by
     unfold qEg
     rw [List.take_add_one,List.getElem?_map,hb];rfl
    rw [t1,t2]
    exact hP2
   ·rcases List.mem_append.mp ha with z | z
    ·exact hn a z
    ·have z:a=la:=by simpa using z
     rw [z]
     exact (e3.drop hlc).none (by simp) (eR.none (by simp) hla)
  ·rintro σ' G ⟨o0,as,rfl,e3,hP,hn⟩
   have e13:=e3.drop hlc
   have e:=e1.trans e13
   have hpl:(qEg wk).length=(boxes wk).length:=by unfold qEg;rw [List.length_map]
   rw [List.length_map,List.take_length,<-hpl,List.take_length] at hP
   exact q _ as G (e1.none (by simp) hlc) (fun a ha=>e1.none (by simp) (hn a ha)) e hP
end
section
variable {P:Program} {w:World} {K:PySem.W.Frag} {mg:Str->Option Value} {base:Heap}
abbrev qHf:Stmt:=top 23
theorem qTq:FnScope ["works","number"] ["works","number"] (qA7 qHf):=⟨rfl,rfl,rfl,by decide +kernel,rfl,by decide +kernel,by decide +kernel⟩
theorem qRv {f:Addr} {fd:FuncData} (F:Fun K "tight_plan" "tight_plan" qHf f fd) (hX:Has P w K mg base "boxes_in" 1 ["work"] (qDe K)) (hB:Has P w K mg base "busy" 6 ["works","number","box"] (qGh K)):FnOk P w K mg base CX0 7 f fd ["works","number"] (qL9 K):=by
 refine F.ok qTq (fun vs H Q E h => ?_) (fun cdv A outer s H vs Q E hr h => ?_)
 ·obtain⟨wa,ws,n,wk,rfl,_⟩:=h
  rfl
 ·obtain⟨wa,ws,n,wk,rfl,hW,hok,hwk,q⟩:=h
  refine⟨_,(qA8 (qAj (qU4 ["box"] [0,1] rfl (.of rfl) (qAo (qAk hX hr (by decide) (qA0 (qAr qAi (pv 0) (pv 1) (fun _ _=>rfl)) qA3))) (fun _ _ _ _=>(qA9 (i:=0) (by show (((["box","works","number"]:List Str))).Nodup;decide) rfl (Or.inl rfl))) (fun _ _ _ _ =>.nil) (fun _ _ _ _=>(pv 0)) (fun _ _ _ _=>(qAk hB hr (by decide) (qA0 (pv 1) (qA0 (pv 2) (qA0 (pv 0) qA3)))))))),?_⟩
  dsimp only [qBb,qB3,qFn,qK4,qTe]
  obtain⟨a',vs,ea,hSq,hDL⟩:=hW.ofList
  cases ea
  obtain⟨vw,hvw,hDw⟩:=hDL.get' (i:=n) (d:=workD wk) (by rw [List.getElem?_map,hwk];rfl)
  obtain⟨m,hm1,hm2,hWk⟩:=hok.all wk (List.mem_of_getElem? hwk)
  have hwm:=hWk.len
  have hbl:=qF2 wk
  obtain⟨wl,us,rfl,hSw,hDw'⟩:=hDw.ofList
  walk_at "re"
  refine qBl hSq (qAq hvw) ?_
  walk_at "re"
  refine⟨wl,wk,m,ws.length,rfl,hDw,hWk,hm2,fun lb H1 hlb e1 hlb1 => ?_⟩
  refine⟨lb,rfl,⟨_,SqL.of hlb1⟩,fun lc hlc => ?_⟩
  refine qAf (xs:=(boxes wk).map V.int) (fun j σ' G => ∃(o0:Option V) (as:List Addr),σ' = [o0,some (.ref wa),some (.int n)]/\Ext [lc] H1 G/\PlanAt G lc ((boxes wk).take j) as ((qEa ws n wk).take j) /\ ∀a∈as,H1 a=none) ?_ ?_ ?_ ?_
  ·exact⟨none,[],rfl,.laid hlc,⟨qA1,.nil,rfl,.nil,by simp⟩,by simp⟩
  ·rintro j σ' G hj ⟨o0,as,rfl,e3,hP,hn⟩
   exact SqL.of (e3 _ _ (by simpa using qA2 hlb1 hlc) hlb1)
  ·rintro j v σ' G R hv ⟨o0,as,rfl,e3,hP,hn⟩ hR
   obtain⟨b,hb,rfl⟩:=qAg hv
   have hjl:j<(boxes wk).length:=(List.getElem?_eq_some_iff.mp hb).1
   have e0:=e1.trans (e3.drop hlc)
   walk_at "re"
   refine iteT ?_
   walk_at "re"
   refine⟨wa,ws,n,wk,b,rfl,hW.mono e0.toSame,hok,hwk,fun la bs GA hla eGA hlaA hp hd hy => ?_⟩
   have hbs:=qQn hWk hp hd hy
   subst hbs
   have hP2:=hP.snoc eGA hla hlaA (qHo (qBn wk) hb)
   have hlen:=qEr hP.len
   rw [List.length_take] at hlen
   refine⟨_,Sum.inl b,rfl,eGA _ _ (by simp) hP.dict,qAa (by omega),hR _ _ ⟨_,as ++ [la],rfl,(e3.trans (eGA.mono (by simp))).trans (.put (by simp)),?_,fun a ha => ?_⟩⟩
   ·have t1:(boxes wk).take (j+1)=(boxes wk).take j ++ [b]:=by rw [List.take_add_one,hb];rfl
    have t2:(qEa ws n wk).take (j+1)=(qEa ws n wk).take j ++ [busyL ws n wk b]:=by
     unfold qEa
     rw [List.take_add_one,List.getElem?_map,hb];rfl
    rw [t1,t2]
    exact hP2
   ·rcases List.mem_append.mp ha with z | z
    ·exact hn a z
    ·have z:a=la:=by simpa using z
     rw [z]
     exact (e3.drop hlc).none (by simp) hla
  ·rintro σ' G ⟨o0,as,rfl,e3,hP,hn⟩
   have e13:=e3.drop hlc
   have e:=e1.trans e13
   have hpl:(qEa ws n wk).length=(boxes wk).length:=by unfold qEa;rw [List.length_map]
   rw [List.length_map,List.take_length,<-hpl,List.take_length] at hP
   exact q _ as G (e1.none (by simp) hlc) (fun a ha=>e1.none (by simp) (hn a ha)) e hP
end
section
variable {P:Program} {w:World} {K:PySem.W.Frag} {mg:Str->Option Value} {base:Heap}
abbrev sLaw:Stmt:=top 43
theorem scLaw:FnScope ["_law_script","_law_k","_law_tape_here","_law_works_here","_law_number_here","_law_work_here","_law_boxes_here","_law_due","_law_turn","_law_plans","_law_plan","_law_place","_law_box"] ["_law_script"] (qA7 sLaw):=⟨rfl,rfl,rfl,by decide +kernel,rfl,by decide +kernel,by decide +kernel⟩
def qR8 (K:PySem.W.Frag):Sp:=fun vs H Q _ => ∃(a:Addr) (ns:List Int),vs = [.ref a]/\SqL K H a (ns.map V.int)/\ns.length<=63 /\ ∀H',Q (.bl true) H'
theorem qW9 {f:Addr} {fd:FuncData} (F:Fun K "law" "law" sLaw f fd) (nrange:mg "range" = none) (nlen:mg "len" = none) (nmax:mg "max" = none) (nmin:mg "min" = none) (nrepr:mg "repr" = none) (nlist:mg "list" = none) (nenumerate:mg "enumerate" = none) (nall:mg "all" = none) (nisi:mg "isinstance" = none) (nsorted:mg "sorted" = none) (ndict:mg "dict" = none)
  (hT:Has P w K mg base "_law_tape" 1 ["_law_script","_law_k"] (qOf K)) (hW:Has P w K mg base "_law_works" 5 ["_law_tape_here","_law_most"] (qIa K)) (hZ:Has P w K mg base "_law_size" 1 ["_law_works_here"] (qMf K))
  (hLB:Has P w K mg base "_law_busy" 3 ["_law_works_here","_law_number_here","_law_box"] (qGh K)) (hX:Has P w K mg base "_law_boxes" 2 ["_law_work_here"] (qIg K))
  (hPl:Has P w K mg base "plain_plan" 2 ["work"] (qLb K)) (hTi:Has P w K mg base "tight_plan" 7 ["works","number"] (qL9 K)) (hIs:Has P w K mg base "is_plan" 8 ["works","number","thing"] (qIc K)) :
  FnOk P w K mg base CX0 9 f fd ["_law_script"] (qR8 K):=by
 refine F.ok scLaw (fun vs H Q E h => ?_) (fun cdv A outer s H vs Q E hr h => ?_)
 ·obtain⟨a,ns,rfl,_⟩:=h
  rfl
 ·obtain⟨a,ns,rfl,hSq,hlen,q⟩:=h
  have hu:=qKl hr
  refine⟨_,(qA5 (qC1 PassesOwn.never rfl (qBd rfl nrange (qA0 (qAb (qKz rfl) (by rfl) nmax PyProof.Rows.boot_max (qA0 qA6 (qA0 (qAb (qQl rfl) (by rfl) nmin PyProof.Rows.boot_min (qA0 (qAb qAw (by rfl) nlen PySem.boot_len (qA0 (pv 0) qA3)) (qA0 qA6 qA3))) qA3))) qA3)) (qA9 (i:=1) scLaw.nd rfl (Or.inl rfl))
   (qA5 (qAm (i:=2) scLaw.nd rfl (Or.inl rfl) (qAk hT hr (by decide) (qA0 (pv 0) (qA0 (pv 1) qA3))))
   (qA5 (qAm (i:=3) scLaw.nd rfl (Or.inr rfl) (qAk hW hr (by decide) (qA0 (pv 2) (qA0 qA6 qA3))))
   (qA5 (qC6 (PW.pt (qGk (qAn qRt (pv 1) qA6 (qAt _)) (qEf (qAn qRt (qAk hZ hr (by decide) (qA0 (pv 3) qA3)) qA6 (qAt _))))) (qA8 qLm) qB1)
   (qA8 (qC1 PassesOwn.never rfl (qEh rfl nenumerate (qA0 (pv 3) qA3)) (qE4 (n:=2) rfl (qAc (qA9 (i:=4) scLaw.nd rfl (Or.inr rfl)) (qAc (qA9 (i:=5) scLaw.nd rfl (Or.inr rfl)) qB9)))
   (qA5 (qAm (i:=6) scLaw.nd rfl (Or.inl rfl) (qAk hX hr (by decide) (qA0 (pv 5) qA3)))
   (qA5 (qAm (i:=7) scLaw.nd rfl (Or.inl rfl) (qAy (qA0 (qBx ["_law_box"] [5] rfl (.of rfl) (qAo (pv 6)) (fun _ _ _ _=>(qA9 (i:=0) (by show (((["_law_box","_law_work_here"]:List Str))).Nodup;decide) rfl (Or.inl rfl))) (fun _ _ _ _ =>.nil) (fun _ _ _ _=>(qBe (qA0 (pv 0) (qA0 (qAl (qD9 hr.hd) (by rfl) nlist PyProof.Rows.boot_list (qA0 (qAl qEl (by rfl) nrange PyProof.Rows.boot_range (qA0 (qAb (qG7 K rfl) (by rfl) nlen PySem.boot_len (qA0 (pv 1) qA3)) qA3)) qA3)) qA3))))) qA3)))
   (qA5 (qBp (qE3 PySem.F.plainAttrs_list PySem.F.slot_list_append PySem.F.type_list_append qBg (pv 7) (qA0 (qBx ["_law_box"] [3,4] rfl (.of rfl) (qAo (pv 6)) (fun _ _ _ _=>(qA9 (i:=0) (by show (((["_law_box","_law_works_here","_law_number_here"]:List Str))).Nodup;decide) rfl (Or.inl rfl))) (fun _ _ _ _ =>.nil) (fun _ _ _ _=>(qBe (qA0 (pv 0) (qA0 (qAk hLB hr (by decide) (qA0 (pv 1) (qA0 (pv 2) (qA0 (pv 0) qA3)))) qA3))))) qA3)))
   (qA8 (qC1 PassesOwn.never rfl (qBd rfl nrange (qA0 qA6 qA3)) (qA9 (i:=8) scLaw.nd rfl (Or.inl rfl))
   (qA5 (qAm (i:=9) scLaw.nd rfl (Or.inl rfl) (qAy (qA0 (qAk hPl hr (by decide) (qA0 (pv 5) qA3)) (qA0 (qAk hTi hr (by decide) (qA0 (pv 3) (qA0 (pv 4) qA3))) qA3))))
   (qA5 (qC6 (qGl (qAx K rfl (qAb (qD2 hr.hd) (by rfl) nall (by decide +kernel) (qA0 (qBx ["_law_plan"] [] rfl (.of rfl) (qAo (pv 9)) (fun _ _ _ _=>(qA9 (i:=0) (by show (((["_law_plan"]:List Str))).Nodup;decide) rfl (Or.inl rfl))) (fun _ _ _ _ =>.nil) (fun _ _ _ _=>(qAb (isIK K rfl) (by rfl) nisi (by decide +kernel) (qA0 (pv 0) (qA0 (qGn (v :=.ty "dict") rfl ndict PyProof.Rows.boot_dict rfl) qA3))))) qA3)) (fun _=>rfl))) (qA8 (qAj qDa)) qB1)
   (qA5 (qC6 (qAn qX3 (qAb (qKy hr) (by rfl) nrepr PyProof.Rows.boot_repr (qA0 (qBx ["_law_plan"] [] rfl (.of rfl) (qAo (pv 9)) (fun _ _ _ _=>(qA9 (i:=0) (by show (((["_law_plan"]:List Str))).Nodup;decide) rfl (Or.inl rfl))) (fun _ _ _ _ =>.nil) (fun _ _ _ _=>(qAb (qO3 hr.hd) (by rfl) nsorted PyProof.Rows.boot_sorted (qA0 (qU6 K rfl PySem.F.plainAttrs_dict PySem.F.slot_dict_items PySem.F.type_dict_items qMq (pv 0)) qA3)))) qA3)) (qAb (qKy hr) (by rfl) nrepr PyProof.Rows.boot_repr (qA0 (pv 7) qA3)) (qAt _)) (qA8 (qAj qDa)) qB1)
   (qA5 (qC6 (qGl (qAx K rfl (qAb (qD2 hr.hd) (by rfl) nall (by decide +kernel) (qA0 (qBx ["_law_plan"] [3,4] rfl (.of rfl) (qAo (pv 9)) (fun _ _ _ _=>(qA9 (i:=0) (by show (((["_law_plan","_law_works_here","_law_number_here"]:List Str))).Nodup;decide) rfl (Or.inl rfl))) (fun _ _ _ _ =>.nil) (fun _ _ _ _=>(qBf qW7 (qAk hIs hr (by decide) (qA0 (pv 1) (qA0 (pv 2) (qA0 (pv 0) qA3)))) qDa (qAt _)))) qA3)) (fun _=>rfl))) (qA8 (qAj qDa)) qB1)
   (qA8 (qC1 PassesOwn.never rfl (qAo (pv 9)) (qA9 (i:=10) scLaw.nd rfl (Or.inr rfl))
   (qA5 (qC1 PassesOwn.never rfl (qEh rfl nenumerate (qA0 (pv 6) qA3)) (qE4 (n:=2) rfl (qAc (qA9 (i:=11) scLaw.nd rfl (Or.inl rfl)) (qAc (qA9 (i:=12) scLaw.nd rfl (Or.inl rfl)) qB9)))
   (qA8 (qBp (qE3 PySem.F.plainAttrs_list PySem.F.slot_list_append PySem.F.type_list_append qBg (qLp hu (pv 10) (pv 12) (fun _ _=>rfl)) (qA0 (qAs qB5 qA6 (pv 11)) qA3)))))
   (qA5 (qC6 (qAn (qK2 hr) (qBx ["_law_box"] [10] rfl (.of rfl) (qAo (pv 6)) (fun _ _ _ _=>(qA9 (i:=0) (by show (((["_law_box","_law_plan"]:List Str))).Nodup;decide) rfl (Or.inl rfl))) (fun _ _ _ _ =>.nil) (fun _ _ _ _=>(qAr (qMx K rfl) (qLp hu (pv 1) (pv 0) (fun _ _=>rfl)) (qW0 qSq qA6) (fun _ _=>rfl)))) (qBx ["_law_place"] [] rfl (.of rfl) (qBd rfl nrange (qA0 (qAb qAw (by rfl) nlen PySem.boot_len (qA0 (pv 6) qA3)) qA3)) (fun _ _ _ _=>(qA9 (i:=0) (by show (((["_law_place"]:List Str))).Nodup;decide) rfl (Or.inl rfl))) (fun _ _ _ _ =>.nil) (fun _ _ _ _=>(qAs qB5 qA6 (pv 0)))) (qAt _)) (qA8 (qAj qDa)) qB1)
   (qA8 (qBp (qHr PySem.F.plainAttrs_dict PySem.F.slot_dict_clear PySem.F.type_dict_clear qPn (pv 10)))))))))))))))))))))))
   (qA8 (qAj qDa))),?_⟩
  dsimp only [qBb,qB3,qFn,qK4,qTe]
  walk_at "re"
  refine⟨a,_,rfl,.inl hSq,?_⟩
  rw [List.length_map]
  walk_at "re"
  refine⟨_,_,rfl,?_⟩
  walk_at "re"
  refine⟨_,_,rfl,?_⟩
  generalize hN:(if (if (4:Int)<(ns.length:Int) then (4:Int) else (ns.length:Int))>1 then (if (4:Int)<(ns.length:Int) then (4:Int) else (ns.length:Int)) else 1)=N
  have hN1:1<=N/\N<=4:=by
   rw [<-hN]
   repeat' split
   all_goals omega
  walk_at "re"
  refine⟨N,rfl,by omega,by omega,qCb (lo:=0) (n:=N.toNat) (fun i σ' H' => ∃(o1 o2 o3 o4 o5 o6 o7 o8 o9 o10 o11 o12:Option V),σ' = [some (.ref a),o1,o2,o3,o4,o5,o6,o7,o8,o9,o10,o11,o12]/\Ext [] H H') ?_ ?_ ?_⟩
  ·exact⟨_,_,_,_,_,_,_,_,_,_,_,_,rfl,.refl _ _⟩
  ·rintro i σ' H' hi ⟨o1,o2,o3,o4,o5,o6,o7,o8,o9,o10,o11,o12,rfl,e'⟩ N_ B_ C_ R_ hN_ hC_ hR_
   walk_at "re"
   refine⟨a,ns,i,by show [V.ref a,V.int (0+(i:Int))] = [V.ref a,V.int (i:Int)];rw [Int.zero_add],e'.toSame.seq hSq,by omega,fun t H1 ht T1 s1 => ?_⟩
   walk_at "re"
   refine⟨t,0,4,rfl,T1,by omega,by decide,by decide,fun l ws H2 T2 e2 dWE hok => ?_⟩
   have e12:Ext [t] H' H2:=(show Ext [t] H' H1 from fun b o _ h=>s1 b o h).trans e2
   have EH2:Ext [] H H2:=e'.trans (e12.drop ht)
   have hof:=hok.few
   have dW:Den K H2 (qC7 ws) (.ref l):=dWE.den
   clear dWE e12 e2 T2 s1 T1 ht e'
   with_reducible refine L2.qL6 ?_
   refine L2.qCt (by assumption) ?_
   with_reducible refine qV6 (fun σ' G => ∃(o4 o5 o6 o7 o8 o9 o10 o11 o12:Option V),σ' = [some (.ref a),some (.int (0+(i:Int))),some (.ref t),some (.ref l),o4,o5,o6,o7,o8,o9,o10,o11,o12]/\Ext [] H2 G) ?_ (fun hC => ?_)
   ·rintro σ' G ⟨o4,o5,o6,o7,o8,o9,o10,o11,o12,rfl,eG⟩
    have dG:=dW.mono eG.toSame
    obtain⟨l',us,ee,hSl,hDus⟩:=dG.ofList
    cases ee
    have hul:=hDus.len
    rw [List.length_map] at hul
    walk_at "re"
    refine⟨l,rfl,⟨_,hSl⟩,qEv (xs:=us) (fun j σ' G' => ∃(o4 o5 o6 o7 o8 o9 o10 o11 o12:Option V),σ' = [some (.ref a),some (.int (0+(i:Int))),some (.ref t),some (.ref l),o4,o5,o6,o7,o8,o9,o10,o11,o12]/\Ext [] G G') ?_ ?_ ?_ ?_⟩
    ·exact⟨_,_,_,_,_,_,_,_,_,rfl,.refl _ _⟩
    ·rintro j σ' G' hj ⟨o4,o5,o6,o7,o8,o9,o10,o11,o12,rfl,e'⟩
     exact e'.toSame.seq hSl
    ·rintro j x σ' G' p hx ⟨o4,o5,o6,o7,o8,o9,o10,o11,o12,rfl,e'⟩ hp N2_ B2_ C2_ R2_ hN2_ hC2_ hR2_
     have eT:Ext [] G' (upd G' p (.tup [V.int j,x])) :=.laid hp
     have hpT:(upd G' p (.tup [V.int j,x])) p=some (.tup [V.int j,x]):=qA1
     generalize upd G' p (.tup [V.int j,x])=G2 at eT hpT ⊢
     refine qBy (SqT.of hpT) rfl ?_
     walk_at "re"
     obtain⟨dd,hdd,hDx⟩:=hDus.get hx
     obtain⟨wk,hwk,rfl⟩:=qAg hdd
     obtain⟨m,hm1,hm2,hOk⟩:=hok.all wk (List.mem_of_getElem? hwk)
     have hwm:=hOk.len
     obtain⟨wl,bsv,rfl,hSw,hDw⟩:=hDx.ofList
     have hwl:bsv.length=wk.length:=by rw [hDw.len,List.length_map]
     have hbl:=qF2 wk
     have eG2:Ext [] G G2:=e'.trans eT
     refine⟨wl,wk,m,ws.length,rfl,hDx.mono eG2.toSame,hOk,hm2,fun lb G3 hlb e3 hlb3 => ?_⟩
     rw [qM4 hOk] at hlb3
     have eG3:Ext [] G G3:=eG2.trans e3
     clear hpT eT hp hlb
     walk_at "re"
     refine⟨lb,rfl,⟨_,SqL.of hlb3⟩,fun lc hlc => ?_⟩
     refine qAf (xs:=(boxes wk).map V.int) (fun j σ' G => ∃(o0:Option V) (ps:List Addr),σ' = [o0,some (.ref wl)]/\Ext [lc] G3 G/\G lc=some (.lst (ps.map V.ref))/\IlAt (wo [lc] G) ps (((boxes wk).take j).map fun b=>(b,qBw wk b))) ?_ ?_ ?_ ?_
     ·exact⟨none,[],rfl,.laid hlc,qA1,.nil⟩
     ·rintro j σ' G hj ⟨o0,ps,rfl,e3,hlc3,hI⟩
      exact SqL.of (e3 _ _ (by simpa using qA2 hlb3 hlc) hlb3)
     ·rintro j v σ' G4 R hv ⟨o0,ps,rfl,e4,hlc4,hI⟩ hR
      obtain⟨b,hb,rfl⟩:=qAg hv
      have hjl:j<(boxes wk).length:=(List.getElem?_eq_some_iff.mp hb).1
      have hpl:ps.length=j:=by rw [hI.len,List.length_map,List.length_take];omega
      walk_at "re"
      refine iteT ?_
      walk_at "re"
      refine⟨wl,bsv,rfl,.inl ((eG3.trans (e4.drop hlc)).toSame.seq hSw),?_⟩
      refine⟨bsv.length,rfl,fun lr hlr => ?_⟩
      have eR:Ext [] G4 (upd G4 lr (.rng 0 bsv.length)) :=.laid hlr
      have hlrR:(upd G4 lr (.rng 0 bsv.length)) lr=some (.rng 0 bsv.length):=qA1
      generalize upd G4 lr (.rng 0 bsv.length)=GR at eR hlrR ⊢
      walk_at "re"
      refine⟨lr,bsv.length,rfl,hlrR,by omega,fun la hla => ?_⟩
      have eA:Ext [] GR (upd GR la (.lst ((List.range bsv.length).map fun (i:Nat)=>V.int (i:Int)))) :=.laid hla
      have hlaA:(upd GR la (.lst ((List.range bsv.length).map fun (i:Nat)=>V.int (i:Int)))) la=some (.lst ((qBw wk b).map V.int)):=by unfold qBw;rw [qA1,hwl,List.map_map];rfl
      generalize upd GR la (.lst ((List.range bsv.length).map fun (i:Nat)=>V.int (i:Int)))=GA at eA hlaA ⊢
      have eGA:=eR.trans eA
      walk_at "re"
      refine⟨len2 (by simp),fun p hp => ?_⟩
      have st:=qQ6 (b:=b) (o :=.lst (ps.map V.ref ++ [V.ref p])) hI eGA hlc4 (eR.none (by simp) hla) hlaA hp
      have eP:Ext [] GA (upd GA p (.tup [V.int b,.ref la])) :=.laid hp
      refine⟨_,(eGA.trans eP) _ _ (by simp) hlc4,qAa (by rw [List.length_map];omega),hR _ _ ⟨_,ps ++ [p],rfl,(e4.trans ((eGA.trans eP).mono (by simp))).trans (.put (by simp)),by rw [qA1,List.map_append];rfl,?_⟩⟩
      have t1:(boxes wk).take (j+1)=(boxes wk).take j ++ [b]:=by rw [List.take_add_one,hb];rfl
      rw [t1,List.map_append]
      exact st
     ·rintro σ' G4 ⟨o0,ps,rfl,e4,hlc4,hI⟩
      rw [List.length_map,List.take_length] at hI
      have hI1:IlAt G4 ps ((boxes wk).map fun b=>(b,qBw wk b)):=hI.mono (qI9 _ _)
      have eG4:Ext [] G3 G4:=e4.drop hlc
      clear e4 hlc hI
      walk_at "re"
      refine⟨len2 (by simp),fun ld hld => ?_⟩
      have e5:Ext [] G4 (upd G4 ld (.lst [V.ref lc])) :=.laid hld
      have hld5:(upd G4 ld (.lst [V.ref lc])) ld=some (.lst [V.ref lc]):=qA1
      generalize upd G4 ld (.lst [V.ref lc])=G5 at e5 hld5 ⊢
      have eG5:=eG4.trans e5
      have hlb5:=eG5 _ _ (by simp) hlb3
      walk_at "re"
      refine qCo hld5 ?_
      walk_at "re"
      refine⟨lb,rfl,⟨_,SqL.of hlb5⟩,fun lc2 hlc2 => ?_⟩
      refine qAf (xs:=(boxes wk).map V.int) (fun jj σ' G => ∃(o0:Option V) (ps:List Addr),σ' = [o0,some (.ref l),some (.int j)]/\Ext [lc2] G5 G/\G lc2=some (.lst (ps.map V.ref))/\IlAt (wo [lc2] G) ps (((boxes wk).take jj).map fun b=>(b,qC8 ws j wk b))) ?_ ?_ ?_ ?_
      ·exact⟨none,[],rfl,.laid hlc2,qA1,.nil⟩
      ·rintro jj σ' G hj ⟨o0,ps,rfl,e3,hlc3,hI⟩
       exact SqL.of (e3 _ _ (by simpa using qA2 hlb5 hlc2) hlb5)
      ·rintro jj v σ' G6 R hv ⟨o0,ps,rfl,e6,hlc6,hI⟩ hR
       obtain⟨b,hb,rfl⟩:=qAg hv
       have hjl:jj<(boxes wk).length:=(List.getElem?_eq_some_iff.mp hb).1
       have hpl:ps.length=jj:=by rw [hI.len,List.length_map,List.length_take];omega
       walk_at "re"
       refine iteT ?_
       walk_at "re"
       refine⟨l,ws,j,wk,b,rfl,dG.mono (eG3.trans (eG5.trans (e6.drop hlc2))).toSame,hok,hwk,fun la bs GA hla eGA hlaA hp' hd' hy' => ?_⟩
       have hbs:=qQn hOk hp' hd' hy'
       subst hbs
       walk_at "re"
       refine⟨len2 (by simp),fun p hp => ?_⟩
       have st:=qQ6 (b:=b) (o :=.lst (ps.map V.ref ++ [V.ref p])) hI eGA hlc6 hla hlaA hp
       have eP:Ext [] GA (upd GA p (.tup [V.int b,.ref la])) :=.laid hp
       refine⟨_,(eGA.trans eP) _ _ (by simp) hlc6,qAa (by rw [List.length_map];omega),hR _ _ ⟨_,ps ++ [p],rfl,(e6.trans ((eGA.trans eP).mono (by simp))).trans (.put (by simp)),by rw [qA1,List.map_append];rfl,?_⟩⟩
       have t1:(boxes wk).take (jj+1)=(boxes wk).take jj ++ [b]:=by rw [List.take_add_one,hb];rfl
       rw [t1,List.map_append]
       exact st
      ·rintro σ' G6 ⟨o0,ps2,rfl,e6,hlc6,hI⟩
       rw [List.length_map,List.take_length] at hI
       have hI2:IlAt G6 ps2 ((boxes wk).map fun b=>(b,qC8 ws j wk b)):=hI.mono (qI9 _ _)
       have eG6:Ext [] G5 G6:=e6.drop hlc2
       clear e6 hI
       walk_at "re"
       have hld6:=eG6 _ _ (by simp) hld5
       refine qDg hld6 (qAa (by simp)) ?_
       have e7:Ext [ld] G6 (upd G6 ld (.lst ([V.ref lc] ++ [V.ref lc2]))) :=.put (by simp)
       have hld7:(upd G6 ld (.lst ([V.ref lc] ++ [V.ref lc2]))) ld=some (.lst [V.ref lc,V.ref lc2]):=qA1
       have hI27:IlAt (upd G6 ld (.lst ([V.ref lc] ++ [V.ref lc2]))) ps2 ((boxes wk).map fun b=>(b,qC8 ws j wk b)):=hI2.off hld6
       have nld:lc2≠ld:=fun z=>by rw [z,hld5] at hlc2;cases hlc2
       have hlc27:(upd G6 ld (.lst ([V.ref lc] ++ [V.ref lc2]))) lc2=some (.lst (ps2.map V.ref)):=by rw [qA4 nld];exact hlc6
       generalize upd G6 ld (.lst ([V.ref lc] ++ [V.ref lc2]))=G7 at e7 hld7 hI27 hlc27 ⊢
       have e47:Ext [] G4 G7:=(((e5.trans eG6).mono (us :=[ld]) (by simp)).trans e7).drop hld
       have hDue:Den K G7 (.list (([qBw wk,qC8 ws j wk]:List (Int->List Int)).map (planD (boxes wk)))) (.ref ld) :=
        .list (SqL.of hld7) (.cons (IlAt.list (hI1.mono e47.toSame) (e47 _ _ (by simp) hlc4)) (.cons (IlAt.list hI27 hlc27) .nil))
       have eG7:Ext [] G G7:=eG3.trans (eG4.trans e47)
       have hlb7:=(eG4.trans e47) _ _ (by simp) hlb3
       clear hI27 hlc27 nld e47 e7 hld6 hI2 hI1 hld5 e5 eG5 eG6 hlc6 hlc4 hlc2 hlb5 hld hld7 eG4 hlb3 eG3 e3 eG2
       walk_at "re"
       refine⟨2,rfl,by decide,by decide,qCb (lo:=0) (n:=(2:Int).toNat) (fun jj σ' G' => ∃(o8 o9 o10 o11 o12:Option V),σ' = [some (.ref a),some (.int (0+(i:Int))),some (.ref t),some (.ref l),some (.int j),some (.ref wl),some (.ref lb),some (.ref ld),o8,o9,o10,o11,o12]/\Ext [] G7 G') ?_ ?_ ?_⟩
       ·exact⟨_,_,_,_,_,rfl,.refl _ _⟩
       ·rintro jj σ' G8 hjj ⟨o8,o9,o10,o11,o12,rfl,e8⟩ N3_ B3_ C3_ R3_ hN3_ hC3_ hR3_
        have e08:=eG7.trans e8
        walk_at "re"
        refine⟨wl,wk,m,ws.length,rfl,hDx.mono e08.toSame,hOk,hm2,fun d1 as1 G9 hd1 has1 e9 hP1 => ?_⟩
        walk_at "re"
        refine⟨l,ws,j,wk,rfl,dG.mono (e08.trans e9).toSame,hok,hwk,fun d2 as2 G10 hd2 has2 e10 hP2 => ?_⟩
        walk_at "re"
        refine⟨len2 (by simp),fun lp hlp => ?_⟩
        have e11:Ext [] G10 (upd G10 lp (.lst [V.ref d1,V.ref d2])) :=.laid hlp
        have hlp11:(upd G10 lp (.lst [V.ref d1,V.ref d2])) lp=some (.lst (([d1,d2]:List Addr).map V.ref)):=qA1
        generalize upd G10 lp (.lst [V.ref d1,V.ref d2])=G11 at e11 hlp11 ⊢
        have hQ1:PlanAt G11 d1 (boxes wk) as1 ((boxes wk).map (qBw wk)):=PlanAt.mono hP1 (e10.trans e11) (by simp) (by simp)
        have hQ2:PlanAt G11 d2 (boxes wk) as2 ((boxes wk).map (qC8 ws j wk)):=PlanAt.mono hP2 e11 (by simp) (by simp)
        have hPs:PlansAt G11 (boxes wk) [d1,d2] [qBw wk,qC8 ws j wk] :=.cons ⟨as1,hQ1⟩ (.cons ⟨as2,hQ2⟩ .nil)
        have e811:=e9.trans (e10.trans e11)
        have fIn : ∀f∈([qBw wk,qC8 ws j wk]:List (Int->List Int)),∀x,qF5 ws j wk x (f x):=fun f hf x=>by
         rcases List.mem_cons.mp hf with z | z
         ·rw [z];exact qRo hOk hm2 x
         ·have z:f=qC8 ws j wk:=by simpa using z
          rw [z];exact qR6 hOk hm2 x
        walk_at "re"
        refine⟨lp,rfl,⟨_,SqL.of hlp11⟩,fun lc hlc => ?_⟩
        refine qAf (xs:=([d1,d2]:List Addr).map V.ref) (fun k σ' G => ∃(o0:Option V),σ' = [o0]/\Ext [lc] G11 G/\G lc=some (.lst (List.replicate k (V.bl true)))) ?_ ?_ ?_ ?_
        ·exact⟨none,rfl,.laid hlc,qA1⟩
        ·rintro k σ' G hj ⟨o0,rfl,e3,hlc3⟩
         exact SqL.of (e3 _ _ (by simpa using qA2 hlp11 hlc) hlp11)
        ·rintro k v σ' G R hv ⟨o0,rfl,e3,hlc3⟩ hR
         obtain⟨d,hd,rfl⟩:=qAg hv
         have hk:k<2:=(List.getElem?_eq_some_iff.mp hd).1
         obtain⟨f,hf,as,hP⟩:=qFj hPs hd
         walk_at "re"
         refine iteT ?_
         walk_at "re"
         refine⟨_,"dict",_,true,rfl,.dK (e3 _ _ (by simpa using qA2 hP.dict hlc) hP.dict),qMv K,?_⟩
         refine⟨_,hlc3,qAa (by rw [List.length_replicate];omega),hR _ _ ⟨_,rfl,e3.trans (.put (by simp)),?_⟩⟩
         rw [qA1,List.replicate_succ']
        ·rintro σ' G12 ⟨o0,rfl,e12,hlc12⟩
         have eD:=e12.drop hlc
         walk_at "re"
         refine qHp hlc12 ?_
         refine⟨true,rfl,iteF ?_⟩
         have hlp12:=eD _ _ (by simp) hlp11
         have hPs12:=hPs.mono eD
         clear hlc12 hlc e12
         walk_at "re"
         refine⟨lp,rfl,⟨_,SqL.of hlp12⟩,fun lc hlc => ?_⟩
         refine qAf (xs:=([d1,d2]:List Addr).map V.ref) (fun k σ' G => ∃(o0:Option V) (qs:List Addr),σ' = [o0]/\Ext [lc] G12 G/\G lc=some (.lst (qs.map V.ref))/\qs.length=k/\DenL K (wo [lc] G) ((([qBw wk,qC8 ws j wk]:List (Int->List Int)).take k).map (planD (boxes wk))) (qs.map V.ref)) ?_ ?_ ?_ ?_
         ·exact⟨none,[],rfl,.laid hlc,qA1,rfl,.nil⟩
         ·rintro k σ' G hj ⟨o0,qs,rfl,e3,hlc3,hql,hD⟩
          exact SqL.of (e3 _ _ (by simpa using qA2 hlp12 hlc) hlp12)
         ·rintro k v σ' G R hv ⟨o0,qs,rfl,e3,hlc3,hql,hD⟩ hR
          obtain⟨d,hd,rfl⟩:=qAg hv
          have hk:k<2:=(List.getElem?_eq_some_iff.mp hd).1
          obtain⟨f,hf,as,hP⟩:=qFj hPs12 hd
          have hdG:=e3 _ _ (by simpa using qA2 hP.dict hlc) hP.dict
          walk_at "re"
          refine iteT ?_
          walk_at "re"
          refine qRi hdG ?_
          refine⟨d,_,rfl,rfl,hdG,fun p hp => ?_⟩
          have eV:Ext [] G (upd G p (viewO d)) :=.laid hp
          have hpV:(upd G p (viewO d)) p=some (viewO d):=qA1
          generalize upd G p (viewO d)=GV at eV hpV ⊢
          walk_at "re"
          refine⟨p,d,_,boxes wk,rfl,hpV,eV _ _ (by simp) hdG,qDw hP.len,qBn wk,by omega,fun l2 tps GS hl2 htp eS hl2S htl hT' => ?_⟩
          have hlcV:=eV _ _ (by simp) hlc3
          have st:=qOh (K:=K) (o :=.lst (qs.map V.ref ++ [V.ref l2])) hP hlc (e3.trans (eV.mono (by simp))) hlcV eS hl2 htp hl2S (by rw [htl,qEr hP.len]) hT'
          have eF:Ext [lc] G (upd GS lc (.lst (qs.map V.ref ++ [V.ref l2]))):=((eV.trans eS).mono (us :=[lc]) (by simp)).trans (.put (by simp))
          refine⟨_,eS _ _ (by simp) hlcV,qAa (by rw [List.length_map];omega),hR _ _ ⟨_,qs ++ [l2],rfl,e3.trans eF,by rw [qA1,List.map_append];rfl,by simp [hql],?_⟩⟩
          have t1:([qBw wk,qC8 ws j wk]:List (Int->List Int)).take (k+1)=([qBw wk,qC8 ws j wk]:List (Int->List Int)).take k ++ [f]:=by rw [List.take_add_one,hf];rfl
          rw [t1,List.map_append,List.map_append]
          exact (hD.mono eF.same).append (.cons st .nil)
         ·rintro σ' G13 ⟨o0,qs,rfl,e13,hlc13,hql,hD⟩
          have eD13:=eD.trans (e13.drop hlc)
          have hD':DenL K G13 (([qBw wk,qC8 ws j wk]:List (Int->List Int)).map (planD (boxes wk))) (qs.map V.ref):=hD.mono (qI9 _ _)
          obtain⟨t1,t2,t3⟩:=qNl (bs:=boxes wk) (fs :=[qBw wk,qC8 ws j wk]) (fun b hb=>by have:=qN9 hOk hb;omega) hbl (fun f hf b _=>by
           obtain⟨_,h2,h3,_⟩:=fIn f hf b
           exact⟨fun n hn=>by have:=h2 n hn;omega,h3⟩) (by simp)
          obtain⟨u1,u2,u3⟩:=qNi t1 t2 t3
          walk_at "re"
          refine⟨lc,_,rfl,.list (SqL.of hlc13) hD',u1,u2,u3,?_⟩
          walk_at "re"
          refine⟨ld,_,rfl,hDue.mono (e8.trans (e811.trans eD13)).toSame,u1,u2,u3,?_⟩
          refine qWs ?_
          rw [decide_eq_true rfl]
          walk_at "re"
          refine iteF ?_
          have hlp13:=eD13 _ _ (by simp) hlp11
          have hPs13:=hPs.mono eD13
          clear hD hD' hlc13 hlc e13 u1 u2 u3 t1 t2 t3
          walk_at "re"
          refine⟨lp,rfl,⟨_,SqL.of hlp13⟩,fun lc hlc => ?_⟩
          refine qAf (xs:=([d1,d2]:List Addr).map V.ref) (fun k σ' G => ∃(o0:Option V),σ' = [o0,some (.ref l),some (.int j)]/\Ext [lc] G13 G/\G lc=some (.lst (List.replicate k (V.bl true)))) ?_ ?_ ?_ ?_
          ·exact⟨none,rfl,.laid hlc,qA1⟩
          ·rintro k σ' G hj ⟨o0,rfl,e3,hlc3⟩
           exact SqL.of (e3 _ _ (by simpa using qA2 hlp13 hlc) hlp13)
          ·rintro k v σ' G' R hv ⟨o0,rfl,e3,hlc3⟩ hR
           obtain⟨d,hd,rfl⟩:=qAg hv
           have hk:k<2:=(List.getElem?_eq_some_iff.mp hd).1
           obtain⟨f,hf,as,hP⟩:=qFj hPs13 hd
           have hP':PlanAt G' d (boxes wk) as ((boxes wk).map f):=hP.mono (e3.drop hlc) (by simp) (by simp)
           walk_at "re"
           refine iteT ?_
           walk_at "re"
           refine⟨l,d,ws,j,wk,as,_,rfl,dG.mono (e08.trans (e811.trans (eD13.trans (e3.drop hlc)))).toSame,hok,hwk,hP',fun jx x nx hx1 hx2 => ?_,fun H' eH => ?_⟩
           ·rw [List.getElem?_map,hx1] at hx2
            have hx2:f x=nx:=Option.some.inj hx2
            rw [<-hx2]
            exact fIn f (List.mem_of_getElem? hf) x
           ·walk_at "re"
            refine⟨rfl,?_⟩
            refine⟨_,eH _ _ (by simp) hlc3,qAa (by rw [List.length_replicate];omega),hR _ _ ⟨_,rfl,(e3.trans (eH.mono (by simp))).trans (.put (by simp)),?_⟩⟩
            rw [qA1,List.replicate_succ']
          ·rintro σ' G14 ⟨o0,rfl,e14,hlc14⟩
           have eD14:=eD13.trans (e14.drop hlc)
           walk_at "re"
           refine qHp hlc14 ?_
           refine⟨true,rfl,iteF ?_⟩
           have hlp14:=eD14 _ _ (by simp) hlp11
           have hR1:PlanAt G14 d1 (boxes wk) as1 ((boxes wk).map (qBw wk)):=hQ1.mono eD14 (by simp) (by simp)
           have hR2:PlanAt G14 d2 (boxes wk) as2 ((boxes wk).map (qC8 ws j wk)):=hQ2.mono eD14 (by simp) (by simp)
           clear hlc14 hlc e14 eD13 hPs13 hlp13 hPs12 hlp12 eD hPs
           have ts1 : ∀x∈(d1::as1),G8 x=none:=fun x hx=>by
            rcases List.mem_cons.mp hx with z | z
            ·rw [z];exact hd1
            ·exact has1 x z
           have ts2 : ∀x∈(d2::as2),G9 x=none:=fun x hx=>by
            rcases List.mem_cons.mp hx with z | z
            ·rw [z];exact hd2
            ·exact has2 x z
           have in1 : ∀x∈(d1::as1),∃o,G9 x=some o:=fun x hx=>by
            rcases List.mem_cons.mp hx with z | z
            ·rw [z];exact⟨_,hP1.dict⟩
            ·exact hP1.in x z
           have apart : ∀x∈(d2::as2),x∉(d1::as1):=fun x hx z=>by
            obtain⟨o,y⟩:=in1 x z
            rw [ts2 x hx] at y;cases y
           have hlb8:=e8 _ _ (by simp) hlb7
           have hlb14:=(e811.trans eD14) _ _ (by simp) hlb8
           have lbo : ∀ts:List Addr,(∀x∈ts,G8 x=none)->lb∉ts:=fun ts h z=>by rw [h _ z] at hlb8;cases hlb8
           have lpo : ∀ts:List Addr,(∀x∈ts,∃o,G10 x=some o)->lp∉ts:=fun ts h z=>by obtain⟨o,y⟩:=h _ z;rw [hlp] at y;cases y
           have ts2' : ∀x∈(d2::as2),G8 x=none:=fun x hx=>e9.none (by simp) (ts2 x hx)
           have tsA : ∀x∈(d1::as1)++(d2::as2),G8 x=none:=fun x hx=>(List.mem_append.mp hx).elim (ts1 x) (ts2' x)
           have tsI : ∀x∈(d1::as1)++(d2::as2),∃o,G10 x=some o:=fun x hx=>by
            rcases List.mem_append.mp hx with z | z
            ·obtain⟨o,y⟩:=in1 x z
             exact⟨o,e10 _ _ (by simp) y⟩
            ·rcases List.mem_cons.mp z with z | z
             ·rw [z];exact⟨_,hP2.dict⟩
             ·exact hP2.in x z
           have e814:=e811.trans eD14
           walk_at "re"
           refine⟨lp,rfl,⟨_,SqL.of hlp14⟩,qCx (xs:=([d1,d2]:List Addr).map V.ref) (fun k σ' G' => ∃(o10 o11 o12:Option V),σ' = [some (.ref a),some (.int (0+(i:Int))),some (.ref t),some (.ref l),some (.int j),some (.ref wl),some (.ref lb),some (.ref ld),some (.int (0+(jj:Int))),some (.ref lp),o10,o11,o12]/\Ext ((d1::as1)++(d2::as2)) G14 G'/\(k=0->PlanAt G' d1 (boxes wk) as1 ((boxes wk).map (qBw wk)))/\(k<=1->PlanAt G' d2 (boxes wk) as2 ((boxes wk).map (qC8 ws j wk)))) ?_ ?_ ?_ ?_⟩
           ·exact⟨_,_,_,rfl,.refl _ _,fun _=>hR1,fun _=>hR2⟩
           ·rintro k σ' G' hk ⟨o10,o11,o12,rfl,e',_,_⟩
            exact SqL.of (e' _ _ (lpo _ tsI) hlp14)
           ·rintro k v σ' G15 hv ⟨o10,o11,o12,rfl,e15,c1,c2⟩ N4_ B4_ C4_ R4_ hN4_ hC4_ hR4_
            obtain⟨d,hdx,rfl⟩:=qAg hv
            obtain⟨as,f,hP,hf12,hts,hfin⟩ : ∃as f,PlanAt G15 d (boxes wk) as ((boxes wk).map f)/\(∀x,(f x).length<=12)/\(∀x∈d::as,x∈(d1::as1)++(d2::as2)) /\ ∀G' o10 o11 o12,Ext (d::as) G15 G'->N4_ [some (.ref a),some (.int (0+(i:Int))),some (.ref t),some (.ref l),some (.int j),some (.ref wl),some (.ref lb),some (.ref ld),some (.int (0+(jj:Int))),some (.ref lp),o10,o11,o12] G':=by
             have hk:k<2:=(List.getElem?_eq_some_iff.mp hdx).1
             by_cases hk0:k=0
             ·subst hk0
              have hdx:d1=d:=Option.some.inj hdx
              subst hdx
              refine⟨as1,_,c1 rfl,fun x=>(fIn _ (by simp) x).2.2.1,fun x hx=>List.mem_append.mpr (.inl hx),fun G' o10 o11 o12 eX=>qCt hN4_ ⟨_,_,_,rfl,e15.trans (eX.mono fun x hx=>List.mem_append.mpr (.inl hx)),(fun z=>absurd z (by decide)),(fun _ => ?_)⟩⟩
              exact (c2 (by decide)).mono eX (apart _ (List.mem_cons_self ..)) fun x hx=>apart _ (List.mem_cons_of_mem _ hx)
             ·have hk1:k=1:=by omega
              subst hk1
              have hdx:d2=d:=Option.some.inj hdx
              subst hdx
              exact⟨as2,_,c2 (by decide),fun x=>(fIn _ (by simp) x).2.2.1,fun x hx=>List.mem_append.mpr (.inr hx),fun G' o10 o11 o12 eX=>qCt hN4_ ⟨_,_,_,rfl,e15.trans (eX.mono fun x hx=>List.mem_append.mpr (.inr hx)),(fun z=>absurd z (by decide)),(fun z=>absurd z (by decide))⟩⟩
            have hlb15:=e15 _ _ (lbo _ tsA) hlb14
            have lbn:lb∉(d::as):=fun z=>lbo _ tsA (hts _ z)
            have hal:=hP.len
            walk_at "re"
            refine⟨lb,rfl,⟨_,SqL.of hlb15⟩,qEv (xs:=(boxes wk).map V.int) (fun k σ' G' => ∃(o11 o12:Option V),σ' = [some (.ref a),some (.int (0+(i:Int))),some (.ref t),some (.ref l),some (.int j),some (.ref wl),some (.ref lb),some (.ref ld),some (.int (0+(jj:Int))),some (.ref lp),some (.ref d),o11,o12]/\Ext as G15 G' /\ ∀(ii:Nat) (x:Addr),as[ii]? = some x -> ∃ns:List Int,ns.length<=12/\G' x=some (.lst (ns.map V.int++if ii<k then [V.int (90+(ii:Int))] else []))) ?_ ?_ ?_ ?_⟩
            ·refine⟨_,_,rfl,.refl _ _,fun ii x hx => ?_⟩
             obtain⟨ns,h1,h2⟩:=hP.lists.get hx
             have hii:ii<(boxes wk).length:=by have:=(List.getElem?_eq_some_iff.mp hx).1;omega
             rw [List.getElem?_map,List.getElem?_eq_getElem hii] at h1
             have h1:f (boxes wk)[ii]=ns:=Option.some.inj h1
             refine⟨ns,?_,by rw [if_neg (by omega),List.append_nil];exact h2⟩
             rw [<-h1];exact hf12 _
            ·rintro k σ' G' hk ⟨o11,o12,rfl,e',_⟩
             exact SqL.of (e' _ _ (fun z=>lbn (List.mem_cons_of_mem _ z)) hlb15)
            ·rintro k v σ' G16 p hv ⟨o11,o12,rfl,e16,hL⟩ hp N5_ B5_ C5_ R5_ hN5_ hC5_ hR5_
             obtain⟨b,hb,rfl⟩:=qAg hv
             have hk:k<(boxes wk).length:=(List.getElem?_eq_some_iff.mp hb).1
             have hax:as[k]? = some as[k]:=List.getElem?_eq_getElem (by omega)
             have eT:Ext [] G16 (upd G16 p (.tup [V.int k,.int b])) :=.laid hp
             have hpT:(upd G16 p (.tup [V.int k,.int b])) p=some (.tup [V.int k,.int b]):=qA1
             generalize upd G16 p (.tup [V.int k,.int b])=G17 at eT hpT ⊢
             refine qBy (SqT.of hpT) rfl ?_
             have hd17:G17 d=some (.dK (planK (boxes wk) as)):=eT _ _ (by simp) (e16 _ _ hP.nda hP.dict)
             have hget:DGet G17 d (V.int b) (some (.ref as[k])):=by
              have z:=DGet.k (k:=Sum.inl b) hd17
              rw [qGm ((qBn wk).imp fun h=>by omega) hb hax] at z
              exact z
             obtain⟨nk,hnk,hk17⟩:=hL k _ hax
             rw [if_neg (Nat.lt_irrefl _),List.append_nil] at hk17
             have hk17:=eT _ _ (by simp) hk17
             walk_at "re"
             refine⟨d,_,rfl,hget,?_⟩
             refine qCo hk17 ?_
             walk_at "re"
             refine qDg hk17 (qAa (by rw [List.length_map];omega)) ?_
             refine qCt hN5_ ⟨_,_,rfl,(e16.trans (eT.mono (by simp))).trans (.put (List.getElem_mem _)),fun ii x hx => ?_⟩
             by_cases hii:ii=k
             ·subst hii
              rw [hax] at hx
              have hx:=Option.some.inj hx
              subst hx
              exact⟨nk,hnk,by rw [qA1,if_pos (Nat.lt_succ_self _)]⟩
             ·have hne:x≠as[k]:=fun z=>hii (by
               obtain⟨h1,h2⟩:=List.getElem?_eq_some_iff.mp hx
               rw [z] at hx
               exact (List.getElem?_inj h1 hP.nd).mp (hx.trans hax.symm))
              obtain⟨nx,h1,h2⟩:=hL ii x hx
              refine⟨nx,h1,?_⟩
              rw [qA4 hne,eT _ _ (by simp) h2]
              by_cases hlt:ii<k
              ·rw [if_pos hlt,if_pos (by omega)]
              ·rw [if_neg hlt,if_neg (by omega)]
            ·rintro σ' G16 ⟨o11,o12,rfl,e16,hL⟩
             rw [List.length_map] at hL
             have hd16:=e16 _ _ hP.nda hP.dict
             have hlb16:=e16 _ _ (fun z=>lbn (List.mem_cons_of_mem _ z)) hlb15
             walk_at "re"
             refine⟨lb,rfl,⟨_,SqL.of hlb16⟩,fun lc hlc => ?_⟩
             refine qAf (xs:=(boxes wk).map V.int) (fun k σ' G' => ∃(o0:Option V),σ' = [o0,some (.ref d)]/\Ext [lc] G16 G'/\G' lc=some (.lst (((List.range k).map fun (i:Nat)=>(90+(i:Int))).map V.int))) ?_ ?_ ?_ ?_
             ·exact⟨none,rfl,.laid hlc,qA1⟩
             ·rintro k σ' G' hk ⟨o0,rfl,e17,hlc17⟩
              exact SqL.of (e17 _ _ (by simpa using qA2 hlb16 hlc) hlb16)
             ·rintro k v σ' G17 R hv ⟨o0,rfl,e17,hlc17⟩ hR
              obtain⟨b,hb,rfl⟩:=qAg hv
              have hk:k<(boxes wk).length:=(List.getElem?_eq_some_iff.mp hb).1
              have hax:as[k]? = some as[k]:=List.getElem?_eq_getElem (by omega)
              have hd17:=e17 _ _ (by simpa using qA2 hd16 hlc) hd16
              have hget:DGet G17 d (V.int b) (some (.ref as[k])):=by
               have z:=DGet.k (k:=Sum.inl b) hd17
               rw [qGm ((qBn wk).imp fun h=>by omega) hb hax] at z
               exact z
              obtain⟨nk,_,hk16⟩:=hL k _ hax
              rw [if_pos hk] at hk16
              have hk17:=e17 _ _ (by simpa using qA2 hk16 hlc) hk16
              walk_at "re"
              refine iteT ?_
              walk_at "re"
              refine⟨d,_,rfl,hget,?_⟩
              walk_at "re"
              refine qBl (SqL.of hk17) (qSl _ _) ?_
              refine⟨_,hlc17,qAa (by rw [List.length_map,List.length_map,List.length_range];omega),hR _ _ ⟨_,rfl,e17.trans (.put (by simp)),?_⟩⟩
              rw [qA1,List.range_succ,List.map_append,List.map_append];rfl
             ·rintro σ' G17 ⟨o0,rfl,e17,hlc17⟩
              rw [List.length_map] at hlc17
              have eD17:=e17.drop hlc
              have hlb17:=eD17 _ _ (by simp) hlb16
              walk_at "re"
              refine⟨lb,_,rfl,.inl (SqL.of hlb17),?_⟩
              rw [List.length_map]
              walk_at "re"
              refine⟨_,rfl,by omega,by omega,fun lc2 hlc2 => ?_⟩
              refine qCv (lo:=0) (n:=((boxes wk).length:Int).toNat) (fun k σ' G' => ∃(o0:Option V),σ' = [o0]/\Ext [lc2] G17 G'/\G' lc2=some (.lst (((List.range k).map fun (i:Nat)=>(90+(i:Int))).map V.int))) ?_ ?_ ?_
              ·exact⟨none,rfl,.laid hlc2,qA1⟩
              ·rintro k σ' G18 R hk ⟨o0,rfl,e18,hlc18⟩ hR
               walk_at "re"
               refine iteT ?_
               walk_at "re"
               refine⟨_,hlc18,qAa (by rw [List.length_map,List.length_map,List.length_range];omega),hR _ _ ⟨_,rfl,e18.trans (.put (by simp)),?_⟩⟩
               rw [qA1,List.range_succ,List.map_append,List.map_append,Int.zero_add];rfl
              ·rintro σ' G18 ⟨o0,rfl,e18,hlc18⟩
               rw [Int.toNat_natCast] at hlc18
               have eD18:=e18.drop hlc2
               have hlc18':=eD18 _ _ (by simp) hlc17
               have hd18:=(eD17.trans eD18) _ _ (by simp) hd16
               obtain⟨t1,t2,t3⟩:=qDi (ns:=(List.range (boxes wk).length).map fun (i:Nat)=>(90+(i:Int))) (fun n hn=>by
                obtain⟨k,hk,rfl⟩:=List.mem_map.mp hn
                have:=List.mem_range.mp hk
                omega) (by rw [List.length_map,List.length_range];omega)
               have tS:=qCd t1 t3 ⟨_,rfl⟩
               walk_at "re"
               refine⟨intsD ((List.range (boxes wk).length).map fun (i:Nat)=>(90+(i:Int))),intsD ((List.range (boxes wk).length).map fun (i:Nat)=>(90+(i:Int))),.list (SqL.of hlc18') (DenL.ofInts _),.list (SqL.of hlc18) (DenL.ofInts _),tS,tS,?_⟩
               rw [if_pos rfl,qG9 _ (qEc t1)]
               walk_at "re"
               refine iteF ?_
               walk_at "re"
               refine qRi hd18 ?_
               refine⟨d,_,rfl,rfl,hd18,?_⟩
               exact hfin _ _ _ _ (((e16.mono fun x hx=>List.mem_cons_of_mem _ hx).trans ((eD17.trans eD18).mono (by simp))).trans (.put (List.mem_cons_self ..)))
           ·rintro σ' G15 ⟨o10,o11,o12,rfl,e15,_,_⟩
            exact qCt hN3_ ⟨_,_,_,_,_,rfl,e8.trans (Ext.dropAll e814 e15 tsA)⟩
       ·rintro σ' G8 ⟨o8,o9,o10,o11,o12,rfl,e8⟩
        exact qCt hN2_ ⟨_,_,_,_,_,_,_,_,_,rfl,eG7.trans e8⟩
    ·rintro σ' G' ⟨o4,o5,o6,o7,o8,o9,o10,o11,o12,rfl,e'⟩
     exact qCt hN_ ⟨_,_,_,_,_,_,_,_,_,_,_,_,rfl,EH2.trans (eG.trans e')⟩
   ·walk_at "re"
    have hCt : ∀G,Ext [] H2 G->C_ [some (.ref a),some (.int (0+(i:Int))),some (.ref t),some (.ref l),o4,o5,o6,o7,o8,o9,o10,o11,o12] G:=fun G e=>qCt hC_ ⟨_,_,_,_,_,_,_,_,_,_,_,_,rfl,EH2.trans e⟩
    have hGo : ∀G,Ext [] H2 G->_:=fun G e=>hC _ G ⟨o4,o5,o6,o7,o8,o9,o10,o11,o12,rfl,e⟩
    by_cases hi0:0<0+(i:Int)
    ·rw [decide_eq_true hi0]
     refine iteT ?_
     walk_at "re"
     refine⟨l,ws,rfl,dW,by omega,fun w hw => ?_,fun r H3 e3 => ?_⟩
     ·obtain⟨m,h1,h2,h3⟩:=hok.all w hw
      have:=h3.len
      omega
     ·walk_at "re"
      by_cases hr100:100<r
      ·rw [decide_eq_true hr100]
       refine iteT ?_
       refine qCt (by assumption) ?_
       exact hCt _ e3
      ·rw [decide_eq_false hr100]
       refine iteF ?_
       refine qCt (by assumption) ?_
       exact hGo _ e3
    ·rw [decide_eq_false hi0]
     refine iteF (iteF ?_)
     refine qCt (by assumption) ?_
     exact hGo _ (.refl _ _)
  ·rintro σ' H' ⟨o1,o2,o3,o4,o5,o6,o7,o8,o9,o10,o11,o12,rfl,e'⟩
   walk_at "re"
   exact q _
end
theorem qAv {P:Program} {w:World} {K:PySem.W.Frag} {mg:Str->Option Value} {base h:Heap} {x:Str} {st:Stmt} {k:Nat} {ps:List Str} {sp:Sp} {f:Addr} {oc:Value} {od an:Option Addr} {osl:Array (Option Value)} {kV doc pm cdv ct:Value} (X:K.In h) (G:h.Ns mainGlobals mg)
  (a:PySem.W.nsIn K mainGlobals x=some (some (.ref f))) (l:K.lookup f=some ⟨oc,od,.func (PySem.W.fnOf x x (qAe st) (qAd st) (qA7 st) .none kV doc pm an cdv ct),osl⟩) (c:PySem.W.codeIn K cdv x=true) (kk:PySem.W.keepIn K (.ref f)=true)
  (hb : ∀(kV doc pm:Value) (an:Option Addr) (cdv ct:Value) (us:List Value),us.length=ps.length->bindArgs (PySem.W.fnOf x x (qAe st) (qAd st) (qA7 st) .none kV doc pm an cdv ct) ⟨us,[]⟩=pure (ps.zip us))
  (ok : ∀fd,Fun K x x st f fd->FnOk P w K mg base CX0 k f fd ps sp):Has P w K mg base x k ps sp:=by
 have F:=qTb (st:=st) l c kk
 exact⟨f,_,ok _ F,PySem.W.mg_of X G a,kk,F.binds hb⟩
theorem qE7 {us:List Value} (h:us.length=1) : ∃a0,us = [a0]:=by
 obtain _ | ⟨x0,us⟩:=us
 ·cases h
 obtain _ | ⟨y,us⟩:=us
 ·exact⟨x0,rfl⟩
 ·simp at h
theorem qCk {us:List Value} (h:us.length=2) : ∃a0 a1,us = [a0,a1]:=by
 obtain _ | ⟨x0,us⟩:=us
 ·cases h
 obtain _ | ⟨x1,us⟩:=us
 ·cases h
 obtain _ | ⟨y,us⟩:=us
 ·exact⟨x0,x1,rfl⟩
 ·simp at h
theorem qHw {us:List Value} (h:us.length=3) : ∃a0 a1 a2,us = [a0,a1,a2]:=by
 obtain _ | ⟨x0,us⟩:=us
 ·cases h
 obtain _ | ⟨x1,us⟩:=us
 ·cases h
 obtain _ | ⟨x2,us⟩:=us
 ·cases h
 obtain _ | ⟨y,us⟩:=us
 ·exact⟨x0,x1,x2,rfl⟩
 ·simp at h
theorem qPu {us:List Value} (h:us.length=4) : ∃a0 a1 a2 a3,us = [a0,a1,a2,a3]:=by
 obtain _ | ⟨x0,us⟩:=us
 ·cases h
 obtain _ | ⟨x1,us⟩:=us
 ·cases h
 obtain _ | ⟨x2,us⟩:=us
 ·cases h
 obtain _ | ⟨x3,us⟩:=us
 ·cases h
 obtain _ | ⟨y,us⟩:=us
 ·exact⟨x0,x1,x2,x3,rfl⟩
 ·simp at h
theorem qT7 {us:List Value} (h:us.length=5) : ∃a0 a1 a2 a3 a4,us = [a0,a1,a2,a3,a4]:=by
 obtain _ | ⟨x0,us⟩:=us
 ·cases h
 obtain _ | ⟨x1,us⟩:=us
 ·cases h
 obtain _ | ⟨x2,us⟩:=us
 ·cases h
 obtain _ | ⟨x3,us⟩:=us
 ·cases h
 obtain _ | ⟨x4,us⟩:=us
 ·cases h
 obtain _ | ⟨y,us⟩:=us
 ·exact⟨x0,x1,x2,x3,x4,rfl⟩
 ·simp at h
theorem qWk {l:PySem.W.OpenLaw} {w:World} {K:PySem.W.Frag} {h:Heap} {mg:Str->Option Value} {fa f1 f2 f3 f4 f5 f6 f7 f8 f9 f10 f11 f12 f13 f14 f15 f16 f17 f18 f19 f20 f21 f22 f23 f24 f25 f26 f27 f28 f29 f30 f31 f32 f33 f34 f35 f36 wa0 wa1:Addr} (X:K.In h) (G:h.Ns mainGlobals mg) (hfa:mg "law" = some (.ref fa))
  {od1 an1 od2 an2 od3 an3 od4 an4 od5 an5 od6 an6 od7 an7 od8 an8 od9 an9 od10 an10 od11 an11 od12 an12 od13 an13 od14 an14 od15 an15 od16 an16 od17 an17 od18 an18 od19 an19 od20 an20 od21 an21 od22 an22 od23 an23 od24 an24 od25 an25 od26 an26 od27 an27 od28 an28 od29 an29 od30 an30 od31 an31 od32 an32 od33 an33 od34 an34 od35 an35 od36 an36:Option Addr} {sl1 sl2 sl3 sl4 sl5 sl6 sl7 sl8 sl9 sl10 sl11 sl12 sl13 sl14 sl15 sl16 sl17 sl18 sl19 sl20 sl21 sl22 sl23 sl24 sl25 sl26 sl27 sl28 sl29 sl30 sl31 sl32 sl33 sl34 sl35 sl36:Array (Option Value)} {oc1 kV1 dc1 pm1 cd1 ct1 oc2 kV2 dc2 pm2 cd2 ct2 oc3 kV3 dc3 pm3 cd3 ct3 oc4 kV4 dc4 pm4 cd4 ct4 oc5 kV5 dc5 pm5 cd5 ct5 oc6 kV6 dc6 pm6 cd6 ct6 oc7 kV7 dc7 pm7 cd7 ct7 oc8 kV8 dc8 pm8 cd8 ct8 oc9 kV9 dc9 pm9 cd9 ct9 oc10 kV10 dc10 pm10 cd10 ct10 oc11 kV11 dc11 pm11 cd11 ct11 oc12 kV12 dc12 pm12 cd12 ct12 oc13 kV13 dc13 pm13 cd13 ct13 oc14 kV14 dc14 pm14 cd14 ct14 oc15 kV15 dc15 pm15 cd15 ct15 oc16 kV16 dc16 pm16 cd16 ct16 oc17 kV17 dc17 pm17 cd17 ct17 oc18 kV18 dc18 pm18 cd18 ct18 oc19 kV19 dc19 pm19 cd19 ct19 oc20 kV20 dc20 pm20 cd20 ct20 oc21 kV21 dc21 pm21 cd21 ct21 oc22 kV22 dc22 pm22 cd22 ct22 oc23 kV23 dc23 pm23 cd23 ct23 oc24 kV24 dc24 pm24 cd24 ct24 oc25 kV25 dc25 pm25 cd25 ct25 oc26 kV26 dc26 pm26 cd26 ct26 oc27 kV27 dc27 pm27 cd27 ct27 oc28 kV28 dc28 pm28 cd28 ct28 oc29 kV29 dc29 pm29 cd29 ct29 oc30 kV30 dc30 pm30 cd30 ct30 oc31 kV31 dc31 pm31 cd31 ct31 oc32 kV32 dc32 pm32 cd32 ct32 oc33 kV33 dc33 pm33 cd33 ct33 oc34 kV34 dc34 pm34 cd34 ct34 oc35 kV35 dc35 pm35 cd35 ct35 oc36 kV36 dc36 pm36 cd36 ct36:Value}
  (a1:PySem.W.nsIn K mainGlobals "_law_tape" = some (some (.ref f1))) (l1:K.lookup f1=some ⟨oc1,od1,.func (PySem.W.fnOf "_law_tape" "_law_tape" (qAe sTape) (qAd sTape) (qA7 sTape) .none kV1 dc1 pm1 an1 cd1 ct1),sl1⟩) (c1:PySem.W.codeIn K cd1 "_law_tape" = true) (k1:PySem.W.keepIn K (.ref f1)=true)
  (a2:PySem.W.nsIn K mainGlobals "_law_draw" = some (some (.ref f2))) (l2:K.lookup f2=some ⟨oc2,od2,.func (PySem.W.fnOf "_law_draw" "_law_draw" (qAe sDraw) (qAd sDraw) (qA7 sDraw) .none kV2 dc2 pm2 an2 cd2 ct2),sl2⟩) (c2:PySem.W.codeIn K cd2 "_law_draw" = true) (k2:PySem.W.keepIn K (.ref f2)=true)
  (a3:PySem.W.nsIn K mainGlobals "_law_nexts" = some (some (.ref f3))) (l3:K.lookup f3=some ⟨oc3,od3,.func (PySem.W.fnOf "_law_nexts" "_law_nexts" (qAe qHi) (qAd qHi) (qA7 qHi) .none kV3 dc3 pm3 an3 cd3 ct3),sl3⟩) (c3:PySem.W.codeIn K cd3 "_law_nexts" = true) (k3:PySem.W.keepIn K (.ref f3)=true)
  (a4:PySem.W.nsIn K mainGlobals "_law_number" = some (some (.ref f4))) (l4:K.lookup f4=some ⟨oc4,od4,.func (PySem.W.fnOf "_law_number" "_law_number" (qAe qF9) (qAd qF9) (qA7 qF9) .none kV4 dc4 pm4 an4 cd4 ct4),sl4⟩) (c4:PySem.W.codeIn K cd4 "_law_number" = true) (k4:PySem.W.keepIn K (.ref f4)=true)
  (a5:PySem.W.nsIn K mainGlobals "_law_deeds" = some (some (.ref f5))) (l5:K.lookup f5=some ⟨oc5,od5,.func (PySem.W.fnOf "_law_deeds" "_law_deeds" (qAe qHl) (qAd qHl) (qA7 qHl) .none kV5 dc5 pm5 an5 cd5 ct5),sl5⟩) (c5:PySem.W.codeIn K cd5 "_law_deeds" = true) (k5:PySem.W.keepIn K (.ref f5)=true)
  (a6:PySem.W.nsIn K mainGlobals "_law_work" = some (some (.ref f6))) (l6:K.lookup f6=some ⟨oc6,od6,.func (PySem.W.fnOf "_law_work" "_law_work" (qAe sWork) (qAd sWork) (qA7 sWork) .none kV6 dc6 pm6 an6 cd6 ct6),sl6⟩) (c6:PySem.W.codeIn K cd6 "_law_work" = true) (k6:PySem.W.keepIn K (.ref f6)=true)
  (a7:PySem.W.nsIn K mainGlobals "_law_many" = some (some (.ref f7))) (l7:K.lookup f7=some ⟨oc7,od7,.func (PySem.W.fnOf "_law_many" "_law_many" (qAe sMany) (qAd sMany) (qA7 sMany) .none kV7 dc7 pm7 an7 cd7 ct7),sl7⟩) (c7:PySem.W.codeIn K cd7 "_law_many" = true) (k7:PySem.W.keepIn K (.ref f7)=true)
  (a8:PySem.W.nsIn K mainGlobals "_law_size" = some (some (.ref f8))) (l8:K.lookup f8=some ⟨oc8,od8,.func (PySem.W.fnOf "_law_size" "_law_size" (qAe sSize) (qAd sSize) (qA7 sSize) .none kV8 dc8 pm8 an8 cd8 ct8),sl8⟩) (c8:PySem.W.codeIn K cd8 "_law_size" = true) (k8:PySem.W.keepIn K (.ref f8)=true)
  (a9:PySem.W.nsIn K mainGlobals "_law_slim" = some (some (.ref f9))) (l9:K.lookup f9=some ⟨oc9,od9,.func (PySem.W.fnOf "_law_slim" "_law_slim" (qAe sSlim) (qAd sSlim) (qA7 sSlim) .none kV9 dc9 pm9 an9 cd9 ct9),sl9⟩) (c9:PySem.W.codeIn K cd9 "_law_slim" = true) (k9:PySem.W.keepIn K (.ref f9)=true)
  (a10:PySem.W.nsIn K mainGlobals "_law_works" = some (some (.ref f10))) (l10:K.lookup f10=some ⟨oc10,od10,.func (PySem.W.fnOf "_law_works" "_law_works" (qAe qHe) (qAd qHe) (qA7 qHe) .none kV10 dc10 pm10 an10 cd10 ct10),sl10⟩) (c10:PySem.W.codeIn K cd10 "_law_works" = true) (k10:PySem.W.keepIn K (.ref f10)=true)
  (a11:PySem.W.nsIn K mainGlobals "led_to" = some (some (.ref f11))) (l11:K.lookup f11=some ⟨oc11,od11,.func (PySem.W.fnOf "led_to" "led_to" (qAe sLed) (qAd sLed) (qA7 sLed) .none kV11 dc11 pm11 an11 cd11 ct11),sl11⟩) (c11:PySem.W.codeIn K cd11 "led_to" = true) (k11:PySem.W.keepIn K (.ref f11)=true)
  (a12:PySem.W.nsIn K mainGlobals "writes_box" = some (some (.ref f12))) (l12:K.lookup f12=some ⟨oc12,od12,.func (PySem.W.fnOf "writes_box" "writes_box" (qAe qF8) (qAd qF8) (qA7 qF8) .none kV12 dc12 pm12 an12 cd12 ct12),sl12⟩) (c12:PySem.W.codeIn K cd12 "writes_box" = true) (k12:PySem.W.keepIn K (.ref f12)=true)
  (a13:PySem.W.nsIn K mainGlobals "reads_box" = some (some (.ref f13))) (l13:K.lookup f13=some ⟨oc13,od13,.func (PySem.W.fnOf "reads_box" "reads_box" (qAe qHg) (qAd qHg) (qA7 qHg) .none kV13 dc13 pm13 an13 cd13 ct13),sl13⟩) (c13:PySem.W.codeIn K cd13 "reads_box" = true) (k13:PySem.W.keepIn K (.ref f13)=true)
  (a14:PySem.W.nsIn K mainGlobals "till_write" = some (some (.ref f14))) (l14:K.lookup f14=some ⟨oc14,od14,.func (PySem.W.fnOf "till_write" "till_write" (qAe sTill) (qAd sTill) (qA7 sTill) .none kV14 dc14 pm14 an14 cd14 ct14),sl14⟩) (c14:PySem.W.codeIn K cd14 "till_write" = true) (k14:PySem.W.keepIn K (.ref f14)=true)
  (a15:PySem.W.nsIn K mainGlobals "begins_met" = some (some (.ref f15))) (l15:K.lookup f15=some ⟨oc15,od15,.func (PySem.W.fnOf "begins_met" "begins_met" (qAe qFg) (qAd qFg) (qA7 qFg) .none kV15 dc15 pm15 an15 cd15 ct15),sl15⟩) (c15:PySem.W.codeIn K cd15 "begins_met" = true) (k15:PySem.W.keepIn K (.ref f15)=true)
  (a16:PySem.W.nsIn K mainGlobals "awaiting" = some (some (.ref f16))) (l16:K.lookup f16=some ⟨oc16,od16,.func (PySem.W.fnOf "awaiting" "awaiting" (qAe qHn) (qAd qHn) (qA7 qHn) .none kV16 dc16 pm16 an16 cd16 ct16),sl16⟩) (c16:PySem.W.codeIn K cd16 "awaiting" = true) (k16:PySem.W.keepIn K (.ref f16)=true)
  (a17:PySem.W.nsIn K mainGlobals "_law_reads" = some (some (.ref f17))) (l17:K.lookup f17=some ⟨oc17,od17,.func (PySem.W.fnOf "_law_reads" "_law_reads" (qAe qFa) (qAd qFa) (qA7 qFa) .none kV17 dc17 pm17 an17 cd17 ct17),sl17⟩) (c17:PySem.W.codeIn K cd17 "_law_reads" = true) (k17:PySem.W.keepIn K (.ref f17)=true)
  (a18:PySem.W.nsIn K mainGlobals "_law_is_asked" = some (some (.ref f18))) (l18:K.lookup f18=some ⟨oc18,od18,.func (PySem.W.fnOf "_law_is_asked" "_law_is_asked" (qAe qDt) (qAd qDt) (qA7 qDt) .none kV18 dc18 pm18 an18 cd18 ct18),sl18⟩) (c18:PySem.W.codeIn K cd18 "_law_is_asked" = true) (k18:PySem.W.keepIn K (.ref f18)=true)
  (a19:PySem.W.nsIn K mainGlobals "nexts_of" = some (some (.ref f19))) (l19:K.lookup f19=some ⟨oc19,od19,.func (PySem.W.fnOf "nexts_of" "nexts_of" (qAe sNx) (qAd sNx) (qA7 sNx) .none kV19 dc19 pm19 an19 cd19 ct19),sl19⟩) (c19:PySem.W.codeIn K cd19 "nexts_of" = true) (k19:PySem.W.keepIn K (.ref f19)=true)
  (a20:PySem.W.nsIn K mainGlobals "_law_ends" = some (some (.ref f20))) (l20:K.lookup f20=some ⟨oc20,od20,.func (PySem.W.fnOf "_law_ends" "_law_ends" (qAe sEnds) (qAd sEnds) (qA7 sEnds) .none kV20 dc20 pm20 an20 cd20 ct20),sl20⟩) (c20:PySem.W.codeIn K cd20 "_law_ends" = true) (k20:PySem.W.keepIn K (.ref f20)=true)
  (a21:PySem.W.nsIn K mainGlobals "writers" = some (some (.ref f21))) (l21:K.lookup f21=some ⟨oc21,od21,.func (PySem.W.fnOf "writers" "writers" (qAe qDq) (qAd qDq) (qA7 qDq) .none kV21 dc21 pm21 an21 cd21 ct21),sl21⟩) (c21:PySem.W.codeIn K cd21 "writers" = true) (k21:PySem.W.keepIn K (.ref f21)=true)
  (a22:PySem.W.nsIn K mainGlobals "_law_writes" = some (some (.ref f22))) (l22:K.lookup f22=some ⟨oc22,od22,.func (PySem.W.fnOf "_law_writes" "_law_writes" (qAe qDs) (qAd qDs) (qA7 qDs) .none kV22 dc22 pm22 an22 cd22 ct22),sl22⟩) (c22:PySem.W.codeIn K cd22 "_law_writes" = true) (k22:PySem.W.keepIn K (.ref f22)=true)
  (a23:PySem.W.nsIn K mainGlobals "awaited" = some (some (.ref f23))) (l23:K.lookup f23=some ⟨oc23,od23,.func (PySem.W.fnOf "awaited" "awaited" (qAe qDu) (qAd qDu) (qA7 qDu) .none kV23 dc23 pm23 an23 cd23 ct23),sl23⟩) (c23:PySem.W.codeIn K cd23 "awaited" = true) (k23:PySem.W.keepIn K (.ref f23)=true)
  (a24:PySem.W.nsIn K mainGlobals "reached" = some (some (.ref f24))) (l24:K.lookup f24=some ⟨oc24,od24,.func (PySem.W.fnOf "reached" "reached" (qAe qDr) (qAd qDr) (qA7 qDr) .none kV24 dc24 pm24 an24 cd24 ct24),sl24⟩) (c24:PySem.W.codeIn K cd24 "reached" = true) (k24:PySem.W.keepIn K (.ref f24)=true)
  (a25:PySem.W.nsIn K mainGlobals "_law_behind" = some (some (.ref f25))) (l25:K.lookup f25=some ⟨oc25,od25,.func (PySem.W.fnOf "_law_behind" "_law_behind" (qAe qFf) (qAd qFf) (qA7 qFf) .none kV25 dc25 pm25 an25 cd25 ct25),sl25⟩) (c25:PySem.W.codeIn K cd25 "_law_behind" = true) (k25:PySem.W.keepIn K (.ref f25)=true)
  (a26:PySem.W.nsIn K mainGlobals "busy" = some (some (.ref f26))) (l26:K.lookup f26=some ⟨oc26,od26,.func (PySem.W.fnOf "busy" "busy" (qAe sBusy) (qAd sBusy) (qA7 sBusy) .none kV26 dc26 pm26 an26 cd26 ct26),sl26⟩) (c26:PySem.W.codeIn K cd26 "busy" = true) (k26:PySem.W.keepIn K (.ref f26)=true)
  (a27:PySem.W.nsIn K mainGlobals "_law_busy" = some (some (.ref f27))) (l27:K.lookup f27=some ⟨oc27,od27,.func (PySem.W.fnOf "_law_busy" "_law_busy" (qAe qHj) (qAd qHj) (qA7 qHj) .none kV27 dc27 pm27 an27 cd27 ct27),sl27⟩) (c27:PySem.W.codeIn K cd27 "_law_busy" = true) (k27:PySem.W.keepIn K (.ref f27)=true)
  (a28:PySem.W.nsIn K mainGlobals "_law_boxes" = some (some (.ref f28))) (l28:K.lookup f28=some ⟨oc28,od28,.func (PySem.W.fnOf "_law_boxes" "_law_boxes" (qAe qFb) (qAd qFb) (qA7 qFb) .none kV28 dc28 pm28 an28 cd28 ct28),sl28⟩) (c28:PySem.W.codeIn K cd28 "_law_boxes" = true) (k28:PySem.W.keepIn K (.ref f28)=true)
  (a29:PySem.W.nsIn K mainGlobals "boxes_in" = some (some (.ref f29))) (l29:K.lookup f29=some ⟨oc29,od29,.func (PySem.W.fnOf "boxes_in" "boxes_in" (qAe qHm) (qAd qHm) (qA7 qHm) .none kV29 dc29 pm29 an29 cd29 ct29),sl29⟩) (c29:PySem.W.codeIn K cd29 "boxes_in" = true) (k29:PySem.W.keepIn K (.ref f29)=true)
  (a30:PySem.W.nsIn K mainGlobals "is_number" = some (some (.ref f30))) (l30:K.lookup f30=some ⟨oc30,od30,.func (PySem.W.fnOf "is_number" "is_number" (qAe qHk) (qAd qHk) (qA7 qHk) .none kV30 dc30 pm30 an30 cd30 ct30),sl30⟩) (c30:PySem.W.codeIn K cd30 "is_number" = true) (k30:PySem.W.keepIn K (.ref f30)=true)
  (a31:PySem.W.nsIn K mainGlobals "is_number_from" = some (some (.ref f31))) (l31:K.lookup f31=some ⟨oc31,od31,.func (PySem.W.fnOf "is_number_from" "is_number_from" (qAe qFd) (qAd qFd) (qA7 qFd) .none kV31 dc31 pm31 an31 cd31 ct31),sl31⟩) (c31:PySem.W.codeIn K cd31 "is_number_from" = true) (k31:PySem.W.keepIn K (.ref f31)=true)
  (a32:PySem.W.nsIn K mainGlobals "is_inside" = some (some (.ref f32))) (l32:K.lookup f32=some ⟨oc32,od32,.func (PySem.W.fnOf "is_inside" "is_inside" (qAe qFe) (qAd qFe) (qA7 qFe) .none kV32 dc32 pm32 an32 cd32 ct32),sl32⟩) (c32:PySem.W.codeIn K cd32 "is_inside" = true) (k32:PySem.W.keepIn K (.ref f32)=true)
  (a33:PySem.W.nsIn K mainGlobals "is_plan" = some (some (.ref f33))) (l33:K.lookup f33=some ⟨oc33,od33,.func (PySem.W.fnOf "is_plan" "is_plan" (qAe qFc) (qAd qFc) (qA7 qFc) .none kV33 dc33 pm33 an33 cd33 ct33),sl33⟩) (c33:PySem.W.codeIn K cd33 "is_plan" = true) (k33:PySem.W.keepIn K (.ref f33)=true)
  (a34:PySem.W.nsIn K mainGlobals "plain_plan" = some (some (.ref f34))) (l34:K.lookup f34=some ⟨oc34,od34,.func (PySem.W.fnOf "plain_plan" "plain_plan" (qAe qHh) (qAd qHh) (qA7 qHh) .none kV34 dc34 pm34 an34 cd34 ct34),sl34⟩) (c34:PySem.W.codeIn K cd34 "plain_plan" = true) (k34:PySem.W.keepIn K (.ref f34)=true)
  (a35:PySem.W.nsIn K mainGlobals "tight_plan" = some (some (.ref f35))) (l35:K.lookup f35=some ⟨oc35,od35,.func (PySem.W.fnOf "tight_plan" "tight_plan" (qAe qHf) (qAd qHf) (qA7 qHf) .none kV35 dc35 pm35 an35 cd35 ct35),sl35⟩) (c35:PySem.W.codeIn K cd35 "tight_plan" = true) (k35:PySem.W.keepIn K (.ref f35)=true)
  (a36:PySem.W.nsIn K mainGlobals "law" = some (some (.ref f36))) (l36:K.lookup f36=some ⟨oc36,od36,.func (PySem.W.fnOf "law" "law" (qAe sLaw) (qAd sLaw) (qA7 sLaw) .none kV36 dc36 pm36 an36 cd36 ct36),sl36⟩) (c36:PySem.W.codeIn K cd36 "law" = true) (k36:PySem.W.keepIn K (.ref f36)=true)
  (u0:PySem.W.nsIn K mainGlobals "WRITING" = some (some (.ref wa0))) (v0:Writing K wa0)
  (u1:PySem.W.nsIn K mainGlobals "READING" = some (some (.ref wa1))) (v1:qQx K wa1)
  (z1:PySem.W.nsIn K mainGlobals "range" = some none) (z2:PySem.W.nsIn K mainGlobals "len" = some none) (z3:PySem.W.nsIn K mainGlobals "abs" = some none) (z4:PySem.W.nsIn K mainGlobals "int" = some none) (z5:PySem.W.nsIn K mainGlobals "max" = some none) (z6:PySem.W.nsIn K mainGlobals "min" = some none) (z7:PySem.W.nsIn K mainGlobals "list" = some none) (z8:PySem.W.nsIn K mainGlobals "repr" = some none) (z9:PySem.W.nsIn K mainGlobals "enumerate" = some none) (z10:PySem.W.nsIn K mainGlobals "any" = some none) (z11:PySem.W.nsIn K mainGlobals "sum" = some none) (z12:PySem.W.nsIn K mainGlobals "sorted" = some none) (z13:PySem.W.nsIn K mainGlobals "set" = some none) (z14:PySem.W.nsIn K mainGlobals "isinstance" = some none) (z15:PySem.W.nsIn K mainGlobals "bool" = some none) (z16:PySem.W.nsIn K mainGlobals "dict" = some none) (z17:PySem.W.nsIn K mainGlobals "all" = some none) :
  ∃fd:FuncData,(∀(s:Shared) (v:Value),BindsTo s fd ⟨[v],[]⟩ [("_law_script",v)]) /\ ∀base:Heap,K.In base->base.Ns mainGlobals mg->FnOk l.prog w K mg base CX0 9 fa fd ["_law_script"] (qR8 K):=by
 have e:=hfa.symm.trans (PySem.W.mg_of X G a36)
 cases e
 have nrange:=PySem.W.mg_none_of X G z1
 have nlen:=PySem.W.mg_none_of X G z2
 have nabs:=PySem.W.mg_none_of X G z3
 have nint:=PySem.W.mg_none_of X G z4
 have nmax:=PySem.W.mg_none_of X G z5
 have nmin:=PySem.W.mg_none_of X G z6
 have nlist:=PySem.W.mg_none_of X G z7
 have nrepr:=PySem.W.mg_none_of X G z8
 have nenumerate:=PySem.W.mg_none_of X G z9
 have nany:=PySem.W.mg_none_of X G z10
 have nsum:=PySem.W.mg_none_of X G z11
 have nsorted:=PySem.W.mg_none_of X G z12
 have nset:=PySem.W.mg_none_of X G z13
 have nisinstance:=PySem.W.mg_none_of X G z14
 have nbool:=PySem.W.mg_none_of X G z15
 have ndict:=PySem.W.mg_none_of X G z16
 have nall:=PySem.W.mg_none_of X G z17
 have hwr:=PySem.W.mg_of X G u0
 have hrd:=PySem.W.mg_of X G u1
 have FL:=qTb (st:=sLaw) l36 c36 k36
 refine⟨PySem.W.fnOf "law" "law" (qAe sLaw) (qAd sLaw) (qA7 sLaw) .none kV36 dc36 pm36 an36 cd36 ct36,fun s v =>.of_eq rfl,fun base _ _ => ?_⟩
 have htape:Has l.prog w K mg base "_law_tape" 1 ["_law_script","_law_k"] (qOf K):=qAv (st:=sTape) X G a1 l1 c1 k1 (fun _ _ _ _ _ _ us hl=>by obtain⟨_,_,rfl⟩:=qCk hl;rfl) fun _ F=>qUb F nlen nabs nint
 have hdraw:Has l.prog w K mg base "_law_draw" 1 ["_law_tape_here","_law_many_here"] qEp:=qAv (st:=sDraw) X G a2 l2 c2 k2 (fun _ _ _ _ _ _ us hl=>by obtain⟨_,_,rfl⟩:=qCk hl;rfl) fun _ F=>qUh F
 have hnexts:Has l.prog w K mg base "_law_nexts" 2 ["_law_tape_here","_law_many_here"] (qLc K):=qAv (st:=qHi) X G a3 l3 c3 k3 (fun _ _ _ _ _ _ us hl=>by obtain⟨_,_,rfl⟩:=qCk hl;rfl) fun _ F=>qRy F nrange nmax hdraw
 have hnumber:Has l.prog w K mg base "_law_number" 2 ["_law_tape_here"] qIb:=qAv (st:=qF9) X G a4 l4 c4 k4 (fun _ _ _ _ _ _ us hl=>by obtain⟨_,rfl⟩:=qE7 hl;rfl) fun _ F=>qP8 F hdraw
 have hdeeds:Has l.prog w K mg base "_law_deeds" 3 ["_law_tape_here","_law_most","_law_boxes_here","_law_first","_law_works_here"] (qG1 K):=qAv (st:=qHl) X G a5 l5 c5 k5 (fun _ _ _ _ _ _ us hl=>by obtain⟨_,_,_,_,_,rfl⟩:=qT7 hl;rfl) fun _ F=>qS1 F nrange nint nlen hdraw hnumber
 have hwork:Has l.prog w K mg base "_law_work" 4 ["_law_tape_here","_law_many_here","_law_most","_law_first","_law_works_here"] (qL8 K):=qAv (st:=sWork) X G a6 l6 c6 k6 (fun _ _ _ _ _ _ us hl=>by obtain⟨_,_,_,_,_,rfl⟩:=qT7 hl;rfl) fun _ F=>qU9 F nrange nlist nlen hdraw hnexts hdeeds
 have hmany:Has l.prog w K mg base "_law_many" 2 ["_law_tape_here"] qOg:=qAv (st:=sMany) X G a7 l7 c7 k7 (fun _ _ _ _ _ _ us hl=>by obtain⟨_,rfl⟩:=qE7 hl;rfl) fun _ F=>qUe F nint hdraw
 have hsize:Has l.prog w K mg base "_law_size" 1 ["_law_works_here"] (qMf K):=qAv (st:=sSize) X G a8 l8 c8 k8 (fun _ _ _ _ _ _ us hl=>by obtain⟨_,rfl⟩:=qE7 hl;rfl) fun _ F=>qUd F nsum nlen
 have hslim:Has l.prog w K mg base "_law_slim" 2 ["_law_works_here"] (qLa K):=qAv (st:=sSlim) X G a9 l9 c9 k9 (fun _ _ _ _ _ _ us hl=>by obtain⟨_,rfl⟩:=qE7 hl;rfl) fun _ F=>qUc F hsize
 have hworks:Has l.prog w K mg base "_law_works" 5 ["_law_tape_here","_law_most"] (qIa K):=qAv (st:=qHe) X G a10 l10 c10 k10 (fun _ _ _ _ _ _ us hl=>by obtain⟨_,_,rfl⟩:=qCk hl;rfl) fun _ F=>qRu F nrange nint hdraw hmany hwork hslim
 have hled_to:Has l.prog w K mg base "led_to" 1 ["starts","nexts"] (qMg K):=qAv (st:=sLed) X G a11 l11 c11 k11 (fun _ _ _ _ _ _ us hl=>by obtain⟨_,_,rfl⟩:=qCk hl;rfl) fun _ F=>qUf F nlist
 have hwrites_box:Has l.prog w K mg base "writes_box" 1 ["deed","box"] (qCf wrB K):=qAv (st:=qF8) X G a12 l12 c12 k12 (fun _ _ _ _ _ _ us hl=>by obtain⟨_,_,rfl⟩:=qCk hl;rfl) fun _ F=>qP7 F hwr v0
 have hreads_box:Has l.prog w K mg base "reads_box" 1 ["deed","box"] (qCf rdB K):=qAv (st:=qHg) X G a13 l13 c13 k13 (fun _ _ _ _ _ _ us hl=>by obtain⟨_,_,rfl⟩:=qCk hl;rfl) fun _ F=>qRw F hrd v1
 have htill_write:Has l.prog w K mg base "till_write" 2 ["deeds","box"] (qMe K):=qAv (st:=sTill) X G a14 l14 c14 k14 (fun _ _ _ _ _ _ us hl=>by obtain⟨_,_,rfl⟩:=qCk hl;rfl) fun _ F=>qUa F nenumerate nlist hwrites_box
 have hbegins_met:Has l.prog w K mg base "begins_met" 3 ["works","number","at","box"] (qIi K):=qAv (st:=qFg) X G a15 l15 c15 k15 (fun _ _ _ _ _ _ us hl=>by obtain⟨_,_,_,_,rfl⟩:=qPu hl;rfl) fun _ F=>qPh F nany htill_write hwrites_box
 have hawaiting:Has l.prog w K mg base "awaiting" 4 ["works","box"] (qLe K):=qAv (st:=qHn) X G a16 l16 c16 k16 (fun _ _ _ _ _ _ us hl=>by obtain⟨_,_,rfl⟩:=qCk hl;rfl) fun _ F=>qS3 F nenumerate nany htill_write hreads_box hbegins_met hled_to
 have hreads:Has l.prog w K mg base "_law_reads" 1 ["_law_deed","_law_box"] (qCf rdB K):=qAv (st:=qFa) X G a17 l17 c17 k17 (fun _ _ _ _ _ _ us hl=>by obtain⟨_,_,rfl⟩:=qCk hl;rfl) fun _ F=>qP9 F
 have his_asked:Has l.prog w K mg base "_law_is_asked" 2 ["_law_works_here","_law_number_here","_law_block","_law_box"] (qGg K):=qAv (st:=qDt) X G a18 l18 c18 k18 (fun _ _ _ _ _ _ us hl=>by obtain⟨_,_,_,_,rfl⟩:=qPu hl;rfl) fun _ F=>qNs F hreads
 have hnexts_of:Has l.prog w K mg base "nexts_of" 1 ["work"] (qWl K):=qAv (st:=sNx) X G a19 l19 c19 k19 (fun _ _ _ _ _ _ us hl=>by obtain⟨_,rfl⟩:=qE7 hl;rfl) fun _ F=>qX5 F nlist nenumerate
 have hends:Has l.prog w K mg base "_law_ends" 1 ["_law_work_here"] (qLd K):=qAv (st:=sEnds) X G a20 l20 c20 k20 (fun _ _ _ _ _ _ us hl=>by obtain⟨_,rfl⟩:=qE7 hl;rfl) fun _ F=>qUg F nlist
 have hwriters:Has l.prog w K mg base "writers" 2 ["work","box"] (qBu K):=qAv (st:=qDq) X G a21 l21 c21 k21 (fun _ _ _ _ _ _ us hl=>by obtain⟨_,_,rfl⟩:=qCk hl;rfl) fun _ F=>qNp F nenumerate nany hwrites_box
 have hwrites:Has l.prog w K mg base "_law_writes" 1 ["_law_work_here","_law_box"] (qBu K):=qAv (st:=qDs) X G a22 l22 c22 k22 (fun _ _ _ _ _ _ us hl=>by obtain⟨_,_,rfl⟩:=qCk hl;rfl) fun _ F=>qNr F nrange nlen nany
 have hawaited:Has l.prog w K mg base "awaited" 5 ["works","number","box"] (qGi K):=qAv (st:=qDu) X G a23 l23 c23 k23 (fun _ _ _ _ _ _ us hl=>by obtain⟨_,_,_,rfl⟩:=qHw hl;rfl) fun _ F=>qNt F nrange nlen hawaiting
 have hreached:Has l.prog w K mg base "reached" 3 ["works","number","box"] (qGf K):=qAv (st:=qDr) X G a24 l24 c24 k24 (fun _ _ _ _ _ _ us hl=>by obtain⟨_,_,_,rfl⟩:=qHw hl;rfl) fun _ F=>qNq F nsorted hnexts_of hwriters hled_to
 have hbehind:Has l.prog w K mg base "_law_behind" 2 ["_law_work_here","_law_box"] (qIh K):=qAv (st:=qFf) X G a25 l25 c25 k25 (fun _ _ _ _ _ _ us hl=>by obtain⟨_,_,rfl⟩:=qCk hl;rfl) fun _ F=>qPg F nrange nlen nlist nset nsorted hends hwrites
 have hbusy:Has l.prog w K mg base "busy" 6 ["works","number","box"] (qGh K):=qAv (st:=sBusy) X G a26 l26 c26 k26 (fun _ _ _ _ _ _ us hl=>by obtain⟨_,_,_,rfl⟩:=qHw hl;rfl) fun _ F=>qUi F nsorted nset hawaited hreached hwriters
 have hlbusy:Has l.prog w K mg base "_law_busy" 3 ["_law_works_here","_law_number_here","_law_box"] (qGh K):=qAv (st:=qHj) X G a27 l27 c27 k27 (fun _ _ _ _ _ _ us hl=>by obtain⟨_,_,_,rfl⟩:=qHw hl;rfl) fun _ F=>qRz F nsorted nset hbehind his_asked hwrites
 have hboxes:Has l.prog w K mg base "_law_boxes" 2 ["_law_work_here"] (qIg K):=qAv (st:=qFb) X G a28 l28 c28 k28 (fun _ _ _ _ _ _ us hl=>by obtain⟨_,rfl⟩:=qE7 hl;rfl) fun _ F=>qPc F nrange hwrites
 have hboxes_in:Has l.prog w K mg base "boxes_in" 1 ["work"] (qDe K):=qAv (st:=qHm) X G a29 l29 c29 k29 (fun _ _ _ _ _ _ us hl=>by obtain⟨_,rfl⟩:=qE7 hl;rfl) fun _ F=>qS2 F nsorted hwr v0
 have his_number:Has l.prog w K mg base "is_number" 1 ["thing"] qId:=qAv (st:=qHk) X G a30 l30 c30 k30 (fun _ _ _ _ _ _ us hl=>by obtain⟨_,rfl⟩:=qE7 hl;rfl) fun _ F=>qS0 F nisinstance nint nbool
 have his_number_from:Has l.prog w K mg base "is_number_from" 2 ["thing","low","beyond"] qIe:=qAv (st:=qFd) X G a31 l31 c31 k31 (fun _ _ _ _ _ _ us hl=>by obtain⟨_,_,_,rfl⟩:=qHw hl;rfl) fun _ F=>qPe F his_number
 have his_inside:Has l.prog w K mg base "is_inside" 7 ["works","number","box","thing"] (qIf K):=qAv (st:=qFe) X G a32 l32 c32 k32 (fun _ _ _ _ _ _ us hl=>by obtain⟨_,_,_,_,rfl⟩:=qPu hl;rfl) fun _ F=>qPf F nlen nisinstance nlist nall nset nsorted his_number_from hbusy
 have his_plan:Has l.prog w K mg base "is_plan" 8 ["works","number","thing"] (qIc K):=qAv (st:=qFc) X G a33 l33 c33 k33 (fun _ _ _ _ _ _ us hl=>by obtain⟨_,_,_,rfl⟩:=qHw hl;rfl) fun _ F=>qPd F nisinstance ndict nall nsorted his_number hboxes_in his_inside
 have hplain_plan:Has l.prog w K mg base "plain_plan" 2 ["work"] (qLb K):=qAv (st:=qHh) X G a34 l34 c34 k34 (fun _ _ _ _ _ _ us hl=>by obtain⟨_,rfl⟩:=qE7 hl;rfl) fun _ F=>qRx F nlist nrange nlen hboxes_in
 have htight_plan:Has l.prog w K mg base "tight_plan" 7 ["works","number"] (qL9 K):=qAv (st:=qHf) X G a35 l35 c35 k35 (fun _ _ _ _ _ _ us hl=>by obtain⟨_,_,rfl⟩:=qCk hl;rfl) fun _ F=>qRv F hboxes_in hbusy
 exact qW9 FL nrange nlen nmax nmin nrepr nlist nenumerate nall nisinstance nsorted ndict htape hworks hsize hlbusy hboxes hplain_plan htight_plan his_plan
theorem walk {l:PySem.W.OpenLaw} {q:Program} {loose:List Str} {XP:(Str->Option Value)->Heap->Prop} {YP:World->Heap->Prop} {d:DefRec} {K:Params->PySem.W.Frag} (hn:l.most=some 63) (hdf:d.params.defaults = [])
  (hY : ∀(w:World) (h:Heap),YP w h->(K w.params).In h)
  (F : ∀(w:World) (mg:Str->Option Value) (fa:Addr) (h:Heap),(K w.params).In h->h.Ns mainGlobals mg->mg d.name=some (.ref fa) ->
   ∃fd:FuncData,(∀(s:Shared) (u:Value),BindsTo s fd ⟨[u],[]⟩ [("_law_script",u)]) /\ ∀base:Heap,(K w.params).In base->base.Ns mainGlobals mg->FnOk l.prog w (K w.params) mg base CX0 9 fa fd ["_law_script"] (qR8 (K w.params))) :
  PySem.W.WalkO q loose XP YP l.row.toRowW d [] (fun f vs=>PySem.call f vs) :=
 L2.qTh (n:=63) (k:=9) (x := "_law_script") (CX:=fun _=>CX0) (sp:=fun w=>qR8 (K w.params)) hn (by decide) hdf ⟨rfl,by decide,by decide,rfl⟩ hY F (fun _ _ a ns hl _ hS=>⟨a,ns,rfl,hS,hl,fun _=>rfl⟩) fun _ _ _ _ _ z=>z
end Fs
open PySem PySem.W PyProof.Rows
namespace PySem.W.Fast
def tw8401297463058247654:=0
def tw1730032147849969708:=0
def tw5509593295045577335:=0
def tw14027947771593349447:=0
def tw13052649592186419865:=0
def tw4818521570684331169:=0
def tw12252393822044466358:=0
def tw7438891824023534472:=0
def tw1202228038814947766:=0
def tw18089464702572494604:=0
def tw6373382564340382018:=0
def tw4484498266171541471:=0
def tw7573997476099319792:=0
def tw16136992171262027447:=0
def tw7465949300295644616:=0
def tw1184063639491083811:=0
def tw11127816304849651197:=0
def tw7009976257708714735:=0
def tw8602667785892317036:=0
def tw6579034131285783503:=0
def tw4478961812012347305:=0
def tw8869276867123836525:=0
def tw5760771767884037902:=0
def tw11344692316234139451:=0
def tw12431116850670085845:=0
def tw3325913588640475665:=0
def tw2762629013716637184:=0
def tw12866999812577741798:=0
def tw6903484393442326013:=0
def tw4940645125149882127:=0
def tw10941458253039986223:=0
def tw4370933033301064461:=0
def tw12971286433923253149:=0
def tw208015824800625027:=0
def tw7843625855515037742:=0
def tw11821317270630256984:=0
def tw7602267968585086269:=0
def tw4155337106274398755:=0
def tw3284999245529445348:=0
def tw13320671944710869839:=0
def tw500208960492355997:=0
def tw5612351764183121018:=0
def tw9104582783588295647:=0
def tw12590065829614947065:=0
def tw5827591051731939226:=0
def tw17119400708114571327:=0
def tw428056470841803730:=0
def tw6598611339258746716:=0
def tw3259896998372956866:=0
def tw2736301215542860490:=0
def tw8168562043427376751:=0
def tw16269839443655058916:=0
def tw5599180445360504693:=0
def tw10622263731396281361:=0
def tw814625971751670200:=0
def tw1937671118935593449:=0
def tw4463143372827040652:=0
def tw17100294757693549245:=0
def tw1697534805264691900:=0
def tw8058359682910570041:=0
def tw2894314114430143396:=0
def tw11668119484588918579:=0
def tw6130498304777665683:=0
def tw13199142211355791764:=0
def tw15741265577763313753:=0
def tw7851599583587110075:=0
def tw5424079099103114446:=0
def tw12535003965843974361:=0
def tw9772512164118475690:=0
def tw10915527263620941699:=0
def tw15534743170085263503:=0
def tw8866576981980332340:=0
def tw18158075556158578614:=0
def tw11209982239003881161:=0
def tw3085288579984742903:=0
def tw6515919988157668391:=0
def tw15395470915316463007:=0
def tw18058588094452637308:=0
def tw5855563783575289414:=0
def tw1533911117635855814:=0
def tw3239084553079150128:=0
def tw816556741641285274:=0
def tw7600064265785932960:=0
def tw13737403178765469195:=0
def tw7554604731902764746:=0
def tw6221003059994717763:=0
def tw2553319354663371041:=0
def tw17540277103685610882:=0
def tw17209084442980637615:=0
def tw7025568961948459527:=0
def tw11092367861963962700:=0
def tw1062737633406560970:=0
def tw11588724869399468642:=0
def tw3559528960494998935:=0
def tw13736929410382242210:=0
def tw15011351184737413011:=0
def tw1233456460721828439:=0
def tw16184408039221345167:=0
def tw8633909904337944570:=0
def tw5222986520316179972:=0
def tw12616024097019327562:=0
def tw12324944100886750788:=0
def tw242030819718506878:=0
def tw15721488343063260097:=0
def tw6838196752790119816:=0
def tw9711364934888723886:=0
def tw14896826271675387337:=0
def tw5558221913541156470:=0
def tw3034868241896376594:=0
def tw4682172304578097352:=0
def tw5682560450060303736:=0
def tw14218383382152559558:=0
def tw873275336717025065:=0
def tw9030789398759132569:=0
def tw12583426456525457367:=0
def tw2775588944888439693:=0
def tw17944585956021754969:=0
def tw2033183565400864114:=0
def tw15112783661038164758:=0
def tw15053215956873530209:=0
def tw2259830654423350651:=0
def tw17020649563996491577:=0
def tw10574677260312514069:=0
def tw12582266966653703893:=0
def tw10237254508558929635:=0
def tw9473783637005574979:=0
def tw183810076441170576:=0
def tw2415458153001429004:=0
def tw8538535916777222621:=0
def tw1065292730036786409:=0
def tw16428667918919464122:=0
def tw7266224130740625705:=0
def tw2551800627588497850:=0
def tw11116677468412040136:=0
def tw13895319408683516135:=0
def tw2486569600908653417:=0
def tw16437251408658698584:=0
def tw4134613287020386854:=0
def tw5013201783686295605:=0
def tw2960032580794299953:=0
def tw15589681785501858788:=0
def tw8984381247553020029:=0
def tw9526775020785095268:=0
def tw12509578624116681756:=0
def tw302776118673355793:=0
def tw1733727261994320801:=0
def tw6053120675471196303:=0
def tw13031144717415812882:=0
def tw17937897449129449106:=0
def tw6170109333921802480:=0
def tw4670231660099286754:=0
def tw4788056580485702734:=0
def tw18392230283723459045:=0
def tw6184972097710561452:=0
def tw9450909612464825570:=0
def tw13786364077128948096:=0
def tw5326764698109951076:=0
def tw5755675779960625164:=0
def tw6658317540601520195:=0
def tw10783503096974038919:=0
def tw4028428438943770605:=0
def tw6674259606190493357:=0
def tw3744467255115145999:=0
def tw6689196890939335350:=0
def tw3474647711291592632:=0
def tw10351795741407007808:=0
def tw17286461567419542580:=0
def tw9971801403108072954:=0
def tw5863615020802900886:=0
def tw13904775395289856211:=0
def tw263563462740790431:=0
def tw15328439321455332766:=0
def tw4722910353979624881:=0
def tw15764147751567246962:=0
def tw12209745116574748502:=0
def tw15516443250773072744:=0
def tw6150106556135065455:=0
def tw12505167467019175204:=0
def tw7216361723666972555:=0
def tw13736413525403076061:=0
def tw14199352457842617015:=0
def tw11371463615415319678:=0
def tw8669180894443458350:=0
def tw8830182417323126650:=0
def tw16188885370651367855:=0
def tw1757831222260312554:=0
def tw10472623611240202747:=0
def tw14347303491240761671:=0
def tw10055714236385931175:=0
def tw8364257975178937744:=0
def tw17432645660534499950:=0
def tw5621048696739170758:=0
def tw16152811638134412775:=0
def tw6702407751269127499:=0
def tw7973714862787949378:=0
def tw4229022383774510693:=0
end PySem.W.Fast
set_option maxRecDepth 100000 in
set_option maxHeartbeats 0 in
theorem PySem.Challenge.cw_fewsaves_k21_plain_and_tight_plans_holds : PySem.Challenge.rw_fewsaves_k21_plain_and_tight_plans.Holds := by
 w_on;o_law;k_head;(case hw=>w_witness2)
 k_fill
 refine Fs.walk (l:=PySem.Challenge.rw_fewsaves_k21_plain_and_tight_plans) rfl rfl (fun w h Y=>PySem.W.kIn_of Y) ?F
 case F =>
  intro w mg fa h KX G hmg
  refine' Fs.qWk KX G hmg ?a1 ?l1 ?c1 ?k1 ?a2 ?l2 ?c2 ?k2 ?a3 ?l3 ?c3 ?k3 ?a4 ?l4 ?c4 ?k4 ?a5 ?l5 ?c5 ?k5 ?a6 ?l6 ?c6 ?k6 ?a7 ?l7 ?c7 ?k7 ?a8 ?l8 ?c8 ?k8 ?a9 ?l9 ?c9 ?k9 ?a10 ?l10 ?c10 ?k10 ?a11 ?l11 ?c11 ?k11 ?a12 ?l12 ?c12 ?k12 ?a13 ?l13 ?c13 ?k13 ?a14 ?l14 ?c14 ?k14 ?a15 ?l15 ?c15 ?k15 ?a16 ?l16 ?c16 ?k16 ?a17 ?l17 ?c17 ?k17 ?a18 ?l18 ?c18 ?k18 ?a19 ?l19 ?c19 ?k19 ?a20 ?l20 ?c20 ?k20 ?a21 ?l21 ?c21 ?k21 ?a22 ?l22 ?c22 ?k22 ?a23 ?l23 ?c23 ?k23 ?a24 ?l24 ?c24 ?k24 ?a25 ?l25 ?c25 ?k25 ?a26 ?l26 ?c26 ?k26 ?a27 ?l27 ?c27 ?k27 ?a28 ?l28 ?c28 ?k28 ?a29 ?l29 ?c29 ?k29 ?a30 ?l30 ?c30 ?k30 ?a31 ?l31 ?c31 ?k31 ?a32 ?l32 ?c32 ?k32 ?a33 ?l33 ?c33 ?k33 ?a34 ?l34 ?c34 ?k34 ?a35 ?l35 ?c35 ?k35 ?a36 ?l36 ?c36 ?k36 ?u0 ?v0 ?u1 ?v1 ?z1 ?z2 ?z3 ?z4 ?z5 ?z6 ?z7 ?z8 ?z9 ?z10 ?z11 ?z12 ?z13 ?z14 ?z15 ?z16 ?z17
  (case a1=>k_is)
  (case l1=>k_is)
  (case c1=>k_is)
  (case k1=>k_is)
  (case a2=>k_is)
  (case l2=>k_is)
  (case c2=>k_is)
  (case k2=>k_is)
  (case a3=>k_is)
  (case l3=>k_is)
  (case c3=>k_is)
  (case k3=>k_is)
  (case a4=>k_is)
  (case l4=>k_is)
  (case c4=>k_is)
  (case k4=>k_is)
  (case a5=>k_is)
  (case l5=>k_is)
  (case c5=>k_is)
  (case k5=>k_is)
  (case a6=>k_is)
  (case l6=>k_is)
  (case c6=>k_is)
  (case k6=>k_is)
  (case a7=>k_is)
  (case l7=>k_is)
  (case c7=>k_is)
  (case k7=>k_is)
  (case a8=>k_is)
  (case l8=>k_is)
  (case c8=>k_is)
  (case k8=>k_is)
  (case a9=>k_is)
  (case l9=>k_is)
  (case c9=>k_is)
  (case k9=>k_is)
  (case a10=>k_is)
  (case l10=>k_is)
  (case c10=>k_is)
  (case k10=>k_is)
  (case a11=>k_is)
  (case l11=>k_is)
  (case c11=>k_is)
  (case k11=>k_is)
  (case a12=>k_is)
  (case l12=>k_is)
  (case c12=>k_is)
  (case k12=>k_is)
  (case a13=>k_is)
  (case l13=>k_is)
  (case c13=>k_is)
  (case k13=>k_is)
  (case a14=>k_is)
  (case l14=>k_is)
  (case c14=>k_is)
  (case k14=>k_is)
  (case a15=>k_is)
  (case l15=>k_is)
  (case c15=>k_is)
  (case k15=>k_is)
  (case a16=>k_is)
  (case l16=>k_is)
  (case c16=>k_is)
  (case k16=>k_is)
  (case a17=>k_is)
  (case l17=>k_is)
  (case c17=>k_is)
  (case k17=>k_is)
  (case a18=>k_is)
  (case l18=>k_is)
  (case c18=>k_is)
  (case k18=>k_is)
  (case a19=>k_is)
  (case l19=>k_is)
  (case c19=>k_is)
  (case k19=>k_is)
  (case a20=>k_is)
  (case l20=>k_is)
  (case c20=>k_is)
  (case k20=>k_is)
  (case a21=>k_is)
  (case l21=>k_is)
  (case c21=>k_is)
  (case k21=>k_is)
  (case a22=>k_is)
  (case l22=>k_is)
  (case c22=>k_is)
  (case k22=>k_is)
  (case a23=>k_is)
  (case l23=>k_is)
  (case c23=>k_is)
  (case k23=>k_is)
  (case a24=>k_is)
  (case l24=>k_is)
  (case c24=>k_is)
  (case k24=>k_is)
  (case a25=>k_is)
  (case l25=>k_is)
  (case c25=>k_is)
  (case k25=>k_is)
  (case a26=>k_is)
  (case l26=>k_is)
  (case c26=>k_is)
  (case k26=>k_is)
  (case a27=>k_is)
  (case l27=>k_is)
  (case c27=>k_is)
  (case k27=>k_is)
  (case a28=>k_is)
  (case l28=>k_is)
  (case c28=>k_is)
  (case k28=>k_is)
  (case a29=>k_is)
  (case l29=>k_is)
  (case c29=>k_is)
  (case k29=>k_is)
  (case a30=>k_is)
  (case l30=>k_is)
  (case c30=>k_is)
  (case k30=>k_is)
  (case a31=>k_is)
  (case l31=>k_is)
  (case c31=>k_is)
  (case k31=>k_is)
  (case a32=>k_is)
  (case l32=>k_is)
  (case c32=>k_is)
  (case k32=>k_is)
  (case a33=>k_is)
  (case l33=>k_is)
  (case c33=>k_is)
  (case k33=>k_is)
  (case a34=>k_is)
  (case l34=>k_is)
  (case c34=>k_is)
  (case k34=>k_is)
  (case a35=>k_is)
  (case l35=>k_is)
  (case c35=>k_is)
  (case k35=>k_is)
  (case a36=>k_is)
  (case l36=>k_is)
  (case c36=>k_is)
  (case k36=>k_is)
  (case u0=>k_is)
  (case v0=>exact⟨_,_,_,by k_is,rfl,rfl,by decide,.cons ⟨_,rfl⟩ (.cons ⟨_,rfl⟩ .nil)⟩)
  (case u1=>k_is)
  (case v1=>exact⟨_,_,_,by k_is,rfl,rfl,by decide,.cons ⟨_,rfl⟩ (.cons ⟨_,rfl⟩ .nil)⟩)
  (case z1=>k_is)
  (case z2=>k_is)
  (case z3=>k_is)
  (case z4=>k_is)
  (case z5=>k_is)
  (case z6=>k_is)
  (case z7=>k_is)
  (case z8=>k_is)
  (case z9=>k_is)
  (case z10=>k_is)
  (case z11=>k_is)
  (case z12=>k_is)
  (case z13=>k_is)
  (case z14=>k_is)
  (case z15=>k_is)
  (case z16=>k_is)
  (case z17=>k_is)
