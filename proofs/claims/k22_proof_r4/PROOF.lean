import PyProof.Rows.All
import Wide.All
import OpenK.AllK
import Wide.FinOn
import Lean
import PyProof.EqAt
import PyProof.EqKinds
import PyProof.TupleCall
import PySem.Challenge.RW_fewsaves_k22_what_is_put_on_ways
import PyProof.CollectWalk
import PyProof.DictItems
import KE.KItemsList
set_option Elab.async false
set_option linter.all false
set_option maxRecDepth 100000
set_option compiler.extract_closed false
set_option genInjectivity false
set_option genSizeOfSpec false
namespace L2
open PySem PySem.Spec PyProof.Rows
abbrev Key:=Sum Int Str
def keyIs:Key->Value->Bool
 | .inl k,v=>Value.isInt k v
 | .inr x,v=>Value.isStrOf x v
def keyH (w:World):Key->Int
 | .inl k=>hashInt k
 | .inr x=>hashStr w x
theorem qAx : ∀ {k:Key} {v:Value},keyIs k v=true->(∃i t,k=Sum.inl i/\v=Value.int i t)\/(∃x t,k=Sum.inr x/\v=Value.str x t)
 | .inl i,v,h=>by
  obtain⟨t,e⟩:=Value.isInt_shape (k:=i) (v:=v) h
  exact .inl ⟨i,t,rfl,e⟩
 | .inr x,v,h=>by
  obtain⟨t,e⟩:=Value.isStrOf_shape (x:=x) (v:=v) h
  exact .inr ⟨x,t,rfl,e⟩
theorem qOq (i:Int) (t:Tok):keyIs (.inl i) (.int i t)=true:=by simp [keyIs,Value.isInt]
theorem qOp (x:Str) (t:Tok):keyIs (.inr x) (.str x t)=true:=by simp [keyIs,Value.isStrOf]
theorem qVi (a b:Int):decide ((Sum.inl a:Key)=Sum.inl b)=(a == b):=by
 by_cases e:a=b
 ·subst e;simp
 ·have h : ¬(Sum.inl a:Key)=Sum.inl b:=fun q=>e (Sum.inl.inj q)
  rw [decide_eq_false h]
  exact (beq_eq_false_iff_ne.mpr e).symm
theorem qVf (a b:Str):decide ((Sum.inr a:Key)=Sum.inr b)=decide (a=b):=by
 by_cases e:a=b
 ·subst e;simp
 ·have h : ¬(Sum.inr a:Key)=Sum.inr b:=fun q=>e (Sum.inr.inj q)
  rw [decide_eq_false h,decide_eq_false e]
theorem qVh (a:Int) (b:Str):decide ((Sum.inl a:Key)=Sum.inr b)=false:=decide_eq_false (fun q=>nomatch q)
theorem qVg (a:Str) (b:Int):decide ((Sum.inr a:Key)=Sum.inl b)=false:=decide_eq_false (fun q=>nomatch q)
def qB7 (prog:Program) (w:World):PySem.KeyKind prog w Key where
 is:=keyIs
 hash:=keyH w
 inj:=fun v a b ha hb=>by
  rcases qAx ha with ⟨i,t,rfl,rfl⟩ | ⟨x,t,rfl,rfl⟩
  ·rcases qAx hb with ⟨j,u,rfl,e⟩ | ⟨y,u,rfl,e⟩
   ·injection e with e1 _;rw [e1]
   ·exact nomatch e
  ·rcases qAx hb with ⟨j,u,rfl,e⟩ | ⟨y,u,rfl,e⟩
   ·exact nomatch e
   ·injection e with e1 _;rw [e1]
 byValue:=fun k v h=>by
  rcases qAx h with ⟨i,t,rfl,rfl⟩ | ⟨x,t,rfl,rfl⟩ <;> rfl
 pyHash:=fun hv h=>by
  rcases qAx hv with ⟨i,t,rfl,rfl⟩ | ⟨x,t,rfl,rfl⟩
  ·exact wpAny_pyHash_int h
  ·exact wpAny_pyHash_str h
 eqBool:=fun hu hv h=>by
  rcases qAx hu with ⟨i,t,rfl,rfl⟩ | ⟨x,t,rfl,rfl⟩
  ·rcases qAx hv with ⟨j,u,rfl,rfl⟩ | ⟨y,u,rfl,rfl⟩
   ·rw [qVi] at h;exact wpAny_eqBool_int h
   ·rw [qVh] at h;exact SeqAt.EqAt.int_str i t y u _ _ _ _ h
  ·rcases qAx hv with ⟨j,u,rfl,rfl⟩ | ⟨y,u,rfl,rfl⟩
   ·rw [qVg] at h;exact SeqAt.EqAt.str_int x t j u _ _ _ _ h
   ·rw [qVf] at h;exact wpAny_eqBool_str h
 «strs» :=fun k x t v h=>by
  rcases qAx h with ⟨i,u,rfl,e⟩ | ⟨y,u,rfl,e⟩
  ·exact nomatch e
  ·injection e with e1 _
   subst e1
   cases v <;> rfl
theorem qDv (prog:Program) (w:World) (i:Int) (t:Tok):(qB7 prog w).is (.inl i) (.int i t)=true:=qOq i t
theorem qKg (prog:Program) (w:World) (x:Str) (t:Tok):(qB7 prog w).is (.inr x) (.str x t)=true:=qOp x t
set_option genInjectivity true in
inductive V where
 | non | bl (b:Bool) | int (i:Int) | str (x:Str) | byt (b:Array UInt8) | flt (b:UInt64) | ref (a:Addr) | ty (n:String)
 deriving DecidableEq
def RelV:V->Value->Prop
 | .non,u=>u=Value.none
 | .bl b,u=>u=Value.bool b
 | .int i,u => ∃t,u=Value.int i t
 | .str x,u => ∃t,u=Value.str x t
 | .byt b,u => ∃t,u=Value.bytes b t
 | .flt b,u => ∃t,u=Value.float b t
 | .ref a,u=>u=Value.ref a
 | .ty n,u=>u=Value.type n
abbrev Vals:List V->List Value->Prop:=Paired RelV
theorem Vals.length {xs:List V} {us:List Value} (r:Vals xs us):xs.length=us.length:=Paired.length r
theorem Vals.get : ∀ {xs:List V} {us:List Value} {i:Nat} {x:V},Vals xs us->xs[i]? = some x -> ∃u,us[i]? = some u/\RelV x u
 | _,_,_,_,.nil,e=>by simp at e
 | _,_,0,_,.cons r _,e=>by simp at e;subst e;exact⟨_,rfl,r⟩
 | _,_,i+1,x,.cons _ t,e=>by
  obtain⟨u,h1,h2⟩:=Vals.get (i:=i) (x:=x) t (by simpa using e)
  exact⟨u,by simpa using h1,h2⟩
theorem Vals.set {x:V} {u:Value} (r:RelV x u) : ∀ {xs:List V} {us:List Value} (i:Nat),Vals xs us->Vals (xs.set i x) (us.set i u)
 | _,_,_,.nil =>.nil
 | _,_,0,.cons _ t =>.cons r t
 | _,_,i+1,.cons q t =>.cons q (Vals.set r i t)
theorem Vals.append {xs ys:List V} {us ws:List Value} (h:Vals xs us) (s:Vals ys ws):Vals (xs++ys) (us++ws):=by
 induction h with
 | nil=>exact s
 | cons r _ ih=>exact .cons r ih
theorem Vals.take : ∀ {xs:List V} {us:List Value} (n:Nat),Vals xs us->Vals (xs.take n) (us.take n)
 | _,_,0,_ =>.nil
 | _,_,_+1,.nil =>.nil
 | _,_,n+1,.cons r t =>.cons r (Vals.take n t)
theorem Vals.drop : ∀ {xs:List V} {us:List Value} (n:Nat),Vals xs us->Vals (xs.drop n) (us.drop n)
 | _,_,0,r=>r
 | _,_,_+1,.nil =>.nil
 | _,_,n+1,.cons _ t=>Vals.drop n t
theorem Vals.none_of : ∀ {xs:List V} {us:List Value} {i:Nat},Vals xs us->xs[i]? = none->us[i]? = none:=fun {xs us i} r e=>by
 have h1:=r.length
 have h2:xs.length<=i:=List.getElem?_eq_none_iff.mp e
 exact List.getElem?_eq_none_iff.mpr (by omega)
def RelO:Option V->Option Value->Prop
 | some v,some u=>RelV v u
 | none,none=>True
 | _,_=>False
def KV {κ : Type}:List (κ × V)->List (κ × Value)->Prop:=Paired fun (p : κ × V) (q : κ × Value)=>p.1=q.1/\RelV p.2 q.2
def kV:Key->V
 | .inl i =>.int i
 | .inr x =>.str x
inductive HO where
 | lst (xs:List V)
 | tup (xs:List V)
 | dK (kvs:List (Key×V)) | dT (kvs:List (List Key×V))
 | set (S:Int->Bool) (n:Nat)
 | ins (C dx:Addr) (fs:List (Str×V))
 | own (x:Addr)
 | xd (fs:List (Str×V))
 | met (f x:Addr)
 | rng (lo hi:Int)
 | frz (o:Obj) (u:HO)
 | tbl (ps:Array Value)
 | ext (φ : Addr->Heap->Prop)
abbrev Hp:=Addr->Option HO
def upd (H:Hp) (a:Addr) (o:HO):Hp:=fun b=>if b=a then some o else H b
theorem qA1 {H:Hp} {a:Addr} {o:HO}:upd H a o a=some o:=by unfold upd;rw [if_pos rfl]
theorem qA4 {H:Hp} {a b:Addr} {o:HO} (h:b≠a):upd H a o b=H b:=by unfold upd;rw [if_neg h]
theorem qS4 {H:Hp} {a:Addr} {o u:HO}:upd (upd H a o) a u=upd H a u:=by
 funext b;unfold upd;split <;> rfl
theorem qMg {H:Hp} {a b:Addr} {o u:HO} (h:H a=some o) (h':H b=some u) (d:o≠u):a≠b:=by
 intro e;subst e;rw [h] at h';exact d (Option.some.inj h')
theorem qA2 {H:Hp} {a b:Addr} {o:HO} (h:H a=some o) (h':H b=none):a≠b:=by
 intro e;subst e;rw [h] at h';cases h'
section
variable (P:Program) (w:World)
def ObjOk (H:Hp) (h:Heap) (a:Addr):HO->Prop
 | .lst xs=>xs.length<=sizeLine /\ ∃(its:List Value) (n:Nat),Vals xs its/\h.get? a=some { cls :=.type "list",data :=.seq its.toArray n }
 | .tup xs=>xs.length<=sizeLine /\ ∃its:List Value,Vals xs its/\IsTup h a its.toArray
 | .dK kvs=>kvs.length<=sizeLine/\(a == sysModules)=false /\ ∃vs,KV kvs vs/\h.DictOf (qB7 P w) a vs
 | .dT kvs=>kvs.length<=sizeLine/\(a == sysModules)=false /\ ∃xs:List (List Key×Addr×Value),
   Paired (fun (p:List Key×V) (q:List Key×Addr×Value)=>p.1=q.1/\H q.2.1=some (.tup (p.1.map kV))/\RelV p.2 q.2.2) kvs xs /\
   ∃o es ep,h.get? a=some o/\o.ExactDict/\o.data = .dict es ep/\es.toList=xs.map (entryOfKey (tupleKind (qB7 P w)))/\(xs.map (·.1)).Nodup
 | .set S n=>h.SetOf (intKind P w) a S n
 | .ins C dx fs=>H dx=some (.own a)/\fs.length<=1000/\dx≠a/\h.get? a=some (PySem.W.instObj C dx) /\
   ∃mA,h.Ns1 dx mA/\(∀f,RelO (fs.lookup f) (mA f))/\PySem.Within mA (fs.map (·.1))
 | .own _ => ∃o,h.get? a=some o
 | .xd fs => ∃mA,h.Ns1 a mA /\ ∀f,RelO (fs.lookup f) (mA f)
 | .rng lo hi => ∃t u v,h.get? a=some { cls :=.type "range",data :=.fields #[.int lo t,.int hi u,.int 1 v] }
 | .frz o u=>h.get? a=some o/\ObjOk H h a u
 | .tbl ps=>h.get? a=some { cls :=.none,data :=.fields ps }
 | .met f x=>h.get? a=some (PySem.W.methodObj (.ref f) (.ref x))
 | .ext φ => φ a h/\(∃o,h.get? a=some o) /\ ∀h1 h2:Heap,φ a h1->(∀o,h1.get? a=some o->h2.get? a=some o) -> φ a h2
def HOk (H:Hp) (h:Heap):Prop := ∀a o,H a=some o->ObjOk P w H h a o
end
section
variable {P:Program} {w:World} {H H':Hp} {h h':Heap} {a:Addr} {o:HO}
theorem ObjOk.lt (x:ObjOk P w H h a o):a<h.objs.size:=by
 cases o with
 | lst xs=>obtain⟨_,_,_,_,e⟩:=x;exact Heap.lt_size e
 | tup xs=>obtain⟨_,_,_,p⟩:=x;exact p.lt
 | dK kvs=>obtain⟨_,_,_,_,o,_,_,e,_⟩:=x;exact Heap.lt_size e
 | dT kvs=>obtain⟨_,_,_,_,o,_,_,e,_⟩:=x;exact Heap.lt_size e
 | set S n=>obtain⟨o,_,_,_,e,_⟩:=x;exact Heap.lt_size e
 | ins C dx fs=>obtain⟨_,_,_,e,_⟩:=x;exact Heap.lt_size e
 | own y=>obtain⟨_,e⟩:=x;exact Heap.lt_size e
 | xd fs=>obtain⟨_,⟨_,_,_,e,_⟩,_⟩:=x;exact Heap.lt_size e
 | rng lo hi=>obtain⟨_,_,_,e⟩:=x;exact Heap.lt_size e
 | frz ob u=>obtain⟨e,_⟩:=x;exact Heap.lt_size e
 | tbl ps=>exact Heap.lt_size (show h.get? a=some _ from x)
 | met f y=>exact Heap.lt_size (show h.get? a=some _ from x)
 | ext φ =>obtain⟨_,⟨_,e⟩,_⟩:=x;exact Heap.lt_size e
theorem Paired.mapP {α β : Type} {F G : α -> β -> Prop} {l₁ : List α} {l₂ : List β} (h:Paired F l₁ l₂) (f : ∀a b,F a b->G a b):Paired G l₁ l₂ :=by
 induction h with
 | nil=>exact .nil
 | cons r _ ih=>exact .cons (f _ _ r) ih
theorem ObjOk.stay (x:ObjOk P w H h a o) (k : ∀b u,(b=a\/H b=some (.own a))->h.get? b=some u->h'.get? b=some u)
  (ho : ∀b,H b=some (.own a)->H' b=some (.own a)) (ht : ∀b xs,H b=some (.tup xs)->H' b=some (.tup xs)):ObjOk P w H' h' a o:=by
 induction o with
 | lst xs=>obtain⟨z,its,n,r,e⟩:=x;exact⟨z,its,n,r,k _ _ (.inl rfl) e⟩
 | tup xs=>obtain⟨z,its,r,ob,e,c⟩:=x;exact⟨z,its,r,ob,k _ _ (.inl rfl) e,c⟩
 | dK kvs=>obtain⟨z,y,vs,r,ob,es,ep,e,c⟩:=x;exact⟨z,y,vs,r,ob,es,ep,k _ _ (.inl rfl) e,c⟩
 | dT kvs =>
  obtain⟨z,y,xs,r,ob,es,ep,e,c⟩:=x
  exact⟨z,y,xs,Paired.mapP r fun p q z=>⟨z.1,ht _ _ z.2.1,z.2.2⟩,ob,es,ep,k _ _ (.inl rfl) e,c⟩
 | set S n=>obtain⟨ob,es,ep,t,e,c⟩:=x;exact⟨ob,es,ep,t,k _ _ (.inl rfl) e,c⟩
 | ins C dx fs =>
  obtain⟨d,z,ne,e,mA,⟨od,es,ep,e2,c⟩,r⟩:=x
  exact⟨ho _ d,z,ne,k _ _ (.inl rfl) e,mA,⟨od,es,ep,k _ _ (.inr d) e2,c⟩,r⟩
 | own y=>obtain⟨ob,e⟩:=x;exact⟨ob,k _ _ (.inl rfl) e⟩
 | xd fs=>obtain⟨mA,⟨od,es,ep,e,c⟩,r⟩:=x;exact⟨mA,⟨od,es,ep,k _ _ (.inl rfl) e,c⟩,r⟩
 | rng lo hi=>obtain⟨t,u,v,e⟩:=x;exact⟨t,u,v,k _ _ (.inl rfl) e⟩
 | frz ob u ih=>obtain⟨e,q⟩:=x;exact⟨k _ _ (.inl rfl) e,ih q⟩
 | tbl ps =>
  have e:h.get? a=some { cls :=.none,data :=.fields ps }:=x
  show h'.get? a=some { cls :=.none,data :=.fields ps }
  exact k a _ (.inl rfl) e
 | met f y =>
  have e:h.get? a=some (PySem.W.methodObj (.ref f) (.ref y)):=x
  show h'.get? a=some (PySem.W.methodObj (.ref f) (.ref y))
  exact k a _ (.inl rfl) e
 | ext φ =>obtain⟨p,⟨o,e⟩,st⟩:=x;exact⟨st _ _ p fun o q=>k _ _ (.inl rfl) q,⟨o,k _ _ (.inl rfl) e⟩,st⟩
theorem HOk.lt (x:HOk P w H h) (e:H a=some o):a<h.objs.size:=(x a o e).lt
theorem HOk.fresh (x:HOk P w H h) (e:h.objs.size<=a):H a=none:=by
 cases q:H a with
 | none=>rfl
 | some u=>exact absurd (Nat.lt_of_lt_of_le (x.lt q) e) (Nat.lt_irrefl _)
theorem HOk.kept (x:HOk P w H h) (k : ∀b u,h.get? b=some u->h'.get? b=some u):HOk P w H h':=fun a o e =>
 (x a o e).stay (fun b u _ q=>k b u q) (fun _ q=>q) fun _ _ q=>q
theorem HOk.laid (x:HOk P w H h) (k : ∀b u,h.get? b=some u->h'.get? b=some u) (hp:h.objs.size<=a) (new:ObjOk P w (upd H a o) h' a o):HOk P w (upd H a o) h':=fun b u e=>by
 have hn:=x.fresh hp
 by_cases hb:b=a
 ·subst hb;rw [qA1] at e;cases e;exact new
 ·rw [qA4 hb] at e
  exact (x b u e).stay (fun c v _ q=>k c v q) (fun c q=>by rw [qA4 (qA2 q hn)];exact q) fun c xs q=>by rw [qA4 (qA2 q hn)];exact q
end
def Rd (H:Hp) (a:Addr) (u:HO):Prop:=H a=some u \/ ∃o,H a=some (.frz o u)
theorem Rd.ok {P:Program} {w:World} {H:Hp} {h:Heap} {a:Addr} {u:HO} (r:Rd H a u) (x:HOk P w H h):ObjOk P w H h a u:=by
 rcases r with r | ⟨o,r⟩
 ·exact x a u r
 ·obtain⟨_,q⟩:=x a _ r
  exact q
def Mut:Option HO->Prop
 | some (.lst _)=>True
 | some (.dK _)=>True
 | some (.dT _)=>True
 | some (.set _ _)=>True
 | some (.ins _ _ _)=>True
 | some (.ext _)=>True
 | _=>False
section
variable {P:Program} {w:World} {H:Hp} {h h':Heap} {x e:Addr} {o':HO}
theorem HOk.write (ok:HOk P w H h) (mu:Mut (H x)) (he:e=x\/H e=some (.own x)) (k : ∀b u,b≠e->h.get? b=some u->h'.get? b=some u) (heo : ∃u,h'.get? e=some u)
  (new:ObjOk P w (upd H x o') h' x o'):HOk P w (upd H x o') h':=fun b u q=>by
 have nown : ∀c y,H c=some (.own y)->c≠x:=fun c y r z=>by subst z;rw [r] at mu;exact mu
 have ntup : ∀c xs,H c=some (.tup xs)->c≠x:=fun c xs r z=>by subst z;rw [r] at mu;exact mu
 by_cases hb:b=x
 ·subst hb;rw [qA1] at q;cases q;exact new
 ·rw [qA4 hb] at q
  by_cases hbe:b=e
  ·have q':H b=some (.own x):=by
    rcases he with z | z
    ·exact absurd (hbe.trans z) hb
    ·rw [hbe];exact z
   rw [q] at q';cases q'
   obtain⟨v,hv⟩:=heo
   exact⟨v,by rw [hbe];exact hv⟩
  ·refine (ok b u q).stay (fun c v hc r=>k c v ?_ r) (fun c r=>by rw [qA4 (nown c b r)];exact r) fun c xs r=>by rw [qA4 (ntup c xs r)];exact r
   rcases hc with rfl | hc
   ·exact hbe
   ·rintro rfl
    rcases he with z | z
    ·exact nown c b hc z
    ·rw [hc] at z;cases z;exact hb rfl
end
structure Un (fs ex:List Addr) (H H':Hp) (h h':Heap):Prop where
 keep : ∀b o,h.get? b=some o->H b=none->b∉fs->b∉ex->h'.get? b=some o
 slot : ∀b o,h.get? b=some o->H b=none->b∈fs->b∉ex -> ∃sl,h'.get? b=some { o with slots:=sl }
 free : ∀b o,h.get? b=some o->H b=none->b∉ex->H' b=none
 there : ∀b o,h.get? b=some o->b∉ex -> ∃o',h'.get? b=some o'
 tups : ∀b xs,H b=some (.tup xs)->H' b=some (.tup xs)
 frzs : ∀b o u,H b=some (.frz o u)->H' b=some (.frz o u)
 tbls : ∀b ps,H b=some (.tbl ps) -> ∃more,H' b=some (.tbl (ps++more))
section
variable {fs fs' ex ex':List Addr} {H H1 H2:Hp} {h h1 h2 h':Heap} {a x e:Addr} {o:HO}
theorem Un.any (u:Un fs ex H H1 h h1) {b:Addr} {ob:Obj} (q:h.get? b=some ob) (n:H b=none) (hx:b∉ex) : ∃sl,h1.get? b=some { ob with slots:=sl }:=by
 by_cases hb:b∈fs
 ·exact u.slot b ob q n hb hx
 ·exact⟨ob.slots,u.keep b ob q n hb hx⟩
theorem Un.kept (k : ∀b u,h.get? b=some u->h'.get? b=some u):Un fs ex H H h h' :=
 ⟨fun b ob q _ _ _=>k b ob q,fun b ob q _ _ _=>⟨ob.slots,k b ob q⟩,fun _ _ _ n _=>n,fun b ob q _=>⟨ob,k b ob q⟩,fun _ _ q=>q,fun _ _ _ q=>q,fun _ ps q=>⟨#[],by rw [q];simp⟩⟩
theorem Un.refl:Un fs ex H H h h:=Un.kept fun _ _ q=>q
theorem Un.laid (k : ∀b u,h.get? b=some u->h'.get? b=some u) (hp:h.objs.size<=a) (hn:H a=none):Un fs ex H (upd H a o) h h' where
 keep:=fun b u q _ _ _=>k b u q
 slot:=fun b u q _ _ _=>⟨u.slots,k b u q⟩
 free:=fun b u q n _=>by rw [qA4 (Nat.ne_of_lt (Nat.lt_of_lt_of_le (Heap.lt_size q) hp))];exact n
 there:=fun b u q _=>⟨u,k b u q⟩
 tups:=fun b xs q=>by rw [qA4 (qA2 q hn)];exact q
 frzs:=fun b u xs q=>by rw [qA4 (qA2 q hn)];exact q
 tbls:=fun b ps q=>⟨#[],by rw [qA4 (qA2 q hn),q];simp⟩
theorem Un.write (mu:Mut (H x)) (he:e=x\/H e=some (.own x)) (k : ∀b u,b≠e->h.get? b=some u->h'.get? b=some u) (heo : ∃u,h'.get? e=some u):Un fs ex H (upd H x o) h h':=by
 have hx : ∀b,H b=none->b≠x:=fun b n z=>by subst z;rw [n] at mu;exact mu
 have hb : ∀b,H b=none->b≠e:=fun b n z=>by
  subst z
  rcases he with r | r
  ·exact hx b n r
  ·rw [n] at r;cases r
 have hm : ∀b u,H b=some u -> ¬Mut (some u)->b≠x:=fun b u q nm z=>by subst z;rw [q] at mu;exact nm mu
 refine⟨fun b u q n _ _=>k b u (hb b n) q,fun b u q n _ _=>⟨u.slots,k b u (hb b n) q⟩,fun b u q n _=>by rw [qA4 (hx b n)];exact n,fun b u q _ => ?_,
  fun b xs q=>by rw [qA4 (hm b _ q fun z=>z)];exact q,fun b u xs q=>by rw [qA4 (hm b _ q fun z=>z)];exact q,fun b ps q=>⟨#[],by rw [qA4 (hm b _ q fun z=>z),q];simp⟩⟩
 by_cases hbe:b=e
 ·subst hbe;exact heo
 ·exact⟨u,k b u hbe q⟩
end
def trk (h:Heap) (H:Hp):List Addr:=(List.range h.objs.size).filter fun a=>(H a).isSome
def hidT (h:Heap) (H:Hp):Heap:=PySem.W.hideAll h (trk h H)
theorem qOv (h:Heap) (H:Hp):(hidT h H).objs.size=h.objs.size:=PySem.W.hideAll_size _ _
theorem qR0 {h:Heap} {H:Hp} {b:Addr} {o:Obj} (e:h.get? b=some o) (n:H b=none):(hidT h H).get? b=some o :=
 PySem.W.hideAll_get _ e fun hm=>by
  have q:(H b).isSome=true:=(List.mem_filter.mp hm).2
  rw [n] at q;simp at q
theorem qT8 {h:Heap} {H:Hp} {b:Addr} {o:Obj} (e:(hidT h H).get? b=some o):h.get? b=some o/\H b=none:=by
 have e':h.get? b=some o:=PySem.W.of_hideAll (trk h H) e
 refine⟨e',?_⟩
 cases q:H b with
 | none=>rfl
 | some x =>
  have hm:b∈trk h H:=List.mem_filter.mpr ⟨List.mem_range.mpr (Heap.lt_size e'),by simp [q]⟩
  have z:(hidT h H).get? b=none:=PySem.W.hideAll_none (trk h H) hm
  rw [z] at e;cases e
def qE0 (g h:Heap) (L:Addr):List (Addr×Obj):=(List.range h.objs.size).filterMap fun a=>if a=L\/(g.get? a).isSome=true then none else (h.get? a).map fun o=>(a,o)
theorem qDx {g h:Heap} {L a:Addr} {o:Obj} (h1:a≠L) (h2:g.get? a=none) (h3:h.get? a=some o):(a,o)∈qE0 g h L :=
 List.mem_filterMap.mpr ⟨a,List.mem_range.mpr (Heap.lt_size h3),by simp [h1,h2,h3]⟩
theorem qGk {g h:Heap} {L:Addr} {p:Addr×Obj} (hp:p∈qE0 g h L):p.1≠L/\g.get? p.1=none/\h.get? p.1=some p.2:=by
 obtain⟨b,_,e⟩:=List.mem_filterMap.mp hp
 split at e
 ·cases e
 ·rename_i hn
  cases q:h.get? b with
  | none=>rw [q] at e;simp at e
  | some u =>
   rw [q] at e
   simp only [Option.map_some,Option.some.injEq] at e
   subst e
   refine⟨fun z=>hn (.inl z),?_,q⟩
   show g.get? b=none
   cases r:g.get? b with
   | none=>rfl
   | some v=>exact (hn (.inr (by simp [r]))).elim
def rest (g h:Heap) (L d:Addr):List (Addr×Obj):=(qE0 g h L).filter fun p=>decide (p.1≠d)
theorem qQr {g h:Heap} {L:Addr}:News g L h (qE0 g h L):=fun p hp=>let ⟨a,b,c⟩:=qGk hp;⟨c,a,b⟩
structure Mod (K:PySem.W.Frag) (mg:Str->Option Value) (base:Heap):Prop where
 kin:K.In base
 glob:base.Ns mainGlobals mg
 blt : ∃mb,base.Ns builtinsNs mb /\ ∀x:Str,x ≠ "__name__" -> mb x=bootBuiltins x
 nolimit:base.NoLimit
structure Cx where
 prog:Program
 w:World
 K:PySem.W.Frag
 mg:Str->Option Value
 base:Heap
 A:Around
 N:List Str
 s₀ : Shared
 H₀ : Hp
 env:Env
 outer:List Env
 stack:List Env
 ex:List Addr
 fn:Str->Bool
 calm:Bool
 pn:List (Addr×Obj)
 xe:Value->Shared->Prop
def frs (l:List Env):List Addr:=l.filterMap (·.frame)
abbrev Cx.fs (X:Cx):List Addr:=frs X.outer
def Vis (sc:Scope) (x:Str):Prop:=sc.names.lookup x=some .local\/sc.names.lookup x=some .cell\/sc.names.lookup x=some .free
def Loc (sc:Scope) (x:Str):Prop:=sc.names.lookup x=some .local\/sc.names.lookup x=some .cell
def Look (env:Env) (h:Heap) (m:Str->Option Value) (x:Str) (u:Value):Prop :=
 (env.kindOf x=some .local/\m x=some u)\/((env.kindOf x=some .cell\/env.kindOf x=some .free) /\ ∃c,env.cells.lookup x=some c/\h.IsCell c (some u))
structure Cx.Ok (X:Cx):Prop where
 mod:Mod X.K X.mg X.base
 kind:X.env.scope.kind = .function
 glob:X.env.globals=mainGlobals
 blt:X.env.builtins=builtinsNs
 above:X.s₀.heap.objs.size<=X.env.locals
 inj : ∀x y c,X.env.cells.lookup x=some c->X.env.cells.lookup y=some c->x=y
 has : ∀x,(X.env.kindOf x=some .cell\/X.env.kindOf x=some .free) -> ∃c,X.env.cells.lookup x=some c
 cab : ∀x c,X.fn x=true->X.env.cells.lookup x=some c->X.s₀.heap.objs.size<=c
 hd:X.calm=true->X.A.handled=none
 frames:X.A.frames=some X.stack
 stk:X.stack=X.outer\/(X.stack=X.env::X.outer/\X.env.frame=some X.env.locals)
 exf : ∀b∈X.ex,b≠X.env.locals /\ ∀x c,X.env.cells.lookup x=some c->c≠b
 bs : ∀b o,X.base.get? b=some o->X.s₀.heap.get? b=some o/\X.H₀ b=none
 bsz:X.base.objs.size<=X.s₀.heap.objs.size
 noex : ∀b o,X.base.get? b=some o->b∉X.ex
 exfs : ∀b∈X.ex,b∉X.fs
 funs:X.s₀.heap.FunFrames X.base X.outer
 frf : ∀b∈X.fs,X.H₀ b=none
structure Inv (X:Cx) (pins:List (Addr×Obj)) (σ : List (Option V)) (H:Hp) (s:Shared):Prop where
 ok:X.Ok
 os:s.os=X.s₀.os
 bare:AllBare s.gens
 base:Un X.fs X.ex X.H₀ H X.s₀.heap s.heap
 loc : ∃m,s.heap.Ns X.env.locals m /\ ∀(i:Nat) (x:Str) (v:V),X.N[i]? = some x -> σ[i]? = some (some v)->Vis X.env.scope x -> ∃u,RelV v u/\Look X.env s.heap m x u
 cell : ∀x c,X.env.cells.lookup x=some c -> ∃v,s.heap.IsCell c v
 free:H X.env.locals=none
 freeC : ∀x c,X.env.cells.lookup x=some c->H c=none
 pin : ∀p∈X.pn++pins,s.heap.get? p.1=some p.2/\H p.1=none/\p.1≠X.env.locals/\p.1∉X.fs /\ ∀v,p.2.data ≠ .cell v
 hok:HOk X.prog X.w H s.heap
 len : σ.length=X.N.length
section
variable {X:Cx} {pins:List (Addr×Obj)} {σ : List (Option V)} {H H':Hp} {s:Shared} {h':Heap}
theorem Cx.Ok.nofr (ok:X.Ok) {b:Addr} {o:Obj} (e:X.base.get? b=some o):b∉X.fs:=fun hb=>by
 have:=(ok.funs.mem hb).1
 rw [e] at this;cases this
theorem Inv.bs (I:Inv X pins σ H s) : ∀b o,X.base.get? b=some o->s.heap.get? b=some o/\H b=none:=fun b o e =>
 ⟨I.base.keep b o (I.ok.bs b o e).1 (I.ok.bs b o e).2 (I.ok.nofr e) (I.ok.noex b o e),I.base.free b o (I.ok.bs b o e).1 (I.ok.bs b o e).2 (I.ok.noex b o e)⟩
theorem Inv.bk (I:Inv X pins σ H s) : ∀b o,X.base.get? b=some o->s.heap.get? b=some o:=fun b o e=>(I.bs b o e).1
theorem Inv.mod (I:Inv X pins σ H s):Mod X.K X.mg X.base:=I.ok.mod
theorem Inv.kIn (I:Inv X pins σ H s):X.K.In s.heap:=I.ok.mod.kin.keeps I.bk
theorem Inv.fr (I:Inv X pins σ H s) : ∃m,Fr X.base X.env.locals s.heap m :=
 let ⟨m,hn,_⟩:=I.loc
 ⟨m,hn,I.bk,Nat.le_trans I.ok.bsz I.ok.above⟩
theorem Inv.lt (I:Inv X pins σ H s):X.env.locals<s.heap.objs.size:=let ⟨_,hn,_⟩:=I.loc;hn.lt
theorem Inv.sz (I:Inv X pins σ H s):X.s₀.heap.objs.size<=s.heap.objs.size:=Nat.le_trans I.ok.above (Nat.le_of_lt I.lt)
theorem Inv.nofs (I:Inv X pins σ H s) {a:Addr} (h:s.heap.objs.size<=a):a∉X.fs:=fun hb=>by
 obtain⟨_,o,ho,_⟩:=I.ok.funs.mem hb
 exact absurd (Nat.lt_of_lt_of_le (Heap.lt_size ho) (Nat.le_trans I.sz h)) (Nat.lt_irrefl _)
theorem Inv.cne (I:Inv X pins σ H s) : ∀x c,X.env.cells.lookup x=some c->c≠X.env.locals:=fun x c e z=>by
 obtain⟨v,o,ho,hd⟩:=I.cell x c e
 obtain⟨m,⟨o',es,ep,ho',hd',_⟩,_⟩:=I.loc
 rw [z,ho'] at ho;cases ho;rw [hd'] at hd;cases hd
theorem Inv.funs (I:Inv X pins σ H s):s.heap.FunFrames X.base X.outer:=by
 have all : ∀(l:List Env),(∀b∈frs l,b∈X.fs)->X.s₀.heap.FunFrames X.base l->s.heap.FunFrames X.base l:=by
  intro l
  induction l with
  | nil=>intro _ _;trivial
  | cons env r ih =>
   intro hs hl
   obtain⟨hk,⟨L,o,hf,hn,ho,hd⟩,hr⟩:=hl
   have hL:L∈X.fs:=hs L (by unfold frs;rw [List.filterMap_cons,hf];exact List.mem_cons_self)
   obtain⟨sl,e⟩:=I.base.slot L o ho (I.ok.frf L hL) hL fun z=>I.ok.exfs L z hL
   exact⟨hk,⟨L,_,hf,hn,e,hd⟩,ih (fun b hb=>hs b (by unfold frs;rw [List.filterMap_cons,hf];exact List.mem_cons_of_mem _ hb)) hr⟩
 exact all X.outer (fun _ hb=>hb) I.ok.funs
theorem Inv.stack (I:Inv X pins σ H s):s.heap.FunFrames X.base X.stack:=by
 rcases I.ok.stk with e | ⟨e,hf⟩
 ·rw [e];exact I.funs
 ·rw [e]
  obtain⟨m,hn,_⟩:=I.loc
  refine .cons (by rw [I.ok.kind];decide) hf hn ?_ I.funs
  exact Heap.get?_none_of_le (Nat.le_trans I.ok.bsz I.ok.above)
theorem Inv.stkSub (I:Inv X pins σ H s) : ∀b∈frs X.stack,b∈X.env.locals::X.fs:=fun b hb=>by
 rcases I.ok.stk with e | ⟨e,hf⟩
 ·rw [e] at hb;exact List.mem_cons_of_mem _ hb
 ·rw [e] at hb
  unfold frs at hb
  rw [List.filterMap_cons,hf] at hb
  exact hb
theorem Inv.stkFree (I:Inv X pins σ H s) : ∀b∈frs X.stack,H b=none:=fun b hb=>by
 rcases List.mem_cons.mp (I.stkSub b hb) with e | hb
 ·rw [e];exact I.free
 ·obtain⟨_,o,ho,_⟩:=I.ok.funs.mem hb
  exact I.base.free b o ho (I.ok.frf b hb) fun z=>I.ok.exfs b z hb
theorem Inv.step {g':Array GenState} {t':Nat} {d':Drawn} {ch:List Addr} (I:Inv X pins σ H s)
  (hch : ∀b∈ch,(b∈X.ex\/X.s₀.heap.objs.size<=b)/\b≠X.env.locals/\(∀x c,X.env.cells.lookup x=some c->c≠b) /\ ∀p∈X.pn++pins,p.1≠b)
  (keep : ∀b o,b≠X.env.locals->b∉X.fs->b∉ch->s.heap.get? b=some o->H b=none->h'.get? b=some o)
  (slot : ∀b o,b≠X.env.locals->b∈X.fs->b∉ch->s.heap.get? b=some o->H b=none -> ∃sl,h'.get? b=some { o with slots:=sl }) (free : ∀b o,b∉ch->s.heap.get? b=some o->H b=none->H' b=none)
  (there : ∀b o,b∉ch->s.heap.get? b=some o -> ∃o',h'.get? b=some o')
  (tups : ∀b xs,H b=some (.tup xs)->H' b=some (.tup xs)) (frzs : ∀b o u,H b=some (.frz o u)->H' b=some (.frz o u)) (tbls : ∀b ps,H b=some (.tbl ps) -> ∃more,H' b=some (.tbl (ps++more)))
  (ns : ∀m,s.heap.Ns X.env.locals m->h'.Ns X.env.locals m) (hok:HOk X.prog X.w H' h') (hg:AllBare g') :
  Inv X pins σ H' { s with heap:=h',gens:=g',drawn:=d',toks:=t' }:=by
 have neL : ∀b o,X.s₀.heap.get? b=some o->b≠X.env.locals:=fun b o e=>Nat.ne_of_lt (Nat.lt_of_lt_of_le (Heap.lt_size e) I.ok.above)
 have neC : ∀b o,X.s₀.heap.get? b=some o->b∉X.ex->b∉ch:=fun b o e hx hb=>by
  rcases (hch b hb).1 with z | z
  ·exact hx z
  ·exact absurd (Nat.lt_of_lt_of_le (Heap.lt_size e) z) (Nat.lt_irrefl _)
 have cellK : ∀x c,X.env.cells.lookup x=some c -> ∀v,s.heap.IsCell c v->h'.IsCell c v:=fun x c e v ⟨o,ho,hd⟩=>by
  have nch:c∉ch:=fun z=>(hch c z).2.2.1 x c e rfl
  by_cases hc:c∈X.fs
  ·obtain⟨sl,q⟩:=slot c o (I.cne x c e) hc nch ho (I.freeC x c e)
   exact⟨_,q,hd⟩
  ·exact⟨o,keep c o (I.cne x c e) hc nch ho (I.freeC x c e),hd⟩
 refine⟨I.ok,I.os,hg,⟨fun b o e n hb hx => ?_,fun b o e n hb hx => ?_,fun b o e n hx => ?_,fun b o e hx => ?_,fun b xs e=>tups b xs (I.base.tups b xs e),fun b o xs e=>frzs b o xs (I.base.frzs b o xs e),fun b ps e => ?_⟩,?_,fun x c e => ?_,?_,fun x c e => ?_,fun p hp => ?_,hok,I.len⟩
 ·exact keep b o (neL b o e) hb (neC b o e hx) (I.base.keep b o e n hb hx) (I.base.free b o e n hx)
 ·obtain⟨sl,e1⟩:=I.base.slot b o e n hb hx
  obtain⟨sl',e2⟩:=slot b _ (neL b o e) hb (neC b o e hx) e1 (I.base.free b o e n hx)
  exact⟨sl',e2⟩
 ·obtain⟨o',e1⟩:=I.base.there b o e hx
  exact free b o' (neC b o e hx) e1 (I.base.free b o e n hx)
 ·obtain⟨o',e1⟩:=I.base.there b o e hx
  exact there b o' (neC b o e hx) e1
 ·obtain⟨m1,e1⟩:=I.base.tbls b ps e
  obtain⟨m2,e2⟩:=tbls b _ e1
  exact⟨m1++m2,by rw [e2,Array.append_assoc]⟩
 ·obtain⟨m,hn,hl⟩:=I.loc
  refine⟨m,ns m hn,fun i x v e1 e2 e3 => ?_⟩
  obtain⟨u,r,l⟩:=hl i x v e1 e2 e3
  refine⟨u,r,?_⟩
  rcases l with l | ⟨k,c,e,z⟩
  ·exact .inl l
  ·exact .inr ⟨k,c,e,cellK x c e _ z⟩
 ·obtain⟨v,z⟩:=I.cell x c e
  exact⟨v,cellK x c e v z⟩
 ·obtain⟨m,⟨o,_,_,ho,_⟩,_⟩:=I.loc
  exact free _ o (fun z=>(hch _ z).2.1 rfl) ho I.free
 ·obtain⟨v,o,ho,hd⟩:=I.cell x c e
  exact free c o (fun z=>(hch c z).2.2.1 x c e rfl) ho (I.freeC x c e)
 ·obtain⟨e,n,ne,nf,d⟩:=I.pin p hp
  have nch:p.1∉ch:=fun z=>(hch p.1 z).2.2.2 p hp rfl
  exact⟨keep p.1 p.2 ne nf nch e n,free p.1 p.2 nch e n,ne,nf,d⟩
theorem Inv.un {t':Nat} (I:Inv X pins σ H s) (u:Un X.fs [] H H' s.heap h') (hok:HOk X.prog X.w H' h'):Inv X pins σ H' { s with heap:=h',toks:=t' }:=by
 obtain⟨m,⟨o,es,ep,ho,r⟩,_⟩:=id I.loc
 obtain⟨sl,hL⟩:=u.any ho I.free (by simp)
 exact I.step (g':=s.gens) (d':=s.drawn) (ch :=[]) (fun _ z=>nomatch z) (fun b o _ hb _ e n=>u.keep b o e n hb (by simp)) (fun b o _ hb _ e n=>u.slot b o e n hb (by simp)) (fun b o _ e n=>u.free b o e n (by simp)) (fun b o _ e=>u.there b o e (by simp)) u.tups u.frzs u.tbls (fun m' hm=>by
  obtain⟨o',es',ep',ho',r'⟩:=hm
  rw [ho] at ho';cases ho'
  exact⟨_,es',ep',hL,r'⟩) hok I.bare
theorem Inv.call {g':Array GenState} {t':Nat} {d':Drawn} {ch:List Addr} (I:Inv X pins σ H s) (u:Un (frs X.stack) ch H H' s.heap h') (hok:HOk X.prog X.w H' h') (hg:AllBare g')
  (hch : ∀b∈ch,(b∈X.ex\/X.s₀.heap.objs.size<=b)/\b≠X.env.locals/\(∀x c,X.env.cells.lookup x=some c->c≠b) /\ ∀p∈X.pn++pins,p.1≠b) :
  Inv X pins σ H' { s with heap:=h',gens:=g',drawn:=d',toks:=t' }:=by
 obtain⟨m,⟨o,es,ep,ho,r⟩,_⟩:=id I.loc
 obtain⟨sl,hL⟩:=u.any ho I.free fun z=>(hch _ z).2.1 rfl
 exact I.step (ch:=ch) hch (fun b o hL hb hc e n=>u.keep b o e n (fun z=>(List.mem_cons.mp (I.stkSub b z)).elim hL hb) hc) (fun b o _ _ hc e n=>u.any e n hc) (fun b o hc e n=>u.free b o e n hc) (fun b o hc e=>u.there b o e hc) u.tups u.frzs u.tbls (fun m' hm=>by
  obtain⟨o',es',ep',ho',r'⟩:=hm
  rw [ho] at ho';cases ho'
  exact⟨_,es',ep',hL,r'⟩) hok hg
theorem Inv.turned {t':Nat} {it:Addr} (I:Inv X pins σ H s) (k : ∀b o,b≠it->s.heap.get? b=some o->h'.get? b=some o) (hn:H it=none) (hL:it≠X.env.locals)
  (h1:it∈X.ex\/X.s₀.heap.objs.size<=it) (h2 : ∀x c,X.env.cells.lookup x=some c->c≠it) (h3 : ∀p∈X.pn++pins,p.1≠it):Inv X pins σ H { s with heap:=h',toks:=t' }:=by
 have nit : ∀b u,H b=some u->b≠it:=fun b u e z=>by rw [z,hn] at e;cases e
 refine I.step (g':=s.gens) (d':=s.drawn) (ch :=[it]) (fun b hb => ?_) (fun b o _ _ hc e _=>k b o (fun z=>hc (by simp [z])) e) (fun b o _ _ hc e _=>⟨o.slots,k b o (fun z=>hc (by simp [z])) e⟩) (fun _ _ _ _ n=>n)
  (fun b o hc e=>⟨o,k b o (fun z=>hc (by simp [z])) e⟩) (fun _ _ e=>e) (fun _ _ _ e=>e) (fun b ps e=>⟨#[],by rw [e];simp⟩) (fun m hm => ?_) (fun b u e => ?_) I.bare
 ·have e:b=it:=by simpa using hb
  subst e
  exact⟨h1,hL,h2,h3⟩
 ·obtain⟨o,es,ep,ho,r⟩:=hm
  exact⟨o,es,ep,k _ o (Ne.symm hL) ho,r⟩
 ·refine (I.hok b u e).stay (fun c v hc q=>k c v ?_ q) (fun _ q=>q) fun _ _ q=>q
  rcases hc with z | z
  ·rw [z];exact nit b u e
  ·exact nit c _ z
theorem Inv.tok (I:Inv X pins σ H s) (t:Nat):Inv X pins σ H { s with toks:=t }:=I.un (h':=s.heap) (t':=t) Un.refl I.hok
theorem Inv.kept {t':Nat} (I:Inv X pins σ H s) (k : ∀b u,s.heap.get? b=some u->h'.get? b=some u):Inv X pins σ H { s with heap:=h',toks:=t' }:=I.un (Un.kept k) (I.hok.kept k)
theorem Inv.laid {a:Addr} {o:HO} {t':Nat} (I:Inv X pins σ H s) (k : ∀b u,s.heap.get? b=some u->h'.get? b=some u) (hp:s.heap.objs.size<=a) (new:ObjOk X.prog X.w (upd H a o) h' a o) :
  Inv X pins σ (upd H a o) { s with heap:=h',toks:=t' }:=I.un (Un.laid k hp (I.hok.fresh hp)) (I.hok.laid k hp new)
theorem Inv.write {x e:Addr} {o:HO} {t':Nat} (I:Inv X pins σ H s) (mu:Mut (H x)) (he:e=x\/H e=some (.own x)) (k : ∀b u,b≠e->s.heap.get? b=some u->h'.get? b=some u) (heo : ∃u,h'.get? e=some u)
  (new:ObjOk X.prog X.w (upd H x o) h' x o):Inv X pins σ (upd H x o) { s with heap:=h',toks:=t' }:=I.un (Un.write mu he k heo) (I.hok.write mu he k heo new)
theorem Inv.pins_of {pins':List (Addr×Obj)} (I:Inv X pins σ H s) (h : ∀p∈pins',s.heap.get? p.1=some p.2/\H p.1=none/\p.1≠X.env.locals/\p.1∉X.fs /\ ∀v,p.2.data ≠ .cell v):Inv X pins' σ H s :=
 ⟨I.ok,I.os,I.bare,I.base,I.loc,I.cell,I.free,I.freeC,fun p hp=>(List.mem_append.mp hp).elim (fun z=>I.pin p (List.mem_append_left _ z)) (h p),I.hok,I.len⟩
theorem qL8 {N:List Str} (hN:N.Nodup) {i j:Nat} {x:Str} (a:N[i]? = some x) (b:N[j]? = some x):i=j:=by
 obtain⟨h1,e1⟩:=List.getElem?_eq_some_iff.mp a
 obtain⟨h2,e2⟩:=List.getElem?_eq_some_iff.mp b
 exact (List.getElem_inj hN).mp (e1.trans e2.symm)
theorem qIg {M:Model} {A:Around} {E:Value->Shared->Prop} {i:Nat} {x:Str} {v:V} {u:Value} {Q:Unit->Shared->Prop} (I:Inv X pins σ H s) (hN:X.N.Nodup) (hi:X.N[i]? = some x) (hx:Loc X.env.scope x) (r:RelV v u)
  (h : ∀s',Inv X pins (σ.set i (some v)) H s'->(∃a,Heap.SameBut a s.heap s'.heap/\(a=X.env.locals\/X.env.cells.lookup x=some a))->Q () s') (hf:X.fn x=true\/X.env.scope.names.lookup x=some .local:=by first | exact .inl rfl | exact .inr rfl | assumption):wpAny M A (storeName X.env x u) Q E s:=by
 obtain⟨m,hn,hl⟩:=id I.loc
 have hcls:(X.env.scope.kind == .class||(X.env.scope.kind == .module&&X.env.locals != X.env.globals))=false:=by rw [I.ok.kind];rfl
 have hiσ : i < σ.length:=by rw [I.len];exact (List.getElem?_eq_some_iff.mp hi).1
 have cne:=I.cne
 have tracked : ∀ {a:Addr} {h':Heap},(∃o,s.heap.get? a=some o/\H a=none)->Heap.SameBut a s.heap h'->HOk X.prog X.w H h':=fun {a h'} ha hs b ob e=>by
  obtain⟨_,_,hfree⟩:=ha
  refine (I.hok b ob e).stay (fun c w' hc q=>(hs.2 c ?_).trans q) (fun _ q=>q) fun _ _ q=>q
  rintro rfl
  rcases hc with rfl | hc
  ·rw [hfree] at e;cases e
  ·rw [hfree] at hc;cases hc
 rcases hx with hk | hk
 ·refine wpAny_storeName_local hk hn (fun h' hn' hs => ?_) hcls
  obtain⟨oL,_,_,hoL,_⟩:=id hn
  refine h _ ⟨I.ok,I.os,I.bare,⟨fun b o e n hb hx => ?_,fun b o e n hb hx => ?_,I.base.free,fun b o e hx => ?_,I.base.tups,I.base.frzs,I.base.tbls⟩,⟨_,hn',fun j y v' e1 e2 e3 => ?_⟩,fun y c e => ?_,I.free,I.freeC,fun p hp => ?_,tracked ⟨oL,hoL,I.free⟩ hs,by simpa using I.len⟩ ⟨_,hs,.inl rfl⟩
  ·exact (hs.2 b (Nat.ne_of_lt (Nat.lt_of_lt_of_le (Heap.lt_size e) I.ok.above))).trans (I.base.keep b o e n hb hx)
  ·obtain⟨sl,e1⟩:=I.base.slot b o e n hb hx
   exact⟨sl,(hs.2 b (Nat.ne_of_lt (Nat.lt_of_lt_of_le (Heap.lt_size e) I.ok.above))).trans e1⟩
  ·obtain⟨o',e1⟩:=I.base.there b o e hx
   exact⟨o',(hs.2 b (Nat.ne_of_lt (Nat.lt_of_lt_of_le (Heap.lt_size e) I.ok.above))).trans e1⟩
  ·by_cases hj:j=i
   ·subst hj
    rw [hi] at e1;cases e1
    rw [List.getElem?_set_self hiσ] at e2
    cases e2
    exact⟨u,r,.inl ⟨hk,by simp⟩⟩
   ·rw [List.getElem?_set_ne (Ne.symm hj)] at e2
    obtain⟨u',r',q⟩:=hl j y v' e1 e2 e3
    refine⟨u',r',?_⟩
    rcases q with ⟨k,e⟩ | ⟨k,c,e,z⟩
    ·refine .inl ⟨k,?_⟩
     have:y≠x:=fun e=>hj (qL8 hN e1 (e▸hi))
     simp [this,e]
    ·exact .inr ⟨k,c,e,z.sameBut hs (cne y c e)⟩
  ·obtain⟨w',z⟩:=I.cell y c e
   exact⟨w',z.sameBut hs (cne y c e)⟩
  ·obtain⟨e,n,ne,nf,d⟩:=I.pin p hp
   exact⟨(hs.2 p.1 ne).trans e,n,ne,nf,d⟩
 ·have hfn:X.fn x=true:=by
   rcases hf with z | z
   ·exact z
   ·rw [z] at hk;cases hk
  obtain⟨c,hc⟩:=I.ok.has x (.inl hk)
  obtain⟨w',z⟩:=I.cell x c hc
  refine wpAny_storeName_cell I.ok.kind hk hc z (fun h' hc' hs => ?_)
  obtain⟨oc,hoc,hocd⟩:=id z
  refine h { s with heap:=h' } ⟨I.ok,I.os,I.bare,⟨fun b o e n hb hx => ?_,fun b o e n hb hx => ?_,I.base.free,fun b o e hx => ?_,I.base.tups,I.base.frzs,I.base.tbls⟩,⟨m,hn.sameBut hs (Ne.symm (cne x c hc)),fun j y v' e1 e2 e3 => ?_⟩,fun y c' e => ?_,I.free,I.freeC,fun p hp => ?_,tracked ⟨oc,hoc,I.freeC x c hc⟩ hs,by simpa using I.len⟩ ⟨c,hs,.inr hc⟩
  ·exact (hs.2 b (Nat.ne_of_lt (Nat.lt_of_lt_of_le (Heap.lt_size e) (I.ok.cab x c hfn hc)))).trans (I.base.keep b o e n hb hx)
  ·obtain⟨sl,e1⟩:=I.base.slot b o e n hb hx
   exact⟨sl,(hs.2 b (Nat.ne_of_lt (Nat.lt_of_lt_of_le (Heap.lt_size e) (I.ok.cab x c hfn hc)))).trans e1⟩
  ·obtain⟨o',e1⟩:=I.base.there b o e hx
   exact⟨o',(hs.2 b (Nat.ne_of_lt (Nat.lt_of_lt_of_le (Heap.lt_size e) (I.ok.cab x c hfn hc)))).trans e1⟩
  ·by_cases hj:j=i
   ·subst hj
    rw [hi] at e1;cases e1
    rw [List.getElem?_set_self hiσ] at e2
    cases e2
    exact⟨u,r,.inr ⟨.inl hk,c,hc,hc'⟩⟩
   ·rw [List.getElem?_set_ne (Ne.symm hj)] at e2
    obtain⟨u',r',q⟩:=hl j y v' e1 e2 e3
    refine⟨u',r',?_⟩
    rcases q with q | ⟨k,c',e,z'⟩
    ·exact .inl q
    ·refine .inr ⟨k,c',e,z'.sameBut hs ?_⟩
     rintro rfl
     exact hj (qL8 hN e1 (I.ok.inj _ _ _ e hc▸hi))
  ·by_cases hcc:c'=c
   ·subst hcc;exact⟨_,hc'⟩
   ·obtain⟨w2,z2⟩:=I.cell y c' e
    exact⟨w2,z2.sameBut hs hcc⟩
  ·obtain⟨e,n,ne,nf,d⟩:=I.pin p hp
   refine⟨(hs.2 p.1 ?_).trans e,n,ne,nf,d⟩
   intro q
   rw [q,hoc] at e
   have q':oc=p.2:=Option.some.inj e
   exact d w' (by rw [<-q'];exact hocd)
theorem qFc {M:Model} {A:Around} {E:Value->Shared->Prop} {i:Nat} {x:Str} {v:V} {u:Value} {Q:Unit->Shared->Prop} (I:Inv X pins σ H s) (hN:X.N.Nodup) (hi:X.N[i]? = some x) (hx:Loc X.env.scope x) (r:RelV v u)
  (h : ∀s',Inv X pins (σ.set i (some v)) H s'->Q () s') (hf:X.fn x=true\/X.env.scope.names.lookup x=some .local:=by first | exact .inl rfl | exact .inr rfl | assumption):wpAny M A (storeName X.env x u) Q E s :=
 qIg I hN hi hx r (fun s' I' _=>h s' I') hf
theorem Inv.call' {s':Shared} {ch:List Addr} (I:Inv X pins σ H s) (ho:s'.os=s.os) (u:Un (frs X.stack) ch H H' s.heap s'.heap) (hok:HOk X.prog X.w H' s'.heap) (hg:AllBare s'.gens)
  (hch : ∀b∈ch,(b∈X.ex\/X.s₀.heap.objs.size<=b)/\b≠X.env.locals/\(∀x c,X.env.cells.lookup x=some c->c≠b) /\ ∀p∈X.pn++pins,p.1≠b):Inv X pins σ H' s':=by
 obtain⟨h',g',d',t',o'⟩:=s'
 have e:o'=s.os:=ho
 subst e
 exact I.call (g':=g') (t':=t') (d':=d') u hok hg hch
end
abbrev XK:=Value->Option Addr->Hp->Prop
abbrev St:=List (Option V)
abbrev VK:=V->Hp->Prop
abbrev TE:=St->Hp->VK->Prop
abbrev TT:=St->Hp->(Bool->Hp->Prop)->Prop
abbrev TA:=St->Hp->(List V->Hp->Prop)->Prop
structure Ends where
 nx:St->Hp->Prop
 rt:VK
 bk:St->Hp->Prop:=fun _ _=>False
 ct:St->Hp->Prop:=fun _ _=>False
abbrev TS:=Ends->St->Hp->Prop
def EP (X:Cx) (pins:List (Addr×Obj)) (σ : St) (Q:VK) (u:Value) (s':Shared):Prop := ∃v H',Inv X pins σ H' s'/\RelV v u/\Q v H'
def TP (X:Cx) (pins:List (Addr×Obj)) (σ : St) (Q:Bool->Hp->Prop) (b:Bool) (s':Shared):Prop := ∃H',Inv X pins σ H' s'/\Q b H'
def AP (X:Cx) (pins:List (Addr×Obj)) (σ : St) (Q:List V->Hp->Prop) (us:List Value) (s':Shared):Prop := ∃vs H',Inv X pins σ H' s'/\Vals vs us/\Q vs H'
def SP (X:Cx) (pins:List (Addr×Obj)) (D:Ends) (f:Flow) (s':Shared):Prop :=
 match f with
 | .next => ∃ σ' H',Inv X pins σ' H' s'/\D.nx σ' H'
 | .brk => ∃ σ' H',Inv X pins σ' H' s'/\D.bk σ' H'
 | .cont => ∃ σ' H',Inv X pins σ' H' s'/\D.ct σ' H'
 | .ret u => ∃v σ' H',Inv X pins σ' H' s'/\RelV v u/\D.rt v H'
def PE (X:Cx) (e:Expr) (t:TE):Prop :=
 ∀(pins:List (Addr×Obj)) (s:Shared) (σ : St) (H:Hp) (Q:VK),Inv X pins σ H s->t σ H Q->wpAny (model X.prog X.w) X.A (eval e X.env) (EP X pins σ Q) X.xe s
def PT (X:Cx) (e:Expr) (t:TT):Prop :=
 ∀(pins:List (Addr×Obj)) (s:Shared) (σ : St) (H:Hp) (Q:Bool->Hp->Prop),Inv X pins σ H s->t σ H Q->wpAny (model X.prog X.w) X.A (isTrue e X.env (eval e X.env)) (TP X pins σ Q) X.xe s
def PW (X:Cx) (e:Expr) (t:TT):Prop :=
 ∀(whole:Sem Value) (pins:List (Addr×Obj)) (s:Shared) (σ : St) (H:Hp) (Q:Bool->Hp->Prop),Inv X pins σ H s->t σ H Q->wpAny (model X.prog X.w) X.A (isTrue e X.env whole) (TP X pins σ Q) X.xe s
theorem PW.pt {X:Cx} {e:Expr} {t:TT} (h:PW X e t):PT X e t:=h _
def PA (X:Cx) (es:List Expr) (t:TA):Prop :=
 ∀(pos:Pos) (pins:List (Addr×Obj)) (s:Shared) (σ : St) (H:Hp) (Q:List V->Hp->Prop),Inv X pins σ H s->t σ H Q->wpAny (model X.prog X.w) X.A (spliced (backTo pos (starEach es X.env))) (AP X pins σ Q) X.xe s
def PS (X:Cx) (st:Stmt) (t:TS):Prop :=
 ∀(pins:List (Addr×Obj)) (s:Shared) (σ : St) (H:Hp) (D:Ends),Inv X pins σ H s->t D σ H->wpAny (model X.prog X.w) X.A (exec st X.env) (SP X pins D) X.xe s
def PSs (X:Cx) (st:List Stmt) (t:TS):Prop :=
 ∀(pins:List (Addr×Obj)) (s:Shared) (σ : St) (H:Hp) (D:Ends),Inv X pins σ H s->t D σ H->wpAny (model X.prog X.w) X.A (execs st X.env) (SP X pins D) X.xe s
theorem thn {α : Type} {t:Sem α} {Q Q' : α -> Shared->Prop} {M:Model} {A:Around} {E:Value->Shared->Prop} {s:Shared} (h:wpAny M A t Q E s) (hQ : ∀a s,Q a s->Q' a s):wpAny M A t Q' E s:=wpAny_mono h hQ fun _ _ x=>x
section
variable {X:Cx}
theorem bin {a b:Expr} {ta tb:TE} (ha:PE X a ta) (hb:PE X b tb) {pins:List (Addr×Obj)} {s:Shared} {σ : St} {H:Hp} {R:V->V->Hp->Prop} (I:Inv X pins σ H s) (h:ta σ H fun x H1=>tb σ H1 fun y H2=>R x y H2)
  {α : Type} {Q : α -> Shared->Prop} {f:Value->Value->Sem α}
  (hf : ∀v u s2 x y H2,Inv X pins σ H2 s2->RelV x v->RelV y u->R x y H2->wpAny (model X.prog X.w) X.A (f v u) Q X.xe s2) :
  wpAny (model X.prog X.w) X.A (eval a X.env) (fun v s₁ =>wpAny (model X.prog X.w) X.A (eval b X.env) (fun u s₂ =>wpAny (model X.prog X.w) X.A (f v u) Q X.xe s₂) X.xe s₁) X.xe s:=by
 refine thn (ha pins s σ H _ I h) fun v s1 hq_ => ?_
 obtain⟨x,H1,I1,r1,q1⟩:=hq_
 refine thn (hb pins s1 σ H1 _ I1 q1) fun u s2 hq_ => ?_
 obtain⟨y,H2,I2,r2,q2⟩:=hq_
 exact hf v u s2 x y H2 I2 r1 r2 q2
def tVar (i:Nat):TE:=fun σ H Q => ∃v,σ[i]? = some (some v)/\Q v H
def tC (v:V):TE:=fun _ H Q=>Q v H
theorem qV6 {i:Nat} {x:Str} {pos:Pos} (hN:X.N[i]? = some x) (hv:Vis X.env.scope x) (hd:(x == ("__debug__" : Str))=false:=by decide) (hcd:(x == ("__classdict__" : Str))=false:=by decide):PE X (.Name x pos) (tVar i):=by
 intro pins s σ H Q I h
 obtain⟨v,e,h⟩:=h
 obtain⟨m,hn,hl⟩:=I.loc
 obtain⟨u,r,l⟩:=hl i x v hN e hv
 have fin:EP X pins σ Q u s:=⟨v,H,I,r,h⟩
 rcases l with ⟨hk,hm⟩ | ⟨hk,c,hc,hcell⟩
 ·exact wpAny_Name (wpAny_loadName_local I.ok.kind hk hn hm fin) hd
 ·rcases hk with hk | hk
  ·exact wpAny_Name (wpAny_loadName_cell I.ok.kind hk hc hcell fin) hd
  ·exact wpAny_Name (wpAny_loadName_free I.ok.kind hk hc hcell fin hcd) hd
theorem qA6 {i j pos}:PE X (.Constant (.int i) j pos) (tC (.int i)):=fun _ _ _ H _ I h=>wpAny_Constant_int ⟨.int i,H,I.tok _,⟨_,rfl⟩,h⟩
theorem qHx {b j pos}:PE X (.Constant (.bool b) j pos) (tC (.bl b)):=fun _ _ _ H _ I h=>Constant_bool ⟨.bl b,H,I,rfl,h⟩
theorem qRq {j pos}:PE X (.Constant .none j pos) (tC .non):=fun _ _ _ H _ I h=>Constant_none ⟨.non,H,I,rfl,h⟩
theorem qBl {x j pos}:PE X (.Constant (.str x) j pos) (tC (.str x)):=fun _ _ _ H _ I h=>Calls.Constant_str ⟨.str x,H,I.tok _,⟨_,rfl⟩,h⟩
def Gl (X:Cx) (x:Str):Prop:=X.env.kindOf x=some .globalImplicit
theorem qTk {E:Value->Shared->Prop} {pins:List (Addr×Obj)} {s:Shared} {σ : St} {H:Hp} {x:Str} {u:Value} {pos:Pos} {Q:Value->Shared->Prop} (I:Inv X pins σ H s) (hg:Gl X x) (hm:X.mg x=some u) (h:Q u s)
  (hd:(x == ("__debug__" : Str))=false:=by decide):wpAny (model X.prog X.w) X.A (eval (.Name x pos) X.env) Q E s :=
 Calls.Name_function_global I.ok.kind hg (Calls.loadGlobal_global (by rw [I.ok.glob];exact I.mod.glob.keeps I.bk) hm h) hd
theorem qLf {E:Value->Shared->Prop} {pins:List (Addr×Obj)} {s:Shared} {σ : St} {H:Hp} {x:Str} {u:Value} {pos:Pos} {Q:Value->Shared->Prop} (I:Inv X pins σ H s) (hg:Gl X x) (hm:X.mg x=none) (hv:bootBuiltins x=some u) (h:Q u s)
  (hn:x ≠ "__name__" :=by decide) (hd:(x == ("__debug__" : Str))=false:=by decide):wpAny (model X.prog X.w) X.A (eval (.Name x pos) X.env) Q E s:=by
 obtain⟨mb,h1,h2⟩:=I.mod.blt
 exact Calls.Name_function_global I.ok.kind hg (Calls.loadGlobal_builtin (by rw [I.ok.glob];exact I.mod.glob.keeps I.bk) hm (by rw [I.ok.blt];exact h1.keeps I.bk) ((h2 x hn).trans hv) h) hd
variable {a b:Expr} {ta tb:TE} {pos:Pos}
def PC (X:Cx) (op:CmpOp) (a b:Expr) (t:TE):Prop :=
 ∀(pins:List (Addr×Obj)) (s:Shared) (σ : St) (H:Hp) (Q:VK),Inv X pins σ H s->t σ H Q ->
  wpAny (model X.prog X.w) X.A (eval a X.env) (fun v s₁ =>wpAny (model X.prog X.w) X.A (eval b X.env) (fun u s₂ =>wpAny (model X.prog X.w) X.A (compareOp op v u) (EP X pins σ Q) X.xe s₂) X.xe s₁) X.xe s
theorem qQo (b:Expr) {op:CmpOp} (h:op ≠ .In) (h2:op ≠ .NotIn):behindInMarks op b=false:=by
 have e1:(op == CmpOp.In)=false:=by cases op <;> first | rfl | exact absurd rfl h
 have e2:(op == CmpOp.NotIn)=false:=by cases op <;> first | rfl | exact absurd rfl h2
 cases b <;> simp [behindInMarks,e1,e2]
def tB (t:TE):TT:=fun σ H Q=>t σ H fun x H1 => ∃c,x = .bl c/\Q c H1
theorem qRm {op:CmpOp} {t:TE} (h:PC X op a b t) (h1:behindInMarks op b=false:=by first | exact qQo _ (by decide) (by decide) | rfl):PT X (.Compare a [op] [b] pos) (tB t):=by
 intro pins s σ H Q I hw
 refine wpAny_isTrue_Compare1 (thn (h pins s σ H _ I hw) fun v s1 h1=>thn h1 fun u s2 h2=>thn h2 fun c s3 hq_ => ?_) h1
 obtain⟨x,H1,I1,r1,q1⟩:=hq_
 obtain⟨d,rfl,q⟩:=q1
 cases r1
 exact wpAny_truthy_bool ⟨H1,I1,q⟩
variable {tA tB':TT} {rest:List Expr}
def tAnd (t u:TT):TT:=fun σ H Q=>t σ H fun c H1=>if c=true then u σ H1 Q else Q false H1
def tOr (t u:TT):TT:=fun σ H Q=>t σ H fun c H1=>if c=true then Q true H1 else u σ H1 Q
def tNot (t:TT):TT:=fun σ H Q=>t σ H fun c H1=>Q (!c) H1
theorem qDs (ha:PT X a tA):PW X (.BoolOp .And [a] pos) tA:=by
 intro wh pins s σ H Q I h
 refine isTrue_and (thn (ha pins s σ H Q I h) fun c s1 e => ?_)
 cases c with
 | true=>exact isTrue_and_nil e
 | false=>exact e
theorem qNy (ha:PT X a tA):PW X (.BoolOp .Or [a] pos) tA:=by
 intro wh pins s σ H Q I h
 refine isTrue_or (thn (ha pins s σ H Q I h) fun c s1 e => ?_)
 cases c with
 | false=>exact isTrue_or_nil e
 | true=>exact e
theorem qFv (ha:PT X a tA) (hb:PW X (.BoolOp .And (b::rest) pos) tB'):PW X (.BoolOp .And (a::b::rest) pos) (tAnd tA tB'):=by
 intro wh pins s σ H Q I h
 refine isTrue_and (thn (ha pins s σ H _ I h) fun c s1 hq_ => ?_)
 obtain⟨H1,I1,q1⟩:=hq_
 cases c with
 | true=>exact hb wh pins s1 σ H1 Q I1 q1
 | false=>exact⟨H1,I1,q1⟩
theorem qSp (ha:PT X a tA) (hb:PW X (.BoolOp .Or (b::rest) pos) tB'):PW X (.BoolOp .Or (a::b::rest) pos) (tOr tA tB'):=by
 intro wh pins s σ H Q I h
 refine isTrue_or (thn (ha pins s σ H _ I h) fun c s1 hq_ => ?_)
 obtain⟨H1,I1,q1⟩:=hq_
 cases c with
 | true=>exact⟨H1,I1,q1⟩
 | false=>exact hb wh pins s1 σ H1 Q I1 q1
def tAndV (ta tb:TE):TE:=fun σ H Q=>ta σ H fun x H1 => ∃c,x = .bl c/\if c=true then tb σ H1 Q else Q (.bl false) H1
def tOrV (ta tb:TE):TE:=fun σ H Q=>ta σ H fun x H1 => ∃c,x = .bl c/\if c=true then Q (.bl true) H1 else tb σ H1 Q
theorem qL4 {op} {t:TE} (h:PE X a t):PE X (.BoolOp op [a] pos) t:=fun pins s σ H Q I hw=>BoolOp_one (h pins s σ H Q I hw)
theorem qO5 (ha:PE X a ta) (hb:PE X (.BoolOp .And (b::rest) pos) tb):PE X (.BoolOp .And (a::b::rest) pos) (tAndV ta tb):=by
 intro pins s σ H Q I h
 refine BoolOp_and (thn (ha pins s σ H _ I h) fun v s1 hq_ => ?_)
 obtain⟨x,H1,I1,r1,q1⟩:=hq_
 obtain⟨c,rfl,q1⟩:=q1
 cases r1
 refine wpAny_truthy_bool ?_
 cases c with
 | true=>exact hb pins s1 σ H1 Q I1 q1
 | false=>exact⟨.bl false,H1,I1,rfl,q1⟩
theorem qWa (ha:PE X a ta) (hb:PE X (.BoolOp .Or (b::rest) pos) tb):PE X (.BoolOp .Or (a::b::rest) pos) (tOrV ta tb):=by
 intro pins s σ H Q I h
 refine BoolOp_or (thn (ha pins s σ H _ I h) fun v s1 hq_ => ?_)
 obtain⟨x,H1,I1,r1,q1⟩:=hq_
 obtain⟨c,rfl,q1⟩:=q1
 cases r1
 refine wpAny_truthy_bool ?_
 cases c with
 | false=>exact hb pins s1 σ H1 Q I1 q1
 | true=>exact⟨.bl true,H1,I1,rfl,q1⟩
def tIf (t:TT) (ta tb:TE):TE:=fun σ H Q=>t σ H fun c H1=>if c=true then ta σ H1 Q else tb σ H1 Q
theorem qC5 {c:Expr} (hc:PT X c tA) (ha:PE X a ta) (hb:PE X b tb):PE X (.IfExp c a b pos) (tIf tA ta tb):=by
 intro pins s σ H Q I h
 refine wpAny_IfExp (thn (hc pins s σ H _ I h) fun d s1 hq_ => ?_)
 obtain⟨H1,I1,q1⟩:=hq_
 cases d with
 | true=>exact ha pins s1 σ H1 Q I1 q1
 | false=>exact hb pins s1 σ H1 Q I1 q1
end
def SqL (K:PySem.W.Frag) (H:Hp) (a:Addr) (xs:List V):Prop :=
 Rd H a (.lst xs) \/
  ∃(o:Obj) (its:Array Value) (n:Nat),K.lookup a=some o/\o.cls = .type "list" /\ o.dict=none/\o.data = .seq its n/\its.size<=sizeLine/\Vals xs its.toList
def SqT (K:PySem.W.Frag) (H:Hp) (a:Addr) (xs:List V):Prop :=
 Rd H a (.tup xs) \/
  ∃(o:Obj) (its:Array Value) (n:Nat),K.lookup a=some o/\o.cls = .type "tuple" /\ o.data = .seq its n/\its.size<=sizeLine/\Vals xs its.toList
def absV:Value->Option V
 | .none=>some .non
 | .bool b=>some (.bl b)
 | .int i _=>some (.int i)
 | .str x _=>some (.str x)
 | .bytes b _=>some (.byt b)
 | .float b _=>some (.flt b)
 | .ref a=>some (.ref a)
 | .type n=>some (.ty n)
 | _=>none
theorem RelV.abs {x:V} {u:Value} (r:RelV x u):absV u=some x:=by
 cases x with
 | non=>cases r;rfl
 | bl _=>cases r;rfl
 | int _=>obtain⟨t,rfl⟩:=r;rfl
 | str _=>obtain⟨t,rfl⟩:=r;rfl
 | byt _=>obtain⟨t,rfl⟩:=r;rfl
 | flt _=>obtain⟨t,rfl⟩:=r;rfl
 | ref _=>cases r;rfl
 | ty _=>cases r;rfl
theorem RelV.inj {x y:V} {u:Value} (r:RelV x u) (q:RelV y u):x=y:=Option.some.inj (r.abs.symm.trans q.abs)
theorem Vals.inj {xs ys:List V} {us:List Value} (h:Vals xs us) (k:Vals ys us):xs=ys:=by
 induction h generalizing ys with
 | nil=>cases k;rfl
 | cons r _ ih=>cases k with | cons r' t'=>rw [r.inj r',ih t']
section
variable {X:Cx} {pins:List (Addr×Obj)} {σ : St} {H:Hp} {s:Shared} {a:Addr} {xs ys:List V}
theorem SqL.of {K:PySem.W.Frag} (h:H a=some (.lst xs)):SqL K H a xs :=.inl (.inl h)
theorem SqT.of {K:PySem.W.Frag} (h:H a=some (.tup xs)):SqT K H a xs :=.inl (.inl h)
theorem Inv.list (I:Inv X pins σ H s) (h:SqL X.K H a xs) : ∃its:List Value,Vals xs its/\PlainL s.heap a its.toArray/\xs.length<=sizeLine:=by
 rcases h with h | ⟨o,its,n,hk,hc,hd,hs,hz,r⟩
 ·obtain⟨z,its,n,r,e⟩:=h.ok I.hok
  exact⟨its,r,⟨_,n,e,rfl,rfl,rfl⟩,z⟩
 ·refine⟨its.toList,r,⟨o,n,I.kIn a o hk,hc,hd,by simpa using hs⟩,?_⟩
  have e:=r.length
  simp only [Array.length_toList] at e
  omega
theorem Inv.tuple (I:Inv X pins σ H s) (h:SqT X.K H a xs) : ∃its:List Value,Vals xs its/\IsTup s.heap a its.toArray/\xs.length<=sizeLine:=by
 rcases h with h | ⟨o,its,n,hk,hc,hs,hz,r⟩
 ·obtain⟨z,its,r,p⟩:=h.ok I.hok
  exact⟨its,r,p,z⟩
 ·refine⟨its.toList,r,⟨o,I.kIn a o hk,hc,n,by simpa using hs⟩,?_⟩
  have e:=r.length
  simp only [Array.length_toList] at e
  omega
theorem Inv.list_inj (I:Inv X pins σ H s) (h:SqL X.K H a xs) (h':SqL X.K H a ys):xs=ys:=by
 obtain⟨its,r,⟨o,n,e,_,_,d⟩,_⟩:=I.list h
 obtain⟨its',r',⟨o',n',e',_,_,d'⟩,_⟩:=I.list h'
 rw [e] at e';cases e'
 rw [d] at d'
 injection d' with d1 _
 have:its=its':=by simpa using congrArg Array.toList d1
 subst this
 exact r.inj r'
theorem Inv.tuple_inj (I:Inv X pins σ H s) (h:SqT X.K H a xs) (h':SqT X.K H a ys):xs=ys:=by
 obtain⟨its,r,⟨o,e,_,n,d⟩,_⟩:=I.tuple h
 obtain⟨its',r',⟨o',e',_,n',d'⟩,_⟩:=I.tuple h'
 rw [e] at e';cases e'
 rw [d] at d'
 injection d' with d1 _
 have:its=its':=by simpa using congrArg Array.toList d1
 subst this
 exact r.inj r'
end
abbrev Cx.wish (X:Cx) (E:Value->Shared->Prop):Cx :={ X with xe:=E }
abbrev Cx.nox (X:Cx):Cx:=X.wish fun _ _=>False
theorem Cx.Ok.wish {X:Cx} (ok:X.Ok) (E:Value->Shared->Prop):(X.wish E).Ok :=
 ⟨ok.mod,ok.kind,ok.glob,ok.blt,ok.above,ok.inj,ok.has,ok.cab,ok.hd,ok.frames,ok.stk,ok.exf,ok.bs,ok.bsz,ok.noex,ok.exfs,ok.funs,ok.frf⟩
theorem Cx.Ok.unwish {X:Cx} {E:Value->Shared->Prop} (ok:(X.wish E).Ok):X.Ok :=
 ⟨ok.mod,ok.kind,ok.glob,ok.blt,ok.above,ok.inj,ok.has,ok.cab,ok.hd,ok.frames,ok.stk,ok.exf,ok.bs,ok.bsz,ok.noex,ok.exfs,ok.funs,ok.frf⟩
section
variable {X:Cx} {pins:List (Addr×Obj)} {σ : St} {H:Hp} {s:Shared} {E:Value->Shared->Prop}
theorem Inv.wish (I:Inv X pins σ H s) (E:Value->Shared->Prop):Inv (X.wish E) pins σ H s:=⟨I.ok.wish E,I.os,I.bare,I.base,I.loc,I.cell,I.free,I.freeC,I.pin,I.hok,I.len⟩
theorem Inv.unwish (I:Inv (X.wish E) pins σ H s):Inv X pins σ H s:=⟨I.ok.unwish,I.os,I.bare,I.base,I.loc,I.cell,I.free,I.freeC,I.pin,I.hok,I.len⟩
theorem SP.unwish {D:Ends} {f:Flow} {s':Shared} (h:SP (X.wish E) pins D f s'):SP X pins D f s':=by
 cases f with
 | next=>obtain⟨σ',H',I,q⟩:=h;exact⟨σ',H',I.unwish,q⟩
 | brk=>obtain⟨σ',H',I,q⟩:=h;exact⟨σ',H',I.unwish,q⟩
 | cont=>obtain⟨σ',H',I,q⟩:=h;exact⟨σ',H',I.unwish,q⟩
 | ret u=>obtain⟨v,σ',H',I,r,q⟩:=h;exact⟨v,σ',H',I.unwish,r,q⟩
theorem PSs.nox {st:List Stmt} {t:TS} (h:PSs X.nox st t):PSs X st t:=fun pins s σ H D I hw =>
 wpAny_mono (h pins s σ H D (I.wish _) hw) (fun _ _ q=>q.unwish) fun _ _ z=>False.elim z
end
section
variable {X:Cx} {st:Stmt} {rest:List Stmt} {t u:TS} {e:Expr} {te:TE} {pos:Pos}
def tNext:TS:=fun D σ H=>D.nx σ H
def tSeq (t u:TS):TS:=fun D σ H=>t { D with nx:=u D } σ H
theorem qBv:PSs X [] tNext:=fun _ _ σ H _ I h=>wpAny_execs_nil ⟨σ,H,I,h⟩
theorem qA7 (h1:PS X st t) (h2:PSs X rest u):PSs X (st::rest) (tSeq t u):=by
 intro pins s σ H D I h
 refine wpAny_execs_cons (thn (h1 pins s σ H { D with nx:=u D } I h) fun f s1 q => ?_)
 cases f with
 | next =>
  obtain⟨σ',H',I',q⟩:=q
  exact h2 pins s1 σ' H' D I' q
 | ret v=>exact q
 | brk=>exact q
 | cont=>exact q
theorem qA9 (h1:PS X st t):PSs X [st] t:=by
 intro pins s σ H D I h
 refine wpAny_execs_cons (thn (h1 pins s σ H D I h) fun f s1 q => ?_)
 cases f with
 | next=>exact wpAny_execs_nil q
 | ret v=>exact q
 | brk=>exact q
 | cont=>exact q
theorem Inv.quiet {pins:List (Addr×Obj)} {σ : St} {H:Hp} {s:Shared} (I:Inv X pins σ H s):interactive X.env=false:=by simp [interactive,I.ok.kind]
def tDrop (te:TE):TS:=fun D σ H=>te σ H fun _ H1=>D.nx σ H1
theorem qBw (he:PE X e te) (hs:swapsWith e none pos.line X.env=pure false:=by rfl):PS X (.Expr e pos) (tDrop te):=by
 intro pins s σ H D I h
 refine wpAny_Expr_any (thn (he pins s σ H _ I h) fun v s1 hq_ => ?_) I.quiet hs
 obtain⟨x,H1,I1,r1,q1⟩:=hq_
 exact⟨σ,H1,I1,q1⟩
def tRet (te:TE):TS:=fun D σ H=>te σ H D.rt
theorem qAw (he:PE X e te):PS X (.Return (some e) pos) (tRet te):=by
 intro pins s σ H D I h
 refine wpAny_Return_some (thn (he pins s σ H _ I h) fun v s1 hq_ => ?_)
 obtain⟨x,H1,I1,r1,q1⟩:=hq_
 exact⟨x,σ,H1,I1,r1,q1⟩
def tIfS (c:TT) (t u:TS):TS:=fun D σ H=>c σ H fun b H1=>if b=true then t D σ H1 else u D σ H1
theorem qDl {c:Expr} {a b:List Stmt} {tc:TT} (hc:PT X c tc) (ha:PSs X a t) (hb:PSs X b u):PS X (.If c a b pos) (tIfS tc t u):=by
 intro pins s σ H D I h
 refine wpAny_If (thn (hc pins s σ H _ I h) fun d s1 hq_ => ?_)
 obtain⟨H1,I1,q1⟩:=hq_
 cases d with
 | true=>exact ha pins s1 σ H1 D I1 q1
 | false=>exact hb pins s1 σ H1 D I1 q1
end
abbrev TG:=V->St->Hp->(St->Hp->Prop)->Prop
abbrev TGs:=List V->St->Hp->(St->Hp->Prop)->Prop
def PG (X:Cx) (target:Expr) (t:TG):Prop :=
 ∀(pins:List (Addr×Obj)) (s:Shared) (σ : St) (H:Hp) (v:V) (u:Value) (Q:St->Hp->Prop),Inv X pins σ H s->RelV v u->t v σ H Q ->
  wpAny (model X.prog X.w) X.A (assign target X.env u) (fun _ s' => ∃ σ' H',Inv X pins σ' H' s'/\Q σ' H') X.xe s
def PGs (X:Cx) (ts:List Expr) (t:TGs):Prop :=
 ∀(pins:List (Addr×Obj)) (s:Shared) (σ : St) (H:Hp) (vs:List V) (us:List Value) (Q:St->Hp->Prop),Inv X pins σ H s->Vals vs us->t vs σ H Q ->
  wpAny (model X.prog X.w) X.A (assignInOrder ((assignEach ts X.env).map (·.2)) us) (fun _ s' => ∃ σ' H',Inv X pins σ' H' s'/\Q σ' H') X.xe s
abbrev TSet:=V->V->V->Hp->(Hp->Prop)->Prop
def PSet (X:Cx) (t:TSet):Prop :=
 ∀(pins:List (Addr×Obj)) (s:Shared) (σ : St) (H:Hp) (o i v:V) (ov iv u:Value) (Q:Hp->Prop),Inv X pins σ H s->RelV o ov->RelV i iv->RelV v u->t o i v H Q ->
  wpAny (model X.prog X.w) X.A (setItem ov iv u) (fun _ s' => ∃H',Inv X pins σ H' s'/\Q H') X.xe s
section
variable {X:Cx} {pos:Pos}
def gName (i:Nat):TG:=fun v σ H Q=>Q (σ.set i (some v)) H
theorem qAa {i:Nat} {x:Str} (hN:X.N.Nodup) (hi:X.N[i]? = some x) (hx:Loc X.env.scope x) (hf:X.fn x=true\/X.env.scope.names.lookup x=some .local:=by first | exact .inl rfl | exact .inr rfl | assumption):PG X (.Name x pos) (gName i):=by
 intro pins s σ H v u Q I r h
 exact wpAny_assign_Name (qFc I hN hi hx r (fun s' I'=>⟨_,H,I',h⟩) hf)
def gNil:TGs:=fun vs σ H Q=>vs = []/\Q σ H
def gCons (t:TG) (u:TGs):TGs:=fun vs σ H Q => ∃v r,vs=v::r/\t v σ H fun σ' H'=>u r σ' H' Q
theorem qC1:PGs X [] gNil:=by
 intro pins s σ H vs us Q I r h
 obtain⟨e,h⟩:=h
 subst e
 cases r
 exact assignInOrder_nil ⟨σ,H,I,h⟩
theorem qAp {e:Expr} {es:List Expr} {t:TG} {u:TGs} (h1:PG X e t) (h2:PGs X es u)
  (hs:(assignEach (e::es) X.env).map (·.2)=assign e X.env::(assignEach es X.env).map (·.2):=by rfl):PGs X (e::es) (gCons t u):=by
 intro pins s σ H vs us Q I r h
 obtain⟨v,vr,e1,h⟩:=h
 subst e1
 cases r with
 | cons r rr =>
  rw [hs]
  refine assignInOrder_cons (thn (h1 pins s σ H _ _ _ I r h) fun _ s1 hq_ => ?_)
  obtain⟨σ1,H1,I1,q1⟩:=hq_
  exact h2 pins s1 σ1 H1 _ _ Q I1 rr q1
def gTup (K:PySem.W.Frag) (n:Nat) (t:TGs):TG:=fun v σ H Q => ∃a xs,v = .ref a/\SqT K H a xs/\xs.length=n/\t xs σ H Q
theorem qF2 {es:List Expr} {k:Nat} {t:TGs} {n:Nat} (hc:X.calm=true) (h:PGs X es t)
  (hn:(assignEach es X.env).length=n:=by rfl) (hst:(assignEach es X.env).findIdx? (·.1)=none:=by rfl):PG X (.Tuple es k pos) (gTup X.K n t):=by
 intro pins s σ H v u Q I r hw
 obtain⟨a,xs,e1,hq,hl,hw⟩:=hw
 subst e1
 cases r
 obtain⟨its,rv,ht,hz⟩:=I.tuple hq
 refine assign_Tuple_tuple (I.ok.hd hc) ht (by simp [hn,<-hl,rv.length]) hst fun h' hx => ?_
 have I1:Inv X pins σ H { s with heap:=h' }:=I.kept (t':=s.toks) fun b o e=>hx b o (Nat.ne_of_lt (Heap.lt_size e)) e
 exact h pins _ σ H xs _ Q I1 (by simpa using rv) hw
def gSub (to ti:TE) (t:TSet):TG:=fun v σ H Q=>to σ H fun o H1=>ti σ H1 fun i H2=>t o i v H2 fun H3=>Q σ H3
theorem qRp {o i:Expr} {to ti:TE} {t:TSet} (ho:PE X o to) (hi:PE X i ti) (hs:PSet X t)
  (ha : ∀v,assign (.Subscript o i pos) X.env v=(do
   let ov <-holding [v] (eval o X.env)
   let iv <-holding [v,ov] (eval i X.env)
   standAt pos
   holding [v,ov,iv] (setItem ov iv v)
   release [v,ov,iv] []):=by intro _;rfl):PG X (.Subscript o i pos) (gSub to ti t):=by
 intro pins s σ H v u Q I r h
 rw [ha]
 refine wpAny_bind (wpAny_holding (thn (ho pins s σ H _ I h) fun ov s1 hq_ => ?_))
 obtain⟨x,H1,I1,r1,q1⟩:=hq_
 refine wpAny_bind (wpAny_holding (thn (hi pins s1 σ H1 _ I1 q1) fun iv s2 hq_ => ?_))
 obtain⟨y,H2,I2,r2,q2⟩:=hq_
 refine wpAny_bind (wpAny_standAt (wpAny_bind (wpAny_holding (thn (hs pins s2 σ H2 x y v ov iv u _ I2 r1 r2 r q2) fun _ s3 hq_ => ?_))))
 obtain⟨H3,I3,q3⟩:=hq_
 exact wpAny_release ⟨σ,H3,I3,q3⟩
def tAsg (te:TE) (g:TG):TS:=fun D σ H=>te σ H fun x H1=>g x σ H1 D.nx
theorem qIs {tg e:Expr} {te:TE} {g:TG} (he:PE X e te) (hg:PG X tg g) (hs:swapsWithSole [tg] e pos.line X.env=pure false:=by rfl) (hw:swappedStores [tg] e X.env=pure none:=by rfl)
  (h1:(assignEach [tg] X.env).map (·.2) = [assign tg X.env]:=by rfl):PS X (.Assign [tg] e pos) (tAsg te g):=by
 intro pins s σ H D I h
 refine wpAny_Assign_stores (thn (he pins s σ H _ I h) fun v s1 hq_ => ?_) hs hw
 obtain⟨x,H1,I1,r1,q1⟩:=hq_
 rw [h1]
 exact thn (hg pins s1 σ H1 x v _ I1 r1 q1) fun _ s2 q=>q
theorem qAn {i:Nat} {x:Str} {e:Expr} {te:TE} {pos':Pos} (hN:X.N.Nodup) (hi:X.N[i]? = some x) (hx:Loc X.env.scope x) (he:PE X e te) (hs:swapsWith e (some (.Name x pos')) pos.line X.env=pure false:=by rfl) (hf:X.fn x=true\/X.env.scope.names.lookup x=some .local:=by first | exact .inl rfl | exact .inr rfl | assumption) :
  PS X (.Assign [.Name x pos'] e pos) (tAsg te (gName i)):=by
 intro pins s σ H D I h
 refine wpAny_Assign_Name (thn (he pins s σ H _ I h) fun v s1 hq_ => ?_) hs
 obtain⟨y,H1,I1,r1,q1⟩:=hq_
 exact qFc I1 hN hi hx r1 (fun s2 I2=>⟨_,H1,I2,q1⟩) hf
def tPar (i j:Nat) (ta:TA):TS:=fun D σ H=>ta σ H fun vs H1 => ∃v w,vs = [v,w]/\D.nx ((σ.set i (some v)).set j (some w)) H1
theorem qIr {i j:Nat} {x y:Str} {a b:Expr} {ta:TA} {px py pt:Pos} {kt k2 pt2} (hc:X.calm=true) (hN:X.N.Nodup) (hi:X.N[i]? = some x) (hj:X.N[j]? = some y) (hij:i≠j)
  (hx:X.env.scope.names.lookup x=some .local) (hy:X.env.scope.names.lookup y=some .local) (ha:PA X [a,b] ta)
  (hw:swappedStores [.Tuple [.Name x px,.Name y py] kt pt] (.Tuple [a,b] k2 pt2) X.env=pure (some [x,y]))
  (hs:swapsWithSole [.Tuple [.Name x px,.Name y py] kt pt] (.Tuple [a,b] k2 pt2) pos.line X.env=pure false:=by rfl) :
  PS X (.Assign [.Tuple [.Name x px,.Name y py] kt pt] (.Tuple [a,b] k2 pt2) pos) (tPar i j ta):=by
 intro pins s σ H D I h
 rw [exec_Assign_arm]
 refine wpAny_bind (wpAny_standAt ?_)
 rw [hs]
 refine wpAny_bind (wpAny_pure ?_)
 rw [if_neg (by decide)]
 refine wpAny_bind (Tuple_ (thn (ha _ pins s σ H _ I h) fun us s1 hq_ => ?_))
 obtain⟨vs,H1,I1,r1,q1⟩:=hq_
 obtain⟨v,w,e1,q1⟩:=q1
 subst e1
 obtain⟨u1,u2,rfl,rv,rw'⟩ : ∃u1 u2,us = [u1,u2]/\RelV v u1/\RelV w u2:=by
  cases r1 with
  | cons p q =>
   cases q with
   | cons p' q' =>
    cases q'
    exact⟨_,_,rfl,p,p'⟩
 refine wpAny_newObj_type ?_ (by show 2<=sizeLine;decide)
 have I2:Inv X pins σ H1 { s1 with heap:=s1.heap.push { cls :=.type "tuple",data :=.seq [u1,u2].toArray } }:=I1.kept (t':=s1.toks) fun b o e=>Heap.get?_push_of_some _ e
 rw [hw]
 refine wpAny_bind (wpAny_pure ?_)
 show wpAny (model X.prog X.w) X.A (do rule "assign.swapped-stores";let items <-unpackItems (.ref s1.heap.objs.size) 2 none;assignInOrder [fun v=>bindName X.env y v,fun v=>bindName X.env x v] items.reverse;pure Flow.next) _ _ _
 refine wpAny_bind (wpAny_rule (wpAny_bind (unpackItems_tuple (items := #[u1,u2]) (I.ok.hd hc) (IsTup.new s1.heap _) fun h' hx' => ?_)))
 have I3:=I2.kept (h':=h') (t':=s1.toks) fun b o e=>hx' b o (Nat.ne_of_lt (Heap.lt_size e)) e
 show wpAny _ _ (assignInOrder [fun v=>bindName X.env y v,fun v=>bindName X.env x v] [u2,u1] >>= fun _=>pure Flow.next) _ _ _
 refine wpAny_bind (assignInOrder_cons (wpAny_bindName (qFc I3 hN hj (.inl hy) rw' (fun s2 I4 => ?_) (.inr hy))))
 refine assignInOrder_cons (wpAny_bindName (qFc I4 hN hi (.inl hx) rv (fun s3 I5=>assignInOrder_nil (wpAny_pure ?_)) (.inr hx)))
 rw [List.set_comm _ _ (Ne.symm hij)] at I5
 exact⟨_,H1,I5,q1⟩
end
section
variable {X:Cx} {pos:Pos}
def qU0 (c:TT) (tb:TS):TS:=fun D σ H => ∃W:Nat->St->Hp->Prop,(∃m,W m σ H) /\ ∀m σ H,W m σ H ->
 c σ H fun b H1=>if b=true then ∃N:St->Hp->Prop,(∀ σ' H',N σ' H' -> ∃m',m'<m/\W m' σ' H')/\tb { D with nx:=N,ct:=N,bk:=D.nx } σ H1 else D.nx σ H1
theorem qL1 {c:Expr} {body:List Stmt} {tc:TT} {tb:TS} (hp:PassesOwn (model X.prog X.w) X.A X.env X.xe) (hc:PT X c tc) (hb:PSs X body tb):PS X (.While c body [] pos) (qU0 tc tb):=by
 intro pins s σ H D I h
 obtain⟨W,⟨m0,w0⟩,turn⟩:=h
 refine wpAny_While (codeAny_whileLoop (fun n s' => ∃ σ' H',Inv X pins σ' H' s'/\W n σ' H') ?_ m0 ⟨σ,H,I,w0⟩)
 rintro n s1 ⟨σ1,H1,I1,w1⟩
 refine wpAny_passesOwn hp (thn (hc pins s1 σ1 H1 _ I1 (turn n σ1 H1 w1)) fun b s2 hq_ => ?_)
 obtain⟨H2,I2,q2⟩:=hq_
 cases b with
 | true =>
  obtain⟨N,hN,q2⟩:=q2
  rw [if_pos rfl]
  refine wpAny_passesOwn hp (thn (hb pins s2 σ1 H2 _ I2 q2) fun f s3 q3 => ?_)
  cases f with
  | next =>
   obtain⟨σ3,H3,I3,n3⟩:=q3
   obtain⟨m',hm,w3⟩:=hN σ3 H3 n3
   exact⟨m',hm,σ3,H3,I3,w3⟩
  | cont =>
   obtain⟨σ3,H3,I3,n3⟩:=q3
   obtain⟨m',hm,w3⟩:=hN σ3 H3 n3
   exact⟨m',hm,σ3,H3,I3,w3⟩
  | brk=>exact q3
  | ret v=>exact q3
 | false =>
  rw [if_neg Bool.false_ne_true]
  exact wpAny_execs_nil ⟨σ1,H2,I2,q2⟩
end
structure It where
 go:Nat->Hp->Prop
 yld:Nat->Hp->V->Hp->Prop
 stop:Nat->Hp->Prop
def FpOk (X:Cx) (pins:List (Addr×Obj)) (H:Hp) (b:Addr):Prop :=
 H b=none/\b≠X.env.locals/\b∉X.fs/\(b∈X.ex\/X.s₀.heap.objs.size<=b)/\(∀x c,X.env.cells.lookup x=some c->c≠b) /\ ∀p∈X.pn++pins,p.1≠b
theorem Inv.fpOk {X:Cx} {pins:List (Addr×Obj)} {σ : St} {H H':Hp} {s:Shared} {b:Addr} (I:Inv X pins σ H s) (hb:s.heap.objs.size<=b) (hn:H' b=none):FpOk X pins H' b:=by
 refine⟨hn,Nat.ne_of_gt (Nat.lt_of_lt_of_le I.lt hb),I.nofs hb,.inr (Nat.le_trans I.sz hb),fun x c e z => ?_,fun p hp z => ?_⟩
 ·obtain⟨v,q⟩:=I.cell x c e
  exact absurd (Nat.lt_of_lt_of_le q.lt (by rw [z];exact hb)) (Nat.lt_irrefl _)
 ·exact absurd (Nat.lt_of_lt_of_le (Heap.lt_size (I.pin p hp).1) (by rw [z];exact hb)) (Nat.lt_irrefl _)
structure Turn (P:Program) (w:World) (K:PySem.W.Frag) (tg:Expr) (J:It) (fp:List Addr) (it:Addr) (tn:Nat->Heap->Prop):Prop where
 mem:it∈fp
 obj : ∀i h,tn i h -> ∀b∈fp,∃o,h.get? b=some o /\ ∀v,o.data ≠ .cell v
 keep : ∀i h h',tn i h->(∀b∈fp,∀o,h.get? b=some o->h'.get? b=some o)->tn i h'
 item : ∀(X:Cx),X.prog=P->X.w=w->X.K=K->X.calm=true -> ∀(i:Nat) (pins:List (Addr×Obj)) (s:Shared) (σ : St) (H:Hp) (E:Value->Shared->Prop),Inv X pins σ H s->(∀b∈fp,FpOk X pins H b)->tn i s.heap->J.go i H ->
  wpAny (model P w) X.A (pyNext (.ref it)) (fun r s1 => ∃u,r=some u /\
   wpAny (model P w) X.A (letOwnedTupleGo tg (.ref it) u) (fun _ s2 => ∃x H',Inv X pins σ H' s2/\RelV x u/\J.yld i H x H'/\tn (i+1) s2.heap /\ ∀b∈fp,H' b=none) E s1) E s
 done : ∀(X:Cx),X.prog=P->X.w=w->X.K=K->X.calm=true -> ∀(i:Nat) (pins:List (Addr×Obj)) (s:Shared) (σ : St) (H:Hp) (E:Value->Shared->Prop),Inv X pins σ H s->(∀b∈fp,FpOk X pins H b)->tn i s.heap->J.stop i H ->
  wpAny (model P w) X.A (pyNext (.ref it)) (fun r s1=>r=none/\Inv X pins σ H s1) E s
 self : ∀(A:Around) (i:Nat) (s:Shared) (Q:Value->Shared->Prop) (E:Value->Shared->Prop),tn i s.heap->Q (.ref it) s->wpAny (model P w) A (pyIter (.ref it)) Q E s
abbrev TI:=St->Hp->(It->Hp->Prop)->Prop
def PIE (X:Cx) (pins:List (Addr×Obj)) (σ : St) (tg:Expr) (R:It->Hp->Prop) (itv:Value) (s2:Shared):Prop :=
 ∃(it:Addr) (fp:List Addr) (tn:Nat->Heap->Prop) (J:It) (H':Hp),itv = .ref it/\Inv X pins σ H' s2/\Turn X.prog X.w X.K tg J fp it tn/\tn 0 s2.heap/\(∀b∈fp,FpOk X pins H' b)/\R J H'
def PI (X:Cx) (tg iter:Expr) (wi:TI):Prop :=
 ∀(pins:List (Addr×Obj)) (s:Shared) (σ : St) (H:Hp) (R:It->Hp->Prop),Inv X pins σ H s->wi σ H R ->
  wpAny (model X.prog X.w) X.A (eval iter X.env) (fun v s1=>wpAny (model X.prog X.w) X.A (pyIter v) (PIE X pins σ tg R) X.xe s1) X.xe s
theorem qR1 {M:Model} {A:Around} {E:Value->Shared->Prop} {s:Shared} {tg:Expr} {it:Addr} {u:Value} {o:Obj} {n:String} {vs:Array Value} {Q:Unit->Shared->Prop} (ho:s.heap.get? it=some o) (hc:o.cls = .type n) (hd:o.data = .fields vs)
  (hn : ["enumerate","zip","dict_itemiterator","dict_reverseitemiterator","odict_iterator","itertools.zip_longest","itertools.pairwise"].contains n=false) (hQ:Q () s):wpAny M A (letOwnedTupleGo tg (.ref it) u) Q E s:=by
 unfold letOwnedTupleGo
 cases tg <;> first
  | exact wpAny_pure hQ
  | (cases u <;> first
    | exact wpAny_pure hQ
    | (refine wpAny_bind (wpAny_load ho ?_)
       rw [hc,hd]
       show wpAny M A (if (["enumerate","zip","dict_itemiterator","dict_reverseitemiterator","odict_iterator","itertools.zip_longest","itertools.pairwise"].contains n&&vs[0]? == some (rawInt _))=true then _ else _) Q E s
       rw [if_neg (by intro h;rw [hn,Bool.false_and] at h;cases h)]
       exact wpAny_pure hQ))
def Itl (K:PySem.W.Frag) (a:Addr):It :=
 ⟨fun i H => ∃xs x,SqL K H a xs/\xs[i]? = some x,fun i H x H'=>H'=H /\ ∀xs,SqL K H a xs->xs[i]? = some x,fun i H => ∃xs,SqL K H a xs/\xs.length<=i⟩
def Itt (K:PySem.W.Frag) (a:Addr):It :=
 ⟨fun i H => ∃xs x,SqT K H a xs/\xs[i]? = some x,fun i H x H'=>H'=H /\ ∀xs,SqT K H a xs->xs[i]? = some x,fun i H => ∃xs,SqT K H a xs/\xs.length<=i⟩
def Itr (lo:Int) (n:Nat):It:=⟨fun i _=>i<n,fun i H x H'=>H'=H/\x = .int (lo+i),fun i _=>n<=i⟩
theorem qN4 {P:Program} {w:World} {K:PySem.W.Frag} {tg:Expr} (a it:Addr):Turn P w K tg (Itl K a) [it] it (fun i h=>h.IsListIter it a i) where
 mem:=by simp
 obj:=fun i h st b hb=>by
  have e:b=it:=by simpa using hb
  subst e
  obtain⟨o,e,c,d⟩:=st
  exact⟨o,e,fun v z=>by rw [d] at z;cases z⟩
 keep:=fun i h h' st k=>st.at fun o e=>k it (by simp) o e
 item:=by
  intro X hP hw hK hc i pins s σ H E I hf st hg
  subst hP hw hK
  obtain⟨xs,x,hq,hx⟩:=hg
  obtain⟨its,rv,p,hz⟩:=I.list hq
  obtain⟨u,hu,ru⟩:=rv.get hx
  obtain⟨f0,f1,f2,f3,f4,f5⟩:=hf it (by simp)
  refine wpAny_pyNext_list_item st p.isList (x:=u) (by simpa using hu) fun h' st' sb => ?_
  have I1:Inv X pins σ H { s with heap:=h' }:=I.turned (t':=s.toks) (fun b o hb e=>(sb.2 b hb).trans e) f0 f1 f3 f4 f5
  obtain⟨o,e,c,d⟩:=id st'
  exact⟨u,rfl,qR1 (s :={ s with heap:=h' }) e c d (by decide) ⟨x,H,I1,ru,⟨rfl,fun ys hy=>by rw [I.list_inj hy hq];exact hx⟩,st',fun b hb=>(hf b hb).1⟩⟩
 done:=by
  intro X hP hw hK hc i pins s σ H E I hf st hg
  subst hP hw hK
  obtain⟨xs,hq,hx⟩:=hg
  obtain⟨its,rv,p,hz⟩:=I.list hq
  obtain⟨f0,f1,f2,f3,f4,f5⟩:=hf it (by simp)
  have hl:=rv.length
  exact wpAny_pyNext_list_end (I.ok.hd hc) st p.isList (by simp;omega) fun h' eb=>⟨rfl,I.turned (t':=s.toks) (fun b o hb e=>eb b o hb e) f0 f1 f3 f4 f5⟩
 self:=fun _ _ _ _ _ st h=>wpAny_pyIter_listiter st h
theorem qLw {P:Program} {w:World} {K:PySem.W.Frag} {tg:Expr} (a it:Addr):Turn P w K tg (Itt K a) [it] it (fun i h=>h.IsTupleIter it a i) where
 mem:=by simp
 obj:=fun i h st b hb=>by
  have e:b=it:=by simpa using hb
  subst e
  obtain⟨o,e,c,d⟩:=st
  exact⟨o,e,fun v z=>by rw [d] at z;cases z⟩
 keep:=fun i h h' st k=>st.at fun o e=>k it (by simp) o e
 item:=by
  intro X hP hw hK hc i pins s σ H E I hf st hg
  subst hP hw hK
  obtain⟨xs,x,hq,hx⟩:=hg
  obtain⟨its,rv,p,hz⟩:=I.tuple hq
  obtain⟨u,hu,ru⟩:=rv.get hx
  obtain⟨f0,f1,f2,f3,f4,f5⟩:=hf it (by simp)
  refine wpAny_pyNext_tuple_item st (show s.heap.IsTuple a its.toArray from p) (x:=u) (by simpa using hu) fun h' st' sb => ?_
  have I1:Inv X pins σ H { s with heap:=h' }:=I.turned (t':=s.toks) (fun b o hb e=>(sb.2 b hb).trans e) f0 f1 f3 f4 f5
  obtain⟨o,e,c,d⟩:=id st'
  exact⟨u,rfl,qR1 (s :={ s with heap:=h' }) e c d (by decide) ⟨x,H,I1,ru,⟨rfl,fun ys hy=>by rw [I.tuple_inj hy hq];exact hx⟩,st',fun b hb=>(hf b hb).1⟩⟩
 done:=by
  intro X hP hw hK hc i pins s σ H E I hf st hg
  subst hP hw hK
  obtain⟨xs,hq,hx⟩:=hg
  obtain⟨its,rv,p,hz⟩:=I.tuple hq
  obtain⟨f0,f1,f2,f3,f4,f5⟩:=hf it (by simp)
  have hl:=rv.length
  exact wpAny_pyNext_tuple_end (I.ok.hd hc) st (show s.heap.IsTuple a its.toArray from p) (by simp;omega) fun h' eb=>⟨rfl,I.turned (t':=s.toks) (fun b o hb e=>eb b o hb e) f0 f1 f3 f4 f5⟩
 self:=fun _ _ _ _ _ st h=>wpAny_pyIter_tupleiter st h
theorem qLx {P:Program} {w:World} {K:PySem.W.Frag} {tg:Expr} (it:Addr) (lo:Int) (n:Nat):Turn P w K tg (Itr lo n) [it] it (fun i h=>IsRangeIter h it (lo+(i:Nat)*1) ((n:Int) - (i:Nat)) 1) where
 mem:=by simp
 obj:=fun i h st b hb=>by
  have e:b=it:=by simpa using hb
  subst e
  exact⟨_,st,fun v z=>by
   have z':Data.fields _=Data.cell v:=z
   cases z'⟩
 keep:=fun i h h' st k=>k it (by simp) _ st
 item:=by
  intro X hP hw hK hc i pins s σ H E I hf st hg
  subst hP hw hK
  obtain⟨f0,f1,f2,f3,f4,f5⟩:=hf it (by simp)
  have W:=Walks.range (prog:=X.prog) (w:=X.w) (I.ok.hd hc) it lo 1 n
  refine W.item i s _ _ hg st fun v h' tk hv st' kk => ?_
  obtain⟨t,rfl⟩:=hv
  have I1:Inv X pins σ H { s with heap:=h',toks:=tk }:=I.turned (fun b o hb e=>kk b o (by simpa using hb) e) f0 f1 f3 f4 f5
  refine⟨_,rfl,qR1 (s :={ s with heap:=h',toks:=tk }) (n := "range_iterator") st' rfl rfl (by decide) ⟨.int (lo+i),H,I1,⟨t,?_⟩,⟨rfl,rfl⟩,st',fun b hb=>(hf b hb).1⟩⟩
  rw [Int.mul_one]
 done:=by
  intro X hP hw hK hc i pins s σ H E I hf st hg
  subst hP hw hK
  obtain⟨f0,f1,f2,f3,f4,f5⟩:=hf it (by simp)
  exact wpAny_pyNext_range_end (I.ok.hd hc) st (by have:n<=i:=hg;omega) fun h' eb=>⟨rfl,I.turned (t':=s.toks) (fun b o hb e=>eb b o hb e) f0 f1 f3 f4 f5⟩
 self:=fun _ _ _ _ _ st h=>wpAny_pyIter_rangeiter st h
section
variable {X:Cx} {tg:Expr}
def iList (K:PySem.W.Frag) (tl:TE):TI:=fun σ H R=>tl σ H fun x H1 => ∃a,x = .ref a/\(∃xs,SqL K H1 a xs)/\R (Itl K a) H1
def iTup (K:PySem.W.Frag) (tl:TE):TI:=fun σ H R=>tl σ H fun x H1 => ∃a,x = .ref a/\(∃xs,SqT K H1 a xs)/\R (Itt K a) H1
theorem qBd {l:Expr} {tl:TE} (hl:PE X l tl):PI X tg l (iList X.K tl):=by
 intro pins s σ H R I h
 refine thn (hl pins s σ H _ I h) fun v s1 hq_ => ?_
 obtain⟨x,H1,I1,r1,q1⟩:=hq_
 obtain⟨a,e,⟨xs,hq⟩,q⟩:=q1
 subst e
 cases r1
 obtain⟨its,rv,p,hz⟩:=I1.list hq
 refine wpAny_pyIter_list p.isList ?_
 refine⟨s1.heap.objs.size,[s1.heap.objs.size],_,_,H1,rfl,I1.kept (t':=s1.toks) fun b o e=>Heap.get?_push_of_some _ e,qN4 a _,⟨_,Heap.get?_push_size _ rfl,rfl,rfl⟩,fun b hb => ?_,q⟩
 have e:b=s1.heap.objs.size:=by simpa using hb
 subst e
 exact I1.fpOk (Nat.le_refl _) (I1.hok.fresh (Nat.le_refl _))
theorem qRo {l:Expr} {tl:TE} (hl:PE X l tl):PI X tg l (iTup X.K tl):=by
 intro pins s σ H R I h
 refine thn (hl pins s σ H _ I h) fun v s1 hq_ => ?_
 obtain⟨x,H1,I1,r1,q1⟩:=hq_
 obtain⟨a,e,⟨xs,hq⟩,q⟩:=q1
 subst e
 cases r1
 obtain⟨its,rv,p,hz⟩:=I1.tuple hq
 refine wpAny_pyIter_tuple (show s1.heap.IsTuple a its.toArray from p) ?_
 refine⟨s1.heap.objs.size,[s1.heap.objs.size],_,_,H1,rfl,I1.kept (t':=s1.toks) fun b o e=>Heap.get?_push_of_some _ e,qLw a _,⟨_,Heap.get?_push_size _ rfl,rfl,rfl⟩,fun b hb => ?_,q⟩
 have e:b=s1.heap.objs.size:=by simpa using hb
 subst e
 exact I1.fpOk (Nat.le_refl _) (I1.hok.fresh (Nat.le_refl _))
theorem qQ5 {pins:List (Addr×Obj)} {σ : St} {H:Hp} {s:Shared} {R:It->Hp->Prop} {E:Value->Shared->Prop} {lo hi:Int} {t u v:Tok} {tk:Nat} (I:Inv X pins σ H s) (h1 : -(2^62)<=lo) (h2:lo<2^62) (h3 : -(2^62)<=hi) (h4:hi<2^62)
  (q:R (Itr lo (hi - lo).toNat) H):wpAny (model X.prog X.w) X.A (pyIter (.ref s.heap.objs.size)) (PIE X pins σ tg R) E { s with heap:=s.heap.push { cls :=.type "range",data :=.fields #[.int lo t,.int hi u,.int 1 v] },toks:=tk }:=by
 refine wpAny_pyIter_range (IsRange.new ..) (small_one h1 h2 h3 h4) ?_
 have I1:Inv X pins σ H { s with heap:=s.heap.push { cls :=.type "range",data :=.fields #[.int lo t,.int hi u,.int 1 v] },toks:=tk }:=I.kept fun b o e=>Heap.get?_push_of_some _ e
 refine⟨(s.heap.push { cls :=.type "range",data :=.fields #[.int lo t,.int hi u,.int 1 v] }).objs.size,[(s.heap.push { cls :=.type "range",data :=.fields #[.int lo t,.int hi u,.int 1 v] }).objs.size],_,_,H,rfl,
  I1.kept (t':=tk) fun b o e=>Heap.get?_push_of_some _ e,qLx _ lo (hi - lo).toNat,?_,fun b hb => ?_,q⟩
 ·have e1:lo+((0:Nat):Int)*1=lo:=by simp
  have e2:(((hi - lo).toNat:Nat):Int) - ((0:Nat):Int)=Builtin.Range.rangeSize lo hi 1:=by rw [rangeSize_one];split <;> omega
  show IsRangeIter _ _ (lo+((0:Nat):Int)*1) ((((hi - lo).toNat:Nat):Int) - ((0:Nat):Int)) 1
  rw [e1,e2]
  exact Heap.get?_push_size _ rfl
 ·have e:b=(s.heap.push { cls :=.type "range",data :=.fields #[.int lo t,.int hi u,.int 1 v] }).objs.size:=by simpa using hb
  subst e
  exact I1.fpOk (Nat.le_refl _) (I1.hok.fresh (Nat.le_refl _))
def iRng1 (ta:TA):TI:=fun σ H R=>ta σ H fun vs H1 => ∃j:Int,vs = [.int j] /\ -(2^62)<=j/\j<2^62/\R (Itr 0 j.toNat) H1
theorem qBk {a:Expr} {ta:TA} {p pos:Pos} (hg:Gl X "range") (hm:X.mg "range" = none) (ha:PA X [a] ta) (hs:starEach [a] X.env = [(false,eval a X.env)]:=by rfl):PI X tg (.Call (.Name "range" p) [a] [] pos) (iRng1 ta):=by
 intro pins s σ H R I h
 refine Call_ (qLf I hg hm boot_range (PyProof.Rows.callWith_type1 (thn (ha pos pins s σ H _ I h) fun us s1 hq_ => ?_) hs rfl))
 obtain⟨vs,H1,I1,r1,q1⟩:=hq_
 obtain⟨j,e,q1,q2,q⟩:=q1
 subst e
 cases r1 with
 | cons r rr =>
  cases rr
  obtain⟨t,rfl⟩:=r
  exact call_range_1 (qQ5 I1 (by omega) (by omega) q1 q2 (by simpa using q))
def tFor (wi:TI) (g:TG) (tb:TS):TS:=fun D σ H=>wi σ H fun J H1 => ∃W:Nat->Nat->St->Hp->Prop,(∃m,W 0 m σ H1) /\ ∀i m σ H,W i m σ H ->
 (J.stop i H/\D.nx σ H)\/(J.go i H /\ ∃N:St->Hp->Prop,(∀ σ' H',N σ' H' -> ∃m',m'<m/\W (i+1) m' σ' H') /\ ∀x H',J.yld i H x H'->g x σ H' fun σ2 H2=>tb { D with nx:=N,ct:=N,bk:=D.nx } σ2 H2)
def qIt (fp:List Addr) (h:Heap):List (Addr×Obj):=fp.filterMap fun b=>(h.get? b).map fun o=>(b,o)
theorem qD8 {fp:List Addr} {h:Heap} {b:Addr} {o:Obj} (hb:b∈fp) (e:h.get? b=some o):(b,o)∈qIt fp h:=List.mem_filterMap.mpr ⟨b,hb,by rw [e];rfl⟩
theorem qOg {fp:List Addr} {h:Heap} {p:Addr×Obj} (hp:p∈qIt fp h):p.1∈fp/\h.get? p.1=some p.2:=by
 obtain⟨b,hb,e⟩:=List.mem_filterMap.mp hp
 cases q:h.get? b with
 | none=>rw [q] at e;cases e
 | some o =>
  rw [q] at e
  have e':(b,o)=p:=Option.some.inj e
  subst e'
  exact⟨hb,q⟩
theorem Inv.pinned {pins:List (Addr×Obj)} {σ : St} {H:Hp} {s:Shared} {fp:List Addr} (I:Inv X pins σ H s) (hf : ∀b∈fp,FpOk X pins H b) (ho : ∀b∈fp,∃o,s.heap.get? b=some o /\ ∀v,o.data ≠ .cell v):Inv X (pins++qIt fp s.heap) σ H s :=
 I.pins_of fun p hp=>(List.mem_append.mp hp).elim (fun z=>I.pin p (List.mem_append_right _ z)) fun z=>by
  obtain⟨hb,e⟩:=qOg z
  obtain⟨f0,f1,f2,_⟩:=hf p.1 hb
  obtain⟨o,e',d⟩:=ho p.1 hb
  rw [e] at e';cases e'
  exact⟨e,f0,f1,f2,d⟩
theorem Inv.unpinned {pins pl:List (Addr×Obj)} {σ : St} {H:Hp} {s:Shared} (I:Inv X (pins++pl) σ H s):Inv X pins σ H s:=I.pins_of fun p hp=>I.pin p (List.mem_append_right _ (List.mem_append_left _ hp))
theorem qC3 {iter:Expr} {body:List Stmt} {wi:TI} {g:TG} {tb:TS} {pos:Pos} (hp:PassesOwn (model X.prog X.w) X.A X.env X.xe) (hc:X.calm=true) (hi:PI X tg iter wi) (hg:PG X tg g) (hb:PSs X body tb)
  (hs : ∀x,foldedSetIterable iter X.env x=pure x:=by intro _;rfl):PS X (.For tg iter body [] pos) (tFor wi g tb):=by
 intro pins s σ H D I h
 refine wpAny_For (thn (hi pins s σ H _ I h) fun v s1 h1=>thn h1 fun itv s2 h2 => ?_) hs
 obtain⟨it,fp,tn,J,H2,e,I2,T,st2,f2,W,⟨m0,w0⟩,turn⟩:=h2
 subst e
 have stat : ∀ {H':Hp},(∀b∈fp,H' b=none) -> ∀b∈fp,FpOk X pins H' b:=fun hn b hb=>⟨hn b hb,(f2 b hb).2⟩
 refine codeAny_forLoop_any (fun n s' => ∃i σ' H',Inv X pins σ' H' s'/\tn i s'.heap/\(∀b∈fp,H' b=none)/\W i n σ' H') ?_ m0 ⟨0,σ,H2,I2,st2,fun b hb=>(f2 b hb).1,w0⟩
 rintro n s3 ⟨i,σ3,H3,I3,st3,fr3,w3⟩
 rcases turn i n σ3 H3 w3 with ⟨stop,qn⟩ | ⟨go,N,hN,step⟩
 ·refine wpAny_passesOwn hp (thn (T.done X rfl rfl rfl hc i pins s3 σ3 H3 X.xe I3 (stat fr3) st3 stop) fun r s4 hq_ => ?_)
  obtain⟨hr,I4⟩:=hq_
  subst hr
  exact wpAny_execs_nil ⟨σ3,H3,I4,qn⟩
 ·refine wpAny_passesOwn hp (thn (T.item X rfl rfl rfl hc i pins s3 σ3 H3 X.xe I3 (stat fr3) st3 go) fun r s4 hq_ => ?_)
  obtain⟨u,hr,h4⟩:=hq_
  subst hr
  refine wpAny_passesOwn hp (thn h4 fun _ s5 hq_ => ?_)
  obtain⟨x,H5,I5,r5,y5,st5,fr5⟩:=hq_
  have I5':=I5.pinned (stat fr5) (T.obj _ _ st5)
  refine wpAny_passesOwn hp (thn (hg _ s5 σ3 H5 x u _ I5' r5 (step x H5 y5)) fun _ s6 hq_ => ?_)
  obtain⟨σ6,H6,I6,q6⟩:=hq_
  refine wpAny_passesOwn hp (thn (hb _ s6 σ6 H6 _ I6 q6) fun f s7 q7 => ?_)
  have again : ∀ {σ7:St} {H7:Hp},Inv X (pins++qIt fp s5.heap) σ7 H7 s7->N σ7 H7 -> ∃m,m<n /\ ∃i σ' H',Inv X pins σ' H' s7/\tn i s7.heap/\(∀b∈fp,H' b=none)/\W i m σ' H':=fun {σ7 H7} I7 n7=>by
   obtain⟨m',hm,w7⟩:=hN σ7 H7 n7
   refine⟨m',hm,i+1,σ7,H7,I7.unpinned,T.keep _ _ _ st5 fun b hb o e=>(I7.pin (b,o) (List.mem_append_right _ (List.mem_append_right _ (qD8 hb e)))).1,fun b hb => ?_,w7⟩
   obtain⟨o,e,d⟩:=T.obj _ _ st5 b hb
   exact (I7.pin (b,o) (List.mem_append_right _ (List.mem_append_right _ (qD8 hb e)))).2.1
  cases f with
  | next=>obtain⟨σ7,H7,I7,n7⟩:=q7;exact again I7 n7
  | cont=>obtain⟨σ7,H7,I7,n7⟩:=q7;exact again I7 n7
  | brk=>obtain⟨σ7,H7,I7,q7⟩:=q7;exact⟨σ7,H7,I7.unpinned,q7⟩
  | ret v=>obtain⟨x7,σ7,H7,I7,r7,q7⟩:=q7;exact⟨x7,σ7,H7,I7.unpinned,r7,q7⟩
end
theorem qR2 {K:PySem.W.Frag} {a:Addr} {xs:List V} {g:TG} {tb:TS} {D:Ends} {σ : St} {H:Hp} (Pv:Nat->St->Hp->Prop) (h0:Pv 0 σ H) (hl : ∀i σ H,i<=xs.length->Pv i σ H->SqL K H a xs)
  (hs : ∀i x σ H,xs[i]? = some x->Pv i σ H->g x σ H fun σ2 H2=>tb { D with nx:=Pv (i+1),ct:=Pv (i+1),bk:=D.nx } σ2 H2) (hd : ∀ σ H,Pv xs.length σ H->D.nx σ H) :
  ∃W:Nat->Nat->St->Hp->Prop,(∃m,W 0 m σ H) /\ ∀i m σ H,W i m σ H ->
   ((Itl K a).stop i H/\D.nx σ H)\/((Itl K a).go i H /\ ∃N:St->Hp->Prop,(∀ σ' H',N σ' H' -> ∃m',m'<m/\W (i+1) m' σ' H') /\ ∀x H',(Itl K a).yld i H x H'->g x σ H' fun σ2 H2=>tb { D with nx:=N,ct:=N,bk:=D.nx } σ2 H2):=by
 refine⟨fun i m σ H=>m=xs.length - i/\i<=xs.length/\Pv i σ H,⟨xs.length,by simp,Nat.zero_le _,h0⟩,?_⟩
 rintro i m σ H ⟨rfl,hi,p⟩
 have q:=hl i σ H hi p
 by_cases hlt:i<xs.length
 ·refine .inr ⟨⟨xs,xs[i],q,by simp [hlt]⟩,Pv (i+1),fun σ' H' p'=>⟨xs.length - (i+1),by omega,rfl,hlt,p'⟩,fun x H' y => ?_⟩
  obtain⟨e,y⟩:=y
  subst e
  exact hs i x σ _ (y xs q) p
 ·have e:i=xs.length:=by omega
  subst e
  exact .inl ⟨⟨xs,q,Nat.le_refl _⟩,hd σ H p⟩
theorem qOx {lo:Int} {n:Nat} {g:TG} {tb:TS} {D:Ends} {σ : St} {H:Hp} (Pv:Nat->St->Hp->Prop) (h0:Pv 0 σ H)
  (hs : ∀i σ H,i<n->Pv i σ H->g (.int (lo+i)) σ H fun σ2 H2=>tb { D with nx:=Pv (i+1),ct:=Pv (i+1),bk:=D.nx } σ2 H2) (hd : ∀ σ H,Pv n σ H->D.nx σ H) :
  ∃W:Nat->Nat->St->Hp->Prop,(∃m,W 0 m σ H) /\ ∀i m σ H,W i m σ H ->
   ((Itr lo n).stop i H/\D.nx σ H)\/((Itr lo n).go i H /\ ∃N:St->Hp->Prop,(∀ σ' H',N σ' H' -> ∃m',m'<m/\W (i+1) m' σ' H') /\ ∀x H',(Itr lo n).yld i H x H'->g x σ H' fun σ2 H2=>tb { D with nx:=N,ct:=N,bk:=D.nx } σ2 H2):=by
 refine⟨fun i m σ H=>m=n - i/\i<=n/\Pv i σ H,⟨n,by simp,Nat.zero_le _,h0⟩,?_⟩
 rintro i m σ H ⟨rfl,hi,p⟩
 by_cases hlt:i<n
 ·refine .inr ⟨hlt,Pv (i+1),fun σ' H' p'=>⟨n - (i+1),by omega,rfl,hlt,p'⟩,fun x H' y => ?_⟩
  obtain⟨e,y⟩:=y
  subst e y
  exact hs i σ _ hlt p
 ·have e:i=n:=by omega
  subst e
  exact .inl ⟨Nat.le_refl _,hd σ H p⟩
abbrev R2:=V->V->Hp->VK->Prop
def OpR (X:Cx) (f:Value->Value->Sem Value) (r:R2):Prop :=
 ∀(pins:List (Addr×Obj)) (s:Shared) (σ : St) (H:Hp) (x y:V) (v u:Value) (Q:VK),Inv X pins σ H s->RelV x v->RelV y u->r x y H Q ->
  wpAny (model X.prog X.w) X.A (f v u) (EP X pins σ Q) X.xe s
def UnR (X:Cx) (f:Value->Sem Value) (r:V->Hp->VK->Prop):Prop :=
 ∀(pins:List (Addr×Obj)) (s:Shared) (σ : St) (H:Hp) (x:V) (v:Value) (Q:VK),Inv X pins σ H s->RelV x v->r x H Q ->
  wpAny (model X.prog X.w) X.A (f v) (EP X pins σ Q) X.xe s
def CallR (X:Cx) (f:Value) (r:List V->Hp->VK->Prop):Prop :=
 ∀(pins:List (Addr×Obj)) (s:Shared) (σ : St) (H:Hp) (xs:List V) (us:List Value) (Q:VK),Inv X pins σ H s->Vals xs us->r xs H Q ->
  wpAny (model X.prog X.w) X.A (call f us) (EP X pins σ Q) X.xe s
def TruR (X:Cx) (r:V->Hp->(Bool->Hp->Prop)->Prop):Prop :=
 ∀(pins:List (Addr×Obj)) (s:Shared) (σ : St) (H:Hp) (x:V) (v:Value) (Q:Bool->Hp->Prop),Inv X pins σ H s->RelV x v->r x H Q ->
  wpAny (model X.prog X.w) X.A (truthy v) (TP X pins σ Q) X.xe s
def tOp (r:R2) (ta tb:TE):TE:=fun σ H Q=>ta σ H fun x H1=>tb σ H1 fun y H2=>r x y H2 Q
def tUn (r:V->Hp->VK->Prop) (ta:TE):TE:=fun σ H Q=>ta σ H fun x H1=>r x H1 Q
def rI (C:Int->Int->Prop) (g:Int->Int->V):R2:=fun x y H Q => ∃i j,x = .int i/\y = .int j/\C i j/\Q (g i j) H
def rI0 (g:Int->Int->V):R2:=fun x y H Q => ∃i j,x = .int i/\y = .int j/\Q (g i j) H
def rU (g:Int->V):V->Hp->VK->Prop:=fun x H Q => ∃i,x = .int i/\Q (g i) H
section
variable {X:Cx} {a b c:Expr} {ta tb tc:TE} {pos:Pos}
theorem binT (ha:PE X a ta) (hb:PE X b tb) {pins:List (Addr×Obj)} {s:Shared} {σ : St} {H:Hp} {R:V->V->Hp->Prop} (I:Inv X pins σ H s)
  (h:ta σ H fun x H1=>tb σ H1 fun y H2=>R x y H2) {Q:Value->Shared->Prop} {f:Value->Value->Sem Value}
  (hf : ∀v u s2 x y H2,Inv X pins σ H2 s2->RelV x v->RelV y u->R x y H2->wpAny (model X.prog X.w) X.A (f v u) Q X.xe s2) :
  wpAny (model X.prog X.w) X.A (eval a X.env) (fun v s₁ =>wpAny (model X.prog X.w) X.A (eval b X.env) (fun u s₂ =>wpAny (model X.prog X.w) X.A (f v u) Q X.xe s₂) X.xe s₁) X.xe s:=by
 refine thn (ha pins s σ H _ I h) fun v s1 hq_ => ?_
 obtain⟨x,H1,I1,r1,q1⟩:=hq_
 refine thn (hb pins s1 σ H1 _ I1 q1) fun u s2 hq_ => ?_
 obtain⟨y,H2,I2,r2,q2⟩:=hq_
 exact hf v u s2 x y H2 I2 r1 r2 q2
theorem qAq {op:Operator} {r:R2} (ho:OpR X (binaryOp op) r) (ha:PE X a ta) (hb:PE X b tb):PE X (.BinOp a op b pos) (tOp r ta tb):=by
 intro pins s σ H Q I h
 exact wpAny_BinOp (binT ha hb I h fun v u s2 x y H2 I2 rx ry q=>ho pins s2 σ H2 x y v u Q I2 rx ry q)
theorem qSs {op:UnaryOp} {r:V->Hp->VK->Prop} (ho:UnR X (unaryOp op) r) (ha:PE X a ta):PE X (.UnaryOp op a pos) (tUn r ta):=by
 intro pins s σ H Q I h
 refine UnaryOp_ (thn (ha pins s σ H _ I h) fun v s1 hq_ => ?_)
 obtain⟨x,H1,I1,r1,q1⟩:=hq_
 exact ho pins s1 σ H1 x v Q I1 r1 q1
theorem opI {f:Value->Value->Sem Value} {C:Int->Int->Prop} {g:Int->Int->Int}
  (rule : ∀(i j:Int) (t u:Tok) (s:Shared) (Q:Value->Shared->Prop) (E:Value->Shared->Prop),C i j->Q (.int (g i j) s.toks) { s with toks:=s.toks+1 }->wpAny (model X.prog X.w) X.A (f (.int i t) (.int j u)) Q E s) :
  OpR X f (rI C fun i j =>.int (g i j)):=by
 intro pins s σ H x y v u Q I rx ry h
 obtain⟨i,j,rfl,rfl,hc,q⟩:=h
 obtain⟨t,rfl⟩:=rx
 obtain⟨t',rfl⟩:=ry
 exact rule i j t t' s _ _ hc ⟨.int (g i j),H,I.tok _,⟨_,rfl⟩,q⟩
theorem opI0 {f:Value->Value->Sem Value} {g:Int->Int->Int}
  (rule : ∀(i j:Int) (t u:Tok) (s:Shared) (Q:Value->Shared->Prop) (E:Value->Shared->Prop),Q (.int (g i j) s.toks) { s with toks:=s.toks+1 }->wpAny (model X.prog X.w) X.A (f (.int i t) (.int j u)) Q E s) :
  OpR X f (rI0 fun i j =>.int (g i j)):=by
 intro pins s σ H x y v u Q I rx ry h
 obtain⟨i,j,rfl,rfl,q⟩:=h
 obtain⟨t,rfl⟩:=rx
 obtain⟨t',rfl⟩:=ry
 exact rule i j t t' s _ _ ⟨.int (g i j),H,I.tok _,⟨_,rfl⟩,q⟩
theorem opB0 {f:Value->Value->Sem Value} {g:Int->Int->Bool}
  (rule : ∀(i j:Int) (t u:Tok) (s:Shared) (Q:Value->Shared->Prop) (E:Value->Shared->Prop),Q (.bool (g i j)) s->wpAny (model X.prog X.w) X.A (f (.int i t) (.int j u)) Q E s) :
  OpR X f (rI0 fun i j =>.bl (g i j)):=by
 intro pins s σ H x y v u Q I rx ry h
 obtain⟨i,j,rfl,rfl,q⟩:=h
 obtain⟨t,rfl⟩:=rx
 obtain⟨t',rfl⟩:=ry
 exact rule i j t t' s _ _ ⟨.bl (g i j),H,I,rfl,q⟩
def CDiv (i j:Int):Prop:=0<j/\j<1073741824
def CPow (i j:Int):Prop:=0<=j/\j<=1000000/\i.natAbs<2^64
def CMul (i j:Int):Prop:=(-(2^64)<i/\i<2^64)\/(-(2^64)<j/\j<2^64)
theorem CMul.ok {i j:Int} (h:CMul i j):IntMulOk i j:=by
 rcases h with ⟨h1,h2⟩ | ⟨h1,h2⟩
 ·exact .of_left (intBits_le_64 h1 h2)
 ·exact .of_right (intBits_le_64 h1 h2)
theorem qBa:OpR X (binaryOp .Add) (rI0 fun i j =>.int (i+j)):=opI0 fun _ _ _ _ _ _ _ q=>add_int q
theorem qO7:OpR X (binaryOp .Sub) (rI0 fun i j =>.int (i - j)):=opI0 fun _ _ _ _ _ _ _ q=>sub_int q
theorem qIz:OpR X (binaryOp .Mult) (rI CMul fun i j =>.int (i*j)):=opI fun _ _ _ _ _ _ _ hc q=>mul_int q hc.ok
theorem qO9:OpR X (binaryOp .FloorDiv) (rI CDiv fun i j =>.int (i / j)):=opI fun i j _ _ _ _ _ hc q=>by
 have h1:(0:Int)<j:=hc.1
 have h2:j<1073741824:=hc.2
 exact floordiv_int (by omega) (by rw [Int.fdiv_eq_ediv_of_nonneg i (by omega)];exact q) (.inl (PyProof.noPylong_small (by omega)))
theorem qE7:OpR X (binaryOp .Mod) (rI (fun _ j=>0<j) fun i j =>.int (i%j)):=opI fun i j _ _ _ _ _ hc q=>by
 have h1:(0:Int)<j:=hc
 exact mod_int' (by omega) (by rw [Int.fmod_eq_emod_of_nonneg i (by omega)];exact q)
theorem qIx:OpR X (binaryOp .Pow) (rI CPow fun i j =>.int (i^j.toNat)):=opI fun _ _ _ _ _ _ _ hc q=>pow_int_small hc.1 hc.2.1 hc.2.2 q
theorem unI {f:Value->Sem Value} {g:Int->Int}
  (rule : ∀(i:Int) (t:Tok) (s:Shared) (Q:Value->Shared->Prop) (E:Value->Shared->Prop),Q (.int (g i) s.toks) { s with toks:=s.toks+1 }->wpAny (model X.prog X.w) X.A (f (.int i t)) Q E s) :
  UnR X f (rU fun i =>.int (g i)):=by
 intro pins s σ H x v Q I rx h
 obtain⟨i,rfl,q⟩:=h
 obtain⟨t,rfl⟩:=rx
 exact rule i t s _ _ ⟨.int (g i),H,I.tok _,⟨_,rfl⟩,q⟩
theorem qN3:UnR X (unaryOp .USub) (rU fun i =>.int (-i)):=unI fun _ _ _ _ _ q=>neg_int q
end
def scal:V->V->Bool
 | .non,.non=>true | .non,.int _=>true | .int _,.non=>true | .non,.bl _=>true | .bl _,.non=>true | .non,.str _=>true | .str _,.non=>true
 | .int _,.int _=>true | .bl _,.bl _=>true | .str _,.str _=>true | .byt _,.byt _=>true
 | .int _,.str _=>true | .str _,.int _=>true | .bl _,.str _=>true | .str _,.bl _=>true
 | _,_=>false
def rEq:R2:=fun x y H Q=>scal x y=true/\Q (.bl (decide (x=y))) H
def rNe:R2:=fun x y H Q=>scal x y=true/\Q (.bl (!decide (x=y))) H
theorem qPb {i j:Int}:decide (V.int i=V.int j)=(i == j):=by
 rw [Bool.eq_iff_iff]
 simp
theorem qS1 {i j:Bool}:decide (V.bl i=V.bl j)=(i == j):=by
 rw [Bool.eq_iff_iff]
 simp
theorem qPa {i j:Str}:decide (V.str i=V.str j)=(i == j):=by
 rw [Bool.eq_iff_iff]
 simp
theorem qPc {i j:Array UInt8}:decide (V.byt i=V.byt j)=(i.toList == j.toList):=by
 rw [Bool.eq_iff_iff]
 cases i
 cases j
 simp
section
variable {X:Cx} {a b c:Expr} {ta tb tc:TE} {pos:Pos}
theorem qAy {pins:List (Addr×Obj)} {σ : St} {H:Hp} {s:Shared} {Q:VK} {k k':Bool} (I:Inv X pins σ H s) (q:Q (.bl k) H) (e:k=k'):EP X pins σ Q (.bool k') s:=by
 subst e
 exact⟨.bl k,H,I,rfl,q⟩
theorem qC9:OpR X (compareOp .Eq) rEq:=by
 intro pins s σ H x y v u Q I rx ry h
 obtain⟨hs,q⟩:=h
 cases x with
 | non =>
  cases rx
  cases y with
  | non=>cases ry;exact PySem.EqNone.eq_none_none (qAy I q (by simp))
  | bl j=>cases ry;exact PySem.EqNone.eq_none_bool (qAy I q (by simp))
  | int j=>obtain⟨t',rfl⟩:=ry;exact PySem.EqNone.eq_none_int (qAy I q (by simp))
  | str j=>obtain⟨t',rfl⟩:=ry;exact PySem.EqNone.eq_none_str (qAy I q (by simp))
  | _=>exact absurd (show false=true from hs) Bool.false_ne_true
 | bl i =>
  cases rx
  cases y with
  | non=>cases ry;exact PySem.EqNone.eq_bool_none (qAy I q (by simp))
  | bl j=>cases ry;exact eq_bool (qAy I q qS1)
  | str j=>obtain⟨t',rfl⟩:=ry;exact PySem.EqMixed.eq_bool_str (qAy I q (by simp))
  | _=>exact absurd (show false=true from hs) Bool.false_ne_true
 | int i =>
  obtain⟨t,rfl⟩:=rx
  cases y with
  | non=>cases ry;exact PySem.EqNone.eq_int_none (qAy I q (by simp))
  | int j=>obtain⟨t',rfl⟩:=ry;exact eq_int (qAy I q qPb)
  | str j=>obtain⟨t',rfl⟩:=ry;exact PySem.EqMixed.eq_int_str (qAy I q (by simp))
  | _=>exact absurd (show false=true from hs) Bool.false_ne_true
 | str i =>
  obtain⟨t,rfl⟩:=rx
  cases y with
  | non=>cases ry;exact PySem.EqNone.eq_str_none (qAy I q (by simp))
  | bl j=>cases ry;exact PySem.EqMixed.eq_str_bool (qAy I q (by simp))
  | int j=>obtain⟨t',rfl⟩:=ry;exact PySem.EqMixed.eq_str_int (qAy I q (by simp))
  | str j=>obtain⟨t',rfl⟩:=ry;exact eq_str (qAy I q qPa)
  | _=>exact absurd (show false=true from hs) Bool.false_ne_true
 | byt i =>
  obtain⟨t,rfl⟩:=rx
  cases y with
  | byt j=>obtain⟨t',rfl⟩:=ry;exact PySem.W.eq_bytes (qAy I q qPc)
  | _=>exact absurd (show false=true from hs) Bool.false_ne_true
 | _=>cases y <;> exact absurd (show false=true from hs) Bool.false_ne_true
theorem qSx:OpR X (compareOp .NotEq) rNe:=by
 intro pins s σ H x y v u Q I rx ry h
 obtain⟨hs,q⟩:=h
 cases x with
 | non =>
  cases rx
  cases y with
  | non=>cases ry;exact PySem.EqNone.ne_none_none (qAy I q (by simp))
  | bl j=>cases ry;exact PySem.EqNone.ne_none_bool (qAy I q (by simp))
  | int j=>obtain⟨t',rfl⟩:=ry;exact PySem.EqNone.ne_none_int (qAy I q (by simp))
  | str j=>obtain⟨t',rfl⟩:=ry;exact PySem.EqNone.ne_none_str (qAy I q (by simp))
  | _=>exact absurd (show false=true from hs) Bool.false_ne_true
 | bl i =>
  cases rx
  cases y with
  | non=>cases ry;exact PySem.EqNone.ne_bool_none (qAy I q (by simp))
  | bl j=>cases ry;exact ne_bool (qAy I q (congrArg not qS1))
  | str j=>obtain⟨t',rfl⟩:=ry;exact PySem.EqMixed.ne_bool_str (qAy I q (by simp))
  | _=>exact absurd (show false=true from hs) Bool.false_ne_true
 | int i =>
  obtain⟨t,rfl⟩:=rx
  cases y with
  | non=>cases ry;exact PySem.EqNone.ne_int_none (qAy I q (by simp))
  | int j=>obtain⟨t',rfl⟩:=ry;exact ne_int (qAy I q (congrArg not qPb))
  | str j=>obtain⟨t',rfl⟩:=ry;exact PySem.EqMixed.ne_int_str (qAy I q (by simp))
  | _=>exact absurd (show false=true from hs) Bool.false_ne_true
 | str i =>
  obtain⟨t,rfl⟩:=rx
  cases y with
  | non=>cases ry;exact PySem.EqNone.ne_str_none (qAy I q (by simp))
  | bl j=>cases ry;exact PySem.EqMixed.ne_str_bool (qAy I q (by simp))
  | int j=>obtain⟨t',rfl⟩:=ry;exact PySem.EqMixed.ne_str_int (qAy I q (by simp))
  | str j=>obtain⟨t',rfl⟩:=ry;exact ne_str (qAy I q (congrArg not qPa))
  | _=>exact absurd (show false=true from hs) Bool.false_ne_true
 | byt i =>
  obtain⟨t,rfl⟩:=rx
  cases y with
  | byt j=>obtain⟨t',rfl⟩:=ry;exact PySem.W.ne_bytes (qAy I q (congrArg not qPc))
  | _=>exact absurd (show false=true from hs) Bool.false_ne_true
 | _=>cases y <;> exact absurd (show false=true from hs) Bool.false_ne_true
theorem qO8:OpR X (compareOp .Lt) (rI0 fun i j =>.bl (decide (i<j))):=opB0 fun _ _ _ _ _ _ _ q=>lt_int q
theorem qWb:OpR X (compareOp .LtE) (rI0 fun i j =>.bl (decide (i<=j))):=opB0 fun _ _ _ _ _ _ _ q=>le_int q
theorem qSy:OpR X (compareOp .Gt) (rI0 fun i j =>.bl (decide (j<i))):=opB0 fun _ _ _ _ _ _ _ q=>gt_int q
theorem qWc:OpR X (compareOp .GtE) (rI0 fun i j =>.bl (decide (j<=i))):=opB0 fun _ _ _ _ _ _ _ q=>ge_int q
theorem qSw:OpR X (compareOp .IsNot) (fun x y H Q=>y = .non/\Q (.bl (!decide (x = .non))) H):=by
 intro pins s σ H x y v u Q I rx ry h
 obtain⟨rfl,q⟩:=h
 cases ry
 refine isnot_none_gen (qAy I q ?_)
 cases x <;> first
  | (cases rx;rfl)
  | (obtain⟨t,rfl⟩:=rx;rfl)
theorem qAm (b:Expr) {op:CmpOp} (h:op ≠ .In:=by decide) (h2:op ≠ .NotIn:=by decide):behindInMarks op b=false:=by
 have e1:(op == CmpOp.In)=false:=by cases op <;> first | rfl | exact absurd rfl h
 have e2:(op == CmpOp.NotIn)=false:=by cases op <;> first | rfl | exact absurd rfl h2
 cases b <;> simp [behindInMarks,e1,e2]
theorem qBe {op:CmpOp} {r:R2} (ho:OpR X (compareOp op) r) (ha:PE X a ta) (hb:PE X b tb) (hm:behindInMarks op b=false):PE X (.Compare a [op] [b] pos) (tOp r ta tb):=by
 intro pins s σ H Q I h
 exact wpAny_Compare1 (binT ha hb I h fun v u s2 x y H2 I2 rx ry q=>ho pins s2 σ H2 x y v u Q I2 rx ry q) hm
def tTest (t:TE):TT:=fun σ H Q=>t σ H fun x H' => ∃k,x = .bl k/\Q k H'
theorem qAe {op:CmpOp} {r:R2} (ho:OpR X (compareOp op) r) (ha:PE X a ta) (hb:PE X b tb) (hm:behindInMarks op b=false):PT X (.Compare a [op] [b] pos) (tTest (tOp r ta tb)):=by
 intro pins s σ H Q I h
 refine wpAny_isTrue_Compare1 (thn (ha pins s σ H _ I h) fun v s1 hq_ => ?_) hm
 obtain⟨x,H1,I1,r1,q1⟩:=hq_
 refine thn (hb pins s1 σ H1 _ I1 q1) fun u s2 hq_ => ?_
 obtain⟨y,H2,I2,r2,q2⟩:=hq_
 refine thn (ho pins s2 σ H2 x y v u _ I2 r1 r2 q2) fun c s3 hq_ => ?_
 obtain⟨z,H3,I3,r3,k,e,q3⟩:=hq_
 subst e
 cases r3
 exact wpAny_truthy_bool ⟨H3,I3,q3⟩
def TruV (K:PySem.W.Frag) (x:V) (H:Hp) (k:Bool):Prop :=
 match x with
 | .non=>k=false
 | .bl b=>k=b
 | .int i=>k=(i != 0)
 | .str y=>y.length<=sizeLine/\k=((y.length:Int) != 0)
 | .byt y=>y.size<=sizeLine/\k=((y.size:Int) != 0)
 | .ref p=>(∃xs,SqL K H p xs/\k = !xs.isEmpty)\/(∃xs,SqT K H p xs/\k = !xs.isEmpty) \/ ∃kvs,H p=some (.dK kvs)/\k = !kvs.isEmpty
 | _=>False
theorem qMn {κ : Type} {kvs:List (κ × V)} {vs:List (κ × Value)} (r:KV kvs vs):(!vs.isEmpty) = !kvs.isEmpty:=by
 cases r <;> rfl
theorem qH7 {xs:List V} {its:List Value} (r:Vals xs its):(!its.toArray.isEmpty) = !xs.isEmpty:=by
 cases r <;> simp
theorem qJ6:(sizeLine:Nat)<2^63:=by rw [sizeLine_eq];decide
theorem qTz:TruR X (fun x H Q => ∃k,TruV X.K x H k/\Q k H):=by
 intro pins s σ H x v Q I rx h
 obtain⟨k,e,q⟩:=h
 have hl:=qJ6
 have hs:sizeLine=16777216:=sizeLine_eq
 cases x with
 | non =>
  cases rx
  have e':k=false:=e
  subst e'
  exact truthy_none ⟨H,I,q⟩
 | bl b =>
  cases rx
  have e':k=b:=e
  subst e'
  exact wpAny_truthy_bool ⟨H,I,q⟩
 | int i =>
  obtain⟨t,rfl⟩:=rx
  have e':k=(i != 0):=e
  subst e'
  exact PySem.P.truthy_int ⟨H,I,q⟩
 | str y =>
  obtain⟨t,rfl⟩:=rx
  obtain⟨hy,e'⟩:y.length<=sizeLine/\k=((y.length:Int) != 0):=e
  subst e'
  exact PySem.P.truthy_str (by omega) ⟨H,I.tok _,q⟩
 | byt y =>
  obtain⟨t,rfl⟩:=rx
  obtain⟨hy,e'⟩:y.size<=sizeLine/\k=((y.size:Int) != 0):=e
  subst e'
  exact PySem.W.truthy_bytes (by omega) ⟨H,I.tok _,q⟩
 | ref p =>
  cases rx
  have e':(∃xs,SqL X.K H p xs/\k = !xs.isEmpty)\/(∃xs,SqT X.K H p xs/\k = !xs.isEmpty) \/ ∃kvs,H p=some (.dK kvs)/\k = !kvs.isEmpty:=e
  rcases e' with ⟨xs,hx,e'⟩ | ⟨xs,hx,e'⟩ | ⟨kvs,hx,e'⟩
  ·subst e'
   obtain⟨its,r,pl,hz⟩:=I.list hx
   have hlen:=r.length
   exact wpAny_truthy_list pl.isList (by simp only [List.size_toArray];omega) ⟨H,I.tok _,by rw [qH7 r];exact q⟩
  ·subst e'
   obtain⟨its,r,pl,hz⟩:=I.tuple hx
   have hlen:=r.length
   exact truthy_tuple pl (by simp only [List.size_toArray];omega) ⟨H,I.tok _,by rw [qH7 r];exact q⟩
  ·subst e'
   obtain⟨hz,hS,vs,r,m⟩:kvs.length<=sizeLine/\(p == sysModules)=false /\ ∃vs,KV kvs vs/\s.heap.DictOf (qB7 X.prog X.w) p vs:=I.hok p _ hx
   have hlen:kvs.length=vs.length:=Paired.length r
   exact wpAny_truthy_dict hS m (by omega) ⟨H,I.tok _,by rw [qMn r];exact q⟩
 | _=>exact (show False from e).elim
theorem qQb (ha:PE X a ta) (he : ∀whole,isTrue a X.env whole=(do let v <-whole;standAt a.pos;holding [v] (truthy v))) :
  PT X a (fun σ H Q=>ta σ H fun x H' => ∃k,TruV X.K x H' k/\Q k H'):=by
 intro pins s σ H Q I h
 refine isTrue_plain (thn (ha pins s σ H _ I h) fun v s1 hq_ => ?_) (he _)
 obtain⟨x,H1,I1,r1,q1⟩:=hq_
 exact qTz pins s1 σ H1 x v Q I1 r1 q1
theorem vals1 {x:V} {us:List Value} (r:Vals [x] us) : ∃u,us = [u]/\RelV x u:=by
 cases r with
 | cons r1 r2=>cases r2;exact⟨_,rfl,r1⟩
theorem vals2 {x y:V} {us:List Value} (r:Vals [x,y] us) : ∃u w',us = [u,w']/\RelV x u/\RelV y w':=by
 cases r with
 | cons r1 r2 =>
  cases r2 with
  | cons r3 r4=>cases r4;exact⟨_,_,rfl,r1,r3⟩
theorem qLo:CallR X (.builtin "abs") (fun xs H Q => ∃i,xs = [.int i]/\Q (.int (if i<0 then -i else i)) H):=by
 intro pins s σ H xs us Q I r h
 obtain⟨i,rfl,q⟩:=h
 obtain⟨u,rfl,t,rfl⟩:=vals1 r
 exact call_abs_int fun u tk=>⟨.int (if i<0 then -i else i),H,I.tok _,⟨_,rfl⟩,q⟩
theorem qJn (hc:X.calm=true):CallR X (.builtin "max") (fun xs H Q => ∃i j,xs = [.int i,.int j]/\Q (.int (if j>i then j else i)) H):=by
 intro pins s σ H xs us Q I r h
 obtain⟨i,j,rfl,q⟩:=h
 obtain⟨u,w',rfl,⟨t,rfl⟩,⟨t',rfl⟩⟩:=vals2 r
 refine max_two_ints (I.ok.hd hc) fun h' tk k=>⟨_,H,I.kept k,?_,q⟩
 by_cases hj:j>i
 ·rw [if_pos hj,if_pos hj];exact⟨_,rfl⟩
 ·rw [if_neg hj,if_neg hj];exact⟨_,rfl⟩
theorem qPk (hc:X.calm=true):CallR X (.builtin "min") (fun xs H Q => ∃i j,xs = [.int i,.int j]/\Q (.int (if j<i then j else i)) H):=by
 intro pins s σ H xs us Q I r h
 obtain⟨i,j,rfl,q⟩:=h
 obtain⟨u,w',rfl,⟨t,rfl⟩,⟨t',rfl⟩⟩:=vals2 r
 refine min_two_ints (I.ok.hd hc) fun h' tk k=>⟨_,H,I.kept k,?_,q⟩
 by_cases hj:j<i
 ·rw [if_pos hj,if_pos hj];exact⟨_,rfl⟩
 ·rw [if_neg hj,if_neg hj];exact⟨_,rfl⟩
theorem qCc:CallR X (.type "int") (fun xs H Q=>(∃i,xs = [.int i]/\Q (.int i) H) \/ ∃k,xs = [.bl k]/\Q (.int (if k then 1 else 0)) H):=by
 intro pins s σ H xs us Q I r h
 rcases h with ⟨i,rfl,q⟩ | ⟨k,rfl,q⟩
 ·obtain⟨u,rfl,t,rfl⟩:=vals1 r
  exact call_int_int ⟨.int i,H,I,⟨_,rfl⟩,q⟩
 ·obtain⟨u,rfl,r1⟩:=vals1 r
  cases r1
  exact call_int_bool ⟨.int (if k then 1 else 0),H,I.tok _,⟨_,rfl⟩,q⟩
end
theorem RelO.some_of {v:V} {o:Option Value} (r:RelO (some v) o) : ∃u,o=some u/\RelV v u:=by
 cases o with
 | none=>exact (show False from r).elim
 | some u=>exact⟨u,rfl,r⟩
structure Room (k:Nat) (A:Around):Prop where
 hd:A.handled=none
 dp:A.depth+3*k+5<recursionLimit
 un:A.units+16*k+200<cLine
 gd:A.guards=some []:=by rfl
theorem Room.mono {j k:Nat} {A:Around} (r:Room k A) (h:j<=k):Room j A:=⟨r.hd,by have:=r.dp;omega,by have:=r.un;omega,r.gd⟩
theorem Room.deeper {k:Nat} {A:Around} (r:Room (k+1) A) (env:Env):Room k (A.deeper env) :=
 ⟨r.hd,by have:=r.dp;show A.depth+1+3*k+5<_;omega,by have:=r.un;show A.units+3+16*k+200<_;omega,r.gd⟩
theorem Room.depth {k:Nat} {A:Around} (r:Room k A):A.depth<recursionLimit:=by have:=r.dp;omega
theorem Room.units {k:Nat} {A:Around} (r:Room k A):A.units+64<cLine:=by have:=r.un;omega
def tNil:TA:=fun _ H Q=>Q [] H
def tCons (ta:TE) (tr:TA):TA:=fun σ H Q=>ta σ H fun x H1=>tr σ H1 fun xs H2=>Q (x::xs) H2
section
variable {X:Cx} {e:Expr} {es:List Expr} {te:TE} {t:TA} {pos:Pos}
theorem qA3:PA X [] tNil:=fun _ _ _ _ H Q I h=>Calls.spliced_nil ⟨[],H,I,.nil,h⟩
theorem qA0 (ha:PE X e te) (hr:PA X es t) (hs:starEach (e::es) X.env=(false,eval e X.env)::starEach es X.env:=by rfl):PA X (e::es) (tCons te t):=by
 intro pos pins s σ H Q I h
 rw [hs]
 show wpAny _ _ (spliced ((false,eval e X.env)::backTo pos (starEach es X.env))) _ _ s
 refine Calls.spliced_cons (thn (ha pins s σ H _ I h) fun u s1 hq_ => ?_)
 obtain⟨x,H1,I1,r1,q1⟩:=hq_
 refine thn (hr pos pins s1 σ H1 _ I1 q1) fun us s2 hq_ => ?_
 obtain⟨xs,H2,I2,r2,q2⟩:=hq_
 exact⟨x::xs,H2,I2,.cons r1 r2,q2⟩
def tTup (t:TA):TE:=fun σ H Q=>t σ H fun xs H1=>xs.length<=sizeLine /\ ∀p,H1 p=none->Q (.ref p) (upd H1 p (.tup xs))
def tLst (t:TA):TE:=fun σ H Q=>t σ H fun xs H1=>xs.length<=sizeLine /\ ∀p,H1 p=none->Q (.ref p) (upd H1 p (.lst xs))
theorem qB9 {x1} (h:PA X es t):PE X (.Tuple es x1 pos) (tTup t):=by
 intro pins s σ H Q I hq
 refine wpAny_Tuple_spliced (thn (h pos pins s σ H _ I hq) fun us s1 hq_ => ?_)
 obtain⟨xs,H1,I1,r,z,q⟩:=hq_
 refine⟨by rw [<-r.length];exact z,?_⟩
 have hf:H1 s1.heap.objs.size=none:=I1.hok.fresh (Nat.le_refl _)
 refine⟨.ref s1.heap.objs.size,upd H1 s1.heap.objs.size (.tup xs),I1.laid (t':=s1.toks) (fun b u e=>Heap.get?_push_of_some _ e) (Nat.le_refl _) ?_,rfl,q _ hf⟩
 exact⟨z,us,r,⟨_,Heap.get?_push_size _ rfl,rfl,_,rfl⟩⟩
theorem qAs (h:PA X es t):PE X (.List es pos) (tLst t):=by
 intro pins s σ H Q I hq
 refine wpAny_List_spliced (thn (h pos pins s σ H _ I hq) fun us s1 hq_ => ?_)
 obtain⟨xs,H1,I1,r,z,q⟩:=hq_
 refine⟨by rw [<-r.length];exact z,?_⟩
 have hf:H1 s1.heap.objs.size=none:=I1.hok.fresh (Nat.le_refl _)
 refine⟨.ref s1.heap.objs.size,upd H1 s1.heap.objs.size (.lst xs),I1.laid (t':=s1.toks) (fun b u e=>Heap.get?_push_of_some _ e) (Nat.le_refl _) ?_,rfl,q _ hf⟩
 exact⟨z,us,0,r,Heap.get?_push_size _ rfl⟩
end
abbrev Sp:=List V->Hp->VK->XK->Prop
abbrev CXT:=List Env->Hp->Shared->XK->Value->Shared->Prop
structure Env0 (P:Program) (w:World) (K:PySem.W.Frag) (mg:Str->Option Value) (base:Heap) (A:Around) (outer:List Env) (s:Shared) (H:Hp):Prop where
 frames:A.frames=some outer
 mod:Mod K mg base
 bs : ∀b o,base.get? b=some o->s.heap.get? b=some o/\H b=none
 bsz:base.objs.size<=s.heap.objs.size
 funs:s.heap.FunFrames base outer
 frf : ∀b∈frs outer,H b=none
 hok:HOk P w H s.heap
 bare:AllBare s.gens
def CE (outer:List Env) (P:Program) (w:World) (H:Hp) (s:Shared) (Q:VK) (u:Value) (s':Shared):Prop :=
 ∃v H',s'.os=s.os/\AllBare s'.gens/\Un (frs outer) [] H H' s.heap s'.heap/\HOk P w H' s'.heap/\RelV v u/\Q v H'
def CR (CX:CXT) (outer:List Env) (P:Program) (w:World) (H:Hp) (s:Shared) (Q:VK) (E:XK) (r:Result) (s':Shared):Prop :=
 match r with
 | .ok (.ret u)=>CE outer P w H s Q u s'
 | .ok _=>False
 | .error e=>CX outer H s E e s'
structure FnOk (P:Program) (w:World) (K:PySem.W.Frag) (mg:Str->Option Value) (base:Heap) (CX:CXT) (k:Nat) (f:Addr) (fd:FuncData) (ps:List Str) (sp:Sp):Prop where
 len : ∀vs H Q E,sp vs H Q E->vs.length=ps.length
 run : ∀(A:Around) (outer:List Env) (s:Shared) (H:Hp) (args:Args) (us:List Value) (vs:List V) (Q:VK) (E:XK),Room k A->Env0 P w K mg base A outer s H->BindsTo s fd args (ps.zip us)->Vals vs us->sp vs H Q E ->
  codeAny (model P w) A (.call (.ref f) args) (CR CX outer P w H s Q E) s
section
variable {X:Cx} {pins:List (Addr×Obj)} {σ : St} {H:Hp} {s s':Shared}
theorem Inv.env0 (I:Inv X pins σ H s):Env0 X.prog X.w X.K X.mg X.base X.A X.stack s H :=
 ⟨I.ok.frames,I.ok.mod,I.bs,Nat.le_trans I.ok.bsz I.sz,I.stack,I.stkFree,I.hok,I.bare⟩
theorem Inv.after {Q:VK} {u:Value} (I:Inv X pins σ H s) (h:CE X.stack X.prog X.w H s Q u s'):EP X pins σ Q u s':=by
 obtain⟨v,H',os,bare,un,hok,r,q⟩:=h
 obtain⟨hh,g,d,t,os'⟩:=s'
 obtain rfl:os'=s.os:=os
 exact⟨v,H',I.call (h':=hh) (g':=g) (d':=d) (t':=t) (ch :=[]) un hok bare (fun b z=>absurd z (by simp)),r,q⟩
end
def tCall (sp:Sp) (dvs:List V) (E:XK) (t:TA):TE:=fun σ H Q=>t σ H fun vs H1=>sp (vs++dvs) H1 Q E
def Binds (K:PySem.W.Frag) (fd:FuncData) (ps:List Str) (ds:List Value):Prop :=
 ∀(s:Shared) (us:List Value),K.In s.heap->(us++ds).length=ps.length->BindsTo s fd ⟨us,[]⟩ (ps.zip (us++ds))
theorem Binds.all {K:PySem.W.Frag} {fd:FuncData} {ps:List Str} (h : ∀us:List Value,us.length=ps.length->bindArgs fd ⟨us,[]⟩=pure (ps.zip us)):Binds K fd ps []:=fun s us _ hl=>by
 rw [List.append_nil] at hl ⊢
 exact .of_eq (h us hl)
def qPq (CX:CXT) (X:Cx) (E:XK):Prop := ∀(pins:List (Addr×Obj)) (σ : St) (H:Hp) (s:Shared) (e:Value) (s':Shared),Inv X pins σ H s->CX X.stack H s E e s'->X.xe e s'
section
variable {X:Cx} {CX:CXT} {k:Nat} {f C:Addr} {fd:FuncData} {ps:List Str} {sp:Sp} {dvs:List V} {ds:List Value} {E:XK} {x m:Str} {p pos apos:Pos} {e o:Expr} {es:List Expr} {ta:TE} {t:TA}
theorem qUa {pins:List (Addr×Obj)} {σ : St} {H:Hp} {s:Shared} {Q:VK} {us:List Value} {vs:List V} (F:FnOk X.prog X.w X.K X.mg X.base CX k f fd ps sp) (hr:Room k X.A) (hb:Binds X.K fd ps ds) (hd:Vals dvs ds) (hx:qPq CX X E)
  (I:Inv X pins σ H s) (r:Vals vs us) (h:sp (vs++dvs) H Q E):wpAny (model X.prog X.w) X.A (call (.ref f) us) (EP X pins σ Q) X.xe s:=by
 have r2:Vals (vs++dvs) (us++ds):=r.append hd
 have hl:(us++ds).length=ps.length:=by rw [<-r2.length];exact F.len _ _ _ _ h
 refine wpAny_call (codeAny_mono (F.run X.A X.stack s H ⟨us,[]⟩ (us++ds) (vs++dvs) Q E hr I.env0 (hb s us I.kIn hl) r2 h) fun r s' hq => ?_)
 cases r with
 | error e=>exact hx pins σ H s e s' I hq
 | ok fl =>
  cases fl with
  | ret u=>exact I.after hq
  | next=>exact False.elim hq
  | brk=>exact False.elim hq
  | cont=>exact False.elim hq
theorem qSt (F:FnOk X.prog X.w X.K X.mg X.base CX k f fd ps sp) (hr:Room k X.A) (hg:Gl X x) (hm:X.mg x=some (.ref f)) (hk:PySem.W.keepIn X.K (.ref f)=true) (hb:Binds X.K fd ps ds) (hd:Vals dvs ds) (hx:qPq CX X E)
  (ha:PA X (e::es) t) (hdb:(x == ("__debug__" : Str))=false:=by decide) (he:starEach (e::es) X.env=(false,eval e X.env)::starEach es X.env:=by rfl) (hpl:(backTo pos (starEach es X.env)).any (·.1)=false:=by rfl) :
  PE X (.Call (.Name x p) (e::es) [] pos) (tCall sp dvs E t):=by
 intro pins s σ H Q I h
 refine wpAny_Call_Name_kw (qTk I hg hm ?_ hdb)
 refine PySem.W.callWith_K (h₀ :=X.base) I.ok.mod.kin hk (thn (ha pos pins s σ H _ I h) fun us s1 hq_ => ?_) he hpl
 obtain⟨vs,H1,I1,r,q⟩:=hq_
 refine⟨I1.kIn,?_⟩
 exact qUa F hr hb hd hx I1 r q
end
section
variable {X:Cx} {CX:CXT} {k:Nat} {f C:Addr} {fd:FuncData} {ps ks:List Str} {sp:Sp} {E:XK} {x m:Str} {p pos apos kpos:Pos} {e o:Expr} {es:List Expr} {kws:List Keyword} {te ta:TE} {t tk:TA} {nm:Option Str}
variable {g:List Value->List Value->List Value} {gV:List V->List V->List V}
end
structure FnScope (N P:List Str) (sc:Scope):Prop where
 kind:sc.kind = .function
 co:sc.isCoroutine=false
 gen:sc.isGenerator=false
 nd:N.Nodup
 pre:N.take P.length=P
 par : ∀x∈P,sc.names.lookup x=some .local\/sc.names.lookup x=some .cell
 nofree : ∀y∈sc.names,y.2 ≠ .free
theorem qJr {kindOf:Str->Option NameKind} {x:Str} : ∀ {binds:List (Str×Value)} {m:Str->Option Value},(∀v,(x,v)∉binds)->bindL kindOf binds m x=m x
 | [],_,_=>rfl
 | (n,v)::r,m,h=>by
  unfold bindL
  rw [qJr fun w hw=>h w (List.mem_cons_of_mem _ hw)]
  split
  ·have:x≠n:=by rintro rfl;exact h v List.mem_cons_self
   simp [this]
  ·rfl
theorem qJt {kindOf:Str->Option NameKind} {x:Str} : ∀ {binds:List (Str×Value)} {m:Str->Option Value},(∀v,(x,v)∉binds)->bindC kindOf binds m x=m x
 | [],_,_=>rfl
 | (n,v)::r,m,h=>by
  unfold bindC
  rw [qJt fun w hw=>h w (List.mem_cons_of_mem _ hw)]
  split
  ·rfl
  ·have:x≠n:=by rintro rfl;exact h v List.mem_cons_self
   simp [this]
theorem qJs {kindOf:Str->Option NameKind} {x:Str} {v:Value} : ∀ {P:List Str} {vs:List Value} {i:Nat} {m:Str->Option Value},P.Nodup->P[i]? = some x->vs[i]? = some v->kindOf x=some .local ->
  bindL kindOf (P.zip vs) m x=some v
 | [],_,_,_,_,h,_,_=>by simp at h
 | _::_,[],_,_,_,_,h,_=>by simp at h
 | p::P,w::vs,0,m,nd,h1,h2,hk=>by
  simp at h1 h2;subst h1;subst h2
  show bindL kindOf ((p,w)::P.zip vs) m p=_
  unfold bindL
  rw [qJr fun v hv=>(List.nodup_cons.mp nd).1 (List.of_mem_zip hv).1,if_pos hk]
  simp
 | p::P,w::vs,i+1,m,nd,h1,h2,hk=>by
  show bindL kindOf ((p,w)::P.zip vs) m x=_
  unfold bindL
  exact qJs (i:=i) (List.nodup_cons.mp nd).2 (by simpa using h1) (by simpa using h2) hk
theorem qJu {kindOf:Str->Option NameKind} {x:Str} {v:Value} : ∀ {P:List Str} {vs:List Value} {i:Nat} {m:Str->Option Value},P.Nodup->P[i]? = some x->vs[i]? = some v->kindOf x≠some .local ->
  bindC kindOf (P.zip vs) m x=some v
 | [],_,_,_,_,h,_,_=>by simp at h
 | _::_,[],_,_,_,_,h,_=>by simp at h
 | p::P,w::vs,0,m,nd,h1,h2,hk=>by
  simp at h1 h2;subst h1;subst h2
  show bindC kindOf ((p,w)::P.zip vs) m p=_
  unfold bindC
  rw [qJt fun v hv=>(List.nodup_cons.mp nd).1 (List.of_mem_zip hv).1,if_neg hk]
  simp
 | p::P,w::vs,i+1,m,nd,h1,h2,hk=>by
  show bindC kindOf ((p,w)::P.zip vs) m x=_
  unfold bindC
  exact qJu (i:=i) (List.nodup_cons.mp nd).2 (by simpa using h1) (by simpa using h2) hk
def start (N:List Str) (vs:List V):St:=vs.map some++List.replicate (N.length - vs.length) none
def cxOf (CX:CXT) (P:Program) (w:World) (K:PySem.W.Frag) (mg:Str->Option Value) (base:Heap) (N:List Str) (qual:Str) (scope:Scope) (f:Addr) (cd:Value) (A:Around) (outer:List Env) (s:Shared) (H:Hp) (E:XK):Cx where
 prog:=P
 w:=w
 K:=K
 mg:=mg
 base:=base
 A:=A.deeper (envOfC qual scope s.heap.objs.size f cd)
 N:=N
 s₀ :=s
 H₀ :=H
 env:=envOfC qual scope s.heap.objs.size f cd
 outer:=outer
 stack:=envOfC qual scope s.heap.objs.size f cd::outer
 ex :=[]
 calm:=true
 fn:=fun _=>true
 pn :=[]
 xe:=fun e s'=>wpAny (model P w) (A.deeper (envOfC qual scope s.heap.objs.size f cd)) (leaving (envOfC qual scope s.heap.objs.size f cd) e) (fun _ s''=>CX outer H s E e s'') (fun e' s''=>CX outer H s E e' s'') s'
theorem qLn {sc:Scope} {n:Nat} {x:Str} (h:sc.names.lookup x=some .cell) : ∃c,(cellsFrom n sc.names []).lookup x=some c:=by
 have q:=PySem.W.cellsFrom_some sc.names n [] (.inl h)
 exact Option.isSome_iff_exists.mp q
theorem qOu {CX:CXT} {P:Program} {w:World} {K:PySem.W.Frag} {mg:Str->Option Value} {base:Heap} {N ps:List Str} {qual:Str} {scope:Scope} {f:Addr} {cd:Value} {A:Around} {outer:List Env} {s s1:Shared} {H:Hp} {E:XK} {us:List Value} {vs:List V}
  (S:FnScope N ps scope) (hd:A.handled=none) (e0:Env0 P w K mg base A outer s H) (hl:vs.length=ps.length) (r:Vals vs us)
  (x:InCallC s s.heap.objs.size (bindL (envOfC qual scope s.heap.objs.size f cd).kindOf (ps.zip us) fun _=>none) (cellsFrom (s.heap.objs.size+1) scope.names []) (bindC (envOfC qual scope s.heap.objs.size f cd).kindOf (ps.zip us) fun _=>none) s1) :
  Inv (cxOf CX P w K mg base N qual scope f cd A outer s H E) [] (start N vs) H s1:=by
 have hpl:ps.length<=N.length:=by have:=congrArg List.length S.pre;rw [List.length_take] at this;omega
 obtain⟨h1,tk,rfl,hk⟩:=x.done
 have noA : ∀b:Addr,b∉(cxOf CX P w K mg base N qual scope f cd A outer s H E).ex:=fun b z=>absurd (show b∈([]:List Addr) from z) (by simp)
 refine⟨⟨e0.mod,S.kind,rfl,rfl,Nat.le_refl _,fun y z c h1 h2 => ?_,fun y hy => ?_,fun y c _ h => ?_,fun _=>hd,Around.frames_deeper e0.frames,.inr ⟨rfl,rfl⟩,fun b z=>absurd z (noA b),e0.bs,e0.bsz,fun b _ _=>noA b,fun b z=>absurd z (noA b),e0.funs,e0.frf⟩,
  rfl,e0.bare,Un.kept hk,⟨_,x.toInCall.ns,fun i y v h1 h2 h3 => ?_⟩,fun y c h=>⟨_,x.cell y c h⟩,e0.hok.fresh (Nat.le_refl _),fun y c h => ?_,fun p hp=>absurd (show p∈([]:List (Addr×Obj)) from hp) (by simp),e0.hok.kept hk,?_⟩
 ·exact name_of_addr x.apart (PySem.mem_of_lookup h1) (PySem.mem_of_lookup h2)
 ·have hy:scope.names.lookup y=some .cell\/scope.names.lookup y=some .free:=hy
  rcases hy with hy | hy
  ·exact qLn hy
  ·exact absurd rfl (S.nofree _ (PySem.mem_of_lookup hy))
 ·exact Nat.le_of_lt (x.above y c (PySem.mem_of_lookup h))
 ·have hi:i<vs.length:=by
   unfold start at h2
   by_cases hi:i<vs.length
   ·exact hi
   ·rw [List.getElem?_append_right (by simpa using hi)] at h2
    rw [List.getElem?_replicate] at h2
    split at h2 <;> cases h2
  have ha:vs[i]? = some v:=by
   unfold start at h2
   rw [List.getElem?_append_left (by simpa using hi),List.getElem?_map] at h2
   cases e:vs[i]? with
   | none=>rw [e] at h2;cases h2
   | some a=>rw [e] at h2;cases h2;rfl
  obtain⟨u,hu,rv⟩:=r.get ha
  have hp:ps[i]? = some y:=by
   rw [<-S.pre,List.getElem?_take_of_lt (by omega)];exact h1
  have ndP:ps.Nodup:=by rw [<-S.pre];exact S.nd.sublist (List.take_sublist _ _)
  refine⟨u,rv,?_⟩
  rcases S.par y (List.mem_of_getElem? hp) with k | k
  ·exact .inl ⟨k,qJs ndP hp hu k⟩
  ·obtain⟨c,e⟩:=qLn (n:=s.heap.objs.size+1) k
   refine .inr ⟨.inl k,c,e,?_⟩
   have q:=x.cell y c e
   rw [qJu ndP hp hu (by show scope.names.lookup y≠_;rw [k];decide)] at q
   exact q
 ·exact e0.hok.fresh (Nat.le_of_lt (x.above y c (PySem.mem_of_lookup h)))
 ·unfold start
  show _=N.length
  rw [List.length_append,List.length_map,List.length_replicate]
  omega
theorem qWf {CX:CXT} {P:Program} {w:World} {K:PySem.W.Frag} {mg:Str->Option Value} {base:Heap} {k:Nat} {f:Addr} {name qual:Str} {params:Arguments} {body:List Stmt} {scope:Scope} {dV kV doc pm cdv ct oc:Value} {an od:Option Addr}
  {osl:Array (Option Value)} {N ps:List Str} {sp:Sp} (lk:K.lookup f=some ⟨oc,od,.func (PySem.W.fnOf name qual params body scope dV kV doc pm an cdv ct),osl⟩) (hcd:PySem.W.codeIn K cdv qual=true) (S:FnScope N ps scope)
  (len : ∀vs H Q E,sp vs H Q E->vs.length=ps.length)
  (hbody : ∀(A:Around) (outer:List Env) (s:Shared) (H:Hp) (vs:List V) (Q:VK) (E:XK),Room k (A.deeper (envOfC qual scope s.heap.objs.size f cdv))->sp vs H Q E ->
   ∃t,PSs (cxOf CX P w K mg base N qual scope f cdv A outer s H E) body t/\t { nx:=fun _ H'=>Q .non H',rt:=Q } (start N vs) H) :
  FnOk P w K mg base CX (k+1) f (PySem.W.fnOf name qual params body scope dV kV doc pm an cdv ct) ps sp:=by
 refine⟨len,fun A outer s H args us vs Q E hr e0 hb r hsp => ?_⟩
 have hl:=len _ _ _ _ hsp
 have KX:K.In s.heap:=e0.mod.kin.keeps fun b o e=>(e0.bs b o e).1
 have lim:s.heap.NoLimit:=e0.mod.nolimit.keeps fun b o e=>(e0.bs b o e).1
 have hkind : ∀y∈ps.zip us,scope.names.lookup y.1=some .local\/(scope.names.lookup y.1=some .cell/\((cellsFrom (s.heap.objs.size+1) scope.names []).lookup y.1).isSome=true):=fun ⟨n,v⟩ hy=>by
  rcases S.par n (List.of_mem_zip hy).1 with q | q
  ·exact .inl q
  ·exact .inr ⟨q,PySem.W.cellsFrom_some _ _ _ (.inl q)⟩
 refine codeAny_call_function hr.depth (KX _ _ lk) rfl S.co S.gen rfl (PySem.W.codeRec_of KX hcd) (hb _ _ _ _ ?_)
 refine wpAny_newFunctionEnv_cells S.kind hkind fun env he s1 x => ?_
 subst he
 refine⟨lim.keeps x.toInCall.keep,codeAny_func ?_⟩
 obtain⟨t,ht,hq⟩:=hbody A outer s H vs Q E (hr.deeper _) hsp
 have I:Inv (cxOf CX P w K mg base N qual scope f cdv A outer s H E) [] (start N vs) H s1:=qOu S hr.hd e0 hl r x
 refine wpAny_mono (ht [] s1 (start N vs) H _ I hq) (fun fl s' hs => ?_) fun e s' hs=>hs
 have fin : ∀ {σ':St} {H':Hp} {v:V} {u:Value},Inv (cxOf CX P w K mg base N qual scope f cdv A outer s H E) [] σ' H' s'->RelV v u->Q v H'->CE outer P w H s Q u s' :=
  fun {σ' H' v u} J rv q=>⟨v,H',J.os,J.bare,J.base,J.hok,rv,q⟩
 cases fl with
 | ret u =>
  obtain⟨v,σ',H',J,rv,q⟩:=hs
  exact fin J rv q
 | next =>
  obtain⟨σ',H',J,q⟩:=hs
  exact fin (v:=V.non) (u:=Value.none) J rfl q
 | brk =>
  obtain⟨_,_,_,q⟩:=hs
  exact False.elim q
 | cont =>
  obtain⟨_,_,_,q⟩:=hs
  exact False.elim q
section
variable {X:Cx} {x:Str} {p pos:Pos} {e:Expr} {es:List Expr} {t:TA} {id T:String} {r:List V->Hp->VK->Prop}
def tCB (r:List V->Hp->VK->Prop) (t:TA):TE:=fun σ H Q=>t σ H fun vs H1=>r vs H1 Q
theorem qAc (hc:CallR X (.builtin id) r) (hg:Gl X x) (hm:X.mg x=none) (hv:bootBuiltins x=some (.builtin id)) (ha:PA X (e::es) t) (hn:x ≠ "__name__" :=by decide) (hdb:(x == ("__debug__" : Str))=false:=by decide)
  (he:starEach (e::es) X.env=(false,eval e X.env)::starEach es X.env:=by rfl) (hpl:(backTo pos (starEach es X.env)).any (·.1)=false:=by rfl):PE X (.Call (.Name x p) (e::es) [] pos) (tCB r t):=by
 intro pins s σ H Q I h
 refine wpAny_Call_Name_kw (qLf I hg hm hv ?_ hn hdb)
 refine PyProof.Rows.callWith_builtin1 (thn (ha pos pins s σ H _ I h) fun us s1 hq_ => ?_) he hpl
 obtain⟨vs,H1,I1,r1,q1⟩:=hq_
 exact hc pins s1 σ H1 vs us Q I1 r1 q1
theorem qB0 (hc:CallR X (.type T) r) (hg:Gl X x) (hm:X.mg x=none) (hv:bootBuiltins x=some (.type T)) (ha:PA X (e::es) t) (hn:x ≠ "__name__" :=by decide) (hdb:(x == ("__debug__" : Str))=false:=by decide)
  (he:starEach (e::es) X.env=(false,eval e X.env)::starEach es X.env:=by rfl) (hpl:(backTo pos (starEach es X.env)).any (·.1)=false:=by rfl):PE X (.Call (.Name x p) (e::es) [] pos) (tCB r t):=by
 intro pins s σ H Q I h
 refine wpAny_Call_Name_kw (qLf I hg hm hv ?_ hn hdb)
 refine PyProof.Rows.callWith_type1 (thn (ha pos pins s σ H _ I h) fun us s1 hq_ => ?_) he hpl
 obtain⟨vs,H1,I1,r1,q1⟩:=hq_
 exact hc pins s1 σ H1 vs us Q I1 r1 q1
end
end L2
namespace HT
open PySem PyProof.Rows
def lexLt:List Int->List Int->Bool
 | [],[]=>false
 | [],_::_=>true
 | _::_,[]=>false
 | x::xs,y::ys=>if x=y then lexLt xs ys else decide (x<y)
theorem lexLt_cons (x y:Int) (xs ys:List Int):lexLt (x::xs) (y::ys)=if x=y then lexLt xs ys else decide (x<y):=rfl
section
open PySem.SeqAt
open PySem.AutoSeq1 (wpAny_loadPart')
open PySem.MeetsSeq PySem.MeetsSeq2 PySem.MeetsSeq3
end
section
variable {prog:Program} {w:World} {A:Around} {E:Value->Shared->Prop} {s:Shared}
def sIx (n d:Nat):Option Int->Nat
 | none=>d
 | some v=>if v<0 then (v+(n:Int)).toNat else min v.toNat n
theorem sIx_none (n d:Nat):sIx n d none=d:=rfl
theorem sIx_nat (n d k:Nat):sIx n d (some (k:Int))=min k n:=by
 show (if (k:Int)<0 then ((k:Int)+(n:Int)).toNat else min (k:Int).toNat n)=min k n
 rw [if_neg (by omega),Int.toNat_natCast]
theorem qU9 (n d:Nat) (hd:d<=n) (o:Option Int):sIx n d o<=n:=by
 cases o with
 | none=>exact hd
 | some v =>
  show (if v<0 then (v+(n:Int)).toNat else min v.toNat n)<=n
  by_cases hv:v<0
  ·rw [if_pos hv];omega
  ·rw [if_neg hv];exact Nat.min_le_right _ _
theorem qPi (v:Int) (n d:Nat):(if v<0 then max (v+(n:Int)) 0 else min v (n:Int))=((sIx n d (some v):Nat):Int):=by
 show (if v<0 then max (v+(n:Int)) 0 else min v (n:Int))=(((if v<0 then (v+(n:Int)).toNat else min v.toNat n):Nat):Int)
 by_cases hv:v<0
 ·simp only [if_pos hv];omega
 ·simp only [if_neg hv];omega
theorem qMx (lo hi:Option Int) (n:Nat):Builtin.Slice.sliceAdjust lo hi 1 (n:Int)=(((sIx n 0 lo:Nat):Int),((sIx n n hi:Nat):Int)):=by
 have h1 : ¬((1:Int)<0):=by omega
 unfold Builtin.Slice.sliceAdjust
 simp only [h1,if_false]
 refine Prod.ext ?_ ?_
 ·cases lo with
  | none=>rfl
  | some v=>exact qPi v n 0
 ·cases hi with
  | none=>rfl
  | some v=>exact qPi v n n
theorem qMb (i j:Nat):Builtin.Slice.slicePlaces (i:Int) (j:Int) 1=j - i:=by
 unfold Builtin.Slice.slicePlaces
 have h1:(1:Int)>0:=by omega
 simp only [h1,if_true,Int.ediv_one]
 split <;> omega
theorem qGq {v:Value} {o:Option Int} {Q:Option Int->Shared->Prop} (p:IsPart v o) (h:Q o s):wpAny (model prog w) A (Builtin.Slice.slicePartIndex v) Q E s:=by
 cases p with
 | none=>exact slicePart_none h
 | int i t=>exact slicePart_int h
theorem qF7 {sl:Addr} {vl vu:Value} {lo hi:Option Int} {n:Nat} {Q:Int×Int×Nat->Shared->Prop} (hs:s.heap.IsSliceOf sl vl vu .none) (pl:IsPart vl lo) (pu:IsPart vu hi)
  (h:Q (((sIx n 0 lo:Nat):Int),1,sIx n n hi - sIx n 0 lo) s):wpAny (model prog w) A (Builtin.Slice.sliceApplied (.ref sl) (pure (n:Int))) Q E s:=by
 obtain⟨os,hos,hcs,hds⟩:=id hs
 unfold Builtin.Slice.sliceApplied Builtin.Slice.sliceFields
 refine wpAny_bind (wpAny_bind (wpAny_field hos hds (x:=vl) rfl (wpAny_bind (wpAny_field hos hds (x:=vu) rfl (wpAny_bind (wpAny_field hos hds (x :=.none) rfl (wpAny_pure ?_)))))))
 refine wpAny_bind (slicePart_none ?_)
 show wpAny _ _ (if ((1:Int) == 0)=true then _ else _) _ _ s
 rw [if_neg (by decide)]
 refine wpAny_bind (qGq pl (wpAny_bind (qGq pu (wpAny_bind (wpAny_pure ?_)))))
 show wpAny _ _ (match Builtin.Slice.sliceAdjust lo hi 1 (n:Int) with | (lo,hi)=>pure (lo,(1:Int),Builtin.Slice.slicePlaces lo hi 1)) _ _ s
 rw [qMx lo hi n]
 show wpAny _ _ (pure (((sIx n 0 lo:Nat):Int),(1:Int),Builtin.Slice.slicePlaces ((sIx n 0 lo:Nat):Int) ((sIx n n hi:Nat):Int) 1)) _ _ s
 rw [qMb]
 exact wpAny_pure h
theorem qQd (xs:Array Value) (i k:Nat):((List.range k).filterMap fun (m:Nat)=>xs[((i:Int)+(m:Int)*1).toNat]?).toArray=((xs.toList.drop i).take k).toArray:=by
 have e:(fun (m:Nat)=>xs[((i:Int)+(m:Int)*1).toNat]?)=fun m=>xs[i+m]? :=by
  funext m
  have:((i:Int)+(m:Int)*1).toNat=i+m:=by omega
  rw [this]
 rw [e]
 have:=pick_run xs i k
 rw [List.filterMap_map] at this
 have e2:((fun x=>xs[x]?)∘fun x=>i+x)=fun m=>xs[i+m]? :=rfl
 rw [e2] at this
 rw [this]
theorem getItem_tuple_cut {t sl:Addr} {items:Array Value} {vl vu:Value} {lo hi:Option Int} {Q:Value->Shared->Prop} (ht:IsTup s.heap t items) (hs:s.heap.IsSliceOf sl vl vu .none) (pl:IsPart vl lo) (pu:IsPart vu hi)
  (hw : ¬(sIx items.size 0 lo=0/\sIx items.size items.size hi=items.size))
  (h:Q (.ref s.heap.objs.size) { s with heap:=s.heap.push { cls :=.type "tuple",data :=.seq ((items.toList.drop (sIx items.size 0 lo)).take (sIx items.size items.size hi - sIx items.size 0 lo)).toArray } })
  (hsz:items.size<=sizeLine):wpAny (model prog w) A (getItem (.ref t) (.ref sl)) Q E s:=by
 have htake:sizeOk (.seq ((items.toList.drop (sIx items.size 0 lo)).take (sIx items.size items.size hi - sIx items.size 0 lo)).toArray):=by
  show ((items.toList.drop (sIx items.size 0 lo)).take (sIx items.size items.size hi - sIx items.size 0 lo)).toArray.size<=sizeLine
  rw [List.size_toArray,List.length_take,List.length_drop,Array.length_toList]
  omega
 have hj:sIx items.size items.size hi<=items.size:=qU9 _ _ (Nat.le_refl _) hi
 obtain⟨os,hos,hcs,hds⟩:=id hs
 have hTs:s.TypeIs (.ref sl) "slice" :=⟨os,hos,hcs⟩
 unfold getItem
 try with_reducible refine wpAny_holding ?_
 first | refine wpAny_bind (wpAny_pure ?_) | skip
 refine wpAny_bind (wpAny_sequenceKey ht.typeIs (by decide) ?_)
 refine wpAny_bind (wpAny_callSpecial?_slot (name:=Str.ofString "__getitem__") ht.typeIs PyProof.Rows.slot_tuple_getitem
  (wpAny_call_entry PyProof.Rows.slot_tuple_getitem ht.typeIs entry_tuple_getitem ?_ (args_tuple_getitem _ _)))
 show wpAny _ _ (Builtin.Tuple.tupleItemsOf (.ref t) >>= _) _ _ s
 refine wpAny_bind (tupleItemsOf_ ht ?_)
 refine wpAny_bind (wpAny_typeOf hTs ?_)
 rw [if_pos (by decide)]
 refine wpAny_bind (qF7 hs pl pu ?_)
 have hno : ¬((((sIx items.size 0 lo:Nat):Int) == 0&&(1:Int) == 1&&(sIx items.size items.size hi - sIx items.size 0 lo) == items.size)=true):=by
  intro q
  rw [Bool.and_eq_true,Bool.and_eq_true] at q
  have q1:((sIx items.size 0 lo:Nat):Int)=0:=eq_of_beq q.1.1
  have q2:sIx items.size items.size hi - sIx items.size 0 lo=items.size:=eq_of_beq q.2
  exact hw ⟨by omega,by omega⟩
 show wpAny _ _ (if (((sIx items.size 0 lo:Nat):Int) == 0&&(1:Int) == 1&&(sIx items.size items.size hi - sIx items.size 0 lo) == items.size)=true then _ else _) _ _ s
 rw [if_neg hno,qQd]
 first
  | exact wpAny_bind (m:=Builtin.Tuple.tupleExact _) (wpAny_newObj_type (wpAny_pure ⟨_,rfl,wpAny_pure h⟩) htake)
  | exact wpAny_bind (m:=Builtin.Tuple.tupleExact _) (wpAny_newObj_type (wpAny_bind (wpAny_pure (wpAny_pure ⟨_,rfl,wpAny_pure h⟩))) htake)
  | exact wpAny_bind (wpAny_bind (m:=Builtin.Tuple.tupleExact _) (wpAny_newObj_type (wpAny_pure (wpAny_pure ⟨_,rfl,wpAny_pure h⟩)) htake))
  | exact wpAny_bind (wpAny_bind (m:=Builtin.Tuple.tupleExact _) (wpAny_newObj_type (wpAny_pure ⟨_,rfl,wpAny_pure h⟩) htake))
end
end HT
namespace L2
open PySem PySem.Spec PyProof.Rows
abbrev TO:=St->Hp->(Option Int->Hp->Prop)->Prop
def PO (X:Cx) (e:Option Expr) (t:TO):Prop :=
 ∀(pins:List (Addr×Obj)) (s:Shared) (σ : St) (H:Hp) (Q:Option Int->Hp->Prop),Inv X pins σ H s->t σ H Q ->
  wpAny (model X.prog X.w) X.A (evalPart e X.env) (fun u s' => ∃o H',Inv X pins σ H' s'/\IsPart u o/\Q o H') X.xe s
def qN8:TO:=fun _ H Q=>Q none H
def tPart (t:TE):TO:=fun σ H Q=>t σ H fun x H1 => ∃i,x = .int i/\Q (some i) H1
theorem qDc {ns:List Int} : ∀ {us:List Value},Vals (ns.map V.int) us->IntsAre us ns:=by
 induction ns with
 | nil=>intro us r;rw [List.map_nil] at r;cases r;exact .nil
 | cons n ns ih =>
  intro us r
  rw [List.map_cons] at r
  cases r with
  | cons r1 r2 =>
   obtain⟨t,e⟩:=r1
   subst e
   exact .cons n t (ih r2)
section
variable {X:Cx} {e:Expr} {te:TE} {lo hi:Option Expr} {tl th:TO} {pos p2:Pos}
theorem qCw:PO X none qN8:=by
 intro pins s σ H Q I h
 rw [evalPart_none]
 exact wpAny_pure ⟨none,H,I,.none,h⟩
theorem qCv (h:PE X e te):PO X (some e) (tPart te):=by
 intro pins s σ H Q I hw
 rw [evalPart_some]
 refine thn (h pins s σ H _ I hw) fun u s1 hq_ => ?_
 obtain⟨x,H1,I1,r1,q1⟩:=hq_
 obtain⟨i,rfl,q⟩:=q1
 obtain⟨t,rfl⟩:=r1
 exact⟨some i,H1,I1,.int i t,q⟩
def SlR (X:Cx) (r:V->Option Int->Option Int->Hp->VK->Prop):Prop :=
 ∀(pins:List (Addr×Obj)) (s:Shared) (σ : St) (H:Hp) (x:V) (v vl vu:Value) (lo hi:Option Int) (sl:Addr) (Q:VK),Inv X pins σ H s->RelV x v->s.heap.IsSliceOf sl vl vu .none->IsPart vl lo->IsPart vu hi->r x lo hi H Q ->
  ∃T id,typeLookup (.type T) "__getitem__" = pure (some (.builtin id))/\s.TypeIs v T/\wpAny (model X.prog X.w) X.A (getItem v (.ref sl)) (EP X pins σ Q) X.xe s
def tSl (r:V->Option Int->Option Int->Hp->VK->Prop) (te:TE) (tl th:TO):TE:=fun σ H Q=>te σ H fun x H1=>tl σ H1 fun l H2=>th σ H2 fun u H3=>r x l u H3 Q
theorem qC4 {r:V->Option Int->Option Int->Hp->VK->Prop} (hr:SlR X r) (he:PE X e te) (hl:PO X lo tl) (hu:PO X hi th):PE X (.Subscript e (.Slice lo hi none p2) pos) (tSl r te tl th):=by
 intro pins s σ H Q I h
 refine Subscript_ (thn (he pins s σ H _ I h) fun v s1 hq_ => ?_)
 obtain⟨x,H1,I1,r1,q1⟩:=hq_
 refine wpAny_Slice (thn (hl pins s1 σ H1 _ I1 q1) fun vl s2 hq_ => ?_)
 obtain⟨l,H2,I2,pl,q2⟩:=hq_
 refine thn (hu pins s2 σ H2 _ I2 q2) fun vu s3 hq_ => ?_
 obtain⟨u,H3,I3,pu,q3⟩:=hq_
 rw [evalPart_none]
 refine wpAny_pure ?_
 have I4:Inv X pins σ H3 { s3 with heap:=s3.heap.push { cls :=.type "slice",data :=.fields #[vl,vu,.none] } }:=I3.kept (t':=s3.toks) fun b ob q=>Heap.get?_push_of_some _ q
 obtain⟨T,id,hT,ht,hg⟩:=hr pins { s3 with heap:=s3.heap.push { cls :=.type "slice",data :=.fields #[vl,vu,.none] } } σ H3 x v vl vu l u s3.heap.objs.size Q I4 r1 (Heap.IsSliceOf.new ..) pl pu q3
 show wpAny (model X.prog X.w) X.A (subscriptTail e (.Slice lo hi none p2) v (.ref s3.heap.objs.size)) (EP X pins σ Q) X.xe { s3 with heap:=s3.heap.push { cls :=.type "slice",data :=.fields #[vl,vu,.none] } }
 exact tail_any (ops :=[.ref s3.heap.objs.size,v]) ht hT hg (by with_unfolding_all rfl)
def cutV (xs:List V) (lo hi:Option Int):List V:=(xs.drop (HT.sIx xs.length 0 lo)).take (HT.sIx xs.length xs.length hi - HT.sIx xs.length 0 lo)
theorem qGb (xs:List V) (lo hi:Option Int):(cutV xs lo hi).length<=xs.length:=by
 unfold cutV
 rw [List.length_take,List.length_drop]
 omega
def rSlT (K:PySem.W.Frag):V->Option Int->Option Int->Hp->VK->Prop:=fun x lo hi H Q => ∃a xs,x = .ref a/\SqT K H a xs /\
 ¬(HT.sIx xs.length 0 lo=0/\HT.sIx xs.length xs.length hi=xs.length) /\ ∀p,H p=none->Q (.ref p) (upd H p (.tup (cutV xs lo hi)))
theorem qKw:SlR X (rSlT X.K):=by
 intro pins s σ H x v vl vu lo hi sl Q I rx hs pl pu h
 obtain⟨a,xs,rfl,hx,hw,q⟩:=h
 cases rx
 obtain⟨its,r,ht,hz⟩:=I.tuple hx
 have hlen:its.toArray.size=xs.length:=by rw [List.size_toArray];exact r.length.symm
 refine⟨"tuple",_,PyProof.Rows.slot_tuple_getitem.lookup,ht.typeIs,?_⟩
 refine HT.getItem_tuple_cut ht hs pl pu (by rw [hlen];exact hw) ?_ (by rw [hlen];exact hz)
 rw [hlen]
 refine⟨.ref s.heap.objs.size,_,I.laid (t':=s.toks) (o :=.tup (cutV xs lo hi)) (fun b ob q=>Heap.get?_push_of_some _ q) (Nat.le_refl _) ?_,rfl,q _ (I.hok.fresh (Nat.le_refl _))⟩
 exact⟨Nat.le_trans (qGb xs lo hi) hz,_,(r.drop (HT.sIx xs.length 0 lo)).take (HT.sIx xs.length xs.length hi - HT.sIx xs.length 0 lo),IsTup.new _ _⟩
end
def ixN (n:Nat) (i:Int):Option Nat:=if 0<=i then (if i<n then some i.toNat else none) else if -(n:Int)<=i then some (i+n).toNat else none
def atI {α : Type} (xs:List α) (i:Int):Option α :=(ixN xs.length i).bind fun j=>xs[j]?
theorem qOr {n:Nat} {i:Int} {j:Nat} (h:ixN n i=some j):seqIndex? i n=some j/\j<n /\ -(n:Int)<=i/\i<n:=by
 unfold ixN at h
 by_cases h0:0<=i
 ·rw [if_pos h0] at h
  by_cases h1:i<n
  ·rw [if_pos h1] at h
   have e:i.toNat=j:=Option.some.inj h
   exact⟨by rw [seqIndex_of h0 h1,e],by omega,by omega,h1⟩
  ·rw [if_neg h1] at h;cases h
 ·rw [if_neg h0] at h
  by_cases h1 : -(n:Int)<=i
  ·rw [if_pos h1] at h
   have e:(i+n).toNat=j:=Option.some.inj h
   exact⟨by rw [seqIndex_neg (by omega) h1,e],by omega,h1,by omega⟩
  ·rw [if_neg h1] at h;cases h
theorem qPo {α : Type} {xs:List α} {i:Int} {v : α} (h:atI xs i=some v) : ∃j,seqIndex? i xs.length=some j/\xs[j]? = some v/\j<xs.length /\ -(xs.length:Int)<=i/\i<xs.length:=by
 unfold atI at h
 cases e:ixN xs.length i with
 | none=>rw [e] at h;cases h
 | some j =>
  rw [e] at h
  obtain⟨h1,h2,h3,h4⟩:=qOr e
  exact⟨j,h1,h,h2,h3,h4⟩
theorem qB4 {α : Type} {xs:List α} {j:Nat} {v : α} (h:xs[j]? = some v):atI xs (j:Int)=some v:=by
 have hj:j<xs.length:=(List.getElem?_eq_some_iff.mp h).1
 have e:ixN xs.length (j:Int)=some j:=by
  unfold ixN
  rw [if_pos (by omega),if_pos (by omega)];simp
 unfold atI;rw [e];exact h
def qTw (b:Expr):Prop := ∀o i,subscripted b false o i=operate [o,i] (getItem o i)
def IxR (X:Cx) (r:R2):Prop :=
 ∀(value slice:Expr) (pins:List (Addr×Obj)) (s:Shared) (σ : St) (H:Hp) (x y:V) (v u:Value) (Q:VK),Inv X pins σ H s->RelV x v->RelV y u->r x y H Q ->
  subscripted slice false v u=operate [v,u] (getItem v u)->wpAny (model X.prog X.w) X.A (subscriptTail value slice v u) (EP X pins σ Q) X.xe s
def MtR (X:Cx) (id:String) (r:V->List V->Hp->VK->Prop):Prop :=
 ∀(pins:List (Addr×Obj)) (s:Shared) (σ : St) (H:Hp) (x:V) (xs:List V) (v:Value) (us:List Value) (Q:VK),Inv X pins σ H s->RelV x v->Vals xs us->r x xs H Q ->
  wpAny (model X.prog X.w) X.A (call (.builtin id) (v::us)) (EP X pins σ Q) X.xe s
section
variable {X:Cx} {a b:Expr} {ta tb:TE} {pos:Pos}
theorem qAu {r:R2} (hr:IxR X r) (ha:PE X a ta) (hb:PE X b tb) (hs:qTw b):PE X (.Subscript a b pos) (tOp r ta tb):=by
 intro pins s σ H Q I h
 exact Subscript_ (binT ha hb I h fun v u s2 x y H2 I2 rx ry q=>hr a b pins s2 σ H2 x y v u Q I2 rx ry q (hs _ _))
def rIxL (K:PySem.W.Frag):R2:=fun x y H Q => ∃p xs i v,x = .ref p/\y = .int i/\SqL K H p xs/\atI xs i=some v/\Q v H
def rIxT (K:PySem.W.Frag):R2:=fun x y H Q => ∃p xs i v,x = .ref p/\y = .int i/\SqT K H p xs/\atI xs i=some v/\Q v H
theorem qAl:IxR X (rIxL X.K):=by
 intro value slice pins s σ H x y v u Q I rx ry h hs
 obtain⟨p,xs,i,z,rfl,rfl,hq,he,q⟩:=h
 cases rx
 obtain⟨t,rfl⟩:=ry
 obtain⟨its,r,pl,hz⟩:=I.list hq
 obtain⟨j,h1,h2,h3,h4,h5⟩:=qPo he
 obtain⟨w,ew,rw'⟩:=r.get h2
 have hl:=r.length
 have hn:=qJ6
 have fin:EP X pins σ Q w s:=⟨z,H,I,rw',q⟩
 by_cases h0:0<=i
 ·have hj:i.toNat=j:=by
   rw [seqIndex_of h0 h5] at h1
   exact Option.some.inj h1
  exact item_listR pl.isList h0 (by omega) (by rw [hj];simpa using ew) fin hs
 ·have hj:(i+(its.toArray.size:Int)).toNat=j:=by
   rw [seqIndex_neg (by omega) h4] at h1
   rw [List.size_toArray,<-hl]
   exact Option.some.inj h1
  exact subscriptTail_builtinR (x:=w) pl.isList.typeIs slot_list_getitem.lookup
   (wpAny_getItem_list_neg (Q:=fun r s'=>r=w/\EP X pins σ Q r s') pl.isList (by omega) (by rw [List.size_toArray] <;> omega) (by omega) (by rw [hj];simpa using ew) ⟨rfl,fin⟩) hs
theorem qC6:IxR X (rIxT X.K):=by
 intro value slice pins s σ H x y v u Q I rx ry h hs
 obtain⟨p,xs,i,z,rfl,rfl,hq,he,q⟩:=h
 cases rx
 obtain⟨t,rfl⟩:=ry
 obtain⟨its,r,pl,hz⟩:=I.tuple hq
 obtain⟨j,h1,h2,h3,h4,h5⟩:=qPo he
 obtain⟨w,ew,rw'⟩:=r.get h2
 have hl:=r.length
 have hn:=qJ6
 have fin:EP X pins σ Q w s:=⟨z,H,I,rw',q⟩
 exact subscriptTail_builtinR (x:=w) pl.typeIs slot_tuple_getitem.lookup
  (getItem_tuple (j:=j) (Q:=fun r s'=>r=w/\EP X pins σ Q r s') pl (by omega) (by omega) (by rw [List.size_toArray,<-hl];exact h1) (by simpa using ew) ⟨rfl,fin⟩) hs
theorem qMl (its:List Value) (n j:Nat) (u:Value):Obj.mapSeq (·.setIfInBounds j u) { cls :=.type "list",data :=.seq its.toArray n } = { cls :=.type "list",data :=.seq (its.set j u).toArray n }:=by
 simp [Obj.mapSeq]
theorem Inv.lst {pins:List (Addr×Obj)} {σ : St} {H:Hp} {s:Shared} {p:Addr} {xs:List V} (I:Inv X pins σ H s) (h:H p=some (.lst xs)) :
  ∃(its:List Value) (n:Nat),Vals xs its/\s.heap.get? p=some { cls :=.type "list",data :=.seq its.toArray n }/\xs.length<=sizeLine:=by
 obtain⟨z,its,n,r,e⟩:=I.hok p _ h
 exact⟨its,n,r,e,z⟩
theorem Inv.lstUpd {pins:List (Addr×Obj)} {σ : St} {H:Hp} {s:Shared} {p:Addr} {xs ys:List V} {its its':List Value} {n n':Nat} {f:Obj->Obj} (I:Inv X pins σ H s) (h:H p=some (.lst xs))
  (ho:s.heap.get? p=some { cls :=.type "list",data :=.seq its.toArray n }) (hf:f { cls :=.type "list",data :=.seq its.toArray n } = { cls :=.type "list",data :=.seq its'.toArray n' }) (r:Vals ys its') (hz:ys.length<=sizeLine) (t:Nat) :
  Inv X pins σ (upd H p (.lst ys)) { s with heap:=s.heap.update p f,toks:=t }:=by
 have e:(s.heap.update p f).get? p=some { cls :=.type "list",data :=.seq its'.toArray n' }:=by
  rw [Heap.get?_update_self f ho (by rw [hf] <;> rfl),hf]
 refine I.write (x:=p) (e:=p) (by rw [h];trivial) (.inl rfl) (fun b u hb q=>(Heap.get?_update_other _ _ (Ne.symm hb)).trans q) ⟨_,e⟩ ?_
 exact⟨hz,its',n',r,e⟩
def rSetL:V->V->V->Hp->(Hp->Prop)->Prop:=fun o i v H Q => ∃p xs k j,o = .ref p/\i = .int k/\H p=some (.lst xs)/\ixN xs.length k=some j/\Q (upd H p (.lst (xs.set j v)))
theorem qKx:PSet X rSetL:=by
 intro pins s σ H o i v ov iv u Q I ro ri rv h
 obtain⟨p,xs,k,j,rfl,rfl,hp,hj,q⟩:=h
 cases ro
 obtain⟨t,rfl⟩:=ri
 obtain⟨its,n,r,ho,hz⟩:=I.lst hp
 obtain⟨h1,h2,h3,h4⟩:=qOr hj
 have hl:=r.length
 have hn:=qJ6
 have I':Inv X pins σ (upd H p (.lst (xs.set j v))) { s with heap:=s.heap.update p (Obj.mapSeq (·.setIfInBounds j u)) } :=
  I.lstUpd hp ho (qMl its n j u) (r.set rv j) (by rw [List.length_set];exact hz) s.toks
 by_cases h0:0<=k
 ·have hk:k.toNat=j:=by
   rw [seqIndex_of h0 h4] at h1
   exact Option.some.inj h1
  exact PySem.W.ki_setAt ho h0 (by omega) (by rw [List.size_toArray,<-hl];exact h4) (by rw [hk];exact⟨_,I',q⟩)
 ·have hk:(k+(its.toArray.size:Int)).toNat=j:=by
   rw [seqIndex_neg (by omega) h3] at h1
   rw [List.size_toArray,<-hl]
   exact Option.some.inj h1
  exact PySem.W.ki_setBack ho (by omega) (by rw [List.size_toArray,<-hl];exact h3) (by omega) (by rw [hk];exact⟨_,I',q⟩)
theorem qIj (lo hi:Option Int) (n:Nat):(sliceBounds lo hi none n).1=((HT.sIx n 0 lo:Nat):Int)/\(sliceBounds lo hi none n).2.1=((HT.sIx n n hi:Nat):Int)/\(sliceBounds lo hi none n).2.2=1:=by
 refine⟨?_,?_,rfl⟩
 ·cases lo with
  | none=>simp [sliceBounds,HT.sIx]
  | some i =>
   simp only [sliceBounds,HT.sIx,Option.getD_none,show (1:Int)>0 by decide,if_true]
   by_cases h:i<0
   ·simp only [h,if_true] <;> omega
   ·simp only [h,if_false] <;> omega
 ·cases hi with
  | none=>simp [sliceBounds,HT.sIx]
  | some i =>
   simp only [sliceBounds,HT.sIx,Option.getD_none,show (1:Int)>0 by decide,if_true]
   by_cases h:i<0
   ·simp only [h,if_true] <;> omega
   ·simp only [h,if_false] <;> omega
theorem qHo (its:List Value) (lo hi:Option Int):slicePick its.toArray lo hi none=((its.drop (HT.sIx its.length 0 lo)).take (HT.sIx its.length its.length hi - HT.sIx its.length 0 lo)).toArray:=by
 obtain⟨h1,h2,h3⟩:=qIj lo hi its.toArray.size
 unfold slicePick
 rw [h1,h2,h3]
 simp only [sliceRange_one,pick_run,List.size_toArray] <;> rfl
def rSlL (K:PySem.W.Frag):V->Option Int->Option Int->Hp->VK->Prop:=fun x lo hi H Q => ∃a xs,x = .ref a/\SqL K H a xs /\ ∀p,H p=none->Q (.ref p) (upd H p (.lst (cutV xs lo hi)))
theorem qK6:SlR X (rSlL X.K):=by
 intro pins s σ H x v vl vu lo hi sl Q I rx hs pl pu h
 obtain⟨a,xs,rfl,hx,q⟩:=h
 cases rx
 obtain⟨its,r,ht,hz⟩:=I.list hx
 have hlen:=r.length
 refine⟨"list",_,slot_list_getitem.lookup,ht.isList.typeIs,?_⟩
 refine wpAny_getItem_list_slice ht.isList hs pl pu .none (by simp) ?_ (by rw [List.size_toArray] <;> omega)
 rw [qHo,<-hlen]
 refine⟨.ref s.heap.objs.size,_,I.laid (t':=s.toks) (o :=.lst (cutV xs lo hi)) (fun b ob q=>Heap.get?_push_of_some _ q) (Nat.le_refl _) ?_,rfl,q _ (I.hok.fresh (Nat.le_refl _))⟩
 exact⟨Nat.le_trans (qGb xs lo hi) hz,_,0,(r.drop (HT.sIx xs.length 0 lo)).take (HT.sIx xs.length xs.length hi - HT.sIx xs.length 0 lo),Heap.get?_push_size _ rfl⟩
def flatV:V->Bool
 | .non=>true
 | .bl _=>true
 | .int _=>true
 | .str _=>true
 | _=>false
def eqV:V->V->Bool
 | .non,.non=>true
 | .bl a,.bl b=>a == b
 | .bl a,.int b=>(if a then 1 else 0) == b
 | .int a,.bl b=>a == (if b then 1 else 0)
 | .int a,.int b=>a == b
 | .str a,.str b=>a == b
 | _,_=>false
theorem qVo {A:Around} {s:Shared} {y x:V} {u v:Value} (ry:RelV y u) (rx:RelV x v) (fy:flatV y=true) (fx:flatV x=true):SeqAt.EqAt A s u v (eqV y x):=by
 cases y with
 | non =>
  cases ry
  cases x with
  | non=>cases rx;exact SeqAt.EqAt.same _
  | bl b=>cases rx;exact SeqAt.EqAt.none_bool b
  | int b=>obtain⟨t,rfl⟩:=rx;exact SeqAt.EqAt.none_int b t
  | str b=>obtain⟨t,rfl⟩:=rx;exact SeqAt.EqAt.none_str b t
  | _=>exact absurd (show false=true from fx) Bool.false_ne_true
 | bl a =>
  cases ry
  cases x with
  | non=>cases rx;exact SeqAt.EqAt.bool_none a
  | bl b=>cases rx;exact SeqAt.EqAt.bool_bool a b
  | int b=>obtain⟨t,rfl⟩:=rx;exact SeqAt.EqAt.bool_int a b t
  | str b=>obtain⟨t,rfl⟩:=rx;exact SeqAt.EqAt.bool_str a b t
  | _=>exact absurd (show false=true from fx) Bool.false_ne_true
 | int a =>
  obtain⟨t',rfl⟩:=ry
  cases x with
  | non=>cases rx;exact SeqAt.EqAt.int_none a t'
  | bl b=>cases rx;exact SeqAt.EqAt.int_bool a t' b
  | int b=>obtain⟨t,rfl⟩:=rx;exact SeqAt.EqAt.int_int a t' b t
  | str b=>obtain⟨t,rfl⟩:=rx;exact SeqAt.EqAt.int_str a t' b t
  | _=>exact absurd (show false=true from fx) Bool.false_ne_true
 | str a =>
  obtain⟨t',rfl⟩:=ry
  cases x with
  | non=>cases rx;exact SeqAt.EqAt.str_none a t'
  | bl b=>cases rx;exact SeqAt.EqAt.str_bool a t' b
  | int b=>obtain⟨t,rfl⟩:=rx;exact SeqAt.EqAt.str_int a t' b t
  | str b=>obtain⟨t,rfl⟩:=rx;exact SeqAt.EqAt.str_str a t' b t
  | _=>exact absurd (show false=true from fx) Bool.false_ne_true
 | _=>exact absurd (show false=true from fy) Bool.false_ne_true
def eqU (x:V) (u:Value):Bool:=match u with
 | .none=>eqV .non x
 | .bool b=>eqV (.bl b) x
 | .int i _=>eqV (.int i) x
 | .str z _=>eqV (.str z) x
 | _=>false
theorem qRz {x y:V} {u:Value} (r:RelV y u) (f:flatV y=true):eqU x u=eqV y x:=by
 cases y with
 | non=>cases r;rfl
 | bl b=>cases r;rfl
 | int i=>obtain⟨t,rfl⟩:=r;rfl
 | str z=>obtain⟨t,rfl⟩:=r;rfl
 | _=>exact absurd (show false=true from f) Bool.false_ne_true
theorem qIe {x:V} {xs:List V} {us:List Value} (h:Vals xs us) (f:xs.all flatV=true):us.any (eqU x)=xs.any fun y=>eqV y x:=by
 induction h with
 | nil=>rfl
 | cons r t ih =>
  rw [List.all_cons,Bool.and_eq_true] at f
  rw [List.any_cons,List.any_cons,qRz r f.1,ih f.2]
theorem qFh {A:Around} {s:Shared} {x:V} {v:Value} (rx:RelV x v) (fx:flatV x=true) {xs:List V} {us:List Value} (h:Vals xs us) (f:xs.all flatV=true) : ∀u∈us,SeqAt.EqAt A s u v (eqU x u):=by
 induction h with
 | nil=>intro u hu;cases hu
 | cons r t ih =>
  intro u' hu
  rw [List.all_cons,Bool.and_eq_true] at f
  rcases List.mem_cons.mp hu with rfl | hu
  ·rw [qRz r f.1];exact qVo r rx f.1 fx
  ·exact ih f.2 u' hu
def inV (x:V) (xs:List V):Bool:=xs.any fun y=>eqV y x
def rIn (K:PySem.W.Frag) (neg:Bool):R2:=fun x y H Q => ∃p xs,y = .ref p/\(SqL K H p xs\/SqT K H p xs)/\flatV x=true/\xs.all flatV=true/\Q (.bl (if neg then !inV x xs else inV x xs)) H
theorem qE8:OpR X (compareOp .In) (rIn X.K false):=by
 intro pins s σ H x y v u Q I rx ry h
 obtain⟨p,xs,rfl,hq,fx,fs,q⟩:=h
 cases ry
 rcases hq with hq | hq
 ·obtain⟨its,r,pl,hz⟩:=I.list hq
  refine SeqAt.in_listAt (eqU x) pl.isList (fun w hw=>qFh rx fx r fs w (by simpa using hw)) ⟨.bl _,H,I,rfl,?_⟩
  rw [show its.toArray.any (eqU x)=its.any (eqU x) by simp,qIe r fs]
  exact q
 ·obtain⟨its,r,pl,hz⟩:=I.tuple hq
  refine SeqAt.in_tupleAt (eqU x) pl (fun w hw=>qFh rx fx r fs w (by simpa using hw)) ⟨.bl _,H,I,rfl,?_⟩
  rw [show its.toArray.any (eqU x)=its.any (eqU x) by simp,qIe r fs]
  exact q
theorem qIy:OpR X (compareOp .NotIn) (rIn X.K true):=by
 intro pins s σ H x y v u Q I rx ry h
 obtain⟨p,xs,rfl,hq,fx,fs,q⟩:=h
 cases ry
 rcases hq with hq | hq
 ·obtain⟨its,r,pl,hz⟩:=I.list hq
  refine SeqAt.notIn_listAt (eqU x) pl.isList (fun w hw=>qFh rx fx r fs w (by simpa using hw)) ⟨.bl _,H,I,rfl,?_⟩
  rw [show its.toArray.any (eqU x)=its.any (eqU x) by simp,qIe r fs]
  exact q
 ·obtain⟨its,r,pl,hz⟩:=I.tuple hq
  refine SeqAt.notIn_tupleAt (eqU x) pl (fun w hw=>qFh rx fx r fs w (by simpa using hw)) ⟨.bl _,H,I,rfl,?_⟩
  rw [show its.toArray.any (eqU x)=its.any (eqU x) by simp,qIe r fs]
  exact q
theorem qAo:CallR X (.builtin "len") (fun xs H Q => ∃p ys,xs = [.ref p]/\(SqL X.K H p ys\/SqT X.K H p ys)/\Q (.int ys.length) H):=by
 intro pins s σ H xs us Q I r h
 obtain⟨p,ys,rfl,hq,q⟩:=h
 obtain⟨u,rfl,rx⟩:=vals1 r
 cases rx
 have hn:=qJ6
 rcases hq with hq | hq
 ·obtain⟨its,r',pl,hz⟩:=I.list hq
  have hlen:=r'.length
  exact Calls.call_len_list pl.isList (by simp only [List.size_toArray] <;> omega) ⟨.int ys.length,H,I.tok _,⟨s.toks+1,by rw [List.size_toArray,hlen]⟩,q⟩
 ·obtain⟨its,r',pl,hz⟩:=I.tuple hq
  have hlen:=r'.length
  exact len_tuple pl (by simp only [List.size_toArray] <;> omega) ⟨.int ys.length,H,I.tok _,⟨s.toks+1,by rw [List.size_toArray,hlen]⟩,q⟩
theorem qF5:CallR X (.type "list") (fun xs H Q => ∃p ys,xs = [.ref p]/\(SqL X.K H p ys\/SqT X.K H p ys) /\ ∀l,H l=none->Q (.ref l) (upd H l (.lst ys))):=by
 intro pins s σ H xs us Q I r h
 obtain⟨p,ys,rfl,hq,q⟩:=h
 obtain⟨u,rfl,rx⟩:=vals1 r
 cases rx
 have fin : ∀(its:List Value),Vals ys its->ys.length<=sizeLine -> ∀(h':Heap) (c':Nat),(∀b o',s.heap.get? b=some o'->h'.get? b=some o') ->
   h'.get? s.heap.objs.size=some { cls :=.type "list",dict:=none,data :=.seq its.toArray c',slots := #[] }->EP X pins σ Q (.ref s.heap.objs.size) { s with heap:=h' }:=fun its r' hz h' c' kp e =>
  ⟨.ref s.heap.objs.size,_,I.laid (t':=s.toks) kp (Nat.le_refl _) (show ObjOk X.prog X.w _ h' _ (.lst ys) from⟨hz,its,c',r',e⟩),rfl,q _ (I.hok.fresh (Nat.le_refl _))⟩
 rcases hq with hq | hq
 ·obtain⟨its,r',pl,hz⟩:=I.list hq
  have hlen:=r'.length
  obtain⟨o,ho,hc,n,hd⟩:=pl.isList
  exact call_list_seq p (.inl rfl) ho hc hd (fun h' c' kp e=>fin its r' hz h' c' kp e) (by simp only [List.size_toArray] <;> omega)
 ·obtain⟨its,r',pl,hz⟩:=I.tuple hq
  have hlen:=r'.length
  obtain⟨o,ho,hc,n,hd⟩:=pl
  exact call_list_seq p (.inr rfl) ho hc hd (fun h' c' kp e=>fin its r' hz h' c' kp e) (by simp only [List.size_toArray] <;> omega)
def tyV (K:PySem.W.Frag) (T:String) (x:V) (H:Hp):Prop:=match x with
 | .str _=>T = "str"
 | .int _=>T = "int"
 | .ref p=>(T = "list" /\ ∃xs,SqL K H p xs)\/(T = "tuple" /\ ∃o,K.lookup p=some o/\o.cls = .type "tuple" /\ o.dict=none) \/
   (T = "dict" /\ ((∃kvs,H p=some (.dK kvs)) \/ ∃kvs,H p=some (.dT kvs)))\/(T = "set" /\ ∃S n,H p=some (.set S n))
 | _=>False
theorem qRg {pins:List (Addr×Obj)} {σ : St} {H:Hp} {s:Shared} {T:String} {x:V} {v:Value} (I:Inv X pins σ H s) (r:RelV x v) (ty:tyV X.K T x H) :
  s.TypeIs v T /\ ∀a,v = .ref a -> ∃ob,s.heap.get? a=some ob/\ob.dict=none:=by
 cases x with
 | str z =>
  obtain⟨t,rfl⟩:=r
  cases (show T = "str" from ty)
  exact⟨typeIs_str s z t,fun _ e=>nomatch e⟩
 | int i =>
  obtain⟨t,rfl⟩:=r
  cases (show T = "int" from ty)
  exact⟨typeIs_int s i t,fun _ e=>nomatch e⟩
 | ref p =>
  cases r
  rcases ty with ⟨rfl,xs,hq⟩ | ⟨rfl,o,hk,hc,hd⟩ | ⟨rfl,hk⟩ | ⟨rfl,S,n,hk⟩
  ·obtain⟨its,_,pl,_⟩:=I.list hq
   refine⟨pl.isList.typeIs,fun a e => ?_⟩
   cases e
   obtain⟨o,n,e,c,hd,_⟩:=pl
   exact⟨o,e,hd⟩
  ·refine⟨⟨o,I.kIn p o hk,hc⟩,fun a e => ?_⟩
   cases e
   exact⟨o,I.kIn _ o hk,hd⟩
  ·have z : ∃o,s.heap.get? p=some o/\o.ExactDict:=by
    rcases hk with ⟨kvs,hk⟩ | ⟨kvs,hk⟩
    ·obtain⟨_,_,_,_,o,_,_,e,ex,_⟩:=I.hok p _ hk
     exact⟨o,e,ex⟩
    ·obtain⟨_,_,_,_,o,_,_,e,ex,_⟩:=I.hok p _ hk
     exact⟨o,e,ex⟩
   obtain⟨o,e,ex⟩:=z
   refine⟨⟨o,e,ex.1⟩,fun a e2 => ?_⟩
   cases e2
   exact⟨o,e,ex.2.1⟩
  ·obtain⟨o,_,_,_,e,ex,_⟩:=I.hok p _ hk
   refine⟨⟨o,e,ex.1⟩,fun a e2 => ?_⟩
   cases e2
   exact⟨o,e,ex.2.1⟩
 | _=>exact False.elim ty
def tBM0 (K:PySem.W.Frag) (T:String) (r:V->List V->Hp->VK->Prop) (to:TE):TE:=fun σ H Q=>to σ H fun x H1=>tyV K T x H1/\r x [] H1 Q
def tBM (K:PySem.W.Frag) (T:String) (r:V->List V->Hp->VK->Prop) (to:TE) (t:TA):TE:=fun σ H Q=>to σ H fun x H1=>tyV K T x H1/\t σ H1 fun xs H2=>r x xs H2 Q
variable {o e:Expr} {es:List Expr} {to:TE} {t:TA} {name:Str} {apos cpos:Pos} {T id:String} {r:V->List V->Hp->VK->Prop}
theorem qV8 (pa:PlainAttrs T) (slot:Slot T name id) (hty:typeOf (.builtin id)=pure (.type "method_descriptor")) (hm:MtR X id r) (ho:PE X o to)
  (hbase:attributeBase o name X.env (eval o X.env)=eval o X.env:=by rfl) (hline:(apos.endLine == cpos.line)=true:=by rfl):PE X (.Call (.Attribute o name apos) [] [] cpos) (tBM0 X.K T r to):=by
 intro pins s σ H Q I h
 refine wpAny_Call_method0_late hbase hline (thn (ho pins s σ H _ I h) fun v s1 hq_ => ?_)
 obtain⟨x,H1,I1,r1,ty,q1⟩:=hq_
 obtain⟨h1,h2⟩:=qRg I1 r1 ty
 exact⟨T,id,pa,slot,hty,h1,h2,Calls.callWith_builtin rfl (PySem.evalArgs_none (hm pins s1 σ H1 x [] v [] Q I1 r1 .nil q1))⟩
theorem qE6 (pa:PlainAttrs T) (slot:Slot T name id) (hty:typeOf (.builtin id)=pure (.type "method_descriptor")) (hm:MtR X id r) (ho:PE X o to) (ha:PA X (e::es) t)
  (hbase:attributeBase o name X.env (eval o X.env)=eval o X.env:=by rfl)
  (hfew:((backTo cpos (starEach (e::es) X.env)).all (fun x => !x.1)&&(backToKw cpos (keywordEach [] X.env)).all (fun x=>x.1.isSome)
   && decide ((e::es).length+([]:List Keyword).length+(if ([]:List Keyword).isEmpty then 0 else 1)<30))=true:=by rfl)
  (hline:(apos.endLine == cpos.line)=true:=by rfl) (hs:starEach (e::es) X.env=(false,eval e X.env)::starEach es X.env:=by rfl) (hplain:(backTo cpos (starEach es X.env)).any (·.1)=false:=by rfl) :
  PE X (.Call (.Attribute o name apos) (e::es) [] cpos) (tBM X.K T r to t):=by
 intro pins s σ H Q I h
 refine wpAny_Call_method_late hbase hfew hline rfl (thn (ho pins s σ H _ I h) fun v s1 hq_ => ?_)
 obtain⟨x,H1,I1,r1,ty,q1⟩:=hq_
 obtain⟨h1,h2⟩:=qRg I1 r1 ty
 refine⟨T,id,pa,slot,hty,h1,h2,?_⟩
 have hA:=ha cpos pins s1 σ H1 _ I1 q1
 rw [hs] at hA ⊢
 refine Calls.callWith_builtin (by show (false||(backTo cpos (starEach es X.env)).any (·.1))=false;rw [hplain] <;> rfl) (Calls.evalArgs_plain ?_)
 refine thn hA fun us s2 hq_ => ?_
 obtain⟨vs,H2,I2,r2,q2⟩:=hq_
 exact hm pins s2 σ H2 x vs v us Q I2 r1 r2 q2
end
def MtM (X:Cx) (id:String) (r:V->List V->Hp->VK->Prop):Prop :=
 ∀(pins:List (Addr×Obj)) (s:Shared) (σ : St) (H:Hp) (x:V) (xs:List V) (v:Value) (us:List Value) (Q:VK),Inv X pins σ H s->RelV x v->Vals xs us->r x xs H Q ->
  wpAny (model X.prog X.w) X.A (call (.builtin id) (v::us)) (EP X pins σ Q) X.xe s
theorem Vals.one {x:V} {us:List Value} (h:Vals [x] us) : ∃u,us = [u]/\RelV x u:=by
 cases h with | cons r t=>cases t;exact⟨_,rfl,r⟩
theorem Vals.zero : ∀ {us:List Value},Vals [] us->us = []
 | _,.nil=>rfl
theorem Vals.dropLast {xs:List V} {us:List Value} (h:Vals xs us):Vals xs.dropLast us.dropLast:=by
 induction h with
 | nil=>exact .nil
 | cons r t ih =>
  cases t with
  | nil=>exact .nil
  | cons q t'=>exact .cons r ih
theorem Vals.eraseIdx : ∀ {xs:List V} {us:List Value} (i:Nat),Vals xs us->Vals (xs.eraseIdx i) (us.eraseIdx i)
 | _,_,_,.nil =>.nil
 | _,_,0,.cons _ t=>t
 | _,_,i+1,.cons r t =>.cons r (Vals.eraseIdx i t)
theorem Vals.rep {xs:List V} {us:List Value} (h:Vals xs us) : ∀k:Nat,Vals (List.replicate k xs).flatten (List.replicate k us).flatten
 | 0 =>.nil
 | k+1=>by
  rw [List.replicate_succ,List.replicate_succ,List.flatten_cons,List.flatten_cons]
  exact Vals.append h (Vals.rep h k)
theorem qMp {α : Type} (l:List α):l.eraseIdx (l.length - 1)=l.dropLast:=by
 induction l with
 | nil=>rfl
 | cons a r ih =>
  cases r with
  | nil=>rfl
  | cons b r =>
   have e:(a::b::r).length - 1=((b::r).length - 1)+1:=by
    have h1:(a::b::r).length=r.length+2:=rfl
    have h2:(b::r).length=r.length+1:=rfl
    omega
   rw [e,List.eraseIdx_cons_succ,ih]
   all_goals rfl
theorem qJ8 {α : Type} : ∀(l:List α) (i:Nat),(l.eraseIdx i).length<=l.length
 | [],_=>Nat.le_refl _
 | _::_,0=>Nat.le_succ _
 | _::r,i+1=>Nat.succ_le_succ (qJ8 r i)
theorem qJd (its:List Value) : ∀(k:Nat) (acc:List Value),
  List.foldl (fun x1 x2=>x1++x2) acc.toArray (List.replicate k its.toArray)=(acc++(List.replicate k its).flatten).toArray
 | 0,acc=>by simp
 | k+1,acc=>by
  have e:acc.toArray++its.toArray=(acc++its).toArray:=by simp
  have e2:(acc++its)++(List.replicate k its).flatten=acc++(List.replicate (k+1) its).flatten:=by
   rw [List.replicate_succ,List.flatten_cons,List.append_assoc]
  rw [<-e2,<-qJd its k (acc++its),<-e,List.replicate_succ,List.foldl_cons]
section
variable {X:Cx} {pins:List (Addr×Obj)} {σ : St} {H:Hp} {s:Shared} {l b:Addr} {xs ys zs:List V}
theorem Inv.lset {its its':List Value} {n:Nat} {f:Array Value->Array Value} {t':Nat} (I:Inv X pins σ H s) (hH:H l=some (.lst xs))
  (e:s.heap.get? l=some { cls :=.type "list",data :=.seq its.toArray n }) (hf:f its.toArray=its'.toArray) (hv:Vals ys its') (hz:ys.length<=sizeLine) :
  Inv X pins σ (upd H l (.lst ys)) { s with heap:=s.heap.update l (Obj.mapSeq f),toks:=t' }:=by
 have q:=PySem.IsL.update e f
 rw [hf] at q
 refine I.write (x:=l) (e:=l) (by rw [hH];exact trivial) (.inl rfl) (fun b' u hb hu=>(Heap.get?_update_other s.heap (Obj.mapSeq f) (Ne.symm hb)).trans hu) ⟨_,q⟩ ?_
 exact⟨hz,its',_,hv,q⟩
theorem Inv.lnew {its:List Value} {t':Nat} (I:Inv X pins σ H s) (hv:Vals ys its) (hz:ys.length<=sizeLine) :
  Inv X pins σ (upd H s.heap.objs.size (.lst ys)) { s with heap:=s.heap.push { cls :=.type "list",data :=.seq its.toArray },toks:=t' } :=
 I.laid (fun _ _ q=>Heap.get?_push_of_some _ q) (Nat.le_refl _) ⟨hz,its,0,hv,Heap.get?_push_size _ rfl⟩
theorem Inv.fresh (I:Inv X pins σ H s):H s.heap.objs.size=none:=I.hok.fresh (Nat.le_refl _)
theorem Inv.lstM (I:Inv X pins σ H s) (hH:H l=some (.lst xs)):xs.length<=sizeLine /\ ∃(its:List Value) (n:Nat),Vals xs its/\xs.length=its.length/\s.heap.get? l=some { cls :=.type "list",data :=.seq its.toArray n }:=by
 obtain⟨z,its,n,r,e⟩:=I.hok l _ hH
 exact⟨z,its,n,r,r.length,e⟩
theorem qL7 {n:Nat} (h:n<=sizeLine):Builtin.List.listTooLong n=false:=by
 unfold Builtin.List.listTooLong
 exact decide_eq_false (by omega)
end
section
variable {X:Cx}
def qHq:V->List V->Hp->VK->Prop:=fun x vs H Q => ∃l xs y,x = .ref l/\vs = [y]/\H l=some (.lst xs)/\xs.length<sizeLine/\Q .non (upd H l (.lst (xs ++ [y])))
theorem qBg:MtM X "list.append" qHq:=by
 intro pins s σ H x vs v us Q I rx rv h
 obtain⟨l,xs,y,rfl,rfl,hH,hz,q⟩:=h
 cases rx
 obtain⟨u,rfl,ru⟩:=rv.one
 obtain⟨z,its,n,r,hl,e⟩:=I.lstM hH
 refine call_meets F.slot_list_append ⟨_,e,rfl⟩ F.entry_list_append (F.args_list_append_2 _ _) (PySem.list_append l its.toArray n u (by rw [List.size_toArray];omega)) ⟨e,?_⟩
 refine⟨.non,_,I.lset (its':=its ++ [u]) hH e (by simp) (r.append (.cons ru .nil)) ?_,rfl,q⟩
 rw [List.length_append,List.length_singleton]
 omega
def qSo:V->List V->Hp->VK->Prop:=fun x vs H Q => ∃l b xs zs,x = .ref l/\vs = [.ref b]/\H l=some (.lst xs)/\H b=some (.lst zs)/\xs.length+zs.length<=sizeLine/\Q .non (upd H l (.lst (xs++zs)))
theorem qJ2:MtM X "list.extend" qSo:=by
 intro pins s σ H x vs v us Q I rx rv h
 obtain⟨l,b,xs,zs,rfl,rfl,hH,hB,hz,q⟩:=h
 cases rx
 obtain⟨u,rfl,ru⟩:=rv.one
 cases ru
 obtain⟨z,its,n,r,hl,e⟩:=I.lstM hH
 obtain⟨z2,its2,n2,r2,hl2,e2⟩:=I.lstM hB
 have hsz:its.toArray.size+its2.toArray.size<=sizeLine:=by rw [List.size_toArray,List.size_toArray];omega
 have hlong : ¬(!its.toArray.isEmpty&&Builtin.List.listTooLong (its.toArray.size+its2.toArray.size))=true:=by
  rw [qL7 hsz,Bool.and_false]
  exact Bool.false_ne_true
 refine call_meets F.slot_list_extend ⟨_,e,rfl⟩ F.entry_list_extend (F.args_list_extend_2 _ _)
  (AutoSeq1.list_extend_list_list_0 l its.toArray n b its2.toArray n2 hlong (by rw [List.size_toArray];omega) (by omega)) ⟨e,e2,?_⟩
 refine⟨.non,_,I.lset (its':=its++its2) hH e (by simp) (r.append r2) ?_,rfl,q⟩
 rw [List.length_append]
 omega
def rPop:V->List V->Hp->VK->Prop:=fun x vs H Q => ∃l xs y,x = .ref l/\vs = []/\H l=some (.lst xs)/\xs[xs.length - 1]? = some y/\Q y (upd H l (.lst xs.dropLast))
theorem qVd:MtM X "list.pop" rPop:=by
 intro pins s σ H x vs v us Q I rx rv h
 obtain⟨l,xs,y,rfl,rfl,hH,hy,q⟩:=h
 cases rx
 have hus:=rv.zero
 subst hus
 obtain⟨z,its,n,r,hl,e⟩:=I.lstM hH
 obtain⟨u,hu,ru⟩:=r.get hy
 have hy':its.toArray[its.toArray.size - 1]? = some u:=by
  show its.toArray[its.length - 1]? = some u
  rw [<-Array.getElem?_toList,<-hl]
  exact hu
 refine call_meets F.slot_list_pop ⟨_,e,rfl⟩ F.entry_list_pop (F.args_list_pop_1 _) (MeetsSeq.list_pop_last l its.toArray n u hy' (by rw [List.size_toArray];omega)) ⟨e,?_⟩
 refine⟨y,_,I.lset (its':=its.dropLast) hH e ?_ r.dropLast ?_,ru,q⟩
 ·show its.toArray.eraseIdxIfInBounds (its.toArray.size - 1)=its.dropLast.toArray
  rw [List.size_toArray,List.eraseIdxIfInBounds_toArray,qMp]
 ·rw [List.length_dropLast]
  omega
def qV4:V->List V->Hp->VK->Prop:=fun x vs H Q => ∃l xs i k y,x = .ref l/\vs = [.int i]/\H l=some (.lst xs) /\ -(2^63)<=i/\i<2^63/\seqIndex? i xs.length=some k/\xs[k]? = some y/\Q y (upd H l (.lst (xs.eraseIdx k)))
theorem qL9:MtM X "list.pop" qV4:=by
 intro pins s σ H x vs v us Q I rx rv h
 obtain⟨l,xs,i,k,y,rfl,rfl,hH,h1,h2,hk,hy,q⟩:=h
 cases rx
 obtain⟨u,rfl,ru⟩:=rv.one
 obtain⟨t,rfl⟩:=ru
 obtain⟨z,its,n,r,hl,e⟩:=I.lstM hH
 obtain⟨w,hw,rw'⟩:=r.get hy
 refine call_meets F.slot_list_pop ⟨_,e,rfl⟩ F.entry_list_pop (F.args_list_pop_2 _ _)
  (MeetsSeq.list_pop_at l its.toArray n i t k w (fitsIndex_both h1 h2) (by rw [List.size_toArray,<-hl];exact hk) (by rw [<-Array.getElem?_toList];exact hw) (by rw [List.size_toArray];omega)) ⟨e,?_⟩
 refine⟨y,_,I.lset (its':=its.eraseIdx k) hH e ?_ (r.eraseIdx k) ?_,rw',q⟩
 ·show its.toArray.eraseIdxIfInBounds k=(its.eraseIdx k).toArray
  rw [List.eraseIdxIfInBounds_toArray]
 ·have:=qJ8 xs k
  omega
def rCat:R2:=fun x y H Q => ∃l b xs zs,x = .ref l/\y = .ref b/\H l=some (.lst xs)/\H b=some (.lst zs)/\xs.length+zs.length<=sizeLine /\ ∀p,H p=none->Q (.ref p) (upd H p (.lst (xs++zs)))
theorem qG0:OpR X (binaryOp .Add) rCat:=by
 intro pins s σ H x y v u Q I rx ry h
 obtain⟨l,b,xs,zs,rfl,rfl,hH,hB,hz,q⟩:=h
 cases rx
 cases ry
 obtain⟨z,its,n,r,hl,e⟩:=I.lstM hH
 obtain⟨z2,its2,n2,r2,hl2,e2⟩:=I.lstM hB
 refine PySem.P.add_list e e2 ?_ (by rw [List.size_toArray,List.size_toArray];omega)
 have ea:its.toArray++its2.toArray=(its++its2).toArray:=by simp
 rw [ea]
 exact⟨.ref _,_,I.lnew (t':=s.toks) (r.append r2) (by rw [List.length_append];omega),rfl,q _ I.fresh⟩
def rRep:R2:=fun x y H Q => ∃l k xs,x = .ref l/\y = .int k/\H l=some (.lst xs) /\ -(2^63)<=k/\k<2^63/\xs.length*k.toNat<=sizeLine /\
 ∀p,H p=none->Q (.ref p) (upd H p (.lst (List.replicate k.toNat xs).flatten))
theorem qTj {α : Type} (xs:List α) (k:Nat):(List.replicate k xs).flatten.length=k*xs.length:=by
 induction k with
 | zero=>simp
 | succ k ih=>rw [List.replicate_succ,List.flatten_cons,List.length_append,ih,Nat.succ_mul,Nat.add_comm]
theorem qVa:OpR X (binaryOp .Mult) rRep:=by
 intro pins s σ H x y v u Q I rx ry h
 obtain⟨l,k,xs,rfl,rfl,hH,h1,h2,hz,q⟩:=h
 cases rx
 obtain⟨t,rfl⟩:=ry
 obtain⟨z,its,n,r,hl,e⟩:=I.lstM hH
 have hlen:its.toArray.size*k.toNat<=sizeLine:=by rw [List.size_toArray,<-hl];exact hz
 have hcap : ¬its.toArray.size*k.toNat>(2^63 - 1) / 8:=by
  have:(sizeLine:Nat)<=(2^63 - 1) / 8:=by decide
  omega
 have hfit : ¬(!Builtin.List.listFitsIndex k)=true:=by
  rw [fitsIndex_both h1 h2]
  exact Bool.false_ne_true
 have hlong : ¬Builtin.List.listTooLong (its.toArray.size*k.toNat)=true:=by
  rw [qL7 hlen]
  exact Bool.false_ne_true
 have hnew:List.foldl (fun x1 x2=>x1++x2) #[] (List.replicate (if its.toArray.isEmpty=true then 0 else k.toNat) its.toArray)=(List.replicate k.toNat its).flatten.toArray:=by
  have f0 : ∀m:Nat,List.foldl (fun x1 x2=>x1++x2) #[] (List.replicate m its.toArray)=(List.replicate m its).flatten.toArray:=fun m=>by
   have:=qJd its m []
   rw [List.nil_append] at this
   exact this
  rw [f0]
  cases its with
  | nil=>simp
  | cons a r'=>rw [if_neg (by simp)]
 refine wpAny_binaryOp_repeat_ref (T := "list") (U := "int") (by decide) ⟨_,e,rfl⟩ (fun s'=>typeIs_int s' k t) noFill_list_mul F.fills_int_mul F.slot_int_rmul repeat_list F.slot_int_index.lookup
  (call_meets F.slot_int_rmul (typeIs_int s k t) F.entry_int_rmul (F.args_int_rmul_2 _ _) (int___rmul___int_list k t l its.toArray n)
   ⟨e,rfl,⟨_,e,rfl⟩,call_meets F.slot_list_mul ⟨_,e,rfl⟩ F.entry_list_mul (F.args_list_mul_2 _ _) (AutoListH.list___mul___list_int_3 l its.toArray n k t hfit hcap hlong) ⟨e,?_⟩⟩)
 rw [hnew]
 exact⟨.ref _,_,I.lnew (t':=s.toks) (r.rep k.toNat) (by rw [qTj,Nat.mul_comm];exact hz),rfl,q _ I.fresh⟩
end
section
variable {κ : Type} [DecidableEq κ]
def valV (kvs:List (κ × V)) (k : κ):Option V:=(kvs.find? fun kv=>decide (kv.1=k)).map (·.2)
def putK (kvs:List (κ × V)) (k : κ) (v:V):List (κ × V) :=
 if (kvs.any fun kv=>decide (kv.1=k))=true then kvs.map (fun kv=>if kv.1=k then (kv.1,v) else kv) else kvs ++ [(k,v)]
theorem qF8 {p : κ × V} {r:List (κ × V)} {k : κ} (e:p.1=k):valV (p::r) k=some p.2:=by simp [valV,List.find?_cons,e]
theorem qF9 {p : κ × V} {r:List (κ × V)} {k : κ} (e : ¬p.1=k):valV (p::r) k=valV r k:=by simp [valV,List.find?_cons,e]
theorem qHh (k : κ) : ∀kvs:List (κ × V),(kvs.any fun kv=>decide (kv.1=k))=(valV kvs k).isSome
 | []=>rfl
 | p::r=>by
  rw [List.any_cons]
  by_cases e:p.1=k
  ·simp only [qF8 e,decide_eq_true e,Bool.true_or,Option.isSome_some]
  ·rw [qF9 e,decide_eq_false e,Bool.false_or];exact qHh k r
theorem qCl (kvs:List (κ × V)) (k : κ) (v:V):(putK kvs k v).length<=kvs.length+1:=by
 unfold putK
 split
 ·rw [List.length_map];omega
 ·rw [List.length_append,List.length_cons,List.length_nil];omega
theorem qQa {kvs:List (κ × V)} {k : κ} (v:V) (h:valV kvs k=none):putK kvs k v=kvs ++ [(k,v)]:=by
 unfold putK
 rw [qHh,h]
 exact if_neg (by decide)
theorem RelO.isSome_eq {o:Option V} {u:Option Value} (r:RelO o u):o.isSome=u.isSome:=by
 cases o with
 | none=>cases u with
  | none=>rfl
  | some _=>exact (show False from r).elim
 | some _=>cases u with
  | none=>exact (show False from r).elim
  | some _=>rfl
theorem KV.val {kvs:List (κ × V)} {vs:List (κ × Value)} (r:KV kvs vs) (k : κ):RelO (valV kvs k) (valueAt vs k):=by
 unfold KV at r
 induction r with
 | nil=>exact True.intro
 | @cons p q ps qs h t ih =>
  obtain⟨h1,h2⟩:=h
  by_cases e:p.1=k
  ·have e':q.1=k:=h1.symm.trans e
   have b:valueAt (q::qs) k=some q.2:=by simp [valueAt,List.find?_cons,e']
   rw [qF8 e,b];exact h2
  ·have e' : ¬q.1=k:=fun z=>e (h1.trans z)
   have b:valueAt (q::qs) k=valueAt qs k:=by simp [valueAt,List.find?_cons,e']
   rw [qF9 e,b];exact ih
theorem KV.any {kvs:List (κ × V)} {vs:List (κ × Value)} (r:KV kvs vs) (k : κ):(kvs.any fun kv=>decide (kv.1=k))=vs.any fun kv=>decide (kv.1=k):=by
 unfold KV at r
 induction r with
 | nil=>rfl
 | cons h t ih=>rw [List.any_cons,List.any_cons,ih,h.1]
theorem KV.repl {kvs:List (κ × V)} {vs:List (κ × Value)} (r:KV kvs vs) (k : κ) {y:V} {u:Value} (ry:RelV y u) :
  KV (kvs.map fun kv=>if kv.1=k then (kv.1,y) else kv) (vs.map fun kv=>if kv.1=k then (kv.1,u) else kv):=by
 unfold KV at r ⊢
 induction r with
 | nil=>exact .nil
 | @cons p q ps qs h t ih =>
  rw [List.map_cons,List.map_cons]
  refine .cons ?_ ih
  obtain⟨h1,h2⟩:=h
  by_cases e:p.1=k
  ·rw [if_pos e,if_pos (h1.symm.trans e)];exact⟨h1,ry⟩
  ·rw [if_neg e,if_neg (fun z=>e (h1.trans z))];exact⟨h1,h2⟩
theorem KV.put {kvs:List (κ × V)} {vs:List (κ × Value)} (r:KV kvs vs) (k : κ) {y:V} {u:Value} (ry:RelV y u):KV (putK kvs k y) (stored vs k u):=by
 unfold putK stored
 rw [r.any k]
 by_cases e:(vs.any fun kv=>decide (kv.1=k))=true
 ·rw [if_pos e,if_pos e];exact r.repl k ry
 ·rw [if_neg e,if_neg e];exact Paired.snoc r ⟨rfl,ry⟩
theorem KV.length {kvs:List (κ × V)} {vs:List (κ × Value)} (r:KV kvs vs):kvs.length=vs.length:=Paired.length r
end
theorem qMm {P:Program} {w:World} {k:Key} {u:Value} (r:RelV (kV k) u):(qB7 P w).is k u=true:=by
 cases k with
 | inl i=>obtain⟨t,e⟩:=(show ∃t,u=Value.int i t from r);subst e;exact qDv P w i t
 | inr x=>obtain⟨t,e⟩:=(show ∃t,u=Value.str x t from r);subst e;exact qKg P w x t
theorem qJc {P:Program} {w:World} : ∀ {ks:List Key} {us:List Value},Vals (ks.map kV) us->ItemsAre (qB7 P w) ks us
 | [],_,r=>by rw [List.map_nil] at r;cases r;exact .nil
 | k::ks,_,r=>by
  rw [List.map_cons] at r
  cases r with
  | cons h t=>exact .cons (qMm h) (qJc t)
abbrev KT (H:Hp):List (List Key×V)->List (List Key×Addr×Value)->Prop:=Paired fun p q=>p.1=q.1/\H q.2.1=some (.tup (p.1.map kV))/\RelV p.2 q.2.2
theorem KT.val {H:Hp} {kvs:List (List Key×V)} {xs:List (List Key×Addr×Value)} (r:KT H kvs xs) (k:List Key):RelO (valV kvs k) ((atKey xs k).map (·.2)):=by
 induction r with
 | nil=>exact True.intro
 | @cons p q ps qs h t ih =>
  obtain⟨h1,_,h2⟩:=h
  by_cases e:p.1=k
  ·have e':q.1=k:=h1.symm.trans e
   have b:atKey (q::qs) k=some q.2:=by simp [atKey,List.find?_cons,e']
   rw [qF8 e,b];exact h2
  ·have e' : ¬q.1=k:=fun z=>e (h1.trans z)
   have b:atKey (q::qs) k=atKey qs k:=by simp [atKey,List.find?_cons,e']
   rw [qF9 e,b];exact ih
theorem KT.repl {H:Hp} {kvs:List (List Key×V)} {xs:List (List Key×Addr×Value)} (r:KT H kvs xs) (k:List Key) {y:V} {u:Value} (ry:RelV y u) :
  KT H (kvs.map fun kv=>if kv.1=k then (kv.1,y) else kv) (xs.map (putAt k u)):=by
 induction r with
 | nil=>exact .nil
 | @cons p q ps qs h t ih =>
  rw [List.map_cons,List.map_cons]
  refine .cons ?_ ih
  obtain⟨h1,h2,h3⟩:=h
  unfold putAt
  by_cases e:p.1=k
  ·rw [if_pos e,if_pos (h1.symm.trans e)];exact⟨h1,h2,ry⟩
  ·rw [if_neg e,if_neg (fun z=>e (h1.trans z))];exact⟨h1,h2,h3⟩
theorem KT.put {H:Hp} {kvs:List (List Key×V)} {xs:List (List Key×Addr×Value)} (r:KT H kvs xs) (k:List Key) {b:Addr} {y:V} {u:Value} (hb:H b=some (.tup (k.map kV))) (ry:RelV y u) :
  KT H (putK kvs k y) (storedH xs k b u):=by
 have e:(kvs.any fun kv=>decide (kv.1=k))=(atKey xs k).isSome:=by
  rw [qHh,(r.val k).isSome_eq,Option.isSome_map]
 unfold putK storedH
 rw [e]
 by_cases q:(atKey xs k).isSome=true
 ·rw [if_pos q,if_pos q];exact r.repl k ry
 ·rw [if_neg q,if_neg q];exact Paired.snoc r ⟨rfl,hb,ry⟩
theorem KT.keeps {H H':Hp} {kvs:List (List Key×V)} {xs:List (List Key×Addr×Value)} (r:KT H kvs xs) (ht : ∀b ys,H b=some (.tup ys)->H' b=some (.tup ys)):KT H' kvs xs :=
 Paired.mapP r fun _ _ z=>⟨z.1,ht _ _ z.2.1,z.2.2⟩
section
variable {P:Program} {w:World} {H:Hp} {h:Heap} {a:Addr}
theorem qUd {u:HO} (ok:HOk P w H h) (e:Rd H a u):ObjOk P w H h a u:=e.ok ok
theorem qMq {kvs:List (Key×V)} (ok:HOk P w H h) (e:Rd H a (.dK kvs)):kvs.length<=sizeLine/\(a == sysModules)=false /\ ∃vs,KV kvs vs/\h.DictOf (qB7 P w) a vs :=
 show ObjOk P w H h a (.dK kvs) from qUd ok e
theorem qR7 {kvs:List (Key×V)} (ok:HOk P w H h) (e:H a=some (.dK kvs)):kvs.length<=sizeLine/\(a == sysModules)=false /\ ∃vs,KV kvs vs/\h.DictOf (qB7 P w) a vs:=qMq ok (.inl e)
theorem qJb {ks:List Key} (ok:HOk P w H h) (e:H a=some (.tup (ks.map kV))):(tupleKind (qB7 P w)).is h ks a:=by
 obtain⟨_,its,r,o,h1,h2,n,h3⟩:=(show ObjOk P w H h a (.tup (ks.map kV)) from ok a _ e)
 exact⟨o,its.toArray,n,h1,h2,h3,by simpa using qJc r⟩
theorem qP4 {kvs:List (List Key×V)} (ok:HOk P w H h) (e:Rd H a (.dT kvs)):kvs.length<=sizeLine/\(a == sysModules)=false /\
  ∃xs,KT H kvs xs/\h.DictOfH (tupleKind (qB7 P w)) a xs:=by
 obtain⟨z,y,xs,r,o,es,ep,h1,h2,h3,h4,h5⟩:=(show ObjOk P w H h a (.dT kvs) from qUd ok e)
 refine⟨z,y,xs,r,o,es,ep,h1,h2,h3,h4,fun x hx => ?_,h5⟩
 have all : ∀ {l:List (List Key×V)} {m:List (List Key×Addr×Value)},KT H l m -> ∀x∈m,(tupleKind (qB7 P w)).is h x.1 x.2.1:=by
  intro l m q
  induction q with
  | nil=>intro x hx;exact nomatch hx
  | @cons p q ps qs hq t ih =>
   intro x hx
   rcases List.mem_cons.mp hx with e | hx
   ·subst e
    exact qJb ok (by rw [<-hq.1];exact hq.2.1)
   ·exact ih x hx
 exact all r x hx
theorem qWg {kvs:List (List Key×V)} (ok:HOk P w H h) (e:H a=some (.dT kvs)):kvs.length<=sizeLine/\(a == sysModules)=false /\
  ∃xs,KT H kvs xs/\h.DictOfH (tupleKind (qB7 P w)) a xs:=qP4 ok (.inl e)
end
def DGet (H:Hp) (a:Addr) (y:V) (r:Option V):Prop :=
 (∃kvs k,Rd H a (.dK kvs)/\y=kV k/\r=valV kvs k) \/ ∃kvs k b,Rd H a (.dT kvs)/\y = .ref b/\H b=some (.tup (k.map kV))/\r=valV kvs k
def DPut (H:Hp) (a:Addr) (y v:V) (H':Hp):Prop :=
 (∃kvs k,H a=some (.dK kvs)/\y=kV k/\kvs.length<sizeLine/\H'=upd H a (.dK (putK kvs k v))) \/
 ∃kvs k b,H a=some (.dT kvs)/\y = .ref b/\H b=some (.tup (k.map kV))/\kvs.length<sizeLine/\H'=upd H a (.dT (putK kvs k v))
theorem DGet.k {H:Hp} {a:Addr} {kvs:List (Key×V)} {k:Key} (e:H a=some (.dK kvs)):DGet H a (kV k) (valV kvs k) :=.inl ⟨kvs,k,.inl e,rfl,rfl⟩
theorem DGet.t {H:Hp} {a b:Addr} {kvs:List (List Key×V)} {k:List Key} (e:H a=some (.dT kvs)) (eb:H b=some (.tup (k.map kV))):DGet H a (.ref b) (valV kvs k) :=.inr ⟨kvs,k,b,.inl e,rfl,eb,rfl⟩
theorem DPut.t {H:Hp} {a b:Addr} {kvs:List (List Key×V)} {k:List Key} {v:V} (e:H a=some (.dT kvs)) (eb:H b=some (.tup (k.map kV))) (hl:kvs.length<sizeLine) :
  DPut H a (.ref b) v (upd H a (.dT (putK kvs k v))) :=.inr ⟨kvs,k,b,e,rfl,eb,hl,rfl⟩
section
variable {X:Cx} {pins:List (Addr×Obj)} {σ : St} {H:Hp} {s:Shared} {a:Addr} {y v:V} {u r:Value} {o:Option V} {A:Around} {E:Value->Shared->Prop}
theorem Inv.big (I:Inv X pins σ H s):sysModules<s.heap.objs.size:=by
 have h:mainGlobals<s.heap.objs.size:=(I.mod.glob.keeps I.bk).lt
 exact Nat.lt_trans (by decide) h
theorem qPf {Q:Value->Shared->Prop} (hu:A.units+1<cLine) (I:Inv X pins σ H s) (g:DGet H a y (some v)) (ry:RelV y u) (h : ∀w' s',Inv X pins σ H s'->RelV v w'->Q w' s') :
  wpAny (model X.prog X.w) A (getItem (.ref a) u) Q E s:=by
 rcases g with ⟨kvs,k,e,ey,l⟩ | ⟨kvs,k,b,e,ey,eb,l⟩
 ·subst ey
  obtain⟨z,hd,vs,rel,dd⟩:=qMq I.hok e
  obtain⟨w',hw,rw'⟩:=RelO.some_of (v:=v) (o:=valueAt vs k) (by rw [l];exact rel.val k)
  exact wpAny_getItem_of (qMm ry) dd.mapOf hw (h w' _ (I.tok _) rw')
 ·subst ey
  cases (show u=Value.ref b from ry)
  obtain⟨z,hd,xs,rel,dd⟩:=qP4 I.hok e
  obtain⟨w',hw,rw'⟩:=RelO.some_of (v:=v) (o:=(atKey xs k).map (·.2)) (by rw [l];exact rel.val k)
  obtain⟨p,hp,hp2⟩:=Option.map_eq_some_iff.mp hw
  refine wpAny_getItem_heap (tupleKind_room_in1 hu) (qJb I.hok eb) dd hp ?_
  rw [hp2]
  exact h w' _ (I.tok _) rw'
theorem d_in {Q:Value->Shared->Prop} (hu:A.units+1<cLine) (I:Inv X pins σ H s) (g:DGet H a y o) (ry:RelV y u) (h : ∀s',Inv X pins σ H s'->Q (.bool o.isSome) s') :
  wpAny (model X.prog X.w) A (compareOp .In u (.ref a)) Q E s:=by
 rcases g with ⟨kvs,k,e,ey,l⟩ | ⟨kvs,k,b,e,ey,eb,l⟩
 ·subst ey
  obtain⟨z,hd,vs,rel,dd⟩:=qMq I.hok e
  refine wpAny_in_of (qMm ry) hd dd.mapOf ?_
  rw [<-(rel.val k).isSome_eq,<-l]
  exact h _ (I.tok _)
 ·subst ey
  cases (show u=Value.ref b from ry)
  obtain⟨z,hd,xs,rel,dd⟩:=qP4 I.hok e
  refine wpAny_in_heap (tupleKind_room_in1 hu) (qJb I.hok eb) hd dd ?_
  have q:=(rel.val k).isSome_eq
  rw [Option.isSome_map] at q
  rw [<-q,<-l]
  exact h _ (I.tok _)
theorem qTs {Q:Value->Shared->Prop} (hu:A.units+1<cLine) (I:Inv X pins σ H s) (g:DGet H a y o) (ry:RelV y u) (h : ∀s',Inv X pins σ H s'->Q (.bool (!o.isSome)) s') :
  wpAny (model X.prog X.w) A (compareOp .NotIn u (.ref a)) Q E s:=by
 rcases g with ⟨kvs,k,e,ey,l⟩ | ⟨kvs,k,b,e,ey,eb,l⟩
 ·subst ey
  obtain⟨z,hd,vs,rel,dd⟩:=qMq I.hok e
  refine wpAny_notIn_of (qMm ry) hd dd.mapOf ?_
  rw [<-(rel.val k).isSome_eq,<-l]
  exact h _ (I.tok _)
 ·subst ey
  cases (show u=Value.ref b from ry)
  obtain⟨z,hd,xs,rel,dd⟩:=qP4 I.hok e
  refine wpAny_notIn_heap (tupleKind_room_in1 hu) (qJb I.hok eb) hd dd ?_
  have q:=(rel.val k).isSome_eq
  rw [Option.isSome_map] at q
  rw [<-q,<-l]
  exact h _ (I.tok _)
theorem qKl {h':Heap} {t':Nat} {ob:HO} (I:Inv X pins σ H s) (mu:Mut (H a)) (hs:Heap.SameBut a s.heap h') (he : ∃q,h'.get? a=some q) (new:ObjOk X.prog X.w (upd H a ob) h' a ob) :
  Inv X pins σ (upd H a ob) { s with heap:=h',toks:=t' } :=
 I.write (x:=a) (e:=a) mu (.inl rfl) (fun b q hb z=>(hs.2 b hb).trans z) he new
theorem qS0 {P:Program} {w:World} {H':Hp} {h':Heap} {kvs:List (Key×V)} {vs:List (Key×Value)} (z:kvs.length<=sizeLine) (hd:(a == sysModules)=false) (rel:KV kvs vs) (dd:h'.DictOf (qB7 P w) a vs) :
  ObjOk P w H' h' a (.dK kvs):=⟨z,hd,vs,rel,dd⟩
theorem qPe {H':Hp} {Q:Unit->Shared->Prop} (hu:A.units+1<cLine) (I:Inv X pins σ H s) (g:DPut H a y v H') (ry:RelV y u) (rv:RelV v r) (h : ∀s',Inv X pins σ H' s'->Q () s') :
  wpAny (model X.prog X.w) A (setItem (.ref a) u r) Q E s:=by
 rcases g with ⟨kvs,k,e,ey,l,eH⟩ | ⟨kvs,k,b,e,ey,eb,l,eH⟩
 ·subst ey eH
  obtain⟨z,hd,vs,rel,dd⟩:=qR7 I.hok e
  have hz:vs.length<=sizeLine:=by rw [<-rel.length];exact z
  have hl:(putK kvs k v).length<=sizeLine:=by have:=qCl kvs k v;omega
  refine wpAny_setItem_pairs (hsz:=hz) (qMm ry) dd fun h' dd' hs=>h _ ?_
  have he : ∃q,h'.get? a=some q:=let ⟨q,_,_,hq,_⟩:=dd';⟨q,hq⟩
  exact qKl I (by rw [e];exact True.intro) hs he (qS0 hl hd (rel.put k rv) dd')
 ·subst ey eH
  cases (show u=Value.ref b from ry)
  obtain⟨z,hd,xs,rel,dd⟩:=qWg I.hok e
  have hz:xs.length<=sizeLine:=by rw [<-Paired.length rel];exact z
  have hl:(putK kvs k v).length<=sizeLine:=by have:=qCl kvs k v;omega
  refine wpAny_setItem_heap (hsz:=hz) (tupleKind_room_in1 hu) (qJb I.hok eb) dd fun h' dd' hs=>h _ ?_
  obtain⟨q,es,ep,hq,h2,h3,h4,_,h5⟩:=dd'
  refine qKl I (by rw [e];exact True.intro) hs ⟨q,hq⟩ ⟨hl,hd,_,(rel.put k eb rv).keeps fun c ys ec => ?_,q,es,ep,hq,h2,h3,h4,h5⟩
  rw [qA4 (qMg ec e (fun z=>nomatch z))]
  exact ec
end
def NoSl (i:Expr):Prop := ∀ov iv,subscripted i false ov iv=operate [ov,iv] (getItem ov iv)
theorem qS8 {prog:Program} {w:World} {A:Around} {E:Value->Shared->Prop} {s:Shared} {env:Env} {value slice:Expr} {pos:Pos} {T id:String} {Q:Value->Shared->Prop}
  (hl:typeLookup (.type T) "__getitem__" = pure (some (.builtin id))) (hs:NoSl slice)
  (h:wpAny (model prog w) A (eval value env) (fun o s₁ =>wpAny (model prog w) A (eval slice env) (fun i s₂ =>s₂.TypeIs o T/\wpAny (model prog w) A (getItem o i) Q E s₂) E s₁) E s) :
  wpAny (model prog w) A (eval (.Subscript value slice pos) env) Q E s:=by
 refine Subscript_ (wpAny_mono h (fun o s₁ h₁ =>wpAny_mono h₁ (fun i s₂ h₂ => ?_) fun _ _ x=>x) fun _ _ x=>x)
 obtain⟨hT,h₂⟩:=h₂
 unfold subscriptTail
 refine wpAny_bind ?_
 rw [getitemInPython_of_ne hT.not_modules]
 refine wpAny_bind (wpAny_specialOf hT hl ?_)
 have fin:wpAny (model prog w) A (subscripted slice false o i) (fun r s₃ =>wpAny (model prog w) A (letTemporaryGo value o r >>= fun _=>pure r) Q E s₃) E s₂ :=by
  rw [hs o i]
  exact wpAny_operating (wpAny_mono h₂ (fun r s₃ h₃ =>wpAny_bind (wpAny_letTemporaryGo (wpAny_pure h₃))) fun _ _ x=>x)
 first
  | exact wpAny_pure (wpAny_bind fin)
  | exact wpAny_bind (wpAny_pure (wpAny_bind fin))
  | exact wpAny_bind fin
theorem qKk {X:Cx} {pins:List (Addr×Obj)} {σ : St} {H:Hp} {s:Shared} {a:Addr} {y:V} {o:Option V} (I:Inv X pins σ H s) (g:DGet H a y o):s.TypeIs (.ref a) "dict" :=by
 rcases g with ⟨kvs,k,e,_,_⟩ | ⟨kvs,k,b,e,_,_,_⟩
 ·obtain⟨_,_,vs,_,dd⟩:=qMq I.hok e
  exact dd.typeIs
 ·obtain⟨_,_,xs,_,dd⟩:=qP4 I.hok e
  exact dd.typeIs
def tDGet (td ty:TE):TE:=fun σ H Q=>td σ H fun x H1=>ty σ H1 fun y H2 => ∃a v,x = .ref a/\DGet H2 a y (some v)/\Q v H2
def tDIn (ty td:TE):TE:=fun σ H Q=>ty σ H fun y H1=>td σ H1 fun x H2 => ∃a o,x = .ref a/\DGet H2 a y o/\Q (.bl o.isSome) H2
def qN9 (ty td:TE):TE:=fun σ H Q=>ty σ H fun y H1=>td σ H1 fun x H2 => ∃a o,x = .ref a/\DGet H2 a y o/\Q (.bl (!o.isSome)) H2
def sDPut (td ty tv:TE):TS:=fun D σ H=>tv σ H fun v H1=>td σ H1 fun x H2=>ty σ H2 fun y H3 => ∃a H4,x = .ref a/\DPut H3 a y v H4/\D.nx σ H4
section
variable {X:Cx} {o i e value:Expr} {pos pos' tpos:Pos} {td ty tv:TE}
theorem qHw (hu:X.A.units+1<cLine) (ho:PE X o td) (hi:PE X i ty) (hs:NoSl i):PE X (.Subscript o i pos) (tDGet td ty):=by
 intro pins s σ H Q I h
 refine qS8 PySem.F.slot_dict_getitem.lookup hs (thn (ho pins s σ H _ I h) fun u s1 hq_ => ?_)
 obtain⟨x,H1,I1,rx,q1⟩:=hq_
 refine thn (hi pins s1 σ H1 _ I1 q1) fun iv s2 hq_ => ?_
 obtain⟨y,H2,I2,ry,a,v,ex,g,q2⟩:=hq_
 subst ex
 obtain rfl:u=Value.ref a:=rx
 exact⟨qKk I2 g,qPf hu I2 g ry fun w' s3 I3 rw'=>⟨v,H2,I3,rw',q2⟩⟩
theorem qV9 (hu:X.A.units+1<cLine) (hi:PE X i ty) (ho:PE X o td):PC X .In i o (tDIn ty td):=by
 intro pins s σ H Q I h
 refine thn (hi pins s σ H _ I h) fun iv s1 hq_ => ?_
 obtain⟨y,H1,I1,ry,q1⟩:=hq_
 refine thn (ho pins s1 σ H1 _ I1 q1) fun u s2 hq_ => ?_
 obtain⟨x,H2,I2,rx,a,ov,ex,g,q2⟩:=hq_
 subst ex
 obtain rfl:u=Value.ref a:=rx
 exact d_in hu I2 g ry fun s3 I3=>⟨.bl ov.isSome,H2,I3,rfl,q2⟩
theorem qO6 (hu:X.A.units+1<cLine) (hi:PE X i ty) (ho:PE X o td):PC X .NotIn i o (qN9 ty td):=by
 intro pins s σ H Q I h
 refine thn (hi pins s σ H _ I h) fun iv s1 hq_ => ?_
 obtain⟨y,H1,I1,ry,q1⟩:=hq_
 refine thn (ho pins s1 σ H1 _ I1 q1) fun u s2 hq_ => ?_
 obtain⟨x,H2,I2,rx,a,ov,ex,g,q2⟩:=hq_
 subst ex
 obtain rfl:u=Value.ref a:=rx
 exact qTs hu I2 g ry fun s3 I3=>⟨.bl (!ov.isSome),H2,I3,rfl,q2⟩
theorem qO1 (hu:X.A.units+1<cLine) (ho:PE X o td) (hi:PE X i ty) (hv:PE X value tv) (hs:swapsWith value (some (.Subscript o i pos')) pos.line X.env=pure false) :
  PS X (.Assign [.Subscript o i pos'] value pos) (sDPut td ty tv):=by
 intro pins s σ H D I h
 refine wpAny_Assign_Subscript (thn (hv pins s σ H _ I h) fun r s1 hq_ => ?_) hs
 obtain⟨v,H1,I1,rv,q1⟩:=hq_
 refine thn (ho pins s1 σ H1 _ I1 q1) fun u s2 hq_ => ?_
 obtain⟨x,H2,I2,rx,q2⟩:=hq_
 refine thn (hi pins s2 σ H2 _ I2 q2) fun iv s3 hq_ => ?_
 obtain⟨y,H3,I3,ry,a,H4,ex,g,q3⟩:=hq_
 subst ex
 obtain rfl:u=Value.ref a:=rx
 exact qPe hu I3 g ry rv fun s4 I4=>⟨σ,H4,I4,q3⟩
end
theorem qR8 {P:Program} {w:World} {H:Hp} (h:Heap) (hb:sysModules<h.objs.size):ObjOk P w H (h.push { cls :=.type "dict",data :=.dict #[] }) h.objs.size (.dK []) :=
 ⟨Nat.zero_le _,beq_eq_false_iff_ne.mpr (Ne.symm (Nat.ne_of_lt hb)),[],.nil,Heap.DictOf.new h⟩
theorem qR6 {P:Program} {w:World} {H:Hp} (h:Heap) (hb:sysModules<h.objs.size):ObjOk P w H (h.push { cls :=.type "dict",data :=.dict #[] }) h.objs.size (.dT []) :=
 ⟨Nat.zero_le _,beq_eq_false_iff_ne.mpr (Ne.symm (Nat.ne_of_lt hb)),[],.nil,_,#[],0,Heap.get?_push_size _ rfl,⟨rfl,rfl,rfl⟩,rfl,rfl,List.nodup_nil⟩
def qRh:TE:=fun _ H Q => ∀p,H p=none->Q (.ref p) (upd H p (.dK []))
def qU1:TE:=fun _ H Q => ∀p,H p=none->Q (.ref p) (upd H p (.dT []))
section
variable {X:Cx} {pos:Pos}
theorem qL5:PE X (.Dict [] [] pos) qRh:=fun pins s σ H Q I h =>
 wpAny_Dict_empty ⟨.ref s.heap.objs.size,_,I.laid (a:=s.heap.objs.size) (o :=.dK []) (t':=s.toks) (fun _ _ q=>Heap.get?_push_of_some _ q) (Nat.le_refl _) (qR8 s.heap I.big),rfl,h _ (I.hok.fresh (Nat.le_refl _))⟩
theorem qQe:PE X (.Dict [] [] pos) qU1:=fun pins s σ H Q I h =>
 wpAny_Dict_empty ⟨.ref s.heap.objs.size,_,I.laid (a:=s.heap.objs.size) (o :=.dT []) (t':=s.toks) (fun _ _ q=>Heap.get?_push_of_some _ q) (Nat.le_refl _) (qR6 s.heap I.big),rfl,h _ (I.hok.fresh (Nat.le_refl _))⟩
end
def qJ3 (kvs more:List (Key×V)):List (Key×V):=more.foldl (fun acc kv=>putK acc kv.1 kv.2) kvs
theorem qEa : ∀(more kvs:List (Key×V)),(qJ3 kvs more).length<=kvs.length+more.length
 | [],kvs=>by show kvs.length<=kvs.length+0;omega
 | p::r,kvs=>by
  have h1:=qEa r (putK kvs p.1 p.2)
  have h2:=qCl kvs p.1 p.2
  show (qJ3 (putK kvs p.1 p.2) r).length<=_
  rw [List.length_cons];omega
structure M1 (X:Cx) (o:Expr) (m:Str) (apos:Pos) (e:Expr) (cpos:Pos):Prop where
 base:attributeBase o m X.env (eval o X.env)=eval o X.env
 few:((backTo cpos (starEach [e] X.env)).all (fun x => !x.1)&&(backToKw cpos (keywordEach [] X.env)).all (fun x=>x.1.isSome)
  && decide (([e]:List Expr).length+([]:List Keyword).length+(if ([]:List Keyword).isEmpty then 0 else 1)<30))=true
 line:(apos.endLine == cpos.line)=true
 trees:backTo cpos (starEach [e] X.env) = [(false,eval e X.env)]
def IsD (H:Hp) (a:Addr):Prop:=(∃kvs,Rd H a (.dK kvs)) \/ ∃kvs,Rd H a (.dT kvs)
def qU2 (td ty tx:TE):TE:=fun σ H Q=>td σ H fun x H1 => ∃a,x = .ref a/\IsD H1 a/\ty σ H1 fun y H2=>tx σ H2 fun z H3 => ∃o,DGet H3 a y o/\Q (o.getD z) H3
end L2
namespace Att
open PySem PySem.W PySem.Calls PyProof.Rows
theorem qG7 {P:Params} {h:Heap} : ∀(ns:List Int) (vs:List Value),WellAll P h vs (ns.map WData.int)->IntsAre vs ns:=by
 intro ns
 induction ns with
 | nil =>
  intro vs w
  rw [List.map_nil] at w
  cases w
  exact .nil
 | cons n ns ih =>
  intro vs w
  rw [List.map_cons] at w
  cases w with
  | cons a b =>
   cases a
   exact .cons _ _ (ih _ b)
theorem qNl {l:OpenLaw} {n:Nat} (hn:l.most=some n) {P:Params} {h:Heap} {args:List WData} {vals:List Value}
  (hpre:l.row.toRowW.claim.pre args=true) (hwl:WellAll P h vals args) :
  ∃a vs ns,vals = [Value.ref a]/\args = [WData.list (ns.map WData.int)]/\h.get? a=some { cls :=.type "list",data :=.seq vs.toArray }/\IntsAre vs ns/\ns.length<=n:=by
 have hsh:WShape.hasAll [] args [.list .int]=true:=(pre_splitW hpre).1
 have hc:l.pre.holds [] { args:=args }=true:=(pre_splitW hpre).2
 obtain⟨d,r,rfl,h1,h2⟩:=hasAllW_cons hsh
 obtain rfl:=hasAllW_nil h2
 obtain⟨xs,rfl,h3⟩:=hasW_list h1
 obtain⟨ns,rfl⟩:=items_int h3
 have hlen:ns.length<=n:=by
  unfold OpenLaw.pre at hc
  have h4:(WTm.not (.lt (.lit (.int (n:Int))) (.len (.arg 0)))).holds [] { args :=[.list (ns.map .int)] }=true:=by
   have h4:=(holds_andW hc).1
   rw [hn] at h4
   exact h4
  have h5:=condW_of h4 (w_not (w_lt w_lit (w_len_list (w_arg rfl))))
  rw [List.length_map] at h5
  refine Nat.le_of_not_lt fun q => ?_
  have q':(n:Int)<((ns.length:Nat):Int):=by omega
  first
   | (rw [decide_eq_true q'] at h5;exact absurd h5 (by decide))
   | (simp at h5;omega)
 cases hwl with
 | cons w1 w2 =>
  cases w2
  cases w1 with
  | list ho hall=>exact⟨_,_,ns,rfl,rfl,ho,qG7 ns _ hall,hlen⟩
theorem qO2 (l:OpenLaw) (args:List WData):l.row.toRowW.claim.post args (.bool true) args=true :=
 postW_of (r:=l.row.toRowW) (X:=(true == true))
  (show WShape.has [] (.bool true) .bool=true by first | rfl | decide | simp [WShape.has,WShape.arms,WShape.armsAll])
  (show (WTm.eq .res (.lit (.bool true))).value [] { args:=args,res:=some (.bool true),after:=args }=some (.bool (true == true)) from w_eq_bool (w_res rfl) w_lit) rfl
theorem attach_call {l:OpenLaw} {n:Nat} {q:Program} {loose:List Str} {XP:(Str->Option Value)->Heap->Prop} {YP:World->Heap->Prop} {d:DefRec}
  (hn:l.most=some n) (hdf:d.params.defaults = [])
  (call : ∀(w:World) (s₀ s₁ : Shared) (mg mb:Str->Option Value) (fa:Addr) (o:Obj) (pm cd doc:Value) (a:Addr) (vs:List Value) (ns:List Int),
   Ground q loose [] XP w s₀ mg mb s₁.heap->YP w s₁.heap ->
   s₁.heap.get? fa=some o->o.data = .func (docDef d.name d.params d.body d.scope pm cd doc)->s₁.heap.CodeRec cd d.name->mg d.name=some (.ref fa) ->
   s₁.heap.get? a=some { cls :=.type "list",data :=.seq vs.toArray }->IntsAre vs ns->ns.length<=n->s₁.gens = #[] ->
   codeAny (model l.prog w) callerA (.call (.ref fa) ⟨[.ref a],[]⟩) (fun r s'=>r = .ok (.ret (.bool true))/\OldK s₁.heap s'.heap/\s'.os=s₁.os/\AllBare s'.gens) s₁) :
  WalkO q loose XP YP l.row.toRowW d [] (fun f vs=>PySem.call f vs):=by
 intro w s₀ s₁ mg mb G Y fa o pm cd doc dV kV ho hd hcd hD hmg hg args vals as hpre hlay hrd hwl hlo
 obtain rfl:dV = .none:=Dflts.none hD hdf
 obtain rfl:kV = .none:=Dflts.noKw hD
 obtain⟨a,vs,ns,rfl,rfl,hobj,hints,hlen⟩:=qNl hn hpre hwl
 refine enter_call (codeAny_mono (call w s₀ s₁ mg mb fa o pm cd doc a vs ns G Y ho (fd_plain hd) hcd hmg hobj hints hlen hg) fun r s' hq => ?_)
 obtain⟨rfl,h2,h3,h4⟩:=hq
 exact⟨.inl ⟨.bool true,.bool true,[],rfl,fun _=>rfl,.bool true,qO2 l _,fun _=>⟨List.Pairwise.nil,fun _ hm=>(nomatch hm)⟩⟩,h2,h3,h4⟩
end Att
namespace L2
open PySem PySem.Spec PyProof.Rows
theorem qFn {vs:List Value} {ns:List Int} (h:IntsAre vs ns):Vals (ns.map V.int) vs:=by
 induction h with
 | nil=>exact .nil
 | cons n t _ ih=>exact .cons ⟨t,rfl⟩ ih
def Only (H:Hp):Prop := ∀b,H b=none \/ ∃o xs,H b=some (.frz o (.lst xs))
theorem qQw {P:Program} {w:World} {K:PySem.W.Frag} {mg mb:Str->Option Value} {CX:CXT} {k:Nat} {fa a:Addr} {fd:FuncData} {x:Str} {sp:Sp} {s₁ : Shared} {vs:List Value} {ns:List Int}
  (KX:K.In s₁.heap) (hns:s₁.heap.Ns mainGlobals mg) (hb:s₁.heap.Ns builtinsNs mb) (hbb : ∀x:Str,x ≠ "__name__" -> mb x=bootBuiltins x) (hlim:s₁.heap.NoLimit) (hg:s₁.gens = #[])
  (ha:s₁.heap.get? a=some { cls :=.type "list",data :=.seq vs.toArray }) (hi:IntsAre vs ns) (hl:ns.length<=sizeLine) (hr:Room k callerA)
  (F : ∀base:Heap,K.In base->base.Ns mainGlobals mg->FnOk P w K mg base CX k fa fd [x] sp) (hbind : ∀(s:Shared) (u:Value),BindsTo s fd ⟨[u],[]⟩ [(x,u)])
  (hsp : ∀H:Hp,Only H->SqL K H a (ns.map V.int)->sp [.ref a] H (fun v _=>v = .bl true) fun _ _ _=>False)
  (hCX : ∀H e s',CX [] H s₁ (fun _ _ _=>False) e s'->False) :
  codeAny (model P w) callerA (.call (.ref fa) ⟨[.ref a],[]⟩) (fun r s'=>r = .ok (.ret (.bool true))/\OldK s₁.heap s'.heap/\s'.os=s₁.os/\AllBare s'.gens) s₁ :=by
 have rv:=qFn hi
 have lenV:=hi.length
 have core : ∀H:Hp,Only H->SqL K H a (ns.map V.int)->HOk P w H s₁.heap->(∀b,H b≠none->b=a)->(H a≠none->K.lookup a=none) ->
   codeAny (model P w) callerA (.call (.ref fa) ⟨[.ref a],[]⟩) (fun r s'=>r = .ok (.ret (.bool true))/\OldK s₁.heap s'.heap/\s'.os=s₁.os/\AllBare s'.gens) s₁ :=by
  intro H hO hS hok hA hK
  have base_of : ∀ {b:Addr} {o:Obj},s₁.heap.get? b=some o->H b=none->(hidT s₁.heap H).get? b=some o:=fun e n=>qR0 e n
  have noA : ∀ {b:Addr} {o:Obj} {es:Array DictEntry} {ep:Nat},s₁.heap.get? b=some o->o.data = .dict es ep->H b=none:=fun {b o es ep} e d=>by
   cases q:H b with
   | none=>rfl
   | some u =>
    have e':b=a:=hA b (by rw [q];simp)
    subst e'
    rw [ha] at e;cases e
    have d':Data.seq vs.toArray _=Data.dict es ep:=d
    cases d'
  have nsK : ∀ {b:Addr} {m:Str->Option Value},s₁.heap.Ns b m->(hidT s₁.heap H).Ns b m:=fun {b m} ⟨o,es,ep,e,d,r⟩=>⟨o,es,ep,base_of e (noA e d),d,r⟩
  have hKb:K.In (hidT s₁.heap H):=fun b o e=>base_of (KX b o e) (by
   cases q:H b with
   | none=>rfl
   | some u =>
    have e':b=a:=hA b (by rw [q];simp)
    subst e'
    rw [hK (by rw [q];simp)] at e;cases e)
  have hM:Mod K mg (hidT s₁.heap H):=⟨hKb,nsK hns,⟨mb,nsK hb,hbb⟩,let ⟨mc,h1,h2⟩:=hlim;⟨mc,nsK h1,h2⟩⟩
  have e0:Env0 P w K mg (hidT s₁.heap H) callerA [] s₁ H:=⟨rfl,hM,fun b o e=>qT8 e,Nat.le_of_eq (qOv _ _),trivial,fun b hb=>absurd (show b∈([]:List Addr) from hb) (by simp),hok,.of_eq hg⟩
  refine codeAny_mono ((F _ hKb (nsK hns)).run callerA [] s₁ H ⟨[.ref a],[]⟩ [.ref a] [.ref a] _ _ hr e0 (hbind s₁ (.ref a)) (.cons rfl .nil) (hsp H hO hS)) fun r s' h => ?_
  cases r with
  | error e=>exact (hCX H e s' h).elim
  | ok fl =>
   cases fl with
   | next=>exact False.elim h
   | brk=>exact False.elim h
   | cont=>exact False.elim h
   | ret u =>
    obtain⟨v,H',os,bare,un,hok',r',q⟩:=h
    have q':v = .bl true:=q
    subst q'
    obtain rfl:u=Value.bool true:=r'
    refine⟨rfl,OldK.of_keep fun b o e => ?_,os,bare⟩
    cases q:H b with
    | none=>exact un.keep b o e q (by intro z;exact absurd (show b∈([]:List Addr) from z) (by simp)) (by simp)
    | some u =>
     rcases hO b with z | ⟨ob,xs,z⟩
     ·rw [q] at z;cases z
     ·have z2:=un.frzs b ob _ z
      obtain⟨e1,_⟩:=hok b _ z
      obtain⟨e2,_⟩:=hok' b _ z2
      rw [e] at e1;cases e1
      exact e2
 cases hk:K.lookup a with
 | some o =>
  have e:=KX a o hk
  rw [ha] at e
  cases e
  refine core (fun _=>none) (fun _ =>.inl rfl) (.inr ⟨_,vs.toArray,_,hk,rfl,rfl,rfl,by rw [List.size_toArray,lenV];exact hl,by simpa using rv⟩) (fun b u z=>by have z':(none:Option HO)=some u:=z;cases z') (fun b z=>absurd rfl z) fun z=>absurd rfl z
 | none =>
  refine core (fun b=>if b=a then some (.frz { cls :=.type "list",data :=.seq vs.toArray } (.lst (ns.map V.int))) else none) (fun b => ?_) (.inl (.inr ⟨{ cls :=.type "list",data :=.seq vs.toArray },if_pos rfl⟩)) (fun b u z => ?_) (fun b z => ?_) fun _=>hk
  ·by_cases hb:b=a
   ·exact .inr ⟨_,_,if_pos hb⟩
   ·exact .inl (if_neg hb)
  ·by_cases hb:b=a
   ·have z':=(if_pos hb).symm.trans z
    cases z'
    subst hb
    exact⟨ha,by rw [List.length_map];exact hl,vs,_,rv,ha⟩
   ·have z':=(if_neg hb).symm.trans z
    cases z'
  ·by_cases hb:b=a
   ·exact hb
   ·exact absurd (if_neg hb) z
theorem qS3 {l:PySem.W.OpenLaw} {n k:Nat} {q:Program} {loose:List Str} {XP:(Str->Option Value)->Heap->Prop} {YP:World->Heap->Prop} {d:DefRec} {K:Params->PySem.W.Frag} {CX:World->CXT} {sp:World->Sp} {x:Str}
  (hn:l.most=some n) (hn2:n<=sizeLine) (hdf:d.params.defaults = []) (hr:Room k callerA)
  (hY : ∀(w:World) (h:Heap),YP w h->(K w.params).In h)
  (F : ∀(w:World) (mg:Str->Option Value) (fa:Addr) (h:Heap),(K w.params).In h->h.Ns mainGlobals mg->mg d.name=some (.ref fa) ->
   ∃fd:FuncData,(∀(s:Shared) (u:Value),BindsTo s fd ⟨[u],[]⟩ [(x,u)]) /\
    ∀base:Heap,(K w.params).In base->base.Ns mainGlobals mg->FnOk l.prog w (K w.params) mg base (CX w) k fa fd [x] (sp w))
  (hsp : ∀(w:World) (H:Hp) (a:Addr) (ns:List Int),ns.length<=n->Only H->SqL (K w.params) H a (ns.map V.int)->sp w [.ref a] H (fun v _=>v = .bl true) fun _ _ _=>False)
  (hCX : ∀(w:World) (H:Hp) (s:Shared) (e:Value) (s':Shared),CX w [] H s (fun _ _ _=>False) e s'->False) :
  PySem.W.WalkO q loose XP YP l.row.toRowW d [] (fun f vs=>PySem.call f vs):=by
 refine Att.attach_call hn hdf fun w s₀ s₁ mg mb fa o pm cd doc a vs ns G Y ho hd hcd hmg hobj hints hlen hg => ?_
 have KX:=hY w _ Y
 obtain⟨fd,hb,hF⟩:=F w mg fa _ KX G.T.g hmg
 exact qQw KX G.T.g G.T.b G.T.builtins G.T.nolimit hg hobj hints (Nat.le_trans hlen hn2) hr hF hb (fun H hO hS=>hsp w H a ns hlen hO hS) fun H e s'=>hCX w H s₁ e s'
def qAh (s:Stmt):Arguments:=match s with
 | .FunctionDef _ a _ _ _ _ _ _ _ _=>a
 | _ =>{ posonlyargs :=[],args :=[],vararg:=none,kwonlyargs :=[],kw_defaults :=[],kwarg:=none,defaults :=[] }
def qAg (s:Stmt):List Stmt:=match s with
 | .FunctionDef _ _ b _ _ _ _ _ _ _=>b
 | _ =>[]
def qA8 (s:Stmt):Scope:=match s with
 | .FunctionDef _ _ _ _ _ _ sc _ _ _=>sc
 | _ =>{ kind :=.function,names :=[],isGenerator:=false,isCoroutine:=false }
abbrev CX0:CXT:=fun _ _ _ _ _ _=>False
abbrev E0:XK:=fun _ _ _=>False
theorem pass0 {X:Cx}:qPq CX0 X E0:=fun _ _ _ _ _ _ _ h=>h.elim
structure Fun (K:PySem.W.Frag) (x qual:Str) (st:Stmt) (f:Addr) (fd:FuncData):Prop where
 ex : ∃(oc:Value) (od:Option Addr) (kV doc pm:Value) (an:Option Addr) (cdv ct:Value) (osl:Array (Option Value)),
  fd=PySem.W.fnOf x qual (qAh st) (qAg st) (qA8 st) .none kV doc pm an cdv ct/\K.lookup f=some ⟨oc,od,.func fd,osl⟩/\PySem.W.codeIn K cdv qual=true
 kp:PySem.W.keepIn K (.ref f)=true
section
variable {P:Program} {w:World} {K:PySem.W.Frag} {mg:Str->Option Value} {base:Heap}
theorem Fun.ok {x qual:Str} {st:Stmt} {f:Addr} {fd:FuncData} {N ps:List Str} {k:Nat} {sp:Sp} (F:Fun K x qual st f fd) (S:FnScope N ps (qA8 st)) (len : ∀vs H Q E,sp vs H Q E->vs.length=ps.length)
  (hbody : ∀(cdv:Value) (A:Around) (outer:List Env) (s:Shared) (H:Hp) (vs:List V) (Q:VK) (E:XK),Room k (A.deeper (envOfC qual (qA8 st) s.heap.objs.size f cdv))->sp vs H Q E ->
   ∃t,PSs (cxOf CX0 P w K mg base N qual (qA8 st) f cdv A outer s H E).nox (qAg st) t/\t { nx:=fun _ H'=>Q .non H',rt:=Q } (start N vs) H):FnOk P w K mg base CX0 (k+1) f fd ps sp:=by
 obtain⟨oc,od,kV,doc,pm,an,cdv,ct,osl,rfl,lk,hcd⟩:=F.ex
 refine qWf lk hcd S len fun A outer s H vs Q E hr hsp => ?_
 obtain⟨t,h,q⟩:=hbody cdv A outer s H vs Q E hr hsp
 exact⟨t,h.nox,q⟩
theorem Fun.binds {x qual:Str} {st:Stmt} {f:Addr} {fd:FuncData} {ps:List Str} (F:Fun K x qual st f fd)
  (h : ∀(kV doc pm:Value) (an:Option Addr) (cdv ct:Value) (us:List Value),us.length=ps.length->bindArgs (PySem.W.fnOf x qual (qAh st) (qAg st) (qA8 st) .none kV doc pm an cdv ct) ⟨us,[]⟩=pure (ps.zip us)):Binds K fd ps []:=by
 obtain⟨oc,od,kV,doc,pm,an,cdv,ct,osl,rfl,lk,hcd⟩:=F.ex
 exact .all (h kV doc pm an cdv ct)
theorem qRy {x qual:Str} {st:Stmt} {f:Addr} {oc:Value} {od an:Option Addr} {osl:Array (Option Value)} {kV doc pm cdv ct:Value} (l:K.lookup f=some ⟨oc,od,.func (PySem.W.fnOf x qual (qAh st) (qAg st) (qA8 st) .none kV doc pm an cdv ct),osl⟩)
  (c:PySem.W.codeIn K cdv qual=true) (k:PySem.W.keepIn K (.ref f)=true):Fun K x qual st f (PySem.W.fnOf x qual (qAh st) (qAg st) (qA8 st) .none kV doc pm an cdv ct):=⟨⟨oc,od,kV,doc,pm,an,cdv,ct,osl,rfl,l,c⟩,k⟩
end
theorem qMo {A:Around} {k:Nat} (hr:Room k A):A.units+1<cLine:=Nat.lt_of_le_of_lt (Nat.add_le_add_left (by decide:1<=64) _) hr.units
theorem qAb {n:Nat} (h:n<=1000):n<sizeLine:=Nat.lt_of_le_of_lt h (by decide)
section
variable {X:Cx}
theorem pv (i:Nat) {x:Str} {pos:Pos} (hN:X.N[i]? = some x:=by rfl) (hv:Vis X.env.scope x:=by first | exact Or.inl rfl | exact Or.inr (Or.inl rfl) | exact Or.inr (Or.inr rfl)) (hd:(x == ("__debug__" : Str))=false:=by decide)
  (hcd:(x == ("__classdict__" : Str))=false:=by decide):PE X (.Name x pos) (tVar i):=qV6 hN hv hd hcd
end
theorem iteF {A B:Prop} (h:B):if false=true then A else B:=by
 rw [if_neg Bool.false_ne_true]
 exact h
theorem iteT {A B:Prop} (h:A):if true=true then A else B:=by
 rw [if_pos rfl]
 exact h
theorem ite2 {c A B:Prop} [Decidable c] (h1:c->A) (h2 : ¬c->B):if c then A else B:=by
 by_cases h:c
 ·rw [if_pos h]
  exact h1 h
 ·rw [if_neg h]
  exact h2 h
def Same (H H':Hp):Prop := ∀b o,H b=some o->H' b=some o
theorem Same.seq {K:PySem.W.Frag} {H H':Hp} {a:Addr} {xs:List V} (e:Same H H') (h:SqL K H a xs):SqL K H' a xs:=by
 rcases h with (h | ⟨o,h⟩) | h
 ·exact .inl (.inl (e _ _ h))
 ·exact .inl (.inr ⟨o,e _ _ h⟩)
 ·exact .inr h
end L2
set_option maxHeartbeats 4000000
namespace L2
open PySem PySem.Spec PyProof.Rows
abbrev TB:=St->Hp->(St->Hp->Prop)->Prop
def PB (X:Cx) (m:Sem Unit) (B:TB):Prop :=
 ∀(pins:List (Addr×Obj)) (s:Shared) (σ : St) (H:Hp) (Q:St->Hp->Prop),Inv X pins σ H s->B σ H Q ->
  wpAny (model X.prog X.w) X.A m (fun _ s' => ∃ σ' H',Inv X pins σ' H' s'/\Q σ' H') X.xe s
def tAll:List TT->TT
 | []=>fun _ H Q=>Q true H
 | t::r=>fun σ H Q=>t σ H fun b H1=>if b=true then tAll r σ H1 Q else Q false H1
inductive PTs (X:Cx):List Expr->List TT->Prop
 | nil:PTs X [] []
 | cons {e es t ts}:PT X e t->PTs X es ts->PTs X (e::es) (t::ts)
def qEi (ifs:List Expr) (env:Env) (b:Bool):Sem Bool:=forIn ifs b fun c r=>if r=true then do let ok <-isTrue c env (eval c env);pure (ForInStep.yield ok) else pure (ForInStep.yield r)
theorem qFo {M:Model} {A:Around} {E:Value->Shared->Prop} {env:Env} {Q:Bool->Shared->Prop} {s:Shared} (h:Q false s) : ∀ifs:List Expr,wpAny M A (qEi ifs env false) Q E s
 | []=>wpAny_pure h
 | c::r=>by
  unfold qEi
  simp only [List.forIn_cons,Bool.false_eq_true,if_false]
  exact wpAny_bind (wpAny_pure (qFo h r))
theorem qKs {X:Cx} : ∀ {ifs:List Expr} {ts:List TT},PTs X ifs ts -> ∀(pins:List (Addr×Obj)) (s:Shared) (σ : St) (H:Hp) (Q:Bool->Hp->Prop),Inv X pins σ H s->tAll ts σ H Q ->
  wpAny (model X.prog X.w) X.A (qEi ifs X.env true) (TP X pins σ Q) X.xe s
 | _,_,.nil,pins,s,σ,H,Q,I,h=>wpAny_pure ⟨H,I,h⟩
 | _,_,.cons (es:=es) h1 h2,pins,s,σ,H,Q,I,h=>by
  unfold qEi
  simp only [List.forIn_cons,if_true]
  refine wpAny_bind (wpAny_bind (thn (h1 pins s σ H _ I h) fun b s1 hq_ => ?_))
  obtain⟨H1,I1,q1⟩:=hq_
  refine wpAny_pure ?_
  cases b with
  | true=>exact qKs h2 pins s1 σ H1 Q I1 q1
  | false=>exact qFo (show TP X pins σ Q false s1 from⟨H1,I1,q1⟩) es
def LoopT (J:It) (g:TG) (tt:TT) (B:TB):TB:=fun σ H Q => ∃W:Nat->Nat->St->Hp->Prop,(∃m,W 0 m σ H) /\ ∀i m σ H,W i m σ H ->
 (J.stop i H/\Q σ H)\/(J.go i H /\ ∀x H',J.yld i H x H'->g x σ H' fun σ2 H2=>tt σ2 H2 fun b H3 =>
  if b=true then B σ2 H3 (fun σ3 H4 => ∃m',m'<m/\W (i+1) m' σ3 H4) else ∃m',m'<m/\W (i+1) m' σ2 H3)
def CompR (X:Cx) (pins:List (Addr×Obj)) (Q:St->Hp->Prop):Result->Shared->Prop
 | .ok _,s' => ∃ σ' H',Inv X pins σ' H' s'/\Q σ' H'
 | .error _,_=>False
structure ClauseAt (X:Cx) (e:Expr) (d:Nat) (acc:Value) (tg iter:Expr) (ifs:List Expr) (beh:Sem Unit):Prop where
 quiet : ∀it,(Code.compLoop e d it acc X.env).quiet=true
 under : ∀it,X.A.under (Code.compLoop e d it acc X.env)=X.A
 den : ∀it,(model X.prog X.w).den (.compLoop e d it acc X.env)=(compTurn e d it acc X.env).onRaise (fun x=>do noteFrame x X.env;theTreesLotGoes x)
 turn : ∀it,compTurn e d it acc X.env=(do
   standAt iter.pos
   match <-pyNext it with
   | none=>pure (.done .next)
   | some v =>
    letOwnedTupleGo tg it v
    assign tg X.env v
    let ok <-qEi ifs X.env true
    if ok then beh
    again (.compLoop e d it acc X.env))
 start : ∀(it:Value) (R:Result->Shared->Prop) (s:Shared),codeAny (model X.prog X.w) X.A (.compLoop e d it acc X.env) R s ->
  wpAny (model X.prog X.w) X.A (pyIter it) (fun it' s'=>codeAny (model X.prog X.w) X.A (.compLoop e d it' acc X.env) R s') (fun _ _=>False) s->codeAny (model X.prog X.w) X.A (.compStart e d it acc X.env) R s
theorem qJg {X:Cx} {e:Expr} {d:Nat} {acc:Value} {tg iter:Expr} {ifs:List Expr} {beh:Sem Unit} {J:It} {fp:List Addr} {it:Addr} {tn:Nat->Heap->Prop} {g:TG} {tts:List TT} {B:TB}
  (hxe:X.xe=fun _ _=>False) (hc:X.calm=true) (C:ClauseAt X e d acc tg iter ifs beh) (T:Turn X.prog X.w X.K tg J fp it tn) (hg:PG X tg g) (ht:PTs X ifs tts) (hb:PB X beh B)
  {pins:List (Addr×Obj)} {σ : St} {H:Hp} {s:Shared} {Q:St->Hp->Prop} (I:Inv X pins σ H s) (st:tn 0 s.heap) (f : ∀b∈fp,FpOk X pins H b) (q:LoopT J g (tAll tts) B σ H Q) :
  codeAny (model X.prog X.w) X.A (.compLoop e d (.ref it) acc X.env) (CompR X pins Q) s:=by
 obtain⟨W,⟨m0,w0⟩,turn⟩:=q
 have stat : ∀ {H':Hp},(∀b∈fp,H' b=none) -> ∀b∈fp,FpOk X pins H' b:=fun hn b hb=>⟨hn b hb,(f b hb).2⟩
 refine codeAny_loop (C.quiet _) (fun n s' => ∃i σ' H',Inv X pins σ' H' s'/\tn i s'.heap/\(∀b∈fp,H' b=none)/\W i n σ' H') ?_ m0 ⟨0,σ,H,I,st,fun b hb=>(f b hb).1,w0⟩
 rintro n s3 ⟨i,σ3,H3,I3,st3,fr3,w3⟩
 rw [C.under,C.den]
 refine wpAny_noted ?_
 rw [C.turn]
 refine wpAny_bind (wpAny_standAt ?_)
 have lift : ∀ {α : Type} {t:Sem α} {R : α -> Shared->Prop} {s:Shared},wpAny (model X.prog X.w) X.A t R X.xe s->wpAny (model X.prog X.w) X.A t R (notedBy (model X.prog X.w) X.A X.env fun x s'=>CompR X pins Q (.error x) s') s:=by
  intro α t R s h
  rw [hxe] at h
  exact wpAny_mono h (fun _ _ z=>z) fun _ _ z=>z.elim
 rcases turn i n σ3 H3 w3 with ⟨stop,qn⟩ | ⟨go,step⟩
 ·refine wpAny_bind (lift (thn (T.done X rfl rfl rfl hc i pins s3 σ3 H3 X.xe I3 (stat fr3) st3 stop) fun r s4 hq_ => ?_))
  obtain⟨hr,I4⟩:=hq_
  subst hr
  exact wpAny_pure ⟨σ3,H3,I4,qn⟩
 ·refine wpAny_bind (lift (thn (T.item X rfl rfl rfl hc i pins s3 σ3 H3 X.xe I3 (stat fr3) st3 go) fun r s4 hq_ => ?_))
  obtain⟨u,hr,h4⟩:=hq_
  subst hr
  refine wpAny_bind (lift (thn h4 fun _ s5 hq_ => ?_))
  obtain⟨x,H5,I5,r5,y5,st5,fr5⟩:=hq_
  have I5':=I5.pinned (stat fr5) (T.obj _ _ st5)
  refine wpAny_bind (lift (thn (hg _ s5 σ3 H5 x u _ I5' r5 (step x H5 y5)) fun _ s6 hq_ => ?_))
  obtain⟨σ6,H6,I6,q6⟩:=hq_
  have again : ∀ {σ7:St} {H7:Hp} {s7:Shared},Inv X (pins++qIt fp s5.heap) σ7 H7 s7->(∃m',m'<n/\W (i+1) m' σ7 H7) -> ∃m,m<n /\ ∃i σ' H',Inv X pins σ' H' s7/\tn i s7.heap/\(∀b∈fp,H' b=none)/\W i m σ' H':=fun {σ7 H7 s7} I7 ⟨m',hm,w7⟩=>by
   refine⟨m',hm,i+1,σ7,H7,I7.unpinned,T.keep _ _ _ st5 fun b hb o e=>(I7.pin (b,o) (List.mem_append_right _ (List.mem_append_right _ (qD8 hb e)))).1,fun b hb => ?_,w7⟩
   obtain⟨o,e,_⟩:=T.obj _ _ st5 b hb
   exact (I7.pin (b,o) (List.mem_append_right _ (List.mem_append_right _ (qD8 hb e)))).2.1
  refine wpAny_bind (lift (thn (qKs ht _ s6 σ6 H6 _ I6 q6) fun ok s7 hq_ => ?_))
  obtain⟨H7,I7,q7⟩:=hq_
  cases ok with
  | false =>
   exact wpAny_pure ⟨rfl,again I7 q7⟩
  | true =>
   refine wpAny_bind (lift (thn (hb _ s7 σ6 H7 _ I7 q7) fun _ s8 hq_ => ?_))
   obtain⟨σ8,H8,I8,q8⟩:=hq_
   exact wpAny_pure ⟨rfl,again I8 q8⟩
theorem qEt (env:Env) : ∀(names:List (Str×NameKind)) (cs:List (Str×Addr)),(∀x∈names,x.2 = .free -> ∃c,env.cells.lookup x.1=some c) ->
  (∀x c,cs.lookup x=some c->env.cells.lookup x=some c) ->
  ∃cl,(forIn names cs fun (x:Str×NameKind) (r:List (Str×Addr))=>(if (x.2 == NameKind.free)=true then do let c <-cellOf env x.1;pure (ForInStep.yield ((x.1,c)::r)) else pure (ForInStep.yield r):Sem (ForInStep (List (Str×Addr)))))=pure cl /\
   (∀x c,cl.lookup x=some c->env.cells.lookup x=some c)/\(∀x,(x,NameKind.free)∈names\/(∃c,cs.lookup x=some c) -> ∃c,cl.lookup x=some c)
 | [],cs,_,h2=>⟨cs,rfl,h2,fun x h=>h.elim (fun z=>nomatch z) id⟩
 | (n,k)::r,cs,h1,h2=>by
  rw [List.forIn_cons]
  have hr : ∀x∈r,x.2 = .free -> ∃c,env.cells.lookup x.1=some c:=fun x hx=>h1 x (List.mem_cons_of_mem _ hx)
  by_cases hk:k = .free
  ·subst hk
   obtain⟨c,hc⟩:=h1 (n,.free) List.mem_cons_self rfl
   have hcell:cellOf env n=pure c:=by unfold cellOf;rw [hc]
   obtain⟨cl,e,a,b⟩:=qEt env r ((n,c)::cs) hr (fun x d hx=>by
    rw [List.lookup_cons] at hx
    cases hxn:x == n with
    | true =>
     rw [hxn] at hx
     have:x=n:=eq_of_beq hxn
     cases hx;rw [this];exact hc
    | false=>rw [hxn] at hx;exact h2 x d hx)
   refine⟨cl,?_,a,fun x hx=>b x ?_⟩
   ·rw [hcell]
    exact e
   ·by_cases hxn:x=n
    ·exact .inr ⟨c,by rw [List.lookup_cons,hxn,beq_self_eq_true]⟩
    ·rcases hx with hx | ⟨d,hx⟩
     ·rcases List.mem_cons.mp hx with z | z
      ·exact absurd (congrArg Prod.fst z) hxn
      ·exact .inl z
     ·refine .inr ⟨d,?_⟩
      have:(x == n)=false:=by simpa using hxn
      rw [List.lookup_cons,this];exact hx
  ·have hb:(k == NameKind.free)=false:=by simpa using hk
   obtain⟨cl,e,a,b⟩:=qEt env r cs hr h2
   refine⟨cl,?_,a,fun x hx=>b x ?_⟩
   ·show (if (k == NameKind.free)=true then _ else _) >>= _=_
    rw [hb]
    exact e
   ·rcases hx with hx | hx
    ·rcases List.mem_cons.mp hx with z | z
     ·exact absurd (congrArg Prod.snd z).symm hk
     ·exact .inl z
    ·exact .inr hx
theorem qHb {scope:Scope} {env:Env} (h : ∀x∈scope.names,x.2 = .free -> ∃c,env.cells.lookup x.1=some c) :
  ∃cl,closureFor scope env=pure cl/\(∀x c,cl.lookup x=some c->env.cells.lookup x=some c) /\ ∀x,(x,NameKind.free)∈scope.names -> ∃c,cl.lookup x=some c:=by
 obtain⟨cl,e,a,b⟩:=qEt env scope.names [] h (fun x c hx=>nomatch hx)
 refine⟨cl,?_,a,fun x hx=>b x (.inl hx)⟩
 unfold closureFor
 show (forIn scope.names ([]:List (Str×Addr)) _) >>= _=_
 have e2:(forIn scope.names ([]:List (Str×Addr)) fun (x:Str×NameKind) (r:List (Str×Addr))=>(match x with | (name,kind)=>if (kind == NameKind.free)=true then do let c <-cellOf env name;pure (ForInStep.yield ((name,c)::r)) else pure (ForInStep.yield r):Sem (ForInStep (List (Str×Addr)))))=pure cl:=e
 rw [e2]
 rfl
def relK (env:Env) (x:Str) (k:NameKind):NameKind:=if (k == .free&&env.scope.kind == .function&&env.kindOf x == some .cell)=true then .cell else k
theorem qDn (env:Env) (x:Str) : ∀names:List (Str×NameKind),
  (names.map fun (n,k)=>if (k == NameKind.free&&env.scope.kind == .function&&env.kindOf n == some .cell) then (n,NameKind.cell) else (n,k)).lookup x=(names.lookup x).map (relK env x)
 | []=>rfl
 | (n,k)::r=>by
  have ih:=qDn env x r
  show List.lookup x ((if (k == NameKind.free&&env.scope.kind == .function&&env.kindOf n == some .cell)=true then (n,NameKind.cell) else (n,k))::_)=_
  have e:(if (k == NameKind.free&&env.scope.kind == .function&&env.kindOf n == some .cell)=true then (n,NameKind.cell) else (n,k))=(n,relK env n k):=by
   unfold relK;split <;> rfl
  rw [e,List.lookup_cons,List.lookup_cons]
  cases hx:x == n with
  | true=>have:=eq_of_beq hx;subst this;rfl
  | false=>exact ih
theorem qF3 (scope:Scope) (env:Env) (x:Str):(relabel scope env).names.lookup x=(scope.names.lookup x).map (relK env x):=qDn env x scope.names
def qAk (X:Cx) (own:List Str) (cap:List Nat) (scope:Scope) (cl:List (Str×Addr)) (s:Shared) (H:Hp) (ex:List Addr):Cx :=
 { X with N:=own++cap.map (fun j=>X.N.getD j ""),env:=compEnvC scope cl s.heap.objs.size X.env,s₀ :=s,H₀ :=H,outer:=X.stack,ex:=ex,fn:=fun _=>false,pn :=[],xe:=fun _ _=>False }
def qJi (own:List Str) (cap:List Nat) (σ : St):St:=own.map (fun _=>none)++cap.map (fun j=>(σ[j]?).join)
structure CompScope (X:Cx) (own:List Str) (cap:List Nat) (scope:Scope):Prop where
 kind:scope.kind = .function
 nocell : ∀x∈scope.names,x.2 ≠ .cell
 names : ∀x∈scope.names,x.2 = .local->scope.names.lookup x.1=some .local
 free : ∀x∈scope.names,x.2 = .free->X.env.kindOf x.1=some .cell\/X.env.kindOf x.1=some .free
 own : ∀x∈own,scope.names.lookup x=some .local
 caps : ∀j∈cap,scope.names.lookup (X.N.getD j "")=some .free/\j<X.N.length
theorem qRb {X:Cx} {own:List Str} {cap:List Nat} {scope:Scope} {cl:List (Str×Addr)} {pins:List (Addr×Obj)} {σ : St} {H:Hp} {s:Shared} {fp:List Addr} {h':Heap} {tk:Nat} (S:CompScope X own cap scope)
  (I:Inv X pins σ H s) (hcl : ∀x c,cl.lookup x=some c->X.env.cells.lookup x=some c) (hfr : ∀x,(x,NameKind.free)∈scope.names -> ∃c,cl.lookup x=some c)
  (hf : ∀b∈fp,FpOk X pins H b) (hlt : ∀b∈fp,b<s.heap.objs.size) (hns:h'.Ns s.heap.objs.size (fun x=>([]:List (Str×Value)).reverse.lookup x)) (hk : ∀b u,s.heap.get? b=some u->h'.get? b=some u) :
  Inv (qAk X own cap scope cl s H fp) [] (qJi own cap σ) H { s with heap:=h',toks:=tk }:=by
 have kc : ∀x k,(relabel scope X.env).names.lookup x=some k->(k = .cell\/k = .free)->(x,NameKind.free)∈scope.names:=by
  intro x k e hk
  rw [qF3] at e
  cases q:scope.names.lookup x with
  | none=>rw [q] at e;cases e
  | some k0 =>
   rw [q] at e
   have e':relK X.env x k0=k:=Option.some.inj e
   have hm:=PySem.mem_of_lookup q
   have h0:k0 ≠ .cell:=S.nocell _ hm
   have:k0 = .free:=by
    unfold relK at e'
    by_cases hb:(k0 == NameKind.free&&X.env.scope.kind == .function&&X.env.kindOf x == some .cell)=true
    ·simp only [Bool.and_eq_true,beq_iff_eq] at hb
     exact hb.1.1
    ·rw [if_neg hb] at e'
     rcases hk with z | z
     ·exact absurd (e'.trans z) h0
     ·exact e'.trans z
   rw [this] at hm
   exact hm
 have ok:(qAk X own cap scope cl s H fp).Ok :={
  mod:=I.ok.mod
  kind:=S.kind
  glob:=I.ok.glob
  blt:=I.ok.blt
  above:=Nat.le_refl _
  inj:=fun x y c e1 e2=>I.ok.inj x y c (hcl x c e1) (hcl y c e2)
  has:=fun x hx=>by
   rcases hx with hx | hx
   ·exact hfr x (kc x _ hx (.inl rfl))
   ·exact hfr x (kc x _ hx (.inr rfl))
  cab:=fun x c h=>absurd h (show ¬(false=true) from Bool.false_ne_true)
  hd:=I.ok.hd
  frames:=I.ok.frames
  stk :=.inl rfl
  exf:=fun b hb=>⟨Nat.ne_of_lt (hlt b hb),fun x c e=>(hf b hb).2.2.2.2.1 x c (hcl x c e)⟩
  bs:=I.bs
  bsz:=Nat.le_trans I.ok.bsz I.sz
  noex:=fun b o e hb=>by
   rcases (hf b hb).2.2.2.1 with z | z
   ·exact I.ok.noex b o e z
   ·exact absurd (Nat.lt_of_lt_of_le (Heap.lt_size e) (Nat.le_trans I.ok.bsz z)) (Nat.lt_irrefl _)
  exfs:=fun b hb hm=>by
   rcases List.mem_cons.mp (I.stkSub b hm) with z | z
   ·exact (hf b hb).2.1 z
   ·exact (hf b hb).2.2.1 z
  funs:=I.stack
  frf:=I.stkFree }
 refine⟨ok,rfl,I.bare,Un.kept hk,⟨_,hns,fun i x v e1 e2 e3 => ?_⟩,fun x c e => ?_,I.hok.fresh (Nat.le_refl _),fun x c e=>I.freeC x c (hcl x c e),fun p hp=>absurd (show p∈([]:List (Addr×Obj)) from hp) (by simp),I.hok.kept hk,?_⟩
 ·have e1:(own++cap.map (fun j=>X.N.getD j ""))[i]? = some x:=e1
  have e2:(own.map (fun _=>(none:Option V))++cap.map (fun j=>(σ[j]?).join))[i]? = some (some v):=e2
  by_cases hi:i<own.length
  ·rw [List.getElem?_append_left (by simpa using hi),List.getElem?_map] at e2
   cases q:own[i]? with
   | none=>rw [q] at e2;cases e2
   | some y=>rw [q] at e2;cases e2
  ·rw [List.getElem?_append_right (by simpa using hi),List.getElem?_map] at e1
   rw [List.getElem?_append_right (by simpa using hi),List.getElem?_map,List.length_map] at e2
   cases q:cap[i - own.length]? with
   | none=>rw [q] at e2;cases e2
   | some j =>
    rw [q] at e1 e2
    have e1':X.N.getD j "" = x:=Option.some.inj e1
    have e2':(σ[j]?).join=some v:=Option.some.inj e2
    obtain⟨hj,hlj⟩:=S.caps j (List.mem_of_getElem? q)
    rw [e1'] at hj
    have hNj:X.N[j]? = some x:=by
     rw [List.getElem?_eq_getElem hlj,<-e1',List.getD_eq_getElem?_getD,List.getElem?_eq_getElem hlj];rfl
    have hσ : σ[j]? = some (some v):=by
     cases z : σ[j]? with
     | none=>rw [z] at e2';cases e2'
     | some o=>rw [z] at e2';rw [show o=some v from e2']
    obtain⟨m,hn,hl⟩:=I.loc
    have hm:=PySem.mem_of_lookup hj
    have hkx:=S.free _ hm rfl
    have vis:Vis X.env.scope x:=by
     rcases hkx with z | z
     ·exact .inr (.inl z)
     ·exact .inr (.inr z)
    obtain⟨u,r,l⟩:=hl j x v hNj hσ vis
    refine⟨u,r,.inr ?_⟩
    rcases l with ⟨kl,_⟩ | ⟨_,c,hc,z⟩
    ·rcases hkx with z | z
     ·rw [kl] at z;cases z
     ·rw [kl] at z;cases z
    ·obtain⟨c',hc'⟩:=hfr x hm
     have:=hcl x c' hc'
     rw [hc] at this;cases this
     refine⟨?_,c,hc',?_⟩
     ·have q:(relabel scope X.env).names.lookup x=some (relK X.env x .free):=by rw [qF3,hj];rfl
      show (relabel scope X.env).names.lookup x=some .cell\/(relabel scope X.env).names.lookup x=some .free
      rw [q]
      unfold relK
      split
      ·exact .inl rfl
      ·exact .inr rfl
     ·obtain⟨o,ho,hd⟩:=z
      exact⟨o,hk c o ho,hd⟩
 ·obtain⟨v,o,ho,hd⟩:=I.cell x c (hcl x c e)
  exact⟨v,o,hk c o ho,hd⟩
 ·show (own.map (fun _=>(none:Option V))++cap.map (fun j=>(σ[j]?).join)).length=(own++cap.map (fun j=>X.N.getD j "")).length
  simp only [List.length_append,List.length_map]
def qLt (X:Cx) (m:Sem Value) (o:HO):Prop :=
 ∀(pins:List (Addr×Obj)) (s:Shared) (σ : St) (H:Hp) (E:Value->Shared->Prop) (Q:Value->Shared->Prop),Inv X pins σ H s ->
  (∀l s',s.heap.objs.size<=l->H l=none->Inv X pins σ (upd H l o) s'->(∀b u,s.heap.get? b=some u->s'.heap.get? b=some u)->Q (.ref l) s')->wpAny (model X.prog X.w) X.A m Q E s
theorem qIf {X:Cx}:qLt X (newList []) (.lst []):=by
 intro pins s σ H E Q I h
 exact wpAny_newList (h _ _ (Nat.le_refl _) I.fresh (I.lnew (its :=[]) (t':=s.toks) .nil (Nat.zero_le _)) fun b u e=>Heap.get?_push_of_some _ e)
theorem qJh {X:Cx} {e:Expr} {tg iter:Expr} {ifs:List Expr} {scope:Scope} {own:List Str} {cap:List Nat} {newAcc:Sem Value} {o:HO} {cl:List (Str×Addr)} {behOf:Value->Env->Sem Unit} {g:TG} {tts:List TT} {Bof:Addr->TB}
  (hc:X.calm=true) (S:CompScope X own cap scope) (hcl : ∀x c,cl.lookup x=some c->X.env.cells.lookup x=some c) (hfr : ∀x,(x,NameKind.free)∈scope.names -> ∃c,cl.lookup x=some c)
  (hacc:qLt X newAcc o)
  (hC : ∀s H ex l,ClauseAt (qAk X own cap scope cl s H ex) e 0 (.ref l) tg iter ifs (behOf (.ref l) (qAk X own cap scope cl s H ex).env))
  (hg : ∀s H ex,PG (qAk X own cap scope cl s H ex) tg g) (ht : ∀s H ex,PTs (qAk X own cap scope cl s H ex) ifs tts)
  (hb : ∀s H ex l,PB (qAk X own cap scope cl s H ex) (behOf (.ref l) (qAk X own cap scope cl s H ex).env) (Bof l))
  {pins:List (Addr×Obj)} {σ : St} {s2:Shared} {itv:Value} {Q:Addr->Hp->Prop} {E:Value->Shared->Prop} {R:Value->Addr->Result->Shared->Prop}
  (h:PIE X pins σ tg (fun J H1 => ∀l,H1 l=none->LoopT J g (tAll tts) (Bof l) (qJi own cap σ) (upd H1 l o) fun _ H2=>Q l H2) itv s2)
  (hR : ∀l C s' H',Inv X pins σ H' s'->FpOk X pins H' C->(∃m,s'.heap.Ns C m)->Q l H'->R (.ref l) C (.ok .next) s')
  (hok : ∀acc C f s',R acc C (.ok .next) s'->R acc C (.ok f) s') :
  wpAny (model X.prog X.w) X.A newAcc (fun acc s₃ =>wpAny (model X.prog X.w) X.A (newFunctionEnv scope X.env.globals cl [] X.env.qual none .none (some X.env)) (fun cenv s₄ =>
   codeAny (model X.prog X.w) X.A (.compStart e 0 itv acc { cenv with scope:=relabel scope X.env }) (R acc cenv.locals) s₄) E s₃) E s2:=by
 obtain⟨it,fp,tn,J,H2,rfl,I2,T,st2,f2,q⟩:=h
 have lt2 : ∀b∈fp,b<s2.heap.objs.size:=fun b hb=>by
  obtain⟨ob,e,_⟩:=T.obj _ _ st2 b hb
  exact Heap.lt_size e
 refine hacc pins s2 σ H2 E _ I2 fun l s3 hl hn I3 k3 => ?_
 have q':=q l hn
 have f3 : ∀b∈fp,FpOk X pins (upd H2 l o) b:=fun b hb=>by
  obtain⟨a1,a2⟩:=f2 b hb
  refine⟨?_,a2⟩
  rw [qA4 (Nat.ne_of_lt (Nat.lt_of_lt_of_le (lt2 b hb) hl))];exact a1
 have lt3 : ∀b∈fp,b<s3.heap.objs.size:=fun b hb=>by
  obtain⟨ob,e,_⟩:=T.obj _ _ st2 b hb
  exact Heap.lt_size (k3 b ob e)
 refine wpAny_newFunctionEnv S.nocell (by intro y hy;simp at hy) (fun h1 hns hsb => ?_) S.kind
 have k4 : ∀b u,s3.heap.get? b=some u->h1.get? b=some u:=fun b u e=>by
  exact hsb.extBut b u (Nat.ne_of_lt (Heap.lt_size e)) (Heap.get?_push_of_some _ e)
 have I4:Inv (qAk X own cap scope cl s3 (upd H2 l o) fp) [] (qJi own cap σ) (upd H2 l o) { s3 with heap:=h1,toks:=s3.toks+([]:List (Str×Value)).length }:=qRb S I3 hcl hfr f3 lt3 hns k4
 have st4:tn 0 h1:=T.keep _ _ _ st2 fun b hb ob e=>k4 b ob (k3 b ob e)
 have f4 : ∀b∈fp,FpOk (qAk X own cap scope cl s3 (upd H2 l o) fp) [] (upd H2 l o) b:=fun b hb=>by
  obtain⟨a0,a1,a2,a3,a4,a5⟩:=f3 b hb
  refine⟨a0,Nat.ne_of_lt (lt3 b hb),fun hm => ?_,.inl hb,fun x c ex=>a4 x c (hcl x c ex),fun p hp=>absurd (show p∈([]:List (Addr×Obj)) from hp) (by simp)⟩
  rcases List.mem_cons.mp (I3.stkSub b hm) with z | z
  ·exact a1 z
  ·exact a2 z
 have fin : ∀(r:Result) (s':Shared),CompR (qAk X own cap scope cl s3 (upd H2 l o) fp) [] (fun _ H2=>Q l H2) r s'->R (.ref l) s3.heap.objs.size r s':=by
  intro r s' hr
  cases r with
  | error x=>exact (show False from hr).elim
  | ok f =>
   obtain⟨σ5,H5,I5,q5⟩:=(show ∃ σ' H',Inv (qAk X own cap scope cl s3 (upd H2 l o) fp) [] σ' H' s'/\Q l H' from hr)
   have I6:Inv X pins σ H5 s':=I3.call' (ch:=fp) I5.os I5.base I5.hok I5.bare fun b hb=>(f3 b hb).2.2.2 |> fun ⟨z1,z2,z3⟩=>⟨z1,(f3 b hb).2.1,z2,z3⟩
   refine hok _ _ _ _ (hR l _ s' H5 I6 (I3.fpOk (Nat.le_refl _) I5.free) ?_ q5)
   obtain⟨m,hm,_⟩:=I5.loc
   exact⟨m,hm⟩
 have loop : ∀s4:Shared,s4 = { s3 with heap:=h1,toks:=s3.toks+([]:List (Str×Value)).length } ->
   codeAny (model X.prog X.w) X.A (.compLoop e 0 (.ref it) (.ref l) (qAk X own cap scope cl s3 (upd H2 l o) fp).env) (R (.ref l) s3.heap.objs.size) s4:=by
  rintro s4 rfl
  exact codeAny_mono (qJg (X:=qAk X own cap scope cl s3 (upd H2 l o) fp) rfl hc (hC _ _ _ _) T (hg _ _ _) (ht _ _ _) (hb _ _ _ l) I4 st4 f4 q') fin
 exact (hC s3 (upd H2 l o) fp l).start (.ref it) _ _ (loop _ rfl) (T.self _ 0 _ _ _ st4 (loop _ rfl))
section
variable {X:Cx} {e:Expr} {tg iter:Expr} {ifs:List Expr} {gs:List Comprehension} {scope:Scope} {own:List Str} {cap:List Nat} {newAcc:Sem Value} {o:HO} {behOf:Value->Env->Sem Unit} {wi:TI} {g:TG} {tts:List TT} {Bof:Addr->TB} {cpos:Pos}
def tComp (own:List Str) (cap:List Nat) (o:HO) (wi:TI) (g:TG) (tts:List TT) (Bof:Addr->TB):TE:=fun σ H Q=>wi σ H fun J H1 => ∀l,H1 l=none->LoopT J g (tAll tts) (Bof l) (qJi own cap σ) (upd H1 l o) fun _ H2=>Q (.ref l) H2
theorem qRa (hc:X.calm=true) (S:CompScope X own cap scope) (hcl:clausesOf e=⟨tg,iter,ifs,0⟩::gs) (hi:PI X tg iter wi) (hacc:qLt X newAcc o)
  (hC : ∀cl s H ex l,ClauseAt (qAk X own cap scope cl s H ex) e 0 (.ref l) tg iter ifs (behOf (.ref l) (qAk X own cap scope cl s H ex).env))
  (hg : ∀cl s H ex,PG (qAk X own cap scope cl s H ex) tg g) (ht : ∀cl s H ex,PTs (qAk X own cap scope cl s H ex) ifs tts)
  (hb : ∀cl s H ex l,PB (qAk X own cap scope cl s H ex) (behOf (.ref l) (qAk X own cap scope cl s H ex).env) (Bof l)) (hs : ∀x,foldedSetIterable iter X.env x=pure x) :
  ∀(pins:List (Addr×Obj)) (s:Shared) (σ : St) (H:Hp) (Q:VK),Inv X pins σ H s->tComp own cap o wi g tts Bof σ H Q ->
   wpAny (model X.prog X.w) X.A (comprehension e scope X.env cpos newAcc false (eval iter X.env)) (EP X pins σ Q) X.xe s:=by
 intro pins s σ H Q I h
 obtain⟨cl,hclos,h1,h2⟩:=qHb (scope:=scope) (env:=X.env) fun x hx hf=>I.ok.has x.1 (S.free x hx hf)
 refine wpAny_comprehension_free (use:=none) hcl hs hclos S.kind S.names (thn (hi pins s σ H _ I h) fun v s1 q1=>thn q1 fun itv s2 q2 => ?_)
 refine qJh (R:=fun acc C=>compPost (model X.prog X.w) X.A X.xe none (EP X pins σ Q) acc C) hc S h1 h2 hacc (hC cl) (hg cl) (ht cl) (hb cl) q2 (fun l C s' H' I' fC hm q => ?_) (fun acc C f s' z=>z)
 obtain⟨m,hm⟩:=hm
 refine⟨m,hm,fun h' sb=>⟨.ref l,H',I'.turned (t':=s'.toks) (fun b o hb e=>(sb.2 b hb).trans e) fC.1 fC.2.1 fC.2.2.2.1 fC.2.2.2.2.1 fC.2.2.2.2.2,rfl,q⟩⟩
theorem qLj {i:Nat} {x:Str} {px:Pos} (hc:X.calm=true) (S:CompScope X own cap scope) (hcl:clausesOf e=⟨tg,iter,ifs,0⟩::gs) (hi:PI X tg iter wi) (hacc:qLt X newAcc o)
  (hC : ∀cl s H ex l,ClauseAt (qAk X own cap scope cl s H ex) e 0 (.ref l) tg iter ifs (behOf (.ref l) (qAk X own cap scope cl s H ex).env))
  (hg : ∀cl s H ex,PG (qAk X own cap scope cl s H ex) tg g) (ht : ∀cl s H ex,PTs (qAk X own cap scope cl s H ex) ifs tts)
  (hb : ∀cl s H ex l,PB (qAk X own cap scope cl s H ex) (behOf (.ref l) (qAk X own cap scope cl s H ex).env) (Bof l)) (hs : ∀x,foldedSetIterable iter X.env x=pure x)
  (hN:X.N.Nodup) (hix:X.N[i]? = some x) (hx:Loc X.env.scope x) (hf:X.fn x=true\/X.env.scope.names.lookup x=some .local) :
  ∀(pins:List (Addr×Obj)) (s:Shared) (σ : St) (H:Hp) (D:Ends),Inv X pins σ H s->tComp own cap o wi g tts Bof σ H (fun v H1=>D.nx (σ.set i (some v)) H1) ->
   wpAny (model X.prog X.w) X.A (comprehension e scope X.env cpos newAcc false (eval iter X.env) (some (assign (.Name x px) X.env))) (fun _ s'=>SP X pins D .next s') X.xe s:=by
 intro pins s σ H D I h
 obtain⟨cl,hclos,h1,h2⟩:=qHb (scope:=scope) (env:=X.env) fun x hx hf=>I.ok.has x.1 (S.free x hx hf)
 refine wpAny_comprehension_free (use:=some (assign (.Name x px) X.env)) hcl hs hclos S.kind S.names (thn (hi pins s σ H _ I h) fun v s1 q1=>thn q1 fun itv s2 q2 => ?_)
 refine qJh (R:=fun acc C=>compPost (model X.prog X.w) X.A X.xe (some (assign (.Name x px) X.env)) (fun _ s'=>SP X pins D .next s') acc C) hc S h1 h2 hacc (hC cl) (hg cl) (ht cl) (hb cl) q2 (fun l C s' H' I' fC hm q => ?_) (fun acc C f s' z=>z)
 obtain⟨m,hm⟩:=hm
 show wpAny (model X.prog X.w) X.A (assign (.Name x px) X.env (.ref l)) _ X.xe s'
 refine wpAny_assign_Name (qIg (v :=.ref l) I' hN hix hx rfl (fun s'' I'' hq_ => ?_) hf)
 obtain⟨a,sa,ha⟩:=hq_
 have hCa:C≠a:=by
  rcases ha with z | z
  ·rw [z];exact fC.2.1
  ·exact Ne.symm (fC.2.2.2.2.1 x a z)
 refine⟨m,hm.sameBut sa hCa,fun h' sb=>⟨_,H',I''.turned (t':=s''.toks) (fun b o hb e=>(sb.2 b hb).trans e) fC.1 fC.2.1 fC.2.2.2.1 fC.2.2.2.2.1 fC.2.2.2.2.2,q⟩⟩
end
def eApp (te:TE) (l:Addr):TB:=fun σ H Q=>te σ H fun v H1 => ∃vs,H1 l=some (.lst vs)/\vs.length<sizeLine/\Q σ (upd H1 l (.lst (vs ++ [v])))
def qGg (elt:Expr) (acc:Value) (env:Env):Sem Unit:=do let _ <-call (.builtin "list.append") [acc,<-eval elt env]
theorem qKc {X:Cx} {elt:Expr} {te:TE} {l:Addr} (he:PE X elt te):PB X (qGg elt (.ref l) X.env) (eApp te l):=by
 intro pins s σ H Q I h
 refine wpAny_bind (thn (he pins s σ H _ I h) fun v s1 hq_ => ?_)
 obtain⟨x,H1,I1,r1,vs,e,hz,q⟩:=hq_
 refine wpAny_bind (thn (qBg pins s1 σ H1 (.ref l) [x] (.ref l) [v] (fun _ H2=>Q σ H2) I1 rfl (.cons r1 .nil) ⟨l,vs,x,rfl,rfl,e,hz,q⟩) fun u s2 hq_ => ?_)
 obtain⟨z,H2,I2,_,q2⟩:=hq_
 exact wpAny_pure ⟨σ,H2,I2,q2⟩
theorem qGd {X:Cx} {elt tg iter:Expr} {ifs:List Expr} {scope:Scope} {pos:Pos} {acc:Value}:ClauseAt X (.ListComp elt [⟨tg,iter,ifs,0⟩] scope pos) 0 acc tg iter ifs (qGg elt acc X.env) where
 quiet:=fun _=>rfl
 under:=fun _=>rfl
 den:=fun _=>rfl
 turn:=fun _=>rfl
 start:=fun it R s h0 h=>codeAny_compStart_list h0 (wpAny_mono h (fun _ _ z=>z) fun _ _ z=>z.elim)
theorem Inv.turnLaid {X:Cx} {pins:List (Addr×Obj)} {σ : St} {H:Hp} {s:Shared} {h':Heap} {t':Nat} {ch:List Addr} {p:Addr} {o:HO} (I:Inv X pins σ H s) (k : ∀b u,b∉ch->s.heap.get? b=some u->h'.get? b=some u)
  (hth : ∀b∈ch,∃u,h'.get? b=some u) (hf : ∀b∈ch,FpOk X pins H b) (hp:s.heap.objs.size<=p) (new:ObjOk X.prog X.w (upd H p o) h' p o):Inv X pins σ (upd H p o) { s with heap:=h',toks:=t' }:=by
 have hn:H p=none:=I.hok.fresh hp
 have nch : ∀b u,H b=some u->b∉ch:=fun b u e hb=>by rw [(hf b hb).1] at e;cases e
 refine I.step (g':=s.gens) (d':=s.drawn) (ch:=ch) (fun b hb => ?_) (fun b u _ _ hc e _=>k b u hc e) (fun b u _ _ hc e _=>⟨u.slots,k b u hc e⟩) (fun b u _ e n => ?_)
  (fun b u hc e=>⟨u,k b u hc e⟩) (fun b xs e => ?_) (fun b ob xs e => ?_) (fun b ps e => ?_) (fun m hm => ?_) (fun b u e => ?_) I.bare
 ·obtain⟨_,a1,_,a3,a4,a5⟩:=hf b hb
  exact⟨a3,a1,a4,a5⟩
 ·rw [qA4 (Nat.ne_of_lt (Nat.lt_of_lt_of_le (Heap.lt_size e) hp))];exact n
 ·rw [qA4 (qA2 e hn)];exact e
 ·rw [qA4 (qA2 e hn)];exact e
 ·exact⟨#[],by rw [qA4 (qA2 e hn),e];simp⟩
 ·obtain⟨ob,es,ep,ho,r⟩:=hm
  exact⟨ob,es,ep,k _ ob (fun hb=>(hf _ hb).2.1 rfl) ho,r⟩
 ·by_cases hb:b=p
  ·subst hb;rw [qA1] at e;cases e;exact new
  ·rw [qA4 hb] at e
   refine (I.hok b u e).stay (fun c v hc q=>k c v ?_ q) (fun c q=>by rw [qA4 (qA2 q hn)];exact q) fun c xs q=>by rw [qA4 (qA2 q hn)];exact q
   rcases hc with z | z
   ·rw [z];exact nch b u e
   ·exact nch c _ z
def Ite (K:PySem.W.Frag) (a:Addr):It :=
 ⟨fun i H => ∃xs x,SqL K H a xs/\xs[i]? = some x,fun i H x H' => ∃p y,x = .ref p/\H p=none/\(∀ys,SqL K H a ys->ys[i]? = some y)/\H'=upd H p (.tup [.int (i:Int),y]),fun i H => ∃xs,SqL K H a xs/\xs.length<=i⟩
theorem qN5 {P:Program} {w:World} {K:PySem.W.Frag} {elts:List Expr} {k:Nat} {pos:Pos} (a e it:Addr) (hne:e≠it) :
  Turn P w K (.Tuple elts k pos) (Ite K a) [e,it] e (fun i h=>(∃old,IsEnum h e it (i:Nat) old)/\h.IsListIter it a i) where
 mem:=by simp
 obj:=fun i h st b hb=>by
  obtain⟨⟨old,he⟩,⟨o,h1,h2,h3⟩⟩:=st
  rcases List.mem_cons.mp hb with z | z
  ·subst z
   exact⟨_,he,fun v z=>by
    have z':Data.fields _=Data.cell v:=z
    cases z'⟩
  ·have z:b=it:=by simpa using z
   subst z
   exact⟨o,h1,fun v z=>by rw [h3] at z;cases z⟩
 keep:=fun i h h' st kk=>by
  obtain⟨⟨old,he⟩,hi⟩:=st
  exact⟨⟨old,kk e (by simp) _ he⟩,hi.at fun o q=>kk it (by simp) o q⟩
 item:=by
  intro X hP hw hK hc i pins s σ H E I hf st hg
  subst hP hw hK
  obtain⟨xs,x,hq,hx⟩:=hg
  obtain⟨⟨old,he⟩,hi⟩:=st
  obtain⟨its,rv,p,hz⟩:=I.list hq
  obtain⟨u,hu,ru⟩:=rv.get hx
  refine wpAny_pyNext_enum_item he hi p.isList (x:=u) (by simpa using hu) hne fun h1 heo hi1 ht hsz hk => ?_
  refine⟨_,rfl,wpAny_letOwnedTupleGo_enum heo fun h2 he2 hs2 => ?_⟩
  have helt:e<s.heap.objs.size:=Heap.lt_size he
  have hs2':Heap.SameBut e h1 h2:=hs2
  have I1:Inv X pins σ (upd H s.heap.objs.size (.tup [.int (i:Int),x])) { s with heap:=h2,toks:=s.toks+1 }:=by
   refine I.turnLaid (ch :=[e,it]) (fun b o hb q => ?_) (fun b hb => ?_) hf (Nat.le_refl _) ?_
   ·have h1':b≠e:=fun z=>hb (by simp [z])
    have h2':b≠it:=fun z=>hb (by simp [z])
    exact (hs2'.2 b h1').trans (hk b o h1' h2' q)
   ·rcases List.mem_cons.mp hb with z | z
    ·subst z;exact⟨_,he2⟩
    ·have z:b=it:=by simpa using z
     subst z
     obtain⟨o,q,_⟩:=hi1
     exact⟨o,(hs2'.2 _ (Ne.symm hne)).trans q⟩
   ·refine⟨by show 2<=sizeLine;decide,[.int (i:Int) s.toks,u],.cons ⟨_,rfl⟩ (.cons ru .nil),⟨_,(hs2'.2 _ (Nat.ne_of_gt helt)).trans ht,rfl,_,rfl⟩⟩
  refine⟨.ref s.heap.objs.size,_,I1,rfl,⟨s.heap.objs.size,x,rfl,I.fresh,fun ys hy=>by rw [I.list_inj hy hq];exact hx,rfl⟩,⟨⟨_,by
   have:((i+1:Nat):Int)=(i:Int)+1:=by omega
   rw [this];exact he2⟩,hi1.extBut hs2'.extBut (Ne.symm hne)⟩,fun b hb => ?_⟩
  have hlt:b<s.heap.objs.size:=by
   rcases List.mem_cons.mp hb with z | z
   ·rw [z];exact helt
   ·have z:b=it:=by simpa using z
    rw [z];obtain⟨o,q,_⟩:=hi;exact Heap.lt_size q
  rw [qA4 (Nat.ne_of_lt hlt)];exact (hf b hb).1
 done:=by
  intro X hP hw hK hc i pins s σ H E I hf st hg
  subst hP hw hK
  obtain⟨xs,hq,hx⟩:=hg
  obtain⟨⟨old,he⟩,hi⟩:=st
  obtain⟨its,rv,p,hz⟩:=I.list hq
  obtain⟨f0,f1,f2,f3,f4,f5⟩:=hf it (by simp)
  have hl:=rv.length
  exact wpAny_pyNext_enum_end (I.ok.hd hc) he hi p.isList (by simp;omega) fun h' eb=>⟨rfl,I.turned (t':=s.toks) (fun b o hb q=>eb b o hb q) f0 f1 f3 f4 f5⟩
 self:=fun _ _ _ _ _ st h=>by
  obtain⟨⟨old,he⟩,_⟩:=st
  exact wpAny_pyIter_enum he h
section
variable {X:Cx} {elts:List Expr} {k:Nat} {tpos:Pos}
def iEnum (K:PySem.W.Frag) (ta:TA):TI:=fun σ H R=>ta σ H fun vs H1 => ∃a,vs = [.ref a]/\(∃xs,SqL K H1 a xs)/\R (Ite K a) H1
theorem qKb {a:Expr} {ta:TA} {p pos:Pos} (hg:Gl X "enumerate") (hm:X.mg "enumerate" = none) (ha:PA X [a] ta) (hs:starEach [a] X.env = [(false,eval a X.env)]:=by rfl):PI X (.Tuple elts k tpos) (.Call (.Name "enumerate" p) [a] [] pos) (iEnum X.K ta):=by
 intro pins s σ H R I h
 refine Call_ (qLf I hg hm boot_enumerate (PyProof.Rows.callWith_type1 (thn (ha pos pins s σ H _ I h) fun us s1 hq_ => ?_) hs rfl))
 obtain⟨vs,H1,I1,r1,q1⟩:=hq_
 obtain⟨l,e,⟨xs,hq⟩,q⟩:=q1
 subst e
 obtain⟨u,rfl,ru⟩:=vals1 r1
 cases ru
 obtain⟨its,rv,pl,hz⟩:=I1.list hq
 refine call_enumerate_list pl.isList fun h' he hi hsz hk => ?_
 refine wpAny_pyIter_enum he ?_
 have I2:Inv X pins σ H1 { s1 with heap:=h' }:=I1.kept (t':=s1.toks) hk
 refine⟨s1.heap.objs.size+1,[s1.heap.objs.size+1,s1.heap.objs.size],_,_,H1,rfl,I2,qN5 l (s1.heap.objs.size+1) s1.heap.objs.size (Nat.ne_of_gt (Nat.lt_succ_self _)),⟨⟨_,he⟩,hi⟩,fun b hb => ?_,q⟩
 have hge:s1.heap.objs.size<=b:=by
  rcases List.mem_cons.mp hb with z | z
  ·rw [z];exact Nat.le_succ _
  ·have z:b=s1.heap.objs.size:=by simpa using z
   rw [z];exact Nat.le_refl _
 exact I1.fpOk hge (I1.hok.fresh hge)
end
section
variable {X:Cx} {elt tg iter tg2 iter2:Expr} {ifs ifs2:List Expr} {scope:Scope} {own:List Str} {cap:List Nat} {wi wi2:TI} {g g2:TG} {tts tts2:List TT} {te:TE} {pos:Pos}
theorem qDu (own:List Str) (cap:List Nat) (hc:X.calm=true) (S:CompScope X own cap scope) (hi:PI X tg iter wi) (hg : ∀cl s H ex,PG (qAk X own cap scope cl s H ex) tg g)
  (ht : ∀cl s H ex,PTs (qAk X own cap scope cl s H ex) ifs tts) (he : ∀cl s H ex,PE (qAk X own cap scope cl s H ex) elt te) (hs : ∀x,foldedSetIterable iter X.env x=pure x:=by intro _;rfl) :
  PE X (.ListComp elt [⟨tg,iter,ifs,0⟩] scope pos) (tComp own cap (.lst []) wi g tts (eApp te)):=by
 intro pins s σ H Q I h
 exact qRa (behOf:=qGg elt) hc S rfl hi qIf (fun _ _ _ _ _=>qGd) hg ht (fun cl s H ex l=>qKc (he cl s H ex)) hs pins s σ H Q I h
theorem qSq {i:Nat} {x:Str} {px spos:Pos} (own:List Str) (cap:List Nat) (hc:X.calm=true) (S:CompScope X own cap scope) (hN:X.N.Nodup) (hix:X.N[i]? = some x) (hx:Loc X.env.scope x)
  (hi:PI X tg iter wi) (hg : ∀cl s H ex,PG (qAk X own cap scope cl s H ex) tg g)
  (ht : ∀cl s H ex,PTs (qAk X own cap scope cl s H ex) ifs tts) (he : ∀cl s H ex,PE (qAk X own cap scope cl s H ex) elt te)
  (hsw:swapsWith (.ListComp elt [⟨tg,iter,ifs,0⟩] scope pos) (some (.Name x px)) spos.line X.env=pure true:=by rfl) (hs : ∀x,foldedSetIterable iter X.env x=pure x:=by intro _;rfl)
  (hf:X.fn x=true\/X.env.scope.names.lookup x=some .local:=by first | exact .inl rfl | exact .inr rfl | assumption) :
  PS X (.Assign [.Name x px] (.ListComp elt [⟨tg,iter,ifs,0⟩] scope pos) spos) (tAsg (tComp own cap (.lst []) wi g tts (eApp te)) (gName i)):=by
 intro pins s σ H D I h
 rw [exec_Assign_Name_used _ _ _ _ hsw]
 refine wpAny_bind (wpAny_standAt (wpAny_bind ?_))
 show wpAny _ X.A (do let _ <-comprehension (.ListComp elt [⟨tg,iter,ifs,0⟩] scope pos) scope X.env _ (newList []) false (eval iter X.env) (some (assign (.Name x px) X.env))) _ _ s
 refine wpAny_bind (thn (qLj (behOf:=qGg elt) hc S rfl hi qIf (fun _ _ _ _ _=>qGd) hg ht (fun cl s H ex l=>qKc (he cl s H ex)) hs hN hix hx hf pins s σ H D I h) fun _ s' hq => ?_)
 exact wpAny_pure (wpAny_pure hq)
def qIa (e iter2:Expr) (d:Nat) (acc:Value) (env:Env):Sem Unit:=do
 let x <-eval iter2 env
 standAt iter2.pos
 let x <-foldedSetIterable iter2 env x
 let _ <-runOwn (.compStart e d (<-holding [x] (pyIter x)) acc env) env
def bNext (wi2:TI) (g2:TG) (tts2:List TT) (B:TB):TB:=fun σ H Q=>wi2 σ H fun J H1=>LoopT J g2 (tAll tts2) B σ H1 Q
theorem qSu {e:Expr} {d:Nat} {acc:Value} {beh:Sem Unit} {B:TB} (hxe:X.xe=fun _ _=>False) (hc:X.calm=true) (C:ClauseAt X e d acc tg2 iter2 ifs2 beh) (hi:PI X tg2 iter2 wi2) (hg:PG X tg2 g2) (ht:PTs X ifs2 tts2) (hb:PB X beh B)
  (hs : ∀x,foldedSetIterable iter2 X.env x=pure x):PB X (qIa e iter2 d acc X.env) (bNext wi2 g2 tts2 B):=by
 intro pins s σ H Q I h
 refine wpAny_bind (thn (hi pins s σ H _ I h) fun v s1 q1=>wpAny_bind (wpAny_standAt (wpAny_bind (wpAny_of_eq (hs v) (wpAny_bind (wpAny_holding (thn q1 fun itv s2 q2 => ?_)))))))
 obtain⟨it,fp,tn,J,H2,rfl,I2,T,st2,f2,q⟩:=q2
 have L:=qJg hxe hc C T hg ht hb I2 st2 f2 q
 refine wpAny_bind (wpAny_runOwn ?_)
 refine codeAny_mono (C.start (.ref it) (CompR X pins Q) s2 L (T.self _ 0 _ _ _ st2 L)) fun r s' hr => ?_
 cases r with
 | error x=>exact (show False from hr).elim
 | ok f=>exact wpAny_pure hr
theorem qGo {elt:Expr} {gens:List Comprehension} {scope:Scope} {pos:Pos} {acc:Value} {d:Nat} {tg iter:Expr} {ifs:List Expr} (hd:gens[d]? = some ⟨tg,iter,ifs,0⟩) (it:Value) (R:Result->Shared->Prop) (s:Shared)
  (h0:codeAny (model X.prog X.w) X.A (.compLoop (.ListComp elt gens scope pos) d it acc X.env) R s)
  (h:wpAny (model X.prog X.w) X.A (pyIter it) (fun it' s'=>codeAny (model X.prog X.w) X.A (.compLoop (.ListComp elt gens scope pos) d it' acc X.env) R s') (fun _ _=>False) s) :
  codeAny (model X.prog X.w) X.A (.compStart (.ListComp elt gens scope pos) d it acc X.env) R s:=by
 refine codeAny_of_tree ?_
 show wpAny _ X.A ((compStart (.ListComp elt gens scope pos) d it acc X.env).onRaise (fun x=>do noteFrame x X.env;standAt theWindowsPlace)) _ _ s
 refine wpAny_notedAt ?_
 unfold compStart
 have e1:(clausesOf (.ListComp elt gens scope pos))[d]? = some ⟨tg,iter,ifs,0⟩:=hd
 rw [e1]
 show wpAny _ _ (ask >>= _) _ _ s
 refine wpAny_bind (wpAny_askSetting (wpAny_ite ?_))
 have h':wpAny (model X.prog X.w) X.A (pyIter it) (fun it' s'=>codeAny (model X.prog X.w) X.A (.compLoop (.ListComp elt gens scope pos) d it' acc X.env) R s') (notedBy (model X.prog X.w) X.A X.env fun x s'=>R (.error x) s') s:=wpAny_mono h (fun _ _ z=>z) fun _ _ z=>z.elim
 split
 ·first
   | exact wpAny_bind (wpAny_pure (wpAny_pure (And.intro rfl h0)))
   | exact wpAny_pure (And.intro rfl h0)
 ·first
   | exact wpAny_bind (wpAny_rule (wpAny_bind (wpAny_standAt (wpAny_bind (wpAny_mono h' (fun it' s' h'=>wpAny_pure (And.intro rfl h')) fun _ _ x=>x)))))
   | (refine wpAny_bind (wpAny_rule ?_);show wpAny _ _ (standAt iter.pos >>= _) _ _ s;exact wpAny_bind (wpAny_standAt (wpAny_bind (wpAny_mono h' (fun it' s' h'=>wpAny_pure (And.intro rfl h')) fun _ _ x=>x))))
theorem qI6 {acc:Value}:ClauseAt X (.ListComp elt [⟨tg,iter,ifs,0⟩,⟨tg2,iter2,ifs2,0⟩] scope pos) 0 acc tg iter ifs (qIa (.ListComp elt [⟨tg,iter,ifs,0⟩,⟨tg2,iter2,ifs2,0⟩] scope pos) iter2 1 acc X.env) where
 quiet:=fun _=>rfl
 under:=fun _=>rfl
 den:=fun _=>rfl
 turn:=fun it=>by
  have e:compTurn (.ListComp elt [⟨tg,iter,ifs,0⟩,⟨tg2,iter2,ifs2,0⟩] scope pos) 0 it acc X.env=(do
   standAt iter.pos
   match <-pyNext it with
   | none=>pure (.done .next)
   | some v =>
    letOwnedTupleGo tg it v
    assign tg X.env v
    let ok <-qEi ifs X.env true
    if ok then
     let x <-eval iter2 X.env
     standAt iter2.pos
     let x <-foldedSetIterable iter2 X.env x
     let _ <-runOwn (.compStart (.ListComp elt [⟨tg,iter,ifs,0⟩,⟨tg2,iter2,ifs2,0⟩] scope pos) 1 (<-holding [x] (pyIter x)) acc X.env) X.env
    again (.compLoop (.ListComp elt [⟨tg,iter,ifs,0⟩,⟨tg2,iter2,ifs2,0⟩] scope pos) 0 it acc X.env)):=rfl
  rw [e]
  unfold qIa
  simp only [bind_assoc,pure_bind]
  first
   | done
   | rfl
   | (congr 1;funext _;congr 1;funext r;cases r <;> rfl)
 start:=fun it R s=>qGo rfl it R s
theorem qI5 {acc:Value}:ClauseAt X (.ListComp elt [⟨tg,iter,ifs,0⟩,⟨tg2,iter2,ifs2,0⟩] scope pos) 1 acc tg2 iter2 ifs2 (qGg elt acc X.env) where
 quiet:=fun _=>rfl
 under:=fun _=>rfl
 den:=fun _=>rfl
 turn:=fun _=>rfl
 start:=fun it R s=>qGo rfl it R s
end
end L2
namespace Srt
open PySem PySem.W PyProof.Rows
def run {α : Type} (lt:Nat->Nat->Bool):KasT α -> α
 | .ret a=>a
 | .ask i j k=>run lt (k (lt i j))
theorem qD6 {α β : Type} (lt:Nat->Nat->Bool) (f : α -> KasT β) : ∀t:KasT α,run lt (t.bind f)=run lt (f (run lt t))
 | .ret _=>rfl
 | .ask i j k=>qD6 lt f (k (lt i j))
section
variable (lt:Nat->Nat->Bool)
structure Ord:Prop where
 asym : ∀a b,lt a b=true->lt b a=false
 trans : ∀a b c,lt b a=false->lt c b=false->lt c a=false
abbrev at' (p:Array Nat) (i:Nat):Nat:=p.getD i 0
def Up (p:Array Nat) (k:Nat):Prop := ∀i j,i<=j->j<k->lt (at' p j) (at' p i)=false
def Dn (p:Array Nat) (k:Nat):Prop := ∀i j,i<=j->j<k->lt (at' p i) (at' p j)=false
def Eqs (p:Array Nat) (a b:Nat):Prop := ∀i j,a<=i->i<b->a<=j->j<b->lt (at' p i) (at' p j)=false
end
variable {lt:Nat->Nat->Bool}
theorem Ord.irr (O:Ord lt) (a:Nat):lt a a=false:=by
 cases h:lt a a with
 | false=>rfl
 | true=>rw [<-h];exact (O.asym a a h)
theorem at_eq {p q:Array Nat} {i j:Nat} (h:p[i]? = q[j]?):at' p i=at' q j:=by
 unfold at'
 rw [Array.getD_eq_getD_getElem?,Array.getD_eq_getD_getElem?,h]
theorem at_rev {p:Array Nat} {i j:Nat} (hj:j<=p.size) (k:Nat):at' (kas_rev p i j) k=if i<=k/\k<j then at' p (i+j - 1 - k) else at' p k:=by
 have h:=getElem?_mirror_all (i:=i) hj k
 by_cases c:i<=k/\k<j
 ·rw [if_pos c] at h ⊢;exact at_eq h
 ·rw [if_neg c] at h ⊢;exact at_eq h
theorem at_bub {p:Array Nat} {k l:Nat} (hk:k<p.size) (hl:l<=k) (i:Nat):at' (bubble p k (k - l)) i=if i=l then at' p k else if l<i/\i<=k then at' p (i - 1) else at' p i:=by
 have h:=getElem?_bubble hk (k - l) (by omega) i
 have e:k - (k - l)=l:=by omega
 rw [e] at h
 by_cases c:i=l
 ·rw [if_pos c] at h ⊢;exact at_eq h
 ·rw [if_neg c] at h ⊢
  by_cases d:l<i/\i<=k
  ·rw [if_pos d] at h ⊢;exact at_eq h
  ·rw [if_neg d] at h ⊢;exact at_eq h
theorem Up.snoc (O:Ord lt) {p:Array Nat} {n:Nat} (h1:1<=n) (u:Up lt p n) (h:lt (at' p n) (at' p (n - 1))=false):Up lt p (n+1):=by
 intro i j hij hj
 by_cases e:j=n
 ·subst e
  by_cases e2:i=j
  ·subst e2;exact O.irr _
  ·exact O.trans _ (at' p (j - 1)) _ (u i (j - 1) (by omega) (by omega)) h
 ·exact u i j hij (by omega)
theorem Dn.snoc (O:Ord lt) {p:Array Nat} {n:Nat} (h1:1<=n) (u:Dn lt p n) (h:lt (at' p (n - 1)) (at' p n)=false):Dn lt p (n+1):=by
 intro i j hij hj
 by_cases e:j=n
 ·subst e
  by_cases e2:i=j
  ·subst e2;exact O.irr _
  ·exact O.trans _ (at' p (j - 1)) _ h (u i (j - 1) (by omega) (by omega))
 ·exact u i j hij (by omega)
theorem qPp (O:Ord lt) (p:Array Nat) : ∀(f n:Nat),1<=n->Up lt p n->n<=run lt (kas_asc p f n)/\run lt (kas_asc p f n)<=n+f/\Up lt p (run lt (kas_asc p f n)) /\
  (run lt (kas_asc p f n)<n+f->lt (at' p (run lt (kas_asc p f n))) (at' p (run lt (kas_asc p f n) - 1))=true)
 | 0,n,h1,u=>⟨Nat.le_refl _,Nat.le_refl _,u,fun h=>absurd h (Nat.lt_irrefl _)⟩
 | f+1,n,h1,u=>by
  have e0:run lt (kas_asc p (f+1) n)=if lt (at' p n) (at' p (n - 1))=true then n else run lt (kas_asc p f (n+1)):=by
   show run lt (if lt (at' p n) (at' p (n - 1))=true then KasT.ret n else kas_asc p f (n+1))=_
   cases lt (at' p n) (at' p (n - 1)) <;> rfl
  rw [e0]
  cases c:lt (at' p n) (at' p (n - 1)) with
  | true =>
   simp only [if_true]
   exact⟨Nat.le_refl _,by omega,u,fun _=>c⟩
  | false =>
   simp only [Bool.false_eq_true,if_false]
   obtain⟨a,b,d,e⟩:=qPp O p f (n+1) (by omega) (u.snoc O h1 c)
   exact⟨by omega,by omega,d,fun h=>e (by omega)⟩
theorem qBy (p:Array Nat) (i j:Nat):(kas_rev p i j).Perm p:=mirror_perm _ _ _ _
theorem qCj (p:Array Nat) (i j:Nat):(kas_rev p i j).size=p.size:=mirror_size _ _ _ _
theorem Dn.revEq (O:Ord lt) {p:Array Nat} {a n:Nat} (hn:n<=p.size) (ha:a<=n) (u:Dn lt p n) (e:Eqs lt p a n):Dn lt (kas_rev p a n) n:=by
 intro i j hij hj
 rw [at_rev hn,at_rev hn]
 by_cases ci:a<=i/\i<n
 ·by_cases cj:a<=j/\j<n
  ·rw [if_pos ci,if_pos cj];exact e _ _ (by omega) (by omega) (by omega) (by omega)
  ·omega
 ·by_cases cj:a<=j/\j<n
  ·rw [if_neg ci,if_pos cj];exact u _ _ (by omega) (by omega)
  ·rw [if_neg ci,if_neg cj];exact u _ _ hij hj
theorem qI4 (O:Ord lt) : ∀(f:Nat) (p:Array Nat) (n q:Nat),q+1<=n->n+f<=p.size->Dn lt p n->Eqs lt p (n - (q+1)) n ->
  ∃p' n' q',run lt (kas_desc f p n q)=(p',n',q')/\p'.Perm p/\p'.size=p.size/\n<=n'/\n'<=n+f/\q'+1<=n'/\Dn lt p' n'/\Eqs lt p' (n' - (q'+1)) n'
 | 0,p,n,q,h1,h2,u,e=>⟨p,n,q,rfl,Array.Perm.refl _,rfl,Nat.le_refl _,Nat.le_refl _,h1,u,e⟩
 | f+1,p,n,q,h1,h2,u,e=>by
  unfold kas_desc
  show ∃p' n' q',run lt (if lt (at' p n) (at' p (n - 1))=true then _ else _)=_/\_
  cases c:lt (at' p n) (at' p (n - 1)) with
  | true =>
   simp only [if_true]
   by_cases hq:q>0
   ·rw [if_pos hq]
    have u1:Dn lt (kas_rev p (n - (q+1)) n) n:=u.revEq O (by omega) (by omega) e
    have ez:at' (kas_rev p (n - (q+1)) n) n=at' p n:=by rw [at_rev (by omega),if_neg (by omega)]
    have ey:at' (kas_rev p (n - (q+1)) n) (n - 1)=at' p (n - (q+1)):=by
     rw [at_rev (by omega),if_pos (by omega)];congr 1;omega
    have u2:Dn lt (kas_rev p (n - (q+1)) n) (n+1):=u1.snoc O (by omega) (by
     rw [ez,ey]
     exact O.trans _ (at' p (n - 1)) _ (O.asym _ _ c) (e _ _ (by omega) (by omega) (by omega) (by omega)))
    obtain⟨p',n',q',r,a1,a2,a3,a4,a5,a6,a7⟩:=qI4 O f (kas_rev p (n - (q+1)) n) (n+1) 0 (by omega) (by rw [qCj];omega) u2 (fun i j _ _ _ _=>by
     have:i=j:=by omega
     subst this;exact O.irr _)
    exact⟨p',n',q',r,a1.trans (qBy _ _ _),a2.trans (qCj _ _ _),by omega,by omega,a5,a6,a7⟩
   ·rw [if_neg hq]
    obtain⟨p',n',q',r,a1,a2,a3,a4,a5,a6,a7⟩:=qI4 O f p (n+1) 0 (by omega) (by omega) (u.snoc O (by omega) (O.asym _ _ c)) (fun i j _ _ _ _=>by
     have:i=j:=by omega
     subst this;exact O.irr _)
    exact⟨p',n',q',r,a1,a2,by omega,by omega,a5,a6,a7⟩
  | false =>
   simp only [Bool.false_eq_true,if_false]
   show ∃p' n' q',run lt (if lt (at' p (n - 1)) (at' p n)=true then _ else _)=_/\_
   cases d:lt (at' p (n - 1)) (at' p n) with
   | true =>
    simp only [if_true]
    exact⟨p,n,q,rfl,Array.Perm.refl _,rfl,Nat.le_refl _,by omega,h1,u,e⟩
   | false =>
    simp only [Bool.false_eq_true,if_false]
    obtain⟨p',n',q',r,a1,a2,a3,a4,a5,a6,a7⟩:=qI4 O f p (n+1) (q+1) (by omega) (by omega) (u.snoc O (by omega) d) (fun i j hi hi2 hj hj2=>by
     have key : ∀k,n+1 - (q+1+1)<=k->k<n+1->lt (at' p k) (at' p (n - 1))=false/\lt (at' p (n - 1)) (at' p k)=false:=by
      intro k k1 k2
      by_cases ek:k=n
      ·subst ek;exact⟨c,d⟩
      ·exact⟨e _ _ (by omega) (by omega) (by omega) (by omega),e _ _ (by omega) (by omega) (by omega) (by omega)⟩
     exact O.trans _ (at' p (n - 1)) _ (key j hj hj2).2 (key i hi hi2).1)
    exact⟨p',n',q',r,a1,a2,by omega,by omega,a5,a6,a7⟩
theorem Dn.rev {p:Array Nat} {n:Nat} (hn:n<=p.size) (u:Dn lt p n):Up lt (kas_rev p 0 n) n:=by
 intro i j hij hj
 rw [at_rev hn,at_rev hn,if_pos (by omega),if_pos (by omega)]
 exact u _ _ (by omega) (by omega)
theorem qKu (O:Ord lt) {p:Array Nat} {n nrem:Nat} (h1:1<=n) (hn:n<=nrem) (hz:nrem<=p.size) (u:Dn lt p n) :
  ∃m p',run lt (kas_tail3 n nrem p)=(m,p')/\p'.Perm p/\p'.size=p.size/\1<=m/\m<=nrem/\Up lt p' m:=by
 obtain⟨a,b,d,_⟩:=qPp O (kas_rev p 0 n) (nrem - n) n h1 (u.rev (by omega))
 refine⟨_,_,qD6 lt _ _,qBy _ _ _,qCj _ _ _,by omega,by omega,d⟩
theorem qG8 (O:Ord lt) {p:Array Nat} {n nrem:Nat} (h1:1<=n) (hn:n+1<=nrem) (hz:nrem<=p.size) (u:Dn lt p (n+1)) :
  ∃m p',run lt (kas_descPart n nrem p)=(m,p')/\p'.Perm p/\p'.size=p.size/\1<=m/\m<=nrem/\Up lt p' m:=by
 obtain⟨p',n',q',r,a1,a2,a3,a4,a5,a6,a7⟩:=qI4 O (nrem - (n+1)) p (n+1) 0 (by omega) (by omega) u (fun i j _ _ _ _=>by
  have:i=j:=by omega
  subst this;exact O.irr _)
 unfold kas_descPart
 rw [qD6,r]
 dsimp only
 by_cases hq:q'>0
 ·rw [if_pos hq]
  obtain⟨m,p2,e,b1,b2,b3,b4,b5⟩:=qKu O (p:=kas_rev p' (n' - (q'+1)) n') (n:=n') (nrem:=nrem) (by omega) (by omega) (by rw [qCj];omega) (a6.revEq O (by omega) (by omega) a7)
  exact⟨m,p2,e,(b1.trans (qBy _ _ _)).trans a1,by rw [b2,qCj];omega,b3,b4,b5⟩
 ·rw [if_neg hq]
  obtain⟨m,p2,e,b1,b2,b3,b4,b5⟩:=qKu O (p:=p') (n:=n') (nrem:=nrem) (by omega) (by omega) (by omega) a6
  exact⟨m,p2,e,b1.trans a1,by rw [b2];omega,b3,b4,b5⟩
theorem count_ok (O:Ord lt) {p:Array Nat} {nrem:Nat} (h1:1<=nrem) (hz:nrem<=p.size) :
  ∃m p',run lt (kas_count nrem p)=(m,p')/\p'.Perm p/\p'.size=p.size/\1<=m/\m<=nrem/\Up lt p' m:=by
 obtain⟨a,b,d,e⟩:=qPp O p (nrem - 1) 1 (by omega) (fun i j hij hj=>by
  have:i=j:=by omega
  subst this;exact O.irr _)
 unfold kas_count
 rw [qD6]
 generalize hn:run lt (kas_asc p (nrem - 1) 1)=n at a b d e
 by_cases c:n=nrem
 ·rw [if_pos (by simp [c])]
  exact⟨n,p,rfl,Array.Perm.refl _,rfl,a,by omega,d⟩
 ·rw [if_neg (by simp [c])]
  have hlt:=e (by omega)
  by_cases c2:n>1
  ·rw [if_pos c2]
   show ∃m p',run lt (if lt (at' p 0) (at' p (n - 1))=true then _ else _)=_/\_
   cases f:lt (at' p 0) (at' p (n - 1)) with
   | true =>
    simp only [if_true]
    exact⟨n,p,rfl,Array.Perm.refl _,rfl,a,by omega,d⟩
   | false =>
    simp only [Bool.false_eq_true,if_false]
    have all : ∀i j,i<n->j<n->lt (at' p i) (at' p j)=false:=by
     intro i j hi hj
     have x1:lt (at' p (n - 1)) (at' p j)=false:=d j (n - 1) (by omega) (by omega)
     have x2:lt (at' p i) (at' p 0)=false:=d 0 i (by omega) hi
     exact O.trans _ (at' p 0) _ (O.trans _ (at' p (n - 1)) _ x1 f) x2
    have u:Dn lt (kas_rev p 0 n) (n+1):=by
     intro i j hij hj
     rw [at_rev (by omega),at_rev (by omega)]
     by_cases ej:j=n
     ·subst ej
      rw [if_neg (show ¬(0<=j/\j<j) by omega)]
      by_cases ei:i=j
      ·subst ei;rw [if_neg (by omega)];exact O.irr _
      ·rw [if_pos (by omega)]
       exact O.trans _ (at' p (j - 1)) _ (O.asym _ _ hlt) (all _ _ (by omega) (by omega))
     ·rw [if_pos (by omega),if_pos (by omega)]
      exact all _ _ (by omega) (by omega)
    obtain⟨m,p2,e2,b1,b2,b3,b4,b5⟩:=qG8 O (p:=kas_rev p 0 n) (n:=n) (nrem:=nrem) a (by omega) (by rw [qCj];omega) u
    exact⟨m,p2,e2,b1.trans (qBy _ _ _),by rw [b2,qCj],b3,b4,b5⟩
  ·rw [if_neg c2]
   have en:n=1:=by omega
   subst en
   have u:Dn lt p (1+1):=by
    intro i j hij hj
    by_cases ei:i=j
    ·subst ei;exact O.irr _
    ·have e1:i=0:=by omega
     have e2:j=1:=by omega
     subst e1;subst e2
     exact O.asym _ _ hlt
   exact qG8 O (by omega) (by omega) hz u
theorem qHs (O:Ord lt) {p:Array Nat} {k:Nat} (u:Up lt p k) : ∀(f l r:Nat),l<=r->r<=k->r - l<=f->(∀i,i<l->lt (at' p k) (at' p i)=false)->(∀i,r<=i->i<k->lt (at' p k) (at' p i)=true) ->
  ∃m,run lt (kas_place p k f l r)=m/\m<=k/\(∀i,i<m->lt (at' p k) (at' p i)=false) /\ ∀i,m<=i->i<k->lt (at' p k) (at' p i)=true
 | 0,l,r,h1,h2,h3,a,b=>⟨l,rfl,by omega,a,fun i hi=>b i (by omega)⟩
 | f+1,l,r,h1,h2,h3,a,b=>by
  unfold kas_place
  by_cases c:l>=r
  ·rw [if_pos c]
   exact⟨l,rfl,by omega,a,fun i hi=>b i (by omega)⟩
  ·rw [if_neg c]
   show ∃m,run lt (if lt (at' p k) (at' p ((l+r) / 2))=true then _ else _)=m/\_
   cases d:lt (at' p k) (at' p ((l+r) / 2)) with
   | true =>
    simp only [if_true]
    refine qHs O u f l ((l+r) / 2) (by omega) (by omega) (by omega) a fun i hi hk => ?_
    by_cases hr:r<=i
    ·exact b i hr hk
    ·cases z:lt (at' p k) (at' p i) with
     | true=>rfl
     | false =>
      have x:=u ((l+r) / 2) i hi hk
      have:=O.trans _ _ _ x z
      rw [d] at this;cases this
   | false =>
    simp only [Bool.false_eq_true,if_false]
    refine qHs O u f ((l+r) / 2+1) r (by omega) (by omega) (by omega) (fun i hi => ?_) b
    by_cases hl:i<l
    ·exact a i hl
    ·exact O.trans _ _ _ (u i ((l+r) / 2) (by omega) (by omega)) d
theorem qVp (O:Ord lt) {p:Array Nat} {k l:Nat} (hk:k<p.size) (hl:l<=k) (u:Up lt p k) (a : ∀i,i<l->lt (at' p k) (at' p i)=false) (b : ∀i,l<=i->i<k->lt (at' p k) (at' p i)=true):Up lt (bubble p k (k - l)) (k+1):=by
 intro i j hij hj
 rw [at_bub hk hl,at_bub hk hl]
 by_cases ei:i=l
 ·rw [if_pos ei]
  by_cases ej:j=l
  ·rw [if_pos ej];exact O.irr _
  ·rw [if_neg ej,if_pos (by omega)]
   exact O.asym _ _ (b _ (by omega) (by omega))
 ·rw [if_neg ei]
  by_cases ej:j=l
  ·rw [if_pos ej,if_neg (by omega)];exact a i (by omega)
  ·rw [if_neg ej]
   by_cases ci:l<i/\i<=k
   ·rw [if_pos ci,if_pos (by omega)];exact u _ _ (by omega) (by omega)
   ·rw [if_neg ci]
    by_cases cj:l<j/\j<=k
    ·rw [if_pos cj];exact u _ _ (by omega) (by omega)
    ·rw [if_neg cj];exact u _ _ hij (by omega)
theorem qS2 (O:Ord lt) : ∀(f:Nat) (p:Array Nat) (k:Nat),k+f=p.size->Up lt p k -> ∃p',run lt (kas_bin f p k)=p'/\p'.Perm p/\p'.size=p.size/\Up lt p' p.size
 | 0,p,k,h,u=>⟨p,rfl,Array.Perm.refl _,rfl,by rw [<-h];exact u⟩
 | f+1,p,k,h,u=>by
  unfold kas_bin
  rw [qD6]
  obtain⟨m,e,h1,a,b⟩:=qHs O u k 0 k (by omega) (by omega) (by omega) (fun i hi=>absurd hi (by omega)) (fun i hi hk=>absurd hk (by omega))
  rw [e]
  obtain⟨p',e',b1,b2,b3⟩:=qS2 O f (bubble p k (k - m)) (k+1) (by rw [bubble_size];omega) (qVp O (by omega) h1 u a b)
  exact⟨p',e',b1.trans (bubble_perm _ _ _),by rw [b2,bubble_size],by rw [bubble_size] at b3;exact b3⟩
theorem sort_ok (O:Ord lt) {n:Nat} (h1:1<=n) : ∃p,run lt (kas_sort n)=p/\p.Perm (List.toArray (List.range n))/\p.size=n/\Up lt p n:=by
 obtain⟨m,p,e,a1,a2,a3,a4,a5⟩:=count_ok O (p:=List.toArray (List.range n)) (nrem:=n) h1 (by simp)
 have hz:p.size=n:=by rw [a2];simp
 unfold kas_sort
 rw [qD6,e]
 dsimp only
 by_cases c:m<n
 ·rw [if_pos c]
  have em:max m 1=m:=by omega
  rw [em]
  obtain⟨p',e',b1,b2,b3⟩:=qS2 O (n - m) p m (by omega) a5
  exact⟨p',e',b1.trans a1,by omega,by rw [hz] at b3;exact b3⟩
 ·rw [if_neg c]
  have:m=n:=by omega
  subst this
  exact⟨p,rfl,a1,hz,a5⟩
def Asks {α : Type} (n:Nat):KasT α -> Prop
 | .ret _=>True
 | .ask i j k=>i<n/\j<n /\ ∀b,Asks n (k b)
def Ends' {α : Type} (n:Nat) (P : α -> Prop):KasT α -> Prop
 | .ret a=>P a
 | .ask i j k=>i<n/\j<n /\ ∀b,Ends' n P (k b)
theorem qCb {α β : Type} {n:Nat} {P : α -> Prop} {R : β -> Prop} {f : α -> KasT β} (hf : ∀a,P a->Ends' n R (f a)) : ∀ {t:KasT α},Ends' n P t->Ends' n R (t.bind f)
 | .ret a,h=>hf a h
 | .ask _ _ k,⟨h1,h2,h3⟩=>⟨h1,h2,fun b=>qCb hf (h3 b)⟩
def Bd (n:Nat) (p:Array Nat):Prop := ∀i,at' p i<n
theorem Bd.of {n:Nat} {p q:Array Nat} (h0:0<n) (h:q.Perm p) (hb : ∀x∈p,x<n):Bd n q /\ ∀x∈q,x<n:=by
 have hq : ∀x∈q,x<n:=fun x hx=>hb x ((Array.Perm.mem_iff h).mp hx)
 refine⟨fun i => ?_,hq⟩
 unfold at'
 rw [Array.getD_eq_getD_getElem?]
 cases e:q[i]? with
 | none=>exact h0
 | some x=>exact hq x (Array.mem_of_getElem? e)
section
variable {n:Nat} (h0:0<n)
abbrev Ok (n:Nat) (p:Array Nat):Prop:=Bd n p /\ ∀x∈p,x<n
include h0
theorem Ok.perm {p q:Array Nat} (h:Ok n p) (hp:q.Perm p):Ok n q:=Bd.of h0 hp h.2
theorem qId {p:Array Nat} (hp:Ok n p) : ∀(f k:Nat),Ends' n (fun _=>True) (kas_asc p f k)
 | 0,_=>trivial
 | f+1,k=>⟨hp.1 _,hp.1 _,fun b=>by
  cases b with
  | true=>exact trivial
  | false=>exact qId hp f (k+1)⟩
theorem qEe : ∀(f:Nat) (p:Array Nat) (k q:Nat),Ok n p->Ends' n (fun r=>Ok n r.1) (kas_desc f p k q)
 | 0,p,_,_,hp=>hp
 | f+1,p,k,q,hp=>⟨hp.1 _,hp.1 _,fun b=>by
  cases b with
  | true =>
   show Ends' n _ (if q>0 then _ else _)
   by_cases c:q>0
   ·rw [if_pos c];exact qEe f _ _ _ (hp.perm h0 (qBy _ _ _))
   ·rw [if_neg c];exact qEe f _ _ _ hp
  | false =>
   refine⟨hp.1 _,hp.1 _,fun d => ?_⟩
   cases d with
   | true=>exact hp
   | false=>exact qEe f _ _ _ hp⟩
theorem qGn {p:Array Nat} (hp:Ok n p) (k m:Nat):Ends' n (fun r=>Ok n r.2) (kas_tail3 k m p):=by
 unfold kas_tail3
 refine qCb (P:=fun _=>True) (fun a _ => ?_) (qId h0 (hp.perm h0 (qBy _ _ _)) _ _)
 exact hp.perm h0 (qBy _ _ _)
theorem qEf {p:Array Nat} (hp:Ok n p) (k m:Nat):Ends' n (fun r=>Ok n r.2) (kas_descPart k m p):=by
 unfold kas_descPart
 exact qCb (P:=fun r=>Ok n r.1) (fun a ha=>by
  by_cases c:a.2.2>0
  ·rw [if_pos c];exact qGn h0 (ha.perm h0 (qBy _ _ _)) _ _
  ·rw [if_neg c];exact qGn h0 ha _ _) (qEe h0 _ _ _ _ hp)
theorem qMs {p:Array Nat} (hp:Ok n p) (m:Nat):Ends' n (fun r=>Ok n r.2) (kas_count m p):=by
 unfold kas_count
 exact qCb (P:=fun _=>True) (fun a _=>by
  by_cases c:(a == m)=true
  ·rw [if_pos c];exact hp
  ·rw [if_neg c]
   by_cases c2:a>1
   ·rw [if_pos c2]
    refine⟨hp.1 _,hp.1 _,fun b => ?_⟩
    cases b with
    | true=>exact hp
    | false=>exact qEf h0 (hp.perm h0 (qBy _ _ _)) _ _
   ·rw [if_neg c2];exact qEf h0 hp _ _) (qId h0 hp _ _)
theorem qEq {p:Array Nat} (hp:Ok n p) (k:Nat) : ∀(f l r:Nat),Ends' n (fun _=>True) (kas_place p k f l r)
 | 0,_,_=>trivial
 | f+1,l,r=>by
  unfold kas_place
  by_cases c:l>=r
  ·rw [if_pos c];exact trivial
  ·rw [if_neg c]
   refine⟨hp.1 _,hp.1 _,fun b => ?_⟩
   cases b with
   | true=>exact qEq hp k f _ _
   | false=>exact qEq hp k f _ _
theorem qLq : ∀(f:Nat) (p:Array Nat) (k:Nat),Ok n p->Ends' n (fun _=>True) (kas_bin f p k)
 | 0,_,_,_=>trivial
 | f+1,p,k,hp=>qCb (P:=fun _=>True) (fun l _=>qLq f _ _ (hp.perm h0 (bubble_perm _ _ _))) (qEq h0 hp k _ _ _)
theorem sort_ends:Ends' n (fun _=>True) (kas_sort n):=by
 have hp:Ok n (List.toArray (List.range n)):=Bd.of h0 (Array.Perm.refl _) (fun x hx=>by simpa using hx)
 refine qCb (P:=fun r=>Ok n r.2) (fun a ha => ?_) (qMs h0 hp n)
 by_cases c:a.1<n
 ·rw [if_pos c];exact qLq h0 _ _ _ ha
 ·rw [if_neg c];exact trivial
end
theorem wp_run_in {α : Type} {n:Nat} {lt:Nat->Nat->Bool} {cmp:Nat->Nat->(Bool->Shared->Prop)->Shared->Prop} {s:Shared} {Q : α -> Shared->Prop} {P : α -> Prop} (h : ∀i j C,i<n->j<n->C (lt i j) s->cmp i j C s) :
  ∀t:KasT α,Ends' n P t->Q (run lt t) s->t.kasWp cmp Q s
 | .ret _,_,q=>q
 | .ask i j k,e,q=>h i j _ e.1 e.2.1 (wp_run_in h (k (lt i j)) (e.2.2 _) q)
end Srt
namespace L2
open PySem PySem.Spec PyProof.Rows
theorem HOk.gone {P:Program} {w:World} {H:Hp} {h:Heap} {D:Addr} (x:HOk P w H h) (hD:h.get? D=none):H D=none:=by
 cases q:H D with
 | none=>rfl
 | some u =>
  have z : ∃ob,h.get? D=some ob:=by
   have:=x D u q
   cases u with
   | lst xs=>obtain⟨_,_,_,_,e⟩:=this;exact⟨_,e⟩
   | tup xs=>obtain⟨_,_,_,ob,e,_⟩:=this;exact⟨_,e⟩
   | dK kvs=>obtain⟨_,_,_,_,o,_,_,e,_⟩:=this;exact⟨_,e⟩
   | dT kvs=>obtain⟨_,_,_,_,o,_,_,e,_⟩:=this;exact⟨_,e⟩
   | set S n=>obtain⟨o,_,_,_,e,_⟩:=this;exact⟨_,e⟩
   | ins C dx fs=>obtain⟨_,_,_,e,_⟩:=this;exact⟨_,e⟩
   | own y=>obtain⟨_,e⟩:=this;exact⟨_,e⟩
   | xd fs=>obtain⟨_,⟨_,_,_,e,_⟩,_⟩:=this;exact⟨_,e⟩
   | rng lo hi=>obtain⟨_,_,_,e⟩:=this;exact⟨_,e⟩
   | frz ob u=>obtain⟨e,_⟩:=this;exact⟨_,e⟩
   | tbl ps=>exact⟨_,this⟩
   | met f y=>exact⟨_,this⟩
   | ext φ =>obtain⟨_,⟨_,e⟩,_⟩:=this;exact⟨_,e⟩
  obtain⟨ob,z⟩:=z
  rw [hD] at z;cases z
theorem Inv.ledgerLaid {X:Cx} {pins:List (Addr×Obj)} {σ : St} {H:Hp} {s:Shared} {h':Heap} {t':Nat} {D:Addr} {o:HO} {m:Str->Option Value} (I:Inv X pins σ H s) (F:Fr X.base X.env.locals s.heap m) (F':Fr X.base X.env.locals h' m)
  (N:News X.base X.env.locals h' (qE0 X.base s.heap X.env.locals)) (hD:s.heap.get? D=none) (hDL:D≠X.env.locals) (new:ObjOk X.prog X.w (upd H D o) h' D o):Inv X pins σ (upd H D o) { s with heap:=h',toks:=t' }:=by
 have k : ∀b u,b≠X.env.locals->s.heap.get? b=some u->h'.get? b=some u:=fun b u hb e=>by
  cases q:X.base.get? b with
  | some v =>
   have:=I.bk b v q
   rw [e] at this;cases this
   exact F'.keep b _ q
  | none=>exact (N (b,u) (qDx hb q e)).1
 have hn:H D=none:=I.hok.gone hD
 have neD : ∀b u,s.heap.get? b=some u->b≠D:=fun b u e z=>by rw [z,hD] at e;cases e
 refine I.step (g':=s.gens) (d':=s.drawn) (ch :=[]) (fun _ z=>nomatch z) (fun b u hb _ _ e _=>k b u hb e) (fun b u hb _ _ e _=>⟨u.slots,k b u hb e⟩) (fun b u _ e n=>by rw [qA4 (neD b u e)];exact n)
  (fun b u _ e => ?_) (fun b xs e=>by rw [qA4 (qA2 e hn)];exact e) (fun b ob xs e=>by rw [qA4 (qA2 e hn)];exact e) (fun b ps e=>⟨#[],by rw [qA4 (qA2 e hn),e];simp⟩) (fun m' hm => ?_) (fun b u e => ?_) I.bare
 ·by_cases hb:b=X.env.locals
  ·obtain⟨oL,_,_,hL,_⟩:=F'.ns
   exact⟨oL,by rw [hb];exact hL⟩
  ·exact⟨u,k b u hb e⟩
 ·have:m'=m:=by
   obtain⟨o1,es1,ep1,e1,d1,_,f1⟩:=hm
   obtain⟨o2,es2,ep2,e2,d2,_,f2⟩:=F.ns
   rw [e1] at e2;cases e2
   rw [d1] at d2;cases d2
   funext x;rw [<-f1,<-f2]
  rw [this];exact F'.ns
 ·by_cases hb:b=D
  ·subst hb;rw [qA1] at e;cases e;exact new
  ·rw [qA4 hb] at e
   refine (I.hok b u e).stay (fun c v hc q=>k c v ?_ q) (fun c q=>by rw [qA4 (qA2 q hn)];exact q) fun c xs q=>by rw [qA4 (qA2 q hn)];exact q
   intro z
   rcases hc with y | y
   ·rw [<-y,z,I.free] at e;cases e
   ·rw [z,I.free] at y;cases y
section
variable {X:Cx}
def qUz (K:PySem.W.Frag):List V->Hp->VK->Prop:=fun xs H Q => ∃(a:Addr) (ns:List Int),xs = [.ref a]/\SqL K H a (ns.map V.int)/\ns.length<64 /\ ∀(l:Addr) (ns':List Int),H l=none->ns'.Perm ns->ns'.Pairwise (· <= ·)->Q (.ref l) (upd H l (.lst (ns'.map V.int)))
theorem qMu:CallR X (.builtin "sorted") (qUz X.K):=by
 intro pins s σ H xs us Q I r h
 obtain⟨a,ns,rfl,hq,hz,q⟩:=h
 obtain⟨u,rfl,ru⟩:=vals1 r
 cases ru
 obtain⟨its,rv,pl,_⟩:=I.list hq
 have hl:=rv.length
 rw [List.length_map] at hl
 refine sorted_ints pl.isList (qDc rv) (by omega) fun out ns' a1 a2 a3 => ?_
 obtain⟨e,he⟩:=sortedAll_at s.heap its out
 have hlen:=a2.length_eq
 have hn:H (s.heap.objs.size+1)=none:=I.hok.fresh (Nat.le_succ _)
 have rv':Vals (ns'.map V.int) out.toList:=qFn a1
 refine⟨.ref (s.heap.objs.size+1),_,I.laid (t':=s.toks) (o :=.lst (ns'.map V.int)) (fun b u e=>sortedAll_old e) (Nat.le_succ _) ⟨?_,out.toList,e,rv',by simpa using he⟩,rfl,q _ ns' hn a2 a3⟩
 rw [List.length_map,sizeLine_eq];omega
end
end L2
namespace Srt
open PySem PySem.W PyProof.Rows
theorem qLd : ∀a b:List Int,HT.lexLt a b=true->HT.lexLt b a=false
 | [],[],h=>by simp [HT.lexLt] at h
 | [],_::_,_=>rfl
 | _::_,[],h=>by simp [HT.lexLt] at h
 | x::xs,y::ys,h=>by
  rw [HT.lexLt_cons] at h ⊢
  by_cases e:x=y
  ·subst e
   simp only [if_true] at h ⊢
   exact qLd xs ys h
  ·rw [if_neg e] at h
   rw [if_neg (fun z=>e z.symm)]
   have:x<y:=of_decide_eq_true h
   exact decide_eq_false (by omega)
theorem qJ7 : ∀a b c:List Int,HT.lexLt b a=false->HT.lexLt c b=false->HT.lexLt c a=false
 | a,[],[],h,_=>by cases a <;> first | rfl | exact h
 | [],_,_::_,_,_=>rfl
 | _,_::_,[],_,h=>by simp [HT.lexLt] at h
 | _::_,[],_::_,h,_=>by simp [HT.lexLt] at h
 | x::xs,y::ys,z::zs,h1,h2=>by
  rw [HT.lexLt_cons] at h1 h2 ⊢
  by_cases e1:y=x
  ·subst e1
   simp only [if_true] at h1
   by_cases e2:z=y
   ·subst e2
    simp only [if_true] at h2 ⊢
    exact qJ7 xs ys zs h1 h2
   ·rw [if_neg e2] at h2 ⊢;exact h2
  ·rw [if_neg e1] at h1
   have g1 : ¬y<x:=of_decide_eq_false h1
   by_cases e2:z=y
   ·subst e2
    rw [if_neg e1];exact h1
   ·rw [if_neg e2] at h2
    have g2 : ¬z<y:=of_decide_eq_false h2
    rw [if_neg (by omega)]
    exact decide_eq_false (by omega)
theorem lex_ord (ts:List (List Int)):Ord (fun i j=>HT.lexLt (ts.getD i []) (ts.getD j [])):=⟨fun _ _=>qLd _ _,fun _ _ _=>qJ7 _ _ _⟩
theorem katlex {prog:Program} {w:World} {A:Around} {s:Shared} {Q:Bool->Shared->Prop} {fin:Bool} : ∀ {ns ms:List Int} {us ws:List Value} {i:Nat},IntsAre us ns->IntsAre ws ms->fin=decide (ns.length<ms.length)->Q (HT.lexLt ns ms) s ->
  KatLex prog w A true fin Q (us.zip ws) i s
 | [],[],_,_,_,.nil,.nil,hf,q=>by subst hf;exact q
 | [],_::_,_,_,_,.nil,.cons _ _ _,hf,q=>by subst hf;exact q
 | _::_,[],_,_,_,.cons _ _ _,.nil,hf,q=>by
  subst hf
  exact q
 | n::ns,m::ms,_,_,i,.cons _ t h1,.cons _ t' h2,hf,q=>by
  rw [HT.lexLt_cons] at q
  refine kat_cons (wpAny_eqBool_int ?_)
  by_cases e:n=m
  ·subst e
   rw [beq_self_eq_true]
   rw [if_pos rfl] at q
   exact kat_yes (katlex h1 h2 (by subst hf;simp) q)
  ·rw [if_neg e] at q
   have:(n == m)=false:=beq_eq_false_iff_ne.mpr e
   rw [this]
   refine kat_no ?_
   cases b:(true&&i == 0) with
   | true=>exact oneLt_int q
   | false=>exact kat_one _ _ (lt_int (show PySem.W.BoolBack Q (.bool (decide (n<m))) s from q))
def TupAt (h:Heap):List Value->List (List Int)->Prop:=Paired fun u t => ∃a o xs k,u=Value.ref a/\h.get? a=some o/\o.cls = .type "tuple" /\ o.data = .seq xs k/\IntsAre xs.toList t
theorem TupAt.get {h:Heap} : ∀ {us:List Value} {ts:List (List Int)} (i:Nat),TupAt h us ts->i<ts.length -> ∃a o xs k,us.getD i Value.none=Value.ref a/\h.get? a=some o/\o.data = .seq xs k/\IntsAre xs.toList (ts.getD i [])
 | _,_,_,.nil,hi=>absurd hi (by simp)
 | _,_,0,.cons ⟨a,o,xs,k,e,h1,h2,h3,h4⟩ _,_=>⟨a,o,xs,k,e,h1,h3,h4⟩
 | _::us,_::ts,i+1,.cons _ r,hi=>TupAt.get i r (by simpa using hi)
theorem TupAt.firsts {h:Heap} : ∀ {us:List Value} {ts:List (List Int)},TupAt h us ts->(∀t∈ts,t ≠ []) -> ∃fs:List Value,KatTups h us fs/\fs.length=us.length /\ ∀v∈fs,∃i t,v=Value.int i t
 | _,_,.nil,_=>⟨[],trivial,rfl,fun _ h=>nomatch h⟩
 | _::us,t::ts,.cons ⟨a,o,xs,k,e,h1,h2,h3,h4⟩ r,hn=>by
  obtain⟨fs,a1,a2,a3⟩:=TupAt.firsts r fun t ht=>hn t (List.mem_cons_of_mem _ ht)
  have hne:=hn t List.mem_cons_self
  obtain⟨l⟩:=xs
  have h4:IntsAre l t:=h4
  cases h4 with
  | nil=>exact absurd rfl hne
  | cons n tk hr =>
   subst e
   refine⟨Value.int n tk::fs,KatTups.cons h1 h2 h3 rfl a1,by simp [a2],fun v hv => ?_⟩
   rcases List.mem_cons.mp hv with z | z
   ·exact⟨n,tk,z⟩
   ·exact a3 v z
end Srt
namespace L2
open PySem PySem.Spec PyProof.Rows
def TupI (K:PySem.W.Frag) (H:Hp):List V->List (List Int)->Prop:=Paired fun v t => ∃a,v = .ref a/\SqT K H a (t.map V.int)
theorem TupI.len {K:PySem.W.Frag} {H:Hp} {vs:List V} {ts:List (List Int)} (h:TupI K H vs ts):vs.length=ts.length:=Paired.length h
section
variable {X:Cx} {pins:List (Addr×Obj)} {σ : St} {H:Hp} {s:Shared}
theorem TupI.at (I:Inv X pins σ H s) : ∀ {vs:List V} {us:List Value} {ts:List (List Int)},TupI X.K H vs ts->Vals vs us->Srt.TupAt s.heap us ts
 | _,_,_,.nil,.nil =>.nil
 | _,_,_,.cons ⟨a,e,hq⟩ r,.cons ru rr=>by
  subst e
  cases ru
  obtain⟨its,rv,⟨o,h1,h2,n,h3⟩,_⟩:=I.tuple hq
  exact .cons ⟨a,o,its.toArray,n,rfl,h1,h2,h3,by simpa using qDc rv⟩ (TupI.at I r rr)
theorem qGi {h h':Heap} {L:Addr} (hL : ∀o,h.get? L=some o -> ∃es ep,o.data = .dict es ep) (k : ∀b u,b≠L->h.get? b=some u->h'.get? b=some u) : ∀ {us:List Value} {ts:List (List Int)},Srt.TupAt h us ts->Srt.TupAt h' us ts
 | _,_,.nil =>.nil
 | _,_,.cons ⟨a,o,xs,n,e,h1,h2,h3,h4⟩ r =>.cons ⟨a,o,xs,n,e,k a o (fun z=>by
   rw [z] at h1
   obtain⟨es,ep,d⟩:=hL o h1
   rw [h3] at d;cases d) h1,h2,h3,h4⟩ (qGi hL k r)
end
theorem qN2 {vs:List V} {us:List Value} (r:Vals vs us) (i:Nat):RelV (vs.getD i .non) (us.getD i Value.none):=by
 cases e:vs[i]? with
 | none =>
  have e2:=r.none_of e
  rw [List.getD_eq_getElem?_getD,List.getD_eq_getElem?_getD,e,e2];rfl
 | some x =>
  obtain⟨u,hu,ru⟩:=r.get e
  rw [List.getD_eq_getElem?_getD,List.getD_eq_getElem?_getD,e,hu];exact ru
theorem qHg {vs:List V} {us:List Value} (r:Vals vs us) : ∀l:List Nat,Vals (l.map fun i=>vs.getD i .non) (l.map fun i=>us.getD i Value.none)
 | [] =>.nil
 | i::l =>.cons (qN2 r i) (qHg r l)
theorem qE9 {α β : Type} (da : α) (db : β) : ∀(vs:List α) (ts:List β),vs.length=ts.length->(List.range vs.length).map (fun i=>(vs.getD i da,ts.getD i db))=vs.zip ts:=by
 intro vs ts h
 refine List.ext_getElem? fun i => ?_
 rw [List.getElem?_map]
 by_cases hi:i<vs.length
 ·have h2:i<ts.length:=by omega
  have hz:i<(vs.zip ts).length:=by rw [List.length_zip];omega
  rw [List.getElem?_range hi,List.getElem?_eq_getElem hz,List.getElem_zip]
  simp [List.getD_eq_getElem?_getD,hi,h2]
 ·rw [List.getElem?_eq_none (by simpa using hi),List.getElem?_eq_none (by rw [List.length_zip];omega)];rfl
section
variable {X:Cx}
def qUx (K:PySem.W.Frag):List V->Hp->VK->Prop:=fun xs H Q => ∃(a:Addr) (vs:List V) (ts:List (List Int)),xs = [.ref a]/\SqL K H a vs/\TupI K H vs ts/\(∀t∈ts,t ≠ [])/\ts.length<64 /\
 ∀(l:Addr) (ps:List (V×List Int)),H l=none->ps.Perm (vs.zip ts)->(ps.map (·.2)).Pairwise (fun a b=>HT.lexLt b a=false)->Q (.ref l) (upd H l (.lst (ps.map (·.1))))
theorem qH2 {prog:Program} {w:World} {A:Around} {E:Value->Shared->Prop} {s:Shared} {l:Addr} {v:Value} {Q:Value->Shared->Prop} (hl:s.heap.IsList l [v].toArray)
  (h : ∀h' c,(∀b o,s.heap.get? b=some o->h'.get? b=some o)->h'.get? (s.heap.objs.size+1)=some (seqObj "list" #[v] c)->Q (.ref (s.heap.objs.size+1)) { s with heap:=h' }):wpAny (model prog w) A (call (.builtin "sorted") [.ref l]) Q E s:=by
 refine Calls.call_function_entry kind_sorted plain_sorted entry_sorted (args_sorted1 _) ?_
 unfold Builtin.«sorted»
 refine wpAny_bind (m:=checkCount "sorted" 1 1 _) (wpAny_pure (wpAny_bind (collect_list hl (wpAny_bind (wpAny_newList ?_)))))
 generalize hh:(s.heap.push (seqObj "list" #[] 0)).update s.heap.objs.size (Obj.mapSeq (· ++ [v].toArray))=h1
 have z1:h1.objs.size=s.heap.objs.size+1:=by rw [<-hh,Heap.size_update,size_push']
 have k1 : ∀b o,s.heap.get? b=some o->h1.get? b=some o:=fun b o e=>by
  have hb:b<s.heap.objs.size:=Heap.lt_size e
  rw [<-hh,Heap.get?_update_ne _ _ _ _ (Nat.ne_of_lt hb),Heap.get?_push_ne _ _ _ (Nat.ne_of_lt hb)];exact e
 have g2:(h1.push (seqObj "list" [v].toArray 0)).get? h1.objs.size=some (seqObj "list" [v].toArray 0):=Heap.get?_push_size _ rfl
 show wpAny _ _ _ _ _ { s with heap:=h1.push (seqObj "list" [v].toArray 0) }
 rw [z1] at g2 ⊢
 refine wpAny_bind (wpAny_holding (wpAny_call_entry slot_list_sort ⟨_,g2,rfl⟩ entry_list_sort ?_ (args_list_sort _)))
 rw [list_sort_plain]
 obtain⟨e1,g3⟩ : ∃e1,((h1.push (seqObj "list" [v].toArray 0)).update (s.heap.objs.size+1) (Obj.mapSeq fun _ => #[])).get? (s.heap.objs.size+1)=some (seqObj "list" #[] e1):=⟨_,get?_update_seq g2 fun _ => #[]⟩
 refine wpAny_bind (listItems_at g2 rfl (wpAny_bind (listUpdate_at g2 rfl (wpAny_bind (seqEpoch_at g3 rfl (wpAny_bind (wpAny_newTuple (wpAny_bind (wpAny_newList (wpAny_holding ?_)))))))))) 
 dsimp only
 rw [if_pos (by simp),if_pos (by simp)]
 refine wpAny_bind (wpAny_pure ?_)
 rw [StateT.run_pure]
 refine wpAny_bind (wpAny_pure ?_)
 dsimp only
 have z2:((h1.push (seqObj "list" [v].toArray 0)).update (s.heap.objs.size+1) (Obj.mapSeq fun _=>(#[]:Array Value))).objs.size=s.heap.objs.size+2:=by rw [Heap.size_update,size_push',z1]
 have g4:((((h1.push (seqObj "list" [v].toArray 0)).update (s.heap.objs.size+1) (Obj.mapSeq fun _=>(#[]:Array Value))).push (seqObj "tuple" [v].toArray 0)).push (seqObj "list" #[] 0)).get? (s.heap.objs.size+1)=some (seqObj "list" #[] e1):=by
  rw [Heap.get?_push_ne _ _ _ (Nat.ne_of_lt (by rw [size_push',z2];exact Nat.lt_succ_of_lt (Nat.lt_succ_self _))),Heap.get?_push_ne _ _ _ (Nat.ne_of_lt (by rw [z2];exact Nat.lt_succ_self _))];exact g3
 have ha:Array.map (fun x:Keyed=>x.snd) (arrOf (SortSt.mk' general' ([v].toArray.zip [v].toArray) #[] 7 none)) = #[v]:=by
  show Array.map (fun x:Keyed=>x.snd) ([v].toArray.zip [v].toArray) = #[v]
  simp
 rw [ha]
 refine wpAny_bind (seqEpoch_at g4 rfl (wpAny_bind (listUpdate_at g4 rfl ?_ (hsz2:=by show 1<=_;decide))))
 simp only [bne_self_eq_false,Bool.false_eq_true,if_false]
 obtain⟨c,g5⟩ : ∃c,(((((h1.push (seqObj "list" [v].toArray 0)).update (s.heap.objs.size+1) (Obj.mapSeq fun _=>(#[]:Array Value))).push (seqObj "tuple" [v].toArray 0)).push (seqObj "list" #[] 0)).update (s.heap.objs.size+1) (Obj.mapSeq fun _ => #[v])).get? (s.heap.objs.size+1)=some (seqObj "list" #[v] c):=⟨_,get?_update_seq g4 fun _ => #[v]⟩
 refine wpAny_pure ⟨_,rfl,wpAny_pure ⟨_,rfl,h (((((h1.push (seqObj "list" [v].toArray 0)).update (s.heap.objs.size+1) (Obj.mapSeq fun _=>(#[]:Array Value))).push (seqObj "tuple" [v].toArray 0)).push (seqObj "list" #[] 0)).update (s.heap.objs.size+1) (Obj.mapSeq fun _ => #[v])) c (fun b o e => ?_) g5⟩⟩
 have hb:b<s.heap.objs.size:=Heap.lt_size e
 have l1:b<s.heap.objs.size+1:=Nat.lt_succ_of_lt hb
 rw [Heap.get?_update_ne _ _ _ _ (Nat.ne_of_lt l1),Heap.get?_push_ne _ _ _ (Nat.ne_of_lt (by rw [size_push',z2];exact Nat.lt_succ_of_lt (Nat.lt_succ_of_lt l1))),Heap.get?_push_ne _ _ _ (Nat.ne_of_lt (by rw [z2];exact Nat.lt_succ_of_lt l1)),Heap.get?_update_ne _ _ _ _ (Nat.ne_of_lt l1),Heap.get?_push_ne _ _ _ (Nat.ne_of_lt (by rw [z1];exact l1))]
 exact k1 b o e
theorem qMt:CallR X (.builtin "sorted") (qUx X.K):=by
 intro pins s σ H xs us Q I r h
 obtain⟨a,vs,ts,rfl,hq,hT,hne,hz,q⟩:=h
 obtain⟨u,rfl,ru⟩:=vals1 r
 cases ru
 obtain⟨its,rv,pl,_⟩:=I.list hq
 have hl:=rv.length
 have hlT:=hT.len
 have big:ts.length<=sizeLine:=by rw [sizeLine_eq];omega
 by_cases h0:its.length=0
 ·have e0:its = []:=List.eq_nil_of_length_eq_zero h0
  subst e0
  cases rv
  cases hT
  refine sorted_ints (ns :=[]) pl.isList .nil (by simp) fun out ns' a1 a2 a3 => ?_
  have:ns' = []:=a2.eq_nil
  subst this
  obtain⟨e,he⟩:=sortedAll_at s.heap [] out
  have ho:out.toList = []:=by cases a1':out.toList with
   | nil=>rfl
   | cons x l=>rw [a1'] at a1;cases a1
  have hout:out = #[]:=by apply Array.toList_inj.mp;rw [ho]
  subst hout
  refine⟨.ref (s.heap.objs.size+1),_,I.laid (t':=s.toks) (o :=.lst []) (fun b u e=>sortedAll_old e) (Nat.le_succ _) ⟨Nat.zero_le _,[],e,.nil,he⟩,rfl,q _ [] (I.hok.fresh (Nat.le_succ _)) List.Perm.nil List.Pairwise.nil⟩
 ·by_cases h1:its.length=1
  ·obtain⟨v1,rfl⟩:=List.length_eq_one_iff.mp h1
   obtain⟨x1,rfl⟩:=List.length_eq_one_iff.mp (hl.trans h1)
   obtain⟨t1,rfl⟩:=List.length_eq_one_iff.mp (hlT.symm.trans (hl.trans h1))
   refine qH2 pl.isList fun h' c k g => ?_
   refine⟨.ref (s.heap.objs.size+1),_,I.laid (t':=s.toks) (o :=.lst [x1]) k (Nat.le_succ _) ⟨by show 1<=sizeLine;decide,[v1],c,rv,g⟩,rfl,q _ [(x1,t1)] (I.hok.fresh (Nat.le_succ _)) (List.Perm.refl _) (List.pairwise_singleton _ _)⟩
  ·obtain⟨m,F⟩:=I.fr
   have hLd : ∀o,s.heap.get? X.env.locals=some o -> ∃es ep,o.data = .dict es ep:=fun o e=>by
    obtain⟨o2,es,ep,e2,d,_⟩:=F.ns
    rw [e] at e2;cases e2
    exact⟨es,ep,d⟩
   have TA:=TupI.at I hT rv
   refine PySem.W.kat_sorted F qQr pl.isList (by omega) (by omega) fun D e1 h' F' N' hlt => ?_
   have Nn:News X.base X.env.locals h' (qE0 X.base s.heap X.env.locals):=fun p hp=>N' p (List.mem_cons_of_mem _ hp)
   have k : ∀b u,b≠X.env.locals->s.heap.get? b=some u->h'.get? b=some u:=fun b u hb e=>by
    cases q:X.base.get? b with
    | some v =>
     have:=I.bk b v q
     rw [e] at this;cases this
     exact F'.keep b _ q
    | none=>exact (Nn (b,u) (qDx hb q e)).1
   obtain⟨dObj,hDL,hDb⟩:=N' (D,_) List.mem_cons_self
   have hD:s.heap.get? D=none:=by
    cases e:s.heap.get? D with
    | none=>rfl
    | some o=>exact absurd (hlt (D,o) (qDx hDL hDb e)) (Nat.lt_irrefl _)
   have TA':Srt.TupAt h' its ts:=qGi hLd k TA
   obtain⟨fs,kt,hfl,hfi⟩:=TA'.firsts hne
   refine PySem.W.kat_kind (T :=.type "int") (fs:=fs) kt (by omega) (fun v hv => ?_) rfl ?_
   ·obtain⟨i,t,rfl⟩:=hfi v hv
    exact PySem.W.Looks.of_pure rfl
   ·obtain⟨p,hp,perm,hsz,up⟩:=Srt.sort_ok (Srt.lex_ord ts) (n:=its.length) (by omega)
    refine Srt.wp_run_in (n:=its.length) (lt:=fun i j=>HT.lexLt (ts.getD i []) (ts.getD j [])) (fun i j C hi hj hC => ?_) _ (Srt.sort_ends (by omega)) ?_
    ·obtain⟨a1,o1,xs1,k1,b1,b2,b3,b4⟩:=TA'.get i (by omega)
     obtain⟨a2,o2,xs2,k2,c1,c2,c3,c4⟩:=TA'.get j (by omega)
     unfold PySem.W.kas_ask
     rw [b1,c1]
     exact PySem.W.kat_lt b2 b3 c2 c3 (Srt.katlex b4 c4 (by
      have e1:=b4.length
      have e2:=c4.length
      simp only [Array.length_toList] at e1 e2
      rw [e1,e2]) hC)
    ·rw [hp]
     refine PySem.W.KasFin.intro F' N' (.head fun p hp=>Nat.ne_of_lt (hlt p hp)) fun h2 c F2 N2 => ?_
     have ob:=(N2 (D,_) List.mem_cons_self).1
     have N2':News X.base X.env.locals h2 (qE0 X.base s.heap X.env.locals):=fun p hp=>N2 p (List.mem_cons_of_mem _ hp)
     have perm':p.toList.Perm (List.range its.length):=by
      have:=Array.perm_iff_toList_perm.mp perm
      simpa using this
     have hps:(p.toList.map fun i=>(vs.getD i .non,ts.getD i [])).Perm (vs.zip ts):=by
      rw [<-qE9 V.non [] vs ts hlT,hl]
      exact perm'.map _
     have e1:(p.toList.map fun i=>(vs.getD i V.non,ts.getD i [])).map (·.1)=p.toList.map fun i=>vs.getD i V.non:=by rw [List.map_map];rfl
     have hlen:(p.toList.map fun i=>vs.getD i V.non).length<=sizeLine:=by
      rw [List.length_map,perm'.length_eq,List.length_range];omega
     refine⟨.ref D,_,I.ledgerLaid (t':=s.toks) (o :=.lst (p.toList.map fun i=>vs.getD i V.non)) F F2 N2' hD hDL ⟨hlen,_,c,qHg rv p.toList,ob⟩,rfl,?_⟩
     have hn:H D=none:=I.hok.gone hD
     have:=q D _ hn hps ?_
     ·rw [e1] at this;exact this
     ·rw [List.map_map,List.pairwise_iff_getElem]
      intro i j hi hj hij
      have hj':j<p.size:=by simpa using hj
      have hi':i<p.size:=by simpa using hi
      have u:=up i j (Nat.le_of_lt hij) (by omega)
      have g1:Srt.at' p i=p[i]:=by simp [Srt.at',Array.getD,hi']
      have g2:Srt.at' p j=p[j]:=by simp [Srt.at',Array.getD,hj']
      rw [g1,g2] at u
      simpa using u
end
theorem Same.seqT {K:PySem.W.Frag} {H H':Hp} {a:Addr} {xs:List V} (e:Same H H') (h:SqT K H a xs):SqT K H' a xs:=by
 rcases h with (h | ⟨o,h⟩) | h
 ·exact .inl (.inl (e _ _ h))
 ·exact .inl (.inr ⟨o,e _ _ h⟩)
 ·exact .inr h
mutual
def Den (K:PySem.W.Frag) (G:Hp):PyData->V->Prop
 | .none,v=>v = .non
 | .bool b,v=>v = .bl b
 | .int i,v=>v = .int i
 | .str x,v=>v = .str x
 | .list ds,v => ∃a vs,v = .ref a/\SqL K G a vs/\DenL K G ds vs
 | .tuple ds,v => ∃a vs,v = .ref a/\SqT K G a vs/\DenL K G ds vs
 | .dict _,_=>False
def DenL (K:PySem.W.Frag) (G:Hp):List PyData->List V->Prop
 | [],vs=>vs = []
 | d::ds,vs => ∃v r,vs=v::r/\Den K G d v/\DenL K G ds r
end
section
variable {K:PySem.W.Frag} {G G':Hp}
mutual
theorem Den.mono (h:Same G G') : ∀ {d:PyData} {v:V},Den K G d v->Den K G' d v
 | .none,_,e=>by simp only [Den] at e ⊢;exact e
 | .bool _,_,e=>by simp only [Den] at e ⊢;exact e
 | .int _,_,e=>by simp only [Den] at e ⊢;exact e
 | .str _,_,e=>by simp only [Den] at e ⊢;exact e
 | .list ds,_,e=>by
  simp only [Den] at e ⊢
  obtain⟨a,vs,e1,e2,e3⟩:=e
  exact⟨a,vs,e1,h.seq e2,DenL.mono h e3⟩
 | .tuple ds,_,e=>by
  simp only [Den] at e ⊢
  obtain⟨a,vs,e1,e2,e3⟩:=e
  exact⟨a,vs,e1,h.seqT e2,DenL.mono h e3⟩
 | .dict _,_,e=>by simp only [Den] at e
theorem DenL.mono (h:Same G G') : ∀ {ds:List PyData} {vs:List V},DenL K G ds vs->DenL K G' ds vs
 | [],_,e=>by simp only [DenL] at e ⊢;exact e
 | d::ds,_,e=>by
  simp only [DenL] at e ⊢
  obtain⟨v,r,e1,e2,e3⟩:=e
  exact⟨v,r,e1,Den.mono h e2,DenL.mono h e3⟩
end
theorem DenL.len : ∀ {ds:List PyData} {vs:List V},DenL K G ds vs->vs.length=ds.length
 | [],_,e=>by simp only [DenL] at e;rw [e];rfl
 | d::ds,_,e=>by
  simp only [DenL] at e
  obtain⟨v,r,rfl,_,e3⟩:=e
  simp [DenL.len e3]
theorem DenL.nil:DenL K G [] []:=by simp only [DenL]
theorem DenL.cons {d:PyData} {ds:List PyData} {v:V} {vs:List V} (h1:Den K G d v) (h2:DenL K G ds vs):DenL K G (d::ds) (v::vs):=by
 simp only [DenL];exact⟨v,vs,rfl,h1,h2⟩
theorem DenL.append : ∀ {ds es:List PyData} {vs ws:List V},DenL K G ds vs->DenL K G es ws->DenL K G (ds++es) (vs++ws)
 | [],_,_,_,e,f=>by simp only [DenL] at e;subst e;exact f
 | d::ds,_,_,_,e,f=>by
  simp only [DenL] at e
  obtain⟨v,r,rfl,e2,e3⟩:=e
  exact .cons e2 (DenL.append e3 f)
theorem DenL.get : ∀ {ds:List PyData} {vs:List V} {i:Nat} {v:V},DenL K G ds vs->vs[i]? = some v -> ∃d,ds[i]? = some d/\Den K G d v
 | [],_,_,_,e,h=>by simp only [DenL] at e;subst e;simp at h
 | d::ds,_,0,_,e,h=>by
  simp only [DenL] at e
  obtain⟨v,r,rfl,e2,e3⟩:=e
  simp at h;subst h
  exact⟨d,rfl,e2⟩
 | d::ds,_,i+1,_,e,h=>by
  simp only [DenL] at e
  obtain⟨v,r,rfl,e2,e3⟩:=e
  exact DenL.get (i:=i) e3 (by simpa using h)
theorem DenL.get' : ∀ {ds:List PyData} {vs:List V} {i:Nat} {d:PyData},DenL K G ds vs->ds[i]? = some d -> ∃v,vs[i]? = some v/\Den K G d v
 | [],_,_,_,e,h=>by simp at h
 | d::ds,_,0,_,e,h=>by
  simp only [DenL] at e
  obtain⟨v,r,rfl,e2,e3⟩:=e
  simp at h;subst h
  exact⟨v,rfl,e2⟩
 | d::ds,_,i+1,_,e,h=>by
  simp only [DenL] at e
  obtain⟨v,r,rfl,e2,e3⟩:=e
  exact DenL.get' (i:=i) e3 (by simpa using h)
theorem Den.int {i:Int}:Den K G (.int i) (.int i):=by simp only [Den]
theorem Den.str {i:Str}:Den K G (.str i) (.str i):=by simp only [Den]
theorem Den.list {ds:List PyData} {a:Addr} {vs:List V} (h:SqL K G a vs) (e:DenL K G ds vs):Den K G (.list ds) (.ref a):=by simp only [Den];exact⟨a,vs,rfl,h,e⟩
theorem Den.tuple {ds:List PyData} {a:Addr} {vs:List V} (h:SqT K G a vs) (e:DenL K G ds vs):Den K G (.tuple ds) (.ref a):=by simp only [Den];exact⟨a,vs,rfl,h,e⟩
theorem Den.ofInt {i:Int} {v:V} (h:Den K G (.int i) v):v = .int i:=by simpa only [Den] using h
theorem Den.ofStr {i:Str} {v:V} (h:Den K G (.str i) v):v = .str i:=by simpa only [Den] using h
theorem Den.ofList {ds:List PyData} {v:V} (h:Den K G (.list ds) v) : ∃a vs,v = .ref a/\SqL K G a vs/\DenL K G ds vs:=by simpa only [Den] using h
theorem Den.ofTuple {ds:List PyData} {v:V} (h:Den K G (.tuple ds) v) : ∃a vs,v = .ref a/\SqT K G a vs/\DenL K G ds vs:=by simpa only [Den] using h
theorem DenL.ofCons {d:PyData} {ds:List PyData} {vs:List V} (h:DenL K G (d::ds) vs) : ∃v r,vs=v::r/\Den K G d v/\DenL K G ds r:=by simpa only [DenL] using h
theorem DenL.ofNil {vs:List V} (h:DenL K G [] vs):vs = []:=by simpa only [DenL] using h
theorem DenL.ints : ∀ {ns:List Int} {vs:List V},DenL K G (ns.map PyData.int) vs->vs=ns.map V.int
 | [],_,e=>e.ofNil
 | n::ns,_,e=>by
  obtain⟨v,r,rfl,e2,e3⟩:=DenL.ofCons e
  rw [e2.ofInt,DenL.ints e3];rfl
theorem DenL.ofInts : ∀ns:List Int,DenL K G (ns.map PyData.int) (ns.map V.int)
 | [] =>.nil
 | n::ns =>.cons .int (DenL.ofInts ns)
end
section
variable {X:Cx} {pins:List (Addr×Obj)} {σ : St} {H:Hp} {s:Shared}
mutual
theorem Den.reads (I:Inv X pins σ H s) : ∀ {d:PyData} {v:V} {u:Value},Den X.K H d v->RelV v u -> ∃as,Reads s.heap u d as
 | .none,_,_,e,r=>by simp only [Den] at e;subst e;cases r;exact⟨_,.none⟩
 | .bool b,_,_,e,r=>by simp only [Den] at e;subst e;cases r;exact⟨_,.bool b⟩
 | .int i,_,_,e,r=>by simp only [Den] at e;subst e;obtain⟨t,rfl⟩:=r;exact⟨_,.int i t⟩
 | .str x,_,_,e,r=>by simp only [Den] at e;subst e;obtain⟨t,rfl⟩:=r;exact⟨_,.str x t⟩
 | .list ds,_,_,e,r=>by
  simp only [Den] at e
  obtain⟨a,vs,rfl,e2,e3⟩:=e
  cases r
  obtain⟨its,rv,⟨o,n,h1,h2,h3,h4⟩,_⟩:=I.list e2
  obtain⟨as,ra⟩:=DenL.reads I e3 rv
  exact⟨_,.list h1 h2 h4 (by simpa using ra)⟩
 | .tuple ds,_,_,e,r=>by
  simp only [Den] at e
  obtain⟨a,vs,rfl,e2,e3⟩:=e
  cases r
  obtain⟨its,rv,⟨o,h1,h2,n,h4⟩,_⟩:=I.tuple e2
  obtain⟨as,ra⟩:=DenL.reads I e3 rv
  exact⟨_,.tuple h1 h2 h4 (by simpa using ra)⟩
 | .dict _,_,_,e,_=>by simp only [Den] at e
theorem DenL.reads (I:Inv X pins σ H s) : ∀ {ds:List PyData} {vs:List V} {us:List Value},DenL X.K H ds vs->Vals vs us -> ∃as,ReadsAll s.heap us ds as
 | [],_,_,e,r=>by simp only [DenL] at e;subst e;cases r;exact⟨_,.nil⟩
 | d::ds,_,_,e,r=>by
  simp only [DenL] at e
  obtain⟨v,vr,rfl,e2,e3⟩:=e
  cases r with
  | cons r1 r2 =>
   obtain⟨as,ra⟩:=Den.reads I e2 r1
   obtain⟨bs,rb⟩:=DenL.reads I e3 r2
   exact⟨_,.cons ra rb⟩
end
end
mutual
theorem qHa {K:PySem.W.Frag} {G:Hp} : ∀ {d:PyData} {v:V},Den K G d v->d.hasDict=false
 | .none,_,_=>by simp only [PyData.hasDict]
 | .bool _,_,_=>by simp only [PyData.hasDict]
 | .int _,_,_=>by simp only [PyData.hasDict]
 | .str _,_,_=>by simp only [PyData.hasDict]
 | .list ds,_,e=>by
  simp only [Den] at e
  obtain⟨a,vs,rfl,e2,e3⟩:=e
  simp only [PyData.hasDict];exact qDz e3
 | .tuple ds,_,e=>by
  simp only [Den] at e
  obtain⟨a,vs,rfl,e2,e3⟩:=e
  simp only [PyData.hasDict];exact qDz e3
 | .dict _,_,e=>by simp only [Den] at e
theorem qDz {K:PySem.W.Frag} {G:Hp} : ∀ {ds:List PyData} {vs:List V},DenL K G ds vs->PyData.hasDictAll ds=false
 | [],_,_=>by simp only [PyData.hasDictAll]
 | d::ds,_,e=>by
  simp only [DenL] at e
  obtain⟨v,vr,rfl,e2,e3⟩:=e
  simp only [PyData.hasDictAll,qHa e2,qDz e3,Bool.or_false]
end
section
variable {X:Cx} {k:Nat}
def rRepr (K:PySem.W.Frag):List V->Hp->VK->Prop:=fun xs H Q => ∃(a:Addr) (d:PyData),xs = [.ref a]/\Den K H d (.ref a)/\d.showable=true/\d.depth<=100/\d.shown.length<=sizeLine/\Q (.str d.shown) H
theorem qJm (hr:Room k X.A):CallR X (.builtin "repr") (rRepr X.K):=by
 intro pins s σ H xs us Q I r h
 obtain⟨a,d,rfl,hd,h1,h2,h3,q⟩:=h
 obtain⟨u,rfl,ru⟩:=vals1 r
 cases ru
 obtain⟨as,ra⟩:=Den.reads I hd (show RelV (.ref a) (Value.ref a) from rfl)
 have hu:=hr.un
 exact repr_of_reads' ra h1 (fun z=>by rw [qHa hd] at z;cases z) hr.gd (by omega) (fun _ _ e=>e) (fun h' u tk kk=>⟨.str d.shown,H,I.kept (t':=tk) kk,⟨_,rfl⟩,q⟩) h3
def rEqD (K:PySem.W.Frag) (neg:Bool):R2:=fun x y H Q => ∃da db,Den K H da x/\Den K H db y/\SeqAt.shaped da=true/\SeqAt.shaped db=true/\Q (.bl (if neg then !PyData.eqv da db else PyData.eqv da db)) H
theorem qRr (hr:Room k X.A):OpR X (compareOp .Eq) (rEqD X.K false):=by
 intro pins s σ H x y v u Q I rx ry h
 obtain⟨da,db,ha,hb,h1,h2,q⟩:=h
 obtain⟨as,ra⟩:=Den.reads I ha rx
 obtain⟨bs,rb⟩:=Den.reads I hb ry
 exact SeqAt.compareEq_shaped ra rb h1 h2 hr.units ⟨.bl _,H,I,rfl,q⟩
theorem qL6 (hr:Room k X.A):OpR X (compareOp .NotEq) (rEqD X.K true):=by
 intro pins s σ H x y v u Q I rx ry h
 obtain⟨da,db,ha,hb,h1,h2,q⟩:=h
 obtain⟨as,ra⟩:=Den.reads I ha rx
 obtain⟨bs,rb⟩:=Den.reads I hb ry
 exact SeqAt.compareNe_shaped ra rb h1 h2 hr.units ⟨.bl _,H,I,rfl,q⟩
end
mutual
theorem qLi : ∀d:PyData,d.hasDict=false->PyData.eqv d d=true
 | .none,_=>by simp only [PyData.eqv]
 | .bool _,_=>by simp only [PyData.eqv,beq_self_eq_true]
 | .int _,_=>by simp only [PyData.eqv,beq_self_eq_true]
 | .str _,_=>by simp only [PyData.eqv,beq_self_eq_true]
 | .list ds,h=>by simp only [PyData.eqv];exact qDy ds (by simpa only [PyData.hasDict] using h)
 | .tuple ds,h=>by simp only [PyData.eqv];exact qDy ds (by simpa only [PyData.hasDict] using h)
 | .dict _,h=>by simp [PyData.hasDict] at h
theorem qDy : ∀ds:List PyData,PyData.hasDictAll ds=false->PyData.eqvAll ds ds=true
 | [],_=>by simp only [PyData.eqvAll]
 | d::ds,h=>by
  simp only [PyData.hasDictAll,Bool.or_eq_false_iff] at h
  simp only [PyData.eqvAll,qLi d h.1,qDy ds h.2,Bool.and_self]
end
end L2
namespace Miss
open PySem PySem.Spec PyProof.Rows
theorem qTi:typeLookup (.type "list") "keys" = pure none:=am_miss_of_fast (by decide +kernel)
theorem qWd:typeLookup (.type "list") "__getattr__" = pure none:=am_miss_of_fast (by decide +kernel)
section
variable {prog:Program} {w:World} {A:Around} {E:Value->Shared->Prop} {a:Addr} {its:Array Value} {n:Nat}
theorem entry {u:Tok}:Meets (Builtin.«object.__getattribute__» ⟨[.ref a,.str "keys" u],[]⟩) (fun A R s=>s.heap.get? a=some { cls :=.type "list",dict:=none,data :=.seq its n,slots := #[] }/\raisesAttr (.ref a) "keys" A R s) :=
 Meets.of_wp fun prog w A R s hs=>by
  obtain⟨hp,g,d,tk,os⟩:=s
  obtain⟨hx,hs⟩:=hs
  have hT:(⟨hp,g,d,tk,os⟩:Shared).TypeIs (.ref a) "list" :=⟨_,hx,rfl⟩
  have f4:=qTi
  unfold Builtin.«object.__getattribute__»
  repeat (any_goals (first | assumption | wp_step))
  exact wpAny_raiseAttrError hs.1 hs.2 (attrMsg_fits (by decide +kernel) (by rw [sizeLine_eq];decide +kernel))
theorem no_keys {s:Shared} {Q:Option Value->Shared->Prop} (hA:A.handled=none) (hx:s.heap.get? a=some { cls :=.type "list",dict:=none,data :=.seq its n,slots := #[] })
  (h : ∀h' tk,(∀b o,s.heap.get? b=some o->h'.get? b=some o)->Q none { s with heap:=h',toks:=tk }):wpAny (model prog w) A (getAttr? (.ref a) "keys") Q E s:=by
 obtain⟨hp,g,d,tk,os⟩:=s
 have hT : ∀tk,(⟨hp,g,d,tk,os⟩:Shared).TypeIs (.ref a) "list" :=fun _=>⟨_,hx,rfl⟩
 have f1:=sub_AttributeError
 have f3:=F.slot_list_getattribute.lookup
 have f4:=F.slot_list_getattribute.bind (.ref a)
 have f5:=qWd
 unfold getAttr? getAttrBy? getAttrBy
 repeat (any_goals (first | assumption | ((with_reducible show wpAny _ _ (call (Value.builtin "list.__getattribute__") _ _) _ _ _);refine call_meets F.slot_list_getattribute (hT _) F.entry_list_ga (F.args_list_getattribute_2 _ _) (entry (its:=its) (n:=n)) ⟨hx,hA,fun h' tk' e x => ?_⟩) | wp_step))
 obtain⟨t',u',he⟩:=x.there
 show wpAny _ _ (getattributeRaised _ _ (Value.type "list") _ _ _ _) _ _ _
 unfold getattributeRaised
 repeat (any_goals (first | assumption | wp_step))
 exact h _ _ x.keeps
theorem entry_loop:entryFor table "dict.update.loop" = some Builtin.«dict.update.loop» :=entryFor_of_tree (by kernel_rfl)
theorem plain_loop:plainId "dict.update.loop" = true:=by decide +kernel
end
end Miss
namespace L2
open PySem PySem.Spec PyProof.Rows
def ePut (tk tv:TE) (l:Addr):TB:=fun σ H Q=>tk σ H fun x H1=>tv σ H1 fun y H2 => ∃kvs k,x=kV k/\H2 l=some (.dK kvs)/\kvs.length<sizeLine/\Q σ (upd H2 l (.dK (putK kvs k y)))
def Itd (d:Addr) (o:Obj) (kvs:List (Key×V)):It :=
 ⟨fun i H=>H d=some (.frz o (.dK kvs))/\i<kvs.length,fun i H x H'=>H'=H /\ ∃k v,kvs[i]? = some (k,v)/\x=kV k,fun i H=>H d=some (.frz o (.dK kvs))/\kvs.length<=i⟩
theorem qVj {P:Program} {w:World} {k:Key} {u:Value} (h:(qB7 P w).is k u=true):RelV (kV k) u:=by
 rcases qAx h with ⟨i,t,rfl,rfl⟩ | ⟨x,t,rfl,rfl⟩
 ·exact⟨t,rfl⟩
 ·exact⟨t,rfl⟩
theorem KV.keyAt {κ : Type} : ∀ {kvs:List (κ × V)} {vs:List (κ × Value)} {i:Nat} {k : κ} {v:V},KV kvs vs->kvs[i]? = some (k,v) -> ∃x,vs[i]? = some (k,x)
 | _,_,_,_,_,.nil,e=>by simp at e
 | _,_,0,_,_,.cons (b:=b) r _,e=>by
  simp at e;subst e
  obtain⟨b1,b2⟩:=b
  have:_=b1:=r.1
  exact⟨b2,by simp [<-this]⟩
 | _,_,i+1,k,v,.cons _ t,e=>KV.keyAt (i:=i) (v:=v) t (by simpa using e)
section
variable {P:Program} {w:World} {K:PySem.W.Frag} {tg:Expr}
theorem qOw {H:Hp} {h:Heap} {d:Addr} {o:Obj} {kvs:List (Key×V)} {es:Array DictEntry} {ep:Nat} (ok:HOk P w H h) (e:H d=some (.frz o (.dK kvs))) (hd:o.data = .dict es ep) :
  kvs.length<=sizeLine/\(d == sysModules)=false /\ ∃vs,KV kvs vs/\h.DictAt (qB7 P w) d vs ep:=by
 obtain⟨ho,z,hs,vs,rel,o2,es2,ep2,h1,h2,h3,h4⟩:=ok d _ e
 rw [ho] at h1;cases h1
 rw [hd] at h3;cases h3
 exact⟨z,hs,vs,rel,o,es,ho,h2,hd,h4⟩
theorem qN6 (d it:Addr) (o:Obj) (kvs:List (Key×V)) {es:Array DictEntry} {ep:Nat} (hd:o.data = .dict es ep):Turn P w K tg (Itd d o kvs) [it] it (fun i h=>h.IsKeyIter it d i kvs.length ep) where
 mem:=by simp
 obj:=fun i h st b hb=>by
  have e:b=it:=by simpa using hb
  subst e
  obtain⟨ob,e,c,dd⟩:=st
  exact⟨ob,e,fun v z=>by rw [dd] at z;cases z⟩
 keep:=fun i h h' st k=>st.at fun ob e=>k it (by simp) ob e
 item:=by
  intro X hP hw hK hc i pins s σ H E I hf st hg
  subst hP hw hK
  obtain⟨hq,hi⟩:=hg
  obtain⟨z,hs,vs,rel,dd⟩:=qOw I.hok hq hd
  obtain⟨⟨k,v⟩,hx⟩ : ∃p,kvs[i]? = some p:=⟨kvs[i],by simp [hi]⟩
  obtain⟨x,hxv⟩:=rel.keyAt hx
  obtain⟨f0,f1,f2,f3,f4,f5⟩:=hf it (by simp)
  have hl:=rel.length
  refine wpAny_pyNext_dict_item (by rw [<-hl];exact st) dd hxv fun key h' hkey st' sb => ?_
  have I1:Inv X pins σ H { s with heap:=h' }:=I.turned (t':=s.toks) (fun b ob hb e=>(sb.2 b hb).trans e) f0 f1 f3 f4 f5
  obtain⟨ob,e,c,d2⟩:=id st'
  exact⟨key,rfl,qR1 (s :={ s with heap:=h' }) e c d2 (by decide) ⟨kV k,H,I1,qVj hkey,⟨rfl,k,v,hx,rfl⟩,by rw [<-hl] at st';exact st',fun b hb=>(hf b hb).1⟩⟩
 done:=by
  intro X hP hw hK hc i pins s σ H E I hf st hg
  subst hP hw hK
  obtain⟨hq,hi⟩:=hg
  obtain⟨z,hs,vs,rel,dd⟩:=qOw I.hok hq hd
  obtain⟨f0,f1,f2,f3,f4,f5⟩:=hf it (by simp)
  have hl:=rel.length
  exact wpAny_pyNext_dict_end (I.ok.hd hc) (by rw [<-hl];exact st) dd (by simp;omega) fun h' eb=>⟨rfl,I.turned (t':=s.toks) (fun b ob hb e=>eb b ob hb e) f0 f1 f3 f4 f5⟩
 self:=fun _ _ _ _ _ st h=>wpAny_pyIter_keyiter st h
end
theorem Inv.freeze {X:Cx} {pins:List (Addr×Obj)} {σ : St} {H:Hp} {s:Shared} {d:Addr} {o:Obj} {u:HO} (I:Inv X pins σ H s) (e:H d=some u) (mu:Mut (some u)) (ho:s.heap.get? d=some o) (hu : ∀H':Hp,ObjOk X.prog X.w H' s.heap d u):Inv X pins σ (upd H d (.frz o u)) s:=by
 have:=I.write (x:=d) (e:=d) (o :=.frz o u) (h':=s.heap) (t':=s.toks) (by rw [e];exact mu) (.inl rfl) (fun b v _ q=>q) ⟨o,ho⟩ ⟨ho,hu _⟩
 exact this
section
variable {X:Cx} {tg:Expr}
def iDict (td:TE):TI:=fun σ H R=>td σ H fun x H1 => ∃d kvs,x = .ref d/\H1 d=some (.dK kvs) /\ ∀o,R (Itd d o kvs) (upd H1 d (.frz o (.dK kvs)))
end
def PairsAt (H:Hp):List V->List (Key×V)->Prop:=Paired fun v kv => ∃a,v = .ref a/\H a=some (.tup [kV kv.1,kv.2])
theorem PairsAt.mono {H H':Hp} (h : ∀b xs,H b=some (.tup xs)->H' b=some (.tup xs)) {vs:List V} {kvs:List (Key×V)} (p:PairsAt H vs kvs):PairsAt H' vs kvs:=Paired.mapP p fun _ _ ⟨a,e,q⟩=>⟨a,e,h _ _ q⟩
theorem qRe {X:Cx} {pins:List (Addr×Obj)} {σ : St} {l d it:Addr} (hh:X.A.handled=none) : ∀ {more:List (Key×V)} {items:List V} {i:Nat} {A:Around} {H:Hp} {s:Shared} {kvs:List (Key×V)} {R:Result->Shared->Prop},A.handled=none->Inv X pins σ H s->s.heap.IsListIter it l i->FpOk X pins H it ->
  H l=some (.lst items)->H d=some (.dK kvs)->l≠d->PairsAt H (items.drop i) more->kvs.length+more.length<=sizeLine->(∀s',Inv X pins σ (upd H d (.dK (qJ3 kvs more))) s'->R (.ok (.ret .none)) s') ->
  codeAny (model X.prog X.w) A (.builtin "dict.update.loop" ⟨[.ref d,.ref it,rawInt i,.none],[]⟩) R s
 | [],items,i,A,H,s,kvs,R,hA,I,st,hf,hl,hd,hne,hp,hz,h=>by
  refine codeAny_builtin Miss.entry_loop ?_
  rw [Around.under_plainId Miss.plain_loop _]
  obtain⟨its,n,r,ho,_⟩:=I.lst hl
  have hlen:items.length<=i:=by
   have:=Paired.length hp
   rw [List.length_drop] at this
   have e:([]:List (Key×V)).length=0:=rfl
   omega
  have hl2:=r.length
  show wpAny _ _ (pyNext (.ref it) >>= _) _ _ s
  obtain⟨f0,f1,f2,f3,f4,f5⟩:=hf
  refine wpAny_bind (wpAny_pyNext_list_end (show A.in1.handled=none from hA) st (l:=l) (items:=its.toArray) ⟨_,ho,rfl,n,rfl⟩ (by simp;omega) fun h' eb => ?_)
  have I1:Inv X pins σ H { s with heap:=h' }:=I.turned (t':=s.toks) (fun b ob hb e=>eb b ob hb e) f0 f1 f3 f4 f5
  have e1:upd H d (.dK (qJ3 kvs []))=H:=by
   funext b
   by_cases hb:b=d
   ·subst hb;rw [qA1,hd];rfl
   ·rw [qA4 hb]
  rw [e1] at h
  show wpAny _ _ (Builtin.Dict.addKeywords d [] >>= _) _ _ _
  exact wpAny_bind (wpAny_pure (wpAny_pure (h _ I1)))
 | (k,w)::more,items,i,A,H,s,kvs,R,hA,I,st,hf,hl,hd,hne,hp,hz,h=>by
  refine codeAny_builtin Miss.entry_loop ?_
  rw [Around.under_plainId Miss.plain_loop _]
  obtain⟨its,n,r,ho,_⟩:=I.lst hl
  have hl2:=r.length
  cases e0:items.drop i with
  | nil=>rw [e0] at hp;cases hp
  | cons v rest =>
   rw [e0] at hp
   cases hp with
   | cons hv hr =>
    obtain⟨a,rfl,ha⟩:=hv
    have hi:items[i]? = some (.ref a):=by rw [<-List.head?_drop,e0];rfl
    obtain⟨u,hu,ru⟩:=r.get hi
    cases ru
    obtain⟨f0,f1,f2,f3,f4,f5⟩:=id hf
    show wpAny _ _ (pyNext (.ref it) >>= _) _ _ s
    refine wpAny_bind (wpAny_pyNext_list_item st (l:=l) (items:=its.toArray) ⟨_,ho,rfl,n,rfl⟩ (x :=.ref a) (by simpa using hu) fun h' st' sb => ?_)
    have I1:Inv X pins σ H { s with heap:=h' }:=I.turned (t':=s.toks) (fun b ob hb e=>(sb.2 b hb).trans e) f0 f1 f3 f4 f5
    obtain⟨_,its2,rt,ob,ho2,hc2,n2,hd2⟩:=(show ObjOk X.prog X.w H h' a (.tup [kV k,w]) from I1.hok a _ ha)
    obtain⟨uk,uw,rfl,rk,rw'⟩:=vals2 rt
    refine wpAny_bind (wpAny_holding (wpAny_bind (wpAny_tryCatch ?_)))
    unfold Builtin.Dict.pairItems
    refine wpAny_bind (wpAny_typeOf (T := "tuple") ⟨ob,ho2,hc2⟩ ?_)
    rw [if_pos (by decide)]
    refine wpAny_bind (wpAny_seqItems ho2 hd2 (wpAny_pure ?_))
    show wpAny _ _ (holding [uk,uw] (dictSet d uk uw)) _ _ _
    obtain⟨z,hs,vs,rel,dd⟩:=qR7 I1.hok hd
    have hz2:kvs.length+(more.length+1)<=sizeLine:=hz
    have hl3:(putK kvs k w).length<=kvs.length+1:=qCl kvs k w
    refine wpAny_holding (wpAny_dictSet_pairs (qMm rk) dd (fun h2 dd' sb2=>wpAny_pure ?_) (by rw [<-rel.length];exact z))
    have he : ∃q,h2.get? d=some q:=let ⟨q,_,_,hq,_⟩:=dd';⟨q,hq⟩
    have I2:Inv X pins σ (upd H d (.dK (putK kvs k w))) { s with heap:=h2,toks:=s.toks+1 }:=qKl (s :={ s with heap:=h' }) (t':=s.toks+1) I1 (by rw [hd];exact True.intro) sb2 he (qS0 (by omega) hs (rel.put k rw') dd')
    have hitd:it≠d:=fun z=>by rw [z,hd] at f0;cases f0
    have tk : ∀b xs,H b=some (.tup xs)->upd H d (.dK (putK kvs k w)) b=some (.tup xs):=fun b xs q=>by
     rw [qA4 (qMg q hd (by intro z;cases z))];exact q
    refine⟨plainId_quiet Miss.plain_loop _,?_⟩
    have e3:(i:Int)+1=((i+1:Nat):Int):=by omega
    rw [e3]
    refine qRe hh (more:=more) (items:=items) (i:=i+1) (kvs:=putK kvs k w) hA I2 (st'.extBut sb2.extBut hitd) ⟨by rw [qA4 hitd];exact f0,f1,f2,f3,f4,f5⟩ (by rw [qA4 hne];exact hl) qA1 hne ?_ (by omega) fun s' I'=>h s' ?_
    ·have e4:items.drop (i+1)=rest:=by rw [<-List.tail_drop,e0];rfl
     rw [e4]
     exact PairsAt.mono tk hr
    ·rw [qS4] at I'
     exact I'
def qNx:V->List V->Hp->VK->Prop:=fun x vs H Q => ∃d l kvs items more,x = .ref d/\vs = [.ref l]/\H d=some (.dK kvs)/\H l=some (.lst items)/\PairsAt H items more/\kvs.length+more.length<=sizeLine/\Q .non (upd H d (.dK (qJ3 kvs more)))
theorem qOh {X:Cx} (hc:X.calm=true):MtM X "dict.update" qNx:=by
 intro pins s σ H x vs v us Q I rx rv h
 obtain⟨d,l,kvs,items,more,rfl,rfl,hd,hl,hp,hz,q⟩:=h
 cases rx
 obtain⟨u,rfl,ru⟩:=rv.one
 cases ru
 have hne:l≠d:=qMg hl hd (by intro z;cases z)
 obtain⟨z,hs,ws,rel,dd⟩:=qR7 I.hok hd
 obtain⟨its,n,r,ho,_⟩:=I.lst hl
 have hA:=I.ok.hd hc
 refine wpAny_call (codeAny_call_builtin PySem.F.slot_dict_update.plain PySem.F.entry_dict_update (PySem.F.slot_dict_update.check _ _ _ _ _ _ _ _ dd.typeIs (PySem.F.args_dict_update_2 _ _) ?_))
 unfold Builtin.«dict.update»
 refine wpAny_bind ?_
 unfold Builtin.Dict.selfAndRest
 refine wpAny_bind (wpAny_notOrdered_dict dd.typeIs ?_)
 show wpAny _ _ (pure (d,[Value.ref l])) _ _ s
 refine wpAny_pure ?_
 show wpAny _ _ (Builtin.Dict.updateFrom "dict.update" d (.ref l) [] .none) _ _ s
 unfold Builtin.Dict.updateFrom
 refine wpAny_bind (wpAny_typeOf (T := "list") ⟨_,ho,rfl⟩ ?_)
 rw [if_pos (by decide)]
 refine wpAny_bind (Miss.no_keys hA ho fun h' tk kp => ?_)
 have I1:Inv X pins σ H { s with heap:=h',toks:=tk }:=I.kept kp
 show wpAny _ _ (if true=true then _ else _) _ _ _
 rw [if_pos rfl]
 refine wpAny_bind (wpAny_rule ?_)
 refine wpAny_bind (wpAny_pyIter_list (l:=l) (items:=its.toArray) ⟨_,kp _ _ ho,rfl,n,rfl⟩ ?_)
 have I2:Inv X pins σ H { s with heap:=h'.push { cls :=.type "list_iterator",data :=.fields #[.ref l,.int 0 0] },toks:=tk }:=I1.kept (t':=tk) fun b ob e=>Heap.get?_push_of_some _ e
 refine wpAny_pure ⟨plainId_quiet Miss.plain_loop _,?_⟩
 exact qRe (i:=0) hA hA I2 ⟨_,Heap.get?_push_size _ rfl,rfl,rfl⟩ (I1.fpOk (Nat.le_refl _) (I1.hok.fresh (Nat.le_refl _))) hl hd hne hp hz fun s' I'=>⟨.non,_,I',rfl,q⟩
def wo (ts:List Addr) (H:Hp):Hp:=fun b=>if b∈ts then none else H b
theorem qPv {ts:List Addr} {H:Hp} {b:Addr} (h:b∈ts):wo ts H b=none:=if_pos h
theorem qCo {ts:List Addr} {H:Hp} {b:Addr} (h:b∉ts):wo ts H b=H b:=if_neg h
theorem qJx (ts:List Addr) (H:Hp):Same (wo ts H) H:=fun b o e=>by
 by_cases h:b∈ts
 ·rw [qPv h] at e;cases e
 ·rw [qCo h] at e;exact e
def Ext (ts:List Addr) (H H':Hp):Prop := ∀b o,b∉ts->H b=some o->H' b=some o
theorem Ext.refl (ts:List Addr) (H:Hp):Ext ts H H:=fun _ _ _ h=>h
theorem Ext.trans {ts:List Addr} {H H1 H2:Hp} (a:Ext ts H H1) (b:Ext ts H1 H2):Ext ts H H2:=fun c o h e=>b c o h (a c o h e)
theorem Ext.same {ts:List Addr} {H H':Hp} (a:Ext ts H H'):Same (wo ts H) (wo ts H'):=fun b o e=>by
 by_cases h:b∈ts
 ·rw [qPv h] at e;cases e
 ·rw [qCo h] at e ⊢;exact a b o h e
theorem Ext.put {ts:List Addr} {H:Hp} {t:Addr} {o:HO} (h:t∈ts):Ext ts H (upd H t o):=fun b u hb e=>by
 have ne:b≠t:=fun z=>hb (by rw [z];exact h)
 rw [qA4 ne];exact e
theorem Ext.laid {ts:List Addr} {H:Hp} {l:Addr} {o:HO} (h:H l=none):Ext ts H (upd H l o):=fun b u _ e=>by
 rw [qA4 (qA2 e h)];exact e
theorem Ext.mono {ts us:List Addr} {H H':Hp} (a:Ext ts H H') (h : ∀b∈ts,b∈us):Ext us H H':=fun b o hb e=>a b o (fun z=>hb (h b z)) e
theorem Ext.drop {ts:List Addr} {l:Addr} {H H':Hp} (a:Ext (l::ts) H H') (h:H l=none):Ext ts H H':=fun b o hb e=>a b o (fun z=>by
 rcases List.mem_cons.mp z with y | y
 ·rw [y,h] at e;cases e
 ·exact hb y) e
theorem qSf {ts us:List Addr} {H:Hp} (h : ∀b∈ts,b∈us):Same (wo us H) (wo ts H):=fun b o e=>by
 by_cases hb:b∈us
 ·rw [qPv hb] at e;cases e
 ·rw [qCo hb] at e
  rw [qCo (fun z=>hb (h b z))];exact e
def yo (H0:Hp) (ts:List Addr) (H:Hp):Hp:=fun b=>match H0 b with
 | some _=>none
 | none=>wo ts H b
theorem qAv {H0:Hp} {ts:List Addr} {H:Hp} {b:Addr} (h0:H0 b=none) (h:b∉ts):yo H0 ts H b=H b:=by
 unfold yo;rw [h0];exact qCo h
theorem qCd {H0:Hp} {ts:List Addr} {H:Hp} {b:Addr} {o:HO} (h:yo H0 ts H b=some o):H0 b=none/\b∉ts/\H b=some o:=by
 unfold yo at h
 cases z:H0 b with
 | some _=>rw [z] at h;cases h
 | none =>
  rw [z] at h
  have h:wo ts H b=some o:=h
  by_cases hb:b∈ts
  ·rw [qPv hb] at h;cases h
  ·rw [qCo hb] at h;exact⟨rfl,hb,h⟩
theorem Ext.none {ts:List Addr} {H H':Hp} {b:Addr} (a:Ext ts H H') (h:b∉ts) (e:H' b=none):H b=none:=by
 cases z:H b with
 | none=>rfl
 | some o=>rw [a _ _ h z] at e;cases e
theorem Ext.young {H0:Hp} {ts:List Addr} {H H':Hp} (a:Ext ts H H'):Same (yo H0 ts H) (yo H0 ts H'):=fun b o e=>by
 obtain⟨h0,h1,h2⟩:=qCd e
 rw [qAv h0 h1];exact a b o h1 h2
theorem qHf {H0:Hp} {ts us:List Addr} {H:Hp} (h : ∀b∈ts,b∈us):Same (yo H0 us H) (yo H0 ts H):=fun b o e=>by
 obtain⟨h0,h1,h2⟩:=qCd e
 rw [qAv h0 (fun z=>h1 (h b z))];exact h2
theorem yo_same {H0:Hp} {ts:List Addr} {H:Hp}:Same (yo H0 ts H) H:=fun b o e=>(qCd e).2.2
theorem qPs {H0 H1:Hp} {ts us:List Addr} {H:Hp} (a:Ext ts H0 H1) (h : ∀b∈ts,b∈us):Same (yo H1 us H) (yo H0 us H):=fun b o e=>by
 obtain⟨h0,h1,h2⟩:=qCd e
 rw [qAv (a.none (fun z=>h1 (h b z)) h0) h1];exact h2
theorem qKq {H0 H1:Hp} {ts us:List Addr} {H:Hp} (h : ∀b∈us,b∈ts\/H1 b≠none):Same (yo H1 ts H) (yo H1 us H):=fun b o e=>by
 obtain⟨h0,h1,h2⟩:=qCd e
 rw [qAv h0 (fun z=>(h b z).elim h1 (fun y=>y h0))];exact h2
def Tape (H:Hp) (t:Addr) (k:Nat):Prop := ∃(a b c:Int),H t=some (.lst [.int a,.int b,.int c])/\0<=a/\0<=b/\b<2^62/\0<=c/\c<=k
theorem Tape.mono {H:Hp} {t:Addr} {k j:Nat} (h:Tape H t k) (hk:k<=j):Tape H t j:=by
 obtain⟨a,b,c,h1,h2,h3,h4,h5,h6⟩:=h
 exact⟨a,b,c,h1,h2,h3,h4,h5,by omega⟩
theorem Tape.ext {H H':Hp} {t:Addr} {k:Nat} {ts:List Addr} (h:Tape H t k) (e:Ext ts H H') (ht:t∉ts):Tape H' t k:=by
 obtain⟨a,b,c,h1,r⟩:=h
 exact⟨a,b,c,e _ _ ht h1,r⟩
theorem Tape.ne {H:Hp} {t l:Addr} {k:Nat} (h:Tape H t k) (hl:H l=none):l≠t:=by
 obtain⟨a,b,c,h1,_⟩:=h
 exact (qA2 h1 hl).symm
def qDm:Sp:=fun vs H Q _ => ∃(t:Addr) (k:Nat) (n:Int),vs = [.ref t,.int n]/\Tape H t k/\k<=2^40/\0<n/\n<2^24 /\ ∀(r:Int) (H':Hp),0<=r->r<n->Tape H' t (k+1)->Ext [t] H H'->(∀b,b≠t->H' b=H b)->Q (.int r) H'
section
variable {K:PySem.W.Frag} {σ : St} {H:Hp} {Q:VK} {p:Addr} {xs:List V} {i j:Int} {v:V} {ta tb te to ti:TE} {r:R2} {t u:TS} {D:Ends} {n m:Nat} {tt t2:TT} {tl tr:TA}
theorem r_op (h:ta σ H fun x H1=>tb σ H1 fun y H2=>r x y H2 Q):tOp r ta tb σ H Q:=h
theorem qNr (h : σ[n]? = some (some v)) (q:Q v H):tVar n σ H Q:=⟨v,h,q⟩
theorem r_c (q:Q v H):tC v σ H Q:=q
theorem r_i0 {g:Int->Int->V} (q:Q (g i j) H):rI0 g (.int i) (.int j) H Q:=⟨i,j,rfl,rfl,q⟩
theorem qK9 (c:(-(2^64)<i/\i<2^64)\/(-(2^64)<j/\j<2^64)) (q:Q (.int (i*j)) H):rI CMul (fun i j =>.int (i*j)) (.int i) (.int j) H Q:=⟨i,j,rfl,rfl,c,q⟩
theorem qM6 (c1:0<=j) (c2:j<=1000000) (c3:i.natAbs<2^64) (q:Q (.int (i^j.toNat)) H):rI CPow (fun i j =>.int (i^j.toNat)) (.int i) (.int j) H Q:=⟨i,j,rfl,rfl,⟨c1,c2,c3⟩,q⟩
theorem qUq (c1:0<j) (c2:j<1073741824) (q:Q (.int (i / j)) H):rI CDiv (fun i j =>.int (i / j)) (.int i) (.int j) H Q:=⟨i,j,rfl,rfl,⟨c1,c2⟩,q⟩
theorem qFu (c:0<j) (q:Q (.int (i%j)) H):rI (fun _ j=>0<j) (fun i j =>.int (i%j)) (.int i) (.int j) H Q:=⟨i,j,rfl,rfl,c,q⟩
theorem r_un {g:Int->V} (h:ta σ H fun x H1=>rU g x H1 Q):tUn (rU g) ta σ H Q:=h
theorem r_u {g:Int->V} (q:Q (g i) H):rU g (.int i) H Q:=⟨i,rfl,q⟩
theorem qBt (h:SqL K H p xs) (e:atI xs i=some v) (q:Q v H):rIxL K (.ref p) (.int i) H Q:=⟨p,xs,i,v,rfl,rfl,h,e,q⟩
theorem qDj (h:SqT K H p xs) (e:atI xs i=some v) (q:Q v H):rIxT K (.ref p) (.int i) H Q:=⟨p,xs,i,v,rfl,rfl,h,e,q⟩
theorem qUg (h:t { D with nx:=u D } σ H):tSeq t u D σ H:=h
theorem qW9 {g:TG} (h:te σ H fun x H1=>g x σ H1 D.nx):tAsg te g D σ H:=h
theorem qM7 {R:St->Hp->Prop} (q:R (σ.set n (some v)) H):gName n v σ H R:=q
theorem qVx (h:te σ H D.rt):tRet te D σ H:=h
theorem qNu (h:te σ H fun _ H1=>D.nx σ H1):tDrop te D σ H:=h
theorem qF1 (h:D.nx σ H):tNext D σ H:=h
theorem qWh (h:tt σ H fun b H1=>if b=true then t D σ H1 else u D σ H1):tIfS tt t u D σ H:=h
theorem qUe {R:Bool->Hp->Prop} (h:te σ H fun x H' => ∃k,x = .bl k/\R k H'):tTest te σ H R:=h
theorem r_tB {R:Bool->Hp->Prop} (h:te σ H fun x H' => ∃k,x = .bl k/\R k H'):tB te σ H R:=h
theorem qVr {b:Bool} {R:Bool->Prop} (q:R b) : ∃k,V.bl b = .bl k/\R k:=⟨b,rfl,q⟩
theorem qUn {ts:TSet} {R:St->Hp->Prop} (h:to σ H fun o H1=>ti σ H1 fun i H2=>ts o i v H2 fun H3=>R σ H3):gSub to ti ts v σ H R:=h
theorem qRk {R:Hp->Prop} (h:H p=some (.lst xs)) (e:ixN xs.length i=some n) (q:R (upd H p (.lst (xs.set n v)))):rSetL (.ref p) (.int i) v H R:=⟨p,xs,i,n,rfl,rfl,h,e,q⟩
theorem qQ6 {R:List V->Hp->Prop} (q:R [] H):tNil σ H R:=q
theorem qNv {R:List V->Hp->Prop} (h:ta σ H fun x H1=>tr σ H1 fun xs H2=>R (x::xs) H2):tCons ta tr σ H R:=h
theorem qVw (h:tl σ H fun xs H1=>xs.length<=sizeLine /\ ∀p,H1 p=none->Q (.ref p) (upd H1 p (.tup xs))):tTup tl σ H Q:=h
theorem qW2 (h:tl σ H fun xs H1=>xs.length<=sizeLine /\ ∀p,H1 p=none->Q (.ref p) (upd H1 p (.lst xs))):tLst tl σ H Q:=h
theorem qUs {sp:Sp} {dvs:List V} {E:XK} (h:tl σ H fun vs H1=>sp (vs++dvs) H1 Q E):tCall sp dvs E tl σ H Q:=h
theorem r_cb {rr:List V->Hp->VK->Prop} (h:tl σ H fun vs H1=>rr vs H1 Q):tCB rr tl σ H Q:=h
theorem qW3 (h:tt σ H fun b H1=>if b=true then ta σ H1 Q else tb σ H1 Q):tIf tt ta tb σ H Q:=h
theorem qUu {R:Bool->Hp->Prop} (h:tt σ H fun c H1=>if c=true then t2 σ H1 R else R false H1):tAnd tt t2 σ H R:=h
theorem r_or {R:Bool->Hp->Prop} (h:tt σ H fun c H1=>if c=true then R true H1 else t2 σ H1 R):tOr tt t2 σ H R:=h
theorem qW0 {R:Bool->Hp->Prop} (h:tt σ H fun c H1=>R (!c) H1):tNot tt σ H R:=h
theorem qVy (h:tl σ H fun vs H1 => ∃v w,vs = [v,w]/\D.nx ((σ.set n (some v)).set m (some w)) H1):tPar n m tl D σ H:=h
end
section
variable {K:PySem.W.Frag} {σ : St} {H:Hp} {Q:VK} {l t:Addr} {xs:List V} {i j n:Int} {v y:V} {k:Nat} {E:XK}
theorem qB5 (hT:Tape H t k) (hk:k<=2^40) (h0:0<n) (h1:n<2^24) (q : ∀r H',0<=r->r<n->Tape H' t (k+1)->Ext [t] H H'->(∀b,b≠t->H' b=H b)->Q (.int r) H'):qDm ([.ref t,.int n] ++ []) H Q E:=⟨t,k,n,rfl,hT,hk,h0,h1,q⟩
theorem qCu (q:Q (.bl (decide (i=j))) H):rEq (.int i) (.int j) H Q:=⟨rfl,by
 have e:decide (V.int i=V.int j)=decide (i=j):=by rw [Bool.eq_iff_iff];simp
 rw [e];exact q⟩
theorem qQ7 {a b:Str} (q:Q (.bl (decide (a=b))) H):rEq (.str a) (.str b) H Q:=⟨rfl,by
 have e:decide (V.str a=V.str b)=decide (a=b):=by rw [Bool.eq_iff_iff];simp
 rw [e];exact q⟩
theorem qDi {R:Prop} (h:H l=some (.lst xs)) (q:R):tyV K "list" (.ref l) H/\R:=⟨.inl ⟨rfl,_,SqL.of h⟩,q⟩
theorem qDk (h:H l=some (.lst xs)) (hz:xs.length<sizeLine) (q:Q .non (upd H l (.lst (xs ++ [y])))):qHq (.ref l) [y] H Q:=⟨l,xs,y,rfl,rfl,h,hz,q⟩
theorem bit01 (b:Bool):0<=(if b=true then (1:Int) else 0)/\(if b=true then (1:Int) else 0)<=1:=by cases b <;> decide
end
theorem len2 {n:Nat} (h:n<=1000):n<=sizeLine:=Nat.le_trans h (by decide)
theorem qBx {CX:CXT} {P:Program} {w:World} {K:PySem.W.Frag} {mg:Str->Option Value} {base:Heap} {N:List Str} {qual:Str} {scope:Scope} {f:Addr} {cd:Value} {A:Around} {outer:List Env} {s:Shared} {H:Hp} {E:XK}:(cxOf CX P w K mg base N qual scope f cd A outer s H E).nox.K=K:=rfl
theorem qBp {X:Cx} {own:List Str} {cap:List Nat} {scope:Scope} {cl:List (Str×Addr)} {s:Shared} {H:Hp} {ex:List Addr}:(qAk X own cap scope cl s H ex).K=X.K:=rfl
def Has (P:Program) (w:World) (K:PySem.W.Frag) (mg:Str->Option Value) (base:Heap) (x:Str) (k:Nat) (ps:List Str) (sp:Sp):Prop :=
 ∃f fd,FnOk P w K mg base CX0 k f fd ps sp/\mg x=some (.ref f)/\PySem.W.keepIn K (.ref f)=true/\Binds K fd ps []
theorem qAr {X:Cx} {x:Str} {k j:Nat} {ps:List Str} {sp:Sp} {e:Expr} {es:List Expr} {t:TA} {p pos:Pos} (h:Has X.prog X.w X.K X.mg X.base x k ps sp) (hr:Room j X.A) (hj:k<=j) (ha:PA X (e::es) t) (hg:Gl X x:=by rfl)
  (hdb:(x == ("__debug__" : Str))=false:=by decide) (he:starEach (e::es) X.env=(false,eval e X.env)::starEach es X.env:=by rfl) (hpl:(backTo pos (starEach es X.env)).any (·.1)=false:=by rfl) :
  PE X (.Call (.Name x p) (e::es) [] pos) (tCall sp [] E0 t):=by
 obtain⟨f,fd,G,hm,hk,hb⟩:=h
 exact qSt G (hr.mono hj) hg hm hk hb .nil pass0 ha hdb he hpl
def qNc (K:PySem.W.Frag):Sp:=fun vs H Q _ => ∃(a:Addr) (ns:List Int) (k:Nat),vs = [.ref a,.int k]/\SqL K H a (ns.map V.int)/\k<=100 /\ ∀(t:Addr) (H':Hp),H t=none->Tape H' t 0->Same H H'->Q (.ref t) H'
def qS9 (c:Nat) (lo hi:Int):Sp:=fun vs H Q _ => ∃(t:Addr) (k:Nat),vs = [.ref t]/\Tape H t k/\k+c<=2^40 /\ ∀(r:Int) (H':Hp),lo<=r->r<=hi->Tape H' t (k+c)->Ext [t] H H'->Q (.int r) H'
abbrev qNf:Sp:=qS9 3 1 12
abbrev qHl:Sp:=qS9 3 (-(10^12)) (10^12)
def chk (X:Cx) (own:List Str) (cap:List Nat) (scope:Scope):Bool :=
 decide (scope.kind = .function)&&(scope.names.all fun x=>decide (x.2 ≠ .cell))&&(scope.names.all fun x => !decide (x.2 = .local)||decide (scope.names.lookup x.1=some .local)) &&
 (scope.names.all fun x => !decide (x.2 = .free)||(decide (X.env.scope.names.lookup x.1=some .cell)||decide (X.env.scope.names.lookup x.1=some .free)))&&(own.all fun x=>decide (scope.names.lookup x=some .local)) &&
 (cap.all fun j=>decide (scope.names.lookup (X.N.getD j "")=some .free)&&decide (j<X.N.length))
theorem CompScope.of {X:Cx} {own:List Str} {cap:List Nat} {scope:Scope} (h:chk X own cap scope=true):CompScope X own cap scope:=by
 unfold chk at h
 simp only [Bool.and_eq_true,List.all_eq_true,decide_eq_true_eq,Bool.or_eq_true,Bool.not_eq_true',decide_eq_false_iff_not] at h
 obtain⟨⟨⟨⟨⟨h1,h2⟩,h3⟩,h4⟩,h5⟩,h6⟩:=h
 exact⟨h1,fun x hx=>h2 x hx,fun x hx e=>(h3 x hx).resolve_left (fun z=>z e),fun x hx e=>(h4 x hx).resolve_left (fun z=>z e),h5,fun j hj=>h6 j hj⟩
section
variable {K:PySem.W.Frag} {a:Addr} {xs:List V} {g:TG} {tt:TT} {B:TB} {σ : St} {H:Hp} {Q:St->Hp->Prop}
theorem qHz {J:It} {n:Nat} (Pv:Nat->St->Hp->Prop) (h0:Pv 0 σ H) (hgo : ∀i σ H,i<n->Pv i σ H->J.go i H) (hst : ∀ σ H,Pv n σ H->J.stop n H)
  (hs : ∀i σ H (R:St->Hp->Prop),i<n->Pv i σ H->(∀ σ' H',Pv (i+1) σ' H'->R σ' H') -> ∀x H',J.yld i H x H'->g x σ H' fun σ2 H2=>tt σ2 H2 fun b H3=>if b=true then B σ2 H3 R else R σ2 H3)
  (hd : ∀ σ H,Pv n σ H->Q σ H):LoopT J g tt B σ H Q:=by
 refine⟨fun i m σ H=>m=n - i/\i<=n/\Pv i σ H,⟨n,by simp,Nat.zero_le _,h0⟩,?_⟩
 rintro i m σ H ⟨rfl,hi,p⟩
 by_cases hlt:i<n
 ·refine .inr ⟨hgo i σ H hlt p,fun x H' y => ?_⟩
  exact hs i σ H _ hlt p (fun σ' H' p'=>⟨n - (i+1),by omega,rfl,hlt,p'⟩) x H' y
 ·have e:i=n:=by omega
  subst e
  exact .inl ⟨hst σ H p,hd σ H p⟩
theorem qB3 (Pv:Nat->St->Hp->Prop) (h0:Pv 0 σ H) (hl : ∀i σ H,i<=xs.length->Pv i σ H->SqL K H a xs)
  (hs : ∀i x σ H (R:St->Hp->Prop),xs[i]? = some x->Pv i σ H->(∀ σ' H',Pv (i+1) σ' H'->R σ' H')->g x σ H fun σ2 H2=>tt σ2 H2 fun b H3=>if b=true then B σ2 H3 R else R σ2 H3)
  (hd : ∀ σ H,Pv xs.length σ H->Q σ H):LoopT (Itl K a) g tt B σ H Q:=by
 refine qHz (n:=xs.length) Pv h0 (fun i σ H hi p=>⟨xs,xs[i],hl i σ H (Nat.le_of_lt hi) p,by simp [hi]⟩) (fun σ H p=>⟨xs,hl _ σ H (Nat.le_refl _) p,Nat.le_refl _⟩) (fun i σ H R hi p hR x H' y => ?_) hd
 obtain⟨e,y⟩:=y
 subst e
 exact hs i x σ _ R (y xs (hl i σ _ (Nat.le_of_lt hi) p)) p hR
theorem qDb {lo:Int} {n:Nat} (Pv:Nat->St->Hp->Prop) (h0:Pv 0 σ H)
  (hs : ∀i σ H (R:St->Hp->Prop),i<n->Pv i σ H->(∀ σ' H',Pv (i+1) σ' H'->R σ' H')->g (.int (lo+i)) σ H fun σ2 H2=>tt σ2 H2 fun b H3=>if b=true then B σ2 H3 R else R σ2 H3)
  (hd : ∀ σ H,Pv n σ H->Q σ H):LoopT (Itr lo n) g tt B σ H Q:=by
 refine qHz (n:=n) Pv h0 (fun i σ H hi p=>hi) (fun σ H p=>Nat.le_refl _) (fun i σ H R hi p hR x H' y => ?_) hd
 obtain⟨e,y⟩:=y
 subst e y
 exact hs i σ _ R hi p hR
theorem qOn {o:Obj} {kvs:List (Key×V)} (Pv:Nat->St->Hp->Prop) (h0:Pv 0 σ H) (hl : ∀i σ H,i<=kvs.length->Pv i σ H->H a=some (.frz o (.dK kvs)))
  (hs : ∀i k v σ H (R:St->Hp->Prop),kvs[i]? = some (k,v)->Pv i σ H->(∀ σ' H',Pv (i+1) σ' H'->R σ' H')->g (kV k) σ H fun σ2 H2=>tt σ2 H2 fun b H3=>if b=true then B σ2 H3 R else R σ2 H3)
  (hd : ∀ σ H,Pv kvs.length σ H->Q σ H):LoopT (Itd a o kvs) g tt B σ H Q:=by
 refine qHz (n:=kvs.length) Pv h0 (fun i σ H hi p=>⟨hl i σ H (Nat.le_of_lt hi) p,hi⟩) (fun σ H p=>⟨hl _ σ H (Nat.le_refl _) p,Nat.le_refl _⟩) (fun i σ H R hi p hR x H' y => ?_) hd
 obtain⟨e,k,v,hk,e2⟩:=y
 subst e e2
 exact hs i k v σ _ R hk p hR
end
theorem qI0 {K:PySem.W.Frag} {a:Addr} {xs:List V} {g:TG} {tb:TS} {D:Ends} {σ : St} {H:Hp} (Pv:Nat->St->Hp->Prop) (h0:Pv 0 σ H) (hl : ∀i σ H,i<=xs.length->Pv i σ H->SqL K H a xs)
  (hs : ∀i x σ H p,xs[i]? = some x->Pv i σ H->H p=none->g (.ref p) σ (upd H p (.tup [.int i,x])) fun σ2 H2=>tb { D with nx:=Pv (i+1),ct:=Pv (i+1),bk:=D.nx } σ2 H2) (hd : ∀ σ H,Pv xs.length σ H->D.nx σ H) :
  ∃W:Nat->Nat->St->Hp->Prop,(∃m,W 0 m σ H) /\ ∀i m σ H,W i m σ H ->
   ((Ite K a).stop i H/\D.nx σ H)\/((Ite K a).go i H /\ ∃N:St->Hp->Prop,(∀ σ' H',N σ' H' -> ∃m',m'<m/\W (i+1) m' σ' H') /\ ∀x H',(Ite K a).yld i H x H'->g x σ H' fun σ2 H2=>tb { D with nx:=N,ct:=N,bk:=D.nx } σ2 H2):=by
 refine⟨fun i m σ H=>m=xs.length - i/\i<=xs.length/\Pv i σ H,⟨xs.length,by simp,Nat.zero_le _,h0⟩,?_⟩
 rintro i m σ H ⟨rfl,hi,p⟩
 have q:=hl i σ H hi p
 by_cases hlt:i<xs.length
 ·refine .inr ⟨⟨xs,xs[i],q,by simp [hlt]⟩,Pv (i+1),fun σ' H' p'=>⟨xs.length - (i+1),by omega,rfl,hlt,p'⟩,fun x H' y => ?_⟩
  obtain⟨r,y,e,hr,hy,e2⟩:=y
  subst e e2
  exact hs i y σ H r (hy xs q) p hr
 ·have e:i=xs.length:=by omega
  subst e
  exact .inl ⟨⟨xs,q,Nat.le_refl _⟩,hd σ H p⟩
abbrev intsD (ns:List Int):PyData :=.list (ns.map .int)
def NxOk (m:Int) (nx:List (List Int)):Prop:=(nx.length:Int)=m /\ ∀ns∈nx,ns = []\/(∃x,ns = [x]/\1<=x/\x<m) \/ ∃x y,ns = [x,y]/\x≠y/\1<=x/\x<m/\1<=y/\y<m
def qK2 (K:PySem.W.Frag):Sp:=fun vs H Q _ => ∃(t:Addr) (k:Nat) (m:Int),vs = [.ref t,.int m]/\Tape H t k/\k+30<=2^40/\1<=m/\m<=12 /\
 ∀(l:Addr) (nx:List (List Int)) (H':Hp),H l=none->Tape H' t (k+30)->Ext [t] H H'->NxOk m nx->Den K (yo H [t] H') (.list (nx.map intsD)) (.ref l)->Q (.ref l) H'
section
variable {K:PySem.W.Frag} {σ : St} {H:Hp} {Q:VK} {l d:Addr} {xs:List V} {i j:Int} {v y:V} {to ta tb te td ty tk tv tx:TE} {tl:TA} {wi:TI} {g:TG} {tts:List TT} {D:Ends} {tb2:TS}
theorem qW8 {T:String} {r:V->List V->Hp->VK->Prop} (h:to σ H fun x H1=>tyV K T x H1/\tl σ H1 fun xs H2=>r x xs H2 Q):tBM K T r to tl σ H Q:=h
theorem qW7 {T:String} {r:V->List V->Hp->VK->Prop} (h:to σ H fun x H1=>tyV K T x H1/\r x [] H1 Q):tBM0 K T r to σ H Q:=h
theorem qVv {R:Prop} {kvs:List (Key×V)} (h:H d=some (.dK kvs)) (q:R):tyV K "dict" (.ref d) H/\R:=⟨.inr (.inr (.inl ⟨rfl,.inl ⟨_,h⟩⟩)),q⟩
theorem qRl {own:List Str} {cap:List Nat} {o:HO} {Bof:Addr->TB} (h:wi σ H fun J H1 => ∀l,H1 l=none->LoopT J g (tAll tts) (Bof l) (qJi own cap σ) (upd H1 l o) fun _ H2=>Q (.ref l) H2):tComp own cap o wi g tts Bof σ H Q:=h
theorem qNt {R:It->Hp->Prop} (h:te σ H fun x H1 => ∃a,x = .ref a/\(∃xs,SqL K H1 a xs)/\R (Itl K a) H1):iList K te σ H R:=h
theorem qSj {R:It->Hp->Prop} (h:tl σ H fun vs H1 => ∃a,vs = [.ref a]/\(∃xs,SqL K H1 a xs)/\R (Ite K a) H1):iEnum K tl σ H R:=h
theorem qSk {R:It->Hp->Prop} (h:te σ H fun x H1 => ∃d kvs,x = .ref d/\H1 d=some (.dK kvs) /\ ∀o,R (Itd d o kvs) (upd H1 d (.frz o (.dK kvs)))):iDict te σ H R:=h
theorem qUl {R:It->Hp->Prop} (h:te σ H fun x H1 => ∃a,x = .ref a/\(∃xs,SqT K H1 a xs)/\R (Itt K a) H1):iTup K te σ H R:=h
theorem qUh {R:It->Hp->Prop} (h:tl σ H fun vs H1 => ∃j:Int,vs = [.int j] /\ -(2^62)<=j/\j<2^62/\R (Itr 0 j.toNat) H1):iRng1 tl σ H R:=h
theorem qW5 (h:wi σ H fun J H1 => ∃W:Nat->Nat->St->Hp->Prop,(∃m,W 0 m σ H1) /\ ∀i m σ H,W i m σ H ->
 (J.stop i H/\D.nx σ H)\/(J.go i H /\ ∃N:St->Hp->Prop,(∀ σ' H',N σ' H' -> ∃m',m'<m/\W (i+1) m' σ' H') /\ ∀x H',J.yld i H x H'->g x σ H' fun σ2 H2=>tb2 { D with nx:=N,ct:=N,bk:=D.nx } σ2 H2)):tFor wi g tb2 D σ H:=h
theorem qSm (h : ∀p,H p=none->Q (.ref p) (upd H p (.dK []))):qRh σ H Q:=h
theorem qW6 (h:ty σ H fun y H1=>td σ H1 fun x H2 => ∃a o,x = .ref a/\DGet H2 a y o/\Q (.bl o.isSome) H2):tDIn ty td σ H Q:=h
theorem qQ8 (h:ty σ H fun y H1=>td σ H1 fun x H2 => ∃a o,x = .ref a/\DGet H2 a y o/\Q (.bl (!o.isSome)) H2):qN9 ty td σ H Q:=h
theorem qUr (h:td σ H fun x H1=>ty σ H1 fun y H2 => ∃a v,x = .ref a/\DGet H2 a y (some v)/\Q v H2):tDGet td ty σ H Q:=h
theorem qSn (h:td σ H fun x H1 => ∃a,x = .ref a/\IsD H1 a/\ty σ H1 fun y H2=>tx σ H2 fun z H3 => ∃o,DGet H3 a y o/\Q (o.getD z) H3):qU2 td ty tx σ H Q:=h
theorem qUp (h:tv σ H fun v H1=>td σ H1 fun x H2=>ty σ H2 fun y H3 => ∃a H4,x = .ref a/\DPut H3 a y v H4/\D.nx σ H4):sDPut td ty tv D σ H:=h
theorem qUt {R:St->Hp->Prop} (h:te σ H fun v H1 => ∃vs,H1 l=some (.lst vs)/\vs.length<sizeLine/\R σ (upd H1 l (.lst (vs ++ [v])))):eApp te l σ H R:=h
theorem qUi {R:St->Hp->Prop} (h:tk σ H fun x H1=>tv σ H1 fun y H2 => ∃kvs k,x=kV k/\H2 l=some (.dK kvs)/\kvs.length<sizeLine/\R σ (upd H2 l (.dK (putK kvs k y)))):ePut tk tv l σ H R:=h
theorem qUw {R:Bool->Hp->Prop} (h:R true H):tAll [] σ H R:=h
theorem qUv {tt:TT} {R:Bool->Hp->Prop} (h:tt σ H fun b H1=>if b=true then R true H1 else R false H1):tAll [tt] σ H R:=h
theorem qCt {n:Nat} {t:TGs} {R:St->Hp->Prop} (h:SqT K H l xs) (hn:xs.length=n) (q:t xs σ H R):gTup K n t (.ref l) σ H R:=⟨l,xs,rfl,h,hn,q⟩
theorem qSl {t:TG} {u:TGs} {R:St->Hp->Prop} (h:t v σ H fun σ' H'=>u xs σ' H' R):gCons t u (v::xs) σ H R:=⟨v,xs,rfl,h⟩
theorem qUo {R:St->Hp->Prop} (h:R σ H):gNil [] σ H R:=⟨rfl,h⟩
theorem r_sl {r:V->Option Int->Option Int->Hp->VK->Prop} {t1 t2:TO} (h:te σ H fun x H1=>t1 σ H1 fun l H2=>t2 σ H2 fun u H3=>r x l u H3 Q):tSl r te t1 t2 σ H Q:=h
theorem qW1 {R:Option Int->Hp->Prop} (h:R none H):qN8 σ H R:=h
theorem qUj {R:Option Int->Hp->Prop} (h:te σ H fun x H1 => ∃i,x = .int i/\R (some i) H1):tPart te σ H R:=h
end
def Nx (N A:St->Hp->Prop):Prop := ∀ σ H,A σ H->N σ H
theorem qEs {N A:St->Hp->Prop} {σ : St} {H:Hp} (h:Nx N A) (q:A σ H):N σ H:=h σ H q
def NxV (Q' Q:VK):Prop := ∀v H,Q v H->Q' v H
theorem qVn {Q' Q:VK} {v:V} {H:Hp} (h:NxV Q' Q) (q:Q v H):Q' v H:=h v H q
theorem qCy {K:PySem.W.Frag} {a:Addr} {xs:List V} {g:TG} {tb:TS} {D:Ends} {σ : St} {H:Hp} (Pv:Nat->St->Hp->Prop) (h0:Pv 0 σ H) (hl : ∀i σ H,i<=xs.length->Pv i σ H->SqL K H a xs)
  (hs : ∀i x σ H,xs[i]? = some x->Pv i σ H -> ∀(N B C:St->Hp->Prop) (R:VK),Nx N (Pv (i+1))->Nx C (Pv (i+1))->NxV R D.rt->g x σ H fun σ2 H2=>tb ⟨N,R,B,C⟩ σ2 H2) (hd : ∀ σ H,Pv xs.length σ H->D.nx σ H) :
  ∃W:Nat->Nat->St->Hp->Prop,(∃m,W 0 m σ H) /\ ∀i m σ H,W i m σ H ->
   ((Itl K a).stop i H/\D.nx σ H)\/((Itl K a).go i H /\ ∃N:St->Hp->Prop,(∀ σ' H',N σ' H' -> ∃m',m'<m/\W (i+1) m' σ' H') /\ ∀x H',(Itl K a).yld i H x H'->g x σ H' fun σ2 H2=>tb { D with nx:=N,ct:=N,bk:=D.nx } σ2 H2) :=
 qR2 Pv h0 hl (fun i x σ H hx hp=>hs i x σ H hx hp _ _ _ _ (fun _ _ h=>h) (fun _ _ h=>h) (fun _ _ h=>h)) hd
theorem qCa {lo:Int} {n:Nat} {g:TG} {tb:TS} {D:Ends} {σ : St} {H:Hp} (Pv:Nat->St->Hp->Prop) (h0:Pv 0 σ H)
  (hs : ∀i σ H,i<n->Pv i σ H -> ∀(N B C:St->Hp->Prop) (R:VK),Nx N (Pv (i+1))->Nx C (Pv (i+1))->NxV R D.rt->g (.int (lo+i)) σ H fun σ2 H2=>tb ⟨N,R,B,C⟩ σ2 H2) (hd : ∀ σ H,Pv n σ H->D.nx σ H) :
  ∃W:Nat->Nat->St->Hp->Prop,(∃m,W 0 m σ H) /\ ∀i m σ H,W i m σ H ->
   ((Itr lo n).stop i H/\D.nx σ H)\/((Itr lo n).go i H /\ ∃N:St->Hp->Prop,(∀ σ' H',N σ' H' -> ∃m',m'<m/\W (i+1) m' σ' H') /\ ∀x H',(Itr lo n).yld i H x H'->g x σ H' fun σ2 H2=>tb { D with nx:=N,ct:=N,bk:=D.nx } σ2 H2) :=
 qOx Pv h0 (fun i σ H hx hp=>hs i σ H hx hp _ _ _ _ (fun _ _ h=>h) (fun _ _ h=>h) (fun _ _ h=>h)) hd
theorem qOy {K:PySem.W.Frag} {a:Addr} {xs:List V} {g:TG} {tb:TS} {D:Ends} {σ : St} {H:Hp} (Pv:Nat->St->Hp->Prop) (h0:Pv 0 σ H) (hl : ∀i σ H,i<=xs.length->Pv i σ H->SqL K H a xs)
  (hs : ∀i x σ H p,xs[i]? = some x->Pv i σ H->H p=none -> ∀(N B C:St->Hp->Prop) (R:VK),Nx N (Pv (i+1))->Nx C (Pv (i+1))->NxV R D.rt->g (.ref p) σ (upd H p (.tup [.int i,x])) fun σ2 H2=>tb ⟨N,R,B,C⟩ σ2 H2) (hd : ∀ σ H,Pv xs.length σ H->D.nx σ H) :
  ∃W:Nat->Nat->St->Hp->Prop,(∃m,W 0 m σ H) /\ ∀i m σ H,W i m σ H ->
   ((Ite K a).stop i H/\D.nx σ H)\/((Ite K a).go i H /\ ∃N:St->Hp->Prop,(∀ σ' H',N σ' H' -> ∃m',m'<m/\W (i+1) m' σ' H') /\ ∀x H',(Ite K a).yld i H x H'->g x σ H' fun σ2 H2=>tb { D with nx:=N,ct:=N,bk:=D.nx } σ2 H2) :=
 qI0 Pv h0 hl (fun i x σ H p hx hp hn=>hs i x σ H p hx hp hn _ _ _ _ (fun _ _ h=>h) (fun _ _ h=>h) (fun _ _ h=>h)) hd
inductive Deed where
 | set (b n:Int)
 | add (b o:Int)
 | tell (b:Int)
 | call (c:Int)
 | save (b:Int)
 | back (b:Int)
def deedD:Deed->PyData
 | .set b n =>.tuple [.str "set",.int b,.int n]
 | .add b o =>.tuple [.str "add",.int b,.int o]
 | .tell b =>.tuple [.str "tell",.int b]
 | .call c =>.tuple [.str "call",.int c]
 | .save b =>.tuple [.str "save",.int b]
 | .back b =>.tuple [.str "back",.int b]
def qGj (works:Int):Deed->Prop
 | .set b n=>0<=b/\b<8 /\ -(10^12)<=n/\n<=10^12
 | .add b o=>0<=b/\b<8/\0<=o/\o<8
 | .tell b=>0<=b/\b<8
 | .call c=>0<=c/\c<works
 | .save b=>0<=b/\b<8
 | .back b=>0<=b/\b<8
def endD:List Int->PyData
 | [] =>.tuple [.str "out"]
 | [x] =>.tuple [.str "go",.int x]
 | x::y::_ =>.tuple [.str "fork",.int x,.int y]
structure Blk where
 ds:List Deed
 ns:List Int
def blkD (b:Blk):PyData :=.tuple [.list (b.ds.map deedD),endD b.ns]
def workD (w:List Blk):PyData :=.list (w.map blkD)
def NsOk (m:Int) (ns:List Int):Prop:=ns = []\/(∃x,ns = [x]/\1<=x/\x<m) \/ ∃x y,ns = [x,y]/\x≠y/\1<=x/\x<m/\1<=y/\y<m
structure BlkOk (m works:Int) (b:Blk):Prop where
 ns:NsOk m b.ns
 ds : ∀d∈b.ds,qGj works d
 few:b.ds.length<=20
structure WorkOk (m works:Int) (w:List Blk):Prop where
 len:(w.length:Int)=m
 blk : ∀b∈w,BlkOk m works b
structure BsOk (bs:List Int):Prop where
 one:1<=bs.length
 few:bs.length<=8
 all : ∀b∈bs,0<=b/\b<8
theorem qUm {k c:Nat} {lo hi:Int} {t:Addr} {H:Hp} {Q:VK} {E:XK} (hT:Tape H t k) (hk:k+c<=2^40) (q : ∀r H',lo<=r->r<=hi->Tape H' t (k+c)->Ext [t] H H'->Q (.int r) H'):qS9 c lo hi ([.ref t] ++ []) H Q E:=⟨t,k,rfl,hT,hk,q⟩
theorem qIc {ns:List Int} {r:Int} (h0:0<=r) (h1:r<ns.length) : ∃n,n∈ns/\atI (ns.map V.int) r=some (.int n):=by
 obtain⟨j,rfl⟩:=Int.eq_ofNat_of_zero_le h0
 have hj:j<ns.length:=by exact_mod_cast h1
 refine⟨ns[j],List.getElem_mem hj,?_⟩
 have:=qB4 (xs:=ns.map V.int) (j:=j) (by rw [List.getElem?_map,List.getElem?_eq_getElem hj];rfl)
 exact this
section
variable {X:Cx}
def qV3:List V->Hp->VK->Prop:=fun xs H Q => ∃j:Int,xs = [.int j] /\ ∀l,H l=none->Q (.ref l) (upd H l (.rng 0 j))
theorem qKm:CallR X (.type "range") qV3:=by
 intro pins s σ H xs us Q I r h
 obtain⟨j,rfl,q⟩:=h
 obtain⟨u,rfl,t,rfl⟩:=vals1 r
 refine call_range_1 ⟨.ref s.heap.objs.size,_,?_,rfl,q _ (I.hok.fresh (Nat.le_refl _))⟩
 exact I.laid (fun b o e=>Heap.get?_push_of_some _ e) (Nat.le_refl _) ⟨_,_,_,Heap.get?_push_size _ rfl⟩
def qQ9:List V->Hp->VK->Prop:=fun xs H Q => ∃(p:Addr) (j:Nat),xs = [.ref p]/\H p=some (.rng 0 j)/\j<=1000 /\ ∀l,H l=none->Q (.ref l) (upd H l (.lst ((List.range j).map fun (i:Nat)=>V.int (i:Int))))
theorem qI7 (hh:X.A.handled=none):CallR X (.type "list") qQ9:=by
 intro pins s σ H xs us Q I r h
 obtain⟨p,j,rfl,hp,hj,q⟩:=h
 obtain⟨u,rfl,rx⟩:=vals1 r
 cases rx
 obtain⟨t,u,v,e⟩ : ∃t u v,s.heap.get? p=some { cls :=.type "range",data :=.fields #[.int 0 t,.int (j:Int) u,.int 1 v] }:=I.hok p _ hp
 refine call_list_range hh e (small_one (by decide) (by decide) (by omega) (by omega)) (n:=j) (by rw [rangeSize_one];split <;> omega) (by omega) fun h' tk acc c kp hS hI => ?_
 refine⟨.ref s.heap.objs.size,_,I.laid (o :=.lst ((List.range j).map fun (i:Nat)=>V.int (i:Int))) kp (Nat.le_refl _) (show _/\_ from⟨?_,acc.toList,c,?_,?_⟩),rfl,q _ (I.hok.fresh (Nat.le_refl _))⟩
 ·rw [List.length_map,List.length_range];exact len2 hj
 ·have hl:acc.toList.length=j:=by rw [Array.length_toList];exact hI.1
  have hv : ∀(i:Nat) v,acc.toList[i]? = some v -> ∃t,v=Value.int (i:Int) t:=fun i v hv=>by
   obtain⟨t,h⟩:=hI.2 i v (by rw [<-hv,Array.getElem?_toList])
   exact⟨t,by rw [h];congr 1;omega⟩
  generalize acc.toList=us at hl hv
  subst hl
  have key : ∀(us:List Value) (k:Nat),(∀(i:Nat) v,us[i]? = some v -> ∃t,v=Value.int ((k+i:Nat):Int) t)->Vals ((List.range' k us.length).map fun (i:Nat)=>V.int (i:Int)) us:=by
   intro us
   induction us with
   | nil=>intro k _;exact .nil
   | cons u us ih =>
    intro k h
    obtain⟨t,rfl⟩:=h 0 u rfl
    refine .cons ⟨t,rfl⟩ (ih (k+1) fun i v e => ?_)
    obtain⟨t,e⟩:=h (i+1) v e
    exact⟨t,by rw [e];congr 1;omega⟩
  have:=key us 0 (fun i v e=>by obtain⟨t,h⟩:=hv i v e;exact⟨t,by rw [h];congr 1;omega⟩)
  rwa [<-List.range_eq_range'] at this
 ·rw [Array.toArray_toList];exact hS
variable {K:PySem.W.Frag}
theorem qQz (K:PySem.W.Frag) (hK:X.K=K):IxR X (rIxL K):=hK▸qAl
theorem qG6 (K:PySem.W.Frag) (hK:X.K=K):IxR X (rIxT K):=hK▸qC6
theorem qQ1 (K:PySem.W.Frag) (hK:X.K=K):SlR X (rSlL K):=hK▸qK6
theorem qNi (K:PySem.W.Frag) (hK:X.K=K):SlR X (rSlT K):=hK▸qKw
theorem qLe (K:PySem.W.Frag) (hK:X.K=K):CallR X (.builtin "len") (fun xs H Q => ∃p ys,xs = [.ref p]/\(SqL K H p ys\/SqT K H p ys)/\Q (.int ys.length) H):=hK▸qAo
theorem qLc (K:PySem.W.Frag) (hK:X.K=K):CallR X (.type "list") (fun xs H Q => ∃p ys,xs = [.ref p]/\(SqL K H p ys\/SqT K H p ys) /\ ∀l,H l=none->Q (.ref l) (upd H l (.lst ys))):=hK▸qF5
theorem qHu (K:PySem.W.Frag) (hK:X.K=K) {tg l:Expr} {tl:TE} (hl:PE X l tl):PI X tg l (iList K tl):=hK▸qBd hl
theorem qHv (K:PySem.W.Frag) (hK:X.K=K) {es:List Expr} {pos:Pos} {k:Nat} {t:TGs} {n:Nat} (hc:X.calm=true) (h:PGs X es t)
  (hn:(assignEach es X.env).length=n:=by rfl) (hst:(assignEach es X.env).findIdx? (·.1)=none:=by rfl):PG X (.Tuple es k pos) (gTup K n t):=hK▸qF2 hc h hn hst
theorem qV7 (K:PySem.W.Frag) (hK:X.K=K) {T:String} {name:Str} {id:String} {r:V->List V->Hp->VK->Prop} {o e:Expr} {es:List Expr} {to:TE} {t:TA} {apos cpos:Pos} (pa:PlainAttrs T) (slot:Slot T name id) (hty:typeOf (.builtin id)=pure (.type "method_descriptor")) (hm:MtR X id r) (ho:PE X o to) (ha:PA X (e::es) t)
  (hbase:attributeBase o name X.env (eval o X.env)=eval o X.env:=by rfl)
  (hfew:((backTo cpos (starEach (e::es) X.env)).all (fun x => !x.1)&&(backToKw cpos (keywordEach [] X.env)).all (fun x=>x.1.isSome)
   && decide ((e::es).length+([]:List Keyword).length+(if ([]:List Keyword).isEmpty then 0 else 1)<30))=true:=by rfl)
  (hline:(apos.endLine == cpos.line)=true:=by rfl) (hs:starEach (e::es) X.env=(false,eval e X.env)::starEach es X.env:=by rfl) (hplain:(backTo cpos (starEach es X.env)).any (·.1)=false:=by rfl) :
  PE X (.Call (.Attribute o name apos) (e::es) [] cpos) (tBM K T r to t):=hK▸qE6 pa slot hty hm ho ha hbase hfew hline hs hplain
theorem qRi {j n:Nat} (h:j<n):seqIndex? (j:Int) n=some j:=by
 show (if (decide (0<=if (j:Int)<0 then (j:Int)+n else j)&&decide ((if (j:Int)<0 then (j:Int)+n else j)<n))=true then some (if (j:Int)<0 then (j:Int)+n else (j:Int)).toNat else none)=some j
 have e:(if (j:Int)<0 then (j:Int)+n else (j:Int))=j:=if_neg (by omega)
 rw [e,decide_eq_true (show (0:Int)<=j by omega),decide_eq_true (show (j:Int)<n by omega)]
 rfl
theorem qG4 {α β : Type} {f : α -> β} : ∀(l:List α) (n:Nat),(l.eraseIdx n).map f=(l.map f).eraseIdx n
 | [],_=>rfl
 | _::_,0=>rfl
 | a::l,n+1=>congrArg (f a :: ·) (qG4 l n)
end
abbrev nexD (w:List Blk):PyData :=.list (w.map fun b=>intsD b.ns)
def qNg (K:PySem.W.Frag):Sp:=fun vs H Q _ => ∃(a:Addr) (w:List Blk),vs = [.ref a]/\Den K H (workD w) (.ref a)/\(∀b∈w,b.ns.length<=2)/\w.length<=12 /\
 ∀(l:Addr) (H':Hp),H l=none->Ext [] H H'->Den K (yo H [] H') (nexD w) (.ref l)->Q (.ref l) H'
theorem qP3 {ns:List Int} (h:ns.length<=2) : ∃w:Str,endD ns = .tuple (.str w::ns.map .int):=by
 match ns,h with
 | [],_=>exact⟨_,rfl⟩
 | [x],_=>exact⟨_,rfl⟩
 | [x,y],_=>exact⟨_,rfl⟩
theorem Ext.toSame {H H':Hp} (e:Ext [] H H'):Same H H':=fun b o h=>e b o (by simp) h
abbrev pairD (p:Int×Int):PyData :=.tuple [.int p.1,.int p.2]
abbrev qFz (ps:List (Int×Int)):PyData :=.list (ps.map pairD)
def srt:List Int->List Int
 | [x,y]=>if x<=y then [x,y] else [y,x]
 | l=>l
def outs (m i:Int) (ns:List Int):List (Int×Int):=(srt ns).map (fun x=>(i,x))++(if ns = [] then [(i,m)] else [])
def qAj (w:List Blk):Nat->List (Int×Int)
 | 0 =>[(-1,0)]
 | i+1=>qAj w i++outs w.length i ((w[i]?.map Blk.ns).getD [])
def qNb (K:PySem.W.Frag):Sp:=fun vs H Q _ => ∃(a:Addr) (w:List Blk) (m works:Int),vs = [.ref a]/\Den K H (workD w) (.ref a)/\WorkOk m works w/\m<=12 /\
 ∀(l:Addr) (H':Hp),H l=none->Ext [] H H'->Den K (yo H [] H') (qFz (qAj w w.length)) (.ref l)->Q (.ref l) H'
theorem NsOk.few {m:Int} {ns:List Int} (h:NsOk m ns):ns.length<=2:=by
 rcases h with h | ⟨x,h,_⟩ | ⟨x,y,h,_⟩ <;> subst h <;> simp
theorem NsOk.range {m:Int} {ns:List Int} (h:NsOk m ns) : ∀x∈ns,1<=x/\x<m:=by
 rcases h with h | ⟨x,h,h1,h2⟩ | ⟨x,y,h,_,h1,h2,h3,h4⟩ <;> subst h <;> intro z hz
 ·cases hz
 ·rw [List.mem_singleton.mp hz];exact⟨h1,h2⟩
 ·rcases List.mem_cons.mp hz with e | e
  ·rw [e];exact⟨h1,h2⟩
  ·rw [List.mem_singleton.mp e];exact⟨h3,h4⟩
theorem qU3 {m:Int} {ns ns':List Int} (h:NsOk m ns) (hp:ns'.Perm ns) (hs:ns'.Pairwise (· <= ·)):ns'=srt ns:=by
 rcases h with h | ⟨x,h,_⟩ | ⟨x,y,h,hne,_⟩ <;> subst h
 ·exact List.perm_nil.mp hp
 ·exact List.perm_singleton.mp hp
 ·match ns',hp.length_eq with
  | [a,b],_ =>
   have ha:a=x\/a=y:=by simpa using hp.subset (List.mem_cons_self ..)
   have hb:b=x\/b=y:=by simpa using hp.subset (List.mem_cons_of_mem _ (List.mem_singleton.mpr rfl))
   have hx:x=a\/x=b:=by simpa using hp.symm.subset (List.mem_cons_self ..)
   have hy:y=a\/y=b:=by simpa using hp.symm.subset (List.mem_cons_of_mem _ (List.mem_singleton.mpr rfl))
   have hab:a<=b:=by simpa using hs
   show [a,b]=if x<=y then [x,y] else [y,x]
   split
   ·have:a=x/\b=y:=by omega
    rw [this.1,this.2]
   ·have:a=y/\b=x:=by omega
    rw [this.1,this.2]
theorem qNa {ns:List Int}:(srt ns).length=ns.length:=by
 unfold srt
 split
 ·split <;> rfl
 ·rfl
theorem qQf {m i:Int} {ns:List Int} (h:ns.length<=2):(outs m i ns).length<=2:=by
 unfold outs
 rw [List.length_append,List.length_map,qNa]
 split
 ·next h=>subst h;exact Nat.le_succ 1
 ·simp;omega
theorem qBq {w:List Blk} (h : ∀b∈w,b.ns.length<=2) : ∀i,(qAj w i).length<=1+2*i
 | 0=>Nat.le_refl _
 | i+1=>by
  have:=qBq h i
  have h2:((w[i]?.map Blk.ns).getD []).length<=2:=by
   cases z:w[i]? with
   | none=>decide
   | some b=>exact h b (List.mem_of_getElem? z)
  have:=qQf (m:=w.length) (i:=i) h2
  show (qAj w i++outs _ _ _).length<=_
  rw [List.length_append];omega
theorem qF4 (ns:List Int):PyData.eqv (intsD ns) (.list [])=decide (ns = []):=by
 cases ns with
 | nil=>rfl
 | cons x r=>rfl
theorem qNj {m:Int} {ns:List Int} (h:NsOk m ns):SeqAt.shaped (intsD ns)=true:=by
 rcases h with h | ⟨x,h,_⟩ | ⟨x,y,h,_⟩ <;> subst h <;> rfl
theorem qVc {X:Cx} (K:PySem.W.Frag) (hK:X.K=K):OpR X (compareOp .NotIn) (rIn K true):=hK▸qIy
theorem inK {X:Cx} (K:PySem.W.Frag) (hK:X.K=K):OpR X (compareOp .In) (rIn K false):=hK▸qE8
theorem qTp {a b:Int}:eqV (.int a) (.int b)=decide (a=b):=by
 first | rfl | (unfold eqV;simp)
theorem qBz (x:Int) : ∀ns:List Int,inV (.int x) (ns.map V.int)=decide (x∈ns)
 | []=>rfl
 | n::r=>by
  have ih:=qBz x r
  show (eqV (.int n) (.int x)||inV (.int x) (r.map V.int))=_
  rw [ih,qTp]
  by_cases h1:n=x
  ·subst h1;simp
  ·by_cases h2:x∈r
   ·simp [h2]
   ·simp [h1,h2,Ne.symm h1]
theorem qBn : ∀ns:List Int,(ns.map V.int).all flatV=true
 | []=>rfl
 | _::r=>qBn r
theorem qUk {K:PySem.W.Frag} {x:Int} {ns:List Int} {p:Addr} {H:Hp} {Q:VK} (h:SqL K H p (ns.map V.int)) (q:Q (.bl (!decide (x∈ns))) H):rIn K true (.int x) (.ref p) H Q :=
 ⟨p,_,rfl,.inl h,rfl,qBn ns,by rw [if_pos rfl,qBz];exact q⟩
theorem qU4 {n:Nat} (h:n<=100000):n<sizeLine:=Nat.lt_of_le_of_lt h (by decide)
theorem qBc {α β : Type} {f : α -> β} {l:List α} {i:Nat} {y : β} (h:(l.map f)[i]? = some y) : ∃x,l[i]? = some x/\y=f x:=by
 rw [List.getElem?_map] at h
 cases z:l[i]? with
 | none=>rw [z] at h;cases h
 | some x=>rw [z] at h;exact⟨x,rfl,(Option.some.inj h).symm⟩
theorem qB6 {α : Type} {l:List α} {i:Nat} {x : α} (h:l[i]? = some x):l.take (i+1)=l.take i ++ [x]:=by rw [List.take_add_one,h];rfl
def nxt (w:List Blk) (i:Int):List Int:=if 0<=i then ((w[i.toNat]?).map Blk.ns).getD [] else []
inductive Reach (nx:Int->List Int) (a:Int):Int->Prop
 | refl:Reach nx a a
 | step {b c:Int}:Reach nx a b->c∈nx b->Reach nx a c
theorem qT9 {w:List Blk} {i:Nat} {b:Blk} (h:w[i]? = some b):nxt w (i:Int)=b.ns:=by
 unfold nxt
 rw [if_pos (by omega),Int.toNat_natCast,h];rfl
theorem qH3 {m works:Int} {w:List Blk} (h:WorkOk m works w) (i:Int):NsOk m (nxt w i):=by
 unfold nxt
 split
 ·cases z:w[i.toNat]? with
  | none=>exact .inl rfl
  | some b=>exact (h.blk b (List.mem_of_getElem? z)).ns
 ·exact .inl rfl
theorem Reach.range {m works a x:Int} {w:List Blk} (h:WorkOk m works w) (ha:0<=a/\a<m) (r:Reach (nxt w) a x):0<=x/\x<m:=by
 induction r with
 | refl=>exact ha
 | step _ hc _=>have:=(qH3 h _).range _ hc;omega
def cnt (p:Int->Bool):Nat->Nat
 | 0=>0
 | m+1=>cnt p m+(if p (m:Int)=true then 1 else 0)
theorem qJk (p:Int->Bool) : ∀m,cnt p m<=m
 | 0=>Nat.le_refl _
 | m+1=>by
  have:=qJk p m
  show cnt p m+_<=_
  split <;> omega
theorem qLk {p q:Int->Bool} (h : ∀i,p i=true->q i=true) : ∀m,cnt p m<=cnt q m
 | 0=>Nat.le_refl _
 | m+1=>by
  have:=qLk h m
  show cnt p m+_<=cnt q m+_
  by_cases hp:p (m:Int)=true
  ·rw [if_pos hp,if_pos (h _ hp)];omega
  ·rw [if_neg hp];omega
theorem qPg {p q:Int->Bool} {x:Int} (h : ∀i,p i=true->q i=true) (hq:q x=true) (hp:p x=false) : ∀m:Nat,0<=x->x<m->cnt p m<cnt q m
 | 0,h0,h1=>by omega
 | m+1,h0,h1=>by
  show cnt p m+_<cnt q m+_
  by_cases e:x=(m:Int)
  ·subst e
   have:=qLk h m
   rw [if_neg (by rw [hp];decide),if_pos hq];omega
  ·have:=qPg h hq hp m h0 (by omega)
   by_cases hp:p (m:Int)=true
   ·rw [if_pos hp,if_pos (h _ hp)];omega
   ·rw [if_neg hp];omega
theorem qPh {p:Int->Bool} : ∀m:Nat,cnt p m=m -> ∀x:Int,0<=x->x<m->p x=true
 | 0,_,x,h0,h1=>by omega
 | m+1,h,x,h0,h1=>by
  have hle:=qJk p m
  have h:cnt p m+(if p (m:Int)=true then 1 else 0)=m+1:=h
  by_cases hp:p (m:Int)=true
  ·rw [if_pos hp] at h
   by_cases e:x=(m:Int)
   ·rw [e];exact hp
   ·exact qPh m (by omega) x h0 (by omega)
  ·rw [if_neg hp] at h;omega
section
variable (nx:Int->List Int) (a:Int)
def lay:Nat->List Int×List Int
 | 0=>([],[a])
 | j+1=>let f:=(lay j).2.flatMap fun b=>(nx b).filter fun x => !decide (x∈(lay j).1);((lay j).1++f,f)
variable {nx a}
theorem lay_further {j:Nat} {x:Int}:x∈(lay nx a (j+1)).2↔(∃b∈(lay nx a j).2,x∈nx b)/\x∉(lay nx a j).1:=by
 show x∈(lay nx a j).2.flatMap _↔_
 simp only [List.mem_flatMap,List.mem_filter,Bool.not_eq_true',decide_eq_false_iff_not]
 constructor
 ·rintro⟨b,hb,h1,h2⟩;exact⟨⟨b,hb,h1⟩,h2⟩
 ·rintro⟨⟨b,hb,h1⟩,h2⟩;exact⟨b,hb,h1,h2⟩
theorem qKh {j:Nat}:(lay nx a (j+1)).1=(lay nx a j).1++(lay nx a (j+1)).2:=rfl
theorem qOj {x:Int} : ∀ {j:Nat},x∈(lay nx a j).1 -> ∃i,i<=j/\x∈(lay nx a i).2
 | 0,h=>absurd h (by simp [lay])
 | j+1,h=>by
  rw [qKh] at h
  rcases List.mem_append.mp h with h | h
  ·obtain⟨i,hi,e⟩:=qOj h;exact⟨i,by omega,e⟩
  ·exact⟨j+1,Nat.le_refl _,h⟩
theorem qJa {x:Int} : ∀ {j:Nat},x∈(lay nx a j).2->Reach nx a x
 | 0,h=>by
  have:x=a:=by simpa [lay] using h
  rw [this];exact .refl
 | j+1,h=>by
  obtain⟨⟨b,hb,h1⟩,_⟩:=lay_further.mp h
  exact .step (qJa hb) h1
theorem qNp {x:Int} (r:Reach nx a x) : ∃j,x∈(lay nx a j).2:=by
 induction r with
 | refl=>exact⟨0,by simp [lay]⟩
 | @step b c _ hc ih =>
  obtain⟨j,hj⟩:=ih
  by_cases hm:c∈(lay nx a j).1
  ·obtain⟨i,_,e⟩:=qOj hm;exact⟨i,e⟩
  ·exact⟨j+1,lay_further.mpr ⟨⟨b,hj,hc⟩,hm⟩⟩
theorem qLg {j:Nat} (h:(lay nx a (j+1)).2 ≠ []):(lay nx a j).2 ≠ []:=by
 intro e
 apply h
 show (lay nx a j).2.flatMap _ = []
 rw [e];rfl
theorem qJ9 {j:Nat} : ∀ {i:Nat},(lay nx a (j+i)).2 ≠ []->(lay nx a j).2 ≠ []
 | 0,h=>h
 | i+1,h=>qJ9 (i:=i) (qLg h)
theorem qOo {m:Nat} (hr : ∀x j,x∈(lay nx a j).2->0<=x/\x<(m:Int)) : ∀j,(lay nx a j).2 ≠ []->j<=cnt (fun x=>decide (x∈(lay nx a j).1)) m
 | 0,_=>Nat.zero_le _
 | j+1,h=>by
  have ih:=qOo hr j (qLg h)
  obtain⟨x,hx⟩:=List.exists_mem_of_ne_nil _ h
  have h1:=hr x (j+1) hx
  have h2:=(lay_further.mp hx).2
  have:=qPg (p:=fun x=>decide (x∈(lay nx a j).1)) (q:=fun x=>decide (x∈(lay nx a (j+1)).1)) (x:=x) (fun i hi=>by
   rw [qKh]
   exact decide_eq_true (List.mem_append_left _ (of_decide_eq_true hi))) (decide_eq_true (by rw [qKh];exact List.mem_append_right _ hx)) (decide_eq_false h2) m h1.1 h1.2
  omega
theorem qTl {m:Nat} (hr : ∀x j,x∈(lay nx a j).2->0<=x/\x<(m:Int)) {x:Int} (r:Reach nx a x) : ∃j,j<=m/\x∈(lay nx a j).2:=by
 obtain⟨j,hj⟩:=qNp r
 by_cases h:j<=m
 ·exact⟨j,h,hj⟩
 ·have hm:(lay nx a m).2 ≠ []:=qJ9 (i:=j - m) (by rw [show m+(j - m)=j by omega];exact List.ne_nil_of_mem hj)
  have h1:=qOo hr m hm
  have h2:=qJk (fun x=>decide (x∈(lay nx a m).1)) m
  have h3:=hr x j hj
  have:=qPh (p:=fun x=>decide (x∈(lay nx a m).1)) m (by omega) x h3.1 h3.2
  exact qOj (of_decide_eq_true this)
end
def ltP (p q:Int×Int):Prop:=p.1<q.1\/(p.1=q.1/\p.2<q.2)
theorem ltP.irr {p:Int×Int} : ¬ltP p p:=by rintro (h | ⟨_,h⟩) <;> omega
theorem ltP.trans {p q r:Int×Int} (h1:ltP p q) (h2:ltP q r):ltP p r:=by
 rcases h1 with h1 | ⟨h1,h1'⟩ <;> rcases h2 with h2 | ⟨h2,h2'⟩ <;> first | (left;omega) | (right;omega)
theorem qIm : ∀ {l1 l2:List (Int×Int)},l1.Pairwise ltP->l2.Pairwise ltP->(∀p,p∈l1↔p∈l2)->l1=l2
 | [],[],_,_,_=>rfl
 | [],q::l2,_,_,h=>absurd ((h q).mpr (List.mem_cons_self ..)) (by simp)
 | p::l1,[],_,_,h=>absurd ((h p).mp (List.mem_cons_self ..)) (by simp)
 | p::l1,q::l2,h1,h2,h=>by
  rw [List.pairwise_cons] at h1 h2
  have e:p=q:=by
   rcases List.mem_cons.mp ((h p).mp (List.mem_cons_self ..)) with z | z
   ·exact z
   ·rcases List.mem_cons.mp ((h q).mpr (List.mem_cons_self ..)) with y | y
    ·exact y.symm
    ·exact absurd ((h2.1 p z).trans (h1.1 q y)) ltP.irr
  subst e
  refine congrArg (p :: ·) (qIm h1.2 h2.2 fun x=>⟨fun hx => ?_,fun hx => ?_⟩)
  ·rcases List.mem_cons.mp ((h x).mp (List.mem_cons_of_mem _ hx)) with z | z
   ·rw [z] at hx;exact absurd (h1.1 p hx) ltP.irr
   ·exact z
  ·rcases List.mem_cons.mp ((h x).mpr (List.mem_cons_of_mem _ hx)) with z | z
   ·rw [z] at hx;exact absurd (h2.1 p hx) ltP.irr
   ·exact z
theorem qHy {α : Type} [DecidableEq α] : ∀ {l1 l2:List α},l1.Nodup->(∀x∈l1,x∈l2)->l1.length<=l2.length
 | [],_,_,_=>Nat.zero_le _
 | x::r,l2,h,hs=>by
  rw [List.nodup_cons] at h
  have hx:=hs x (List.mem_cons_self ..)
  have ih:=qHy (l2:=l2.erase x) h.2 fun y hy=>by
   have hne:y≠x:=fun z=>h.1 (z▸hy)
   exact (List.mem_erase_of_ne hne).mpr (hs y (List.mem_cons_of_mem _ hy))
  have hl:=List.length_erase_of_mem hx
  have hp:=List.length_pos_of_mem hx
  rw [List.length_cons]
  omega
def tOf (p:Int×Int):List Int :=[p.1,p.2]
def pOf (t:List Int):Int×Int:=(t.getD 0 0,t.getD 1 0)
theorem qKe (p:Int×Int):pOf (tOf p)=p:=rfl
theorem qQv {p q:Int×Int} (h:HT.lexLt (tOf q) (tOf p)=false) (hne:p≠q):ltP p q:=by
 obtain⟨a,b⟩:=p
 obtain⟨c,d⟩:=q
 have h:HT.lexLt [c,d] [a,b]=false:=h
 rw [HT.lexLt_cons,HT.lexLt_cons] at h
 have hne : ¬(a=c/\b=d):=fun z=>hne (by rw [z.1,z.2])
 show a<c\/(a=c/\b<d)
 by_cases h1:c=a
 ·rw [if_pos h1] at h
  by_cases h2:d=b
  ·exact absurd ⟨h1.symm,h2.symm⟩ hne
  ·rw [if_neg h2] at h
   have:=of_decide_eq_false h
   omega
 ·rw [if_neg h1] at h
  have:=of_decide_eq_false h
  omega
theorem DenL.ofAll {K:PySem.W.Frag} {G:Hp} {α : Type} {f : α -> PyData} {g : α -> V} : ∀ {l:List α},(∀x∈l,Den K G (f x) (g x))->DenL K G (l.map f) (l.map g)
 | [],_ =>.nil
 | _::_,h =>.cons (h _ (List.mem_cons_self ..)) (DenL.ofAll fun x hx=>h x (List.mem_cons_of_mem _ hx))
theorem qN7 {K:PySem.W.Frag} {G H:Hp} (e:Same G H) : ∀ {ps:List (Int×Int)} {vs:List V},DenL K G (ps.map pairD) vs->TupI K H vs (ps.map tOf)
 | [],vs,h=>by have:=h.ofNil;subst this;exact .nil
 | p::ps,vs,h=>by
  obtain⟨v,r,rfl,h1,h2⟩:=h.ofCons
  obtain⟨a,us,rfl,hs,hd⟩:=h1.ofTuple
  have hd:DenL K G ([p.1,p.2].map PyData.int) us:=hd
  have:=hd.ints
  subst this
  exact .cons ⟨a,rfl,e.seqT hs⟩ (qN7 e h2)
theorem qP7 {K:PySem.W.Frag} {G:Hp} : ∀ {ps:List (Int×Int)} {vs:List V},DenL K G (ps.map pairD) vs -> ∀x∈vs.zip (ps.map tOf),∃p,p∈ps/\x.2=tOf p/\Den K G (pairD p) x.1
 | [],vs,h=>by have:=h.ofNil;subst this;intro x hx;cases hx
 | p::ps,vs,h=>by
  obtain⟨v,r,rfl,h1,h2⟩:=h.ofCons
  intro x hx
  rcases List.mem_cons.mp (show x∈(v,tOf p)::r.zip (ps.map tOf) from hx) with z | z
  ·rw [z];exact⟨p,List.mem_cons_self ..,rfl,h1⟩
  ·obtain⟨p',hp,h3,h4⟩:=qP7 h2 x z
   exact⟨p',List.mem_cons_of_mem _ hp,h3,h4⟩
theorem qIh {K:PySem.W.Frag} {G:Hp} {ps:List (Int×Int)} {vs:List V} {res:List (V×List Int)} (hd:DenL K G (ps.map pairD) vs) (hn:ps.Nodup) (hp:res.Perm (vs.zip (ps.map tOf))) (hs:(res.map (·.2)).Pairwise (fun a b=>HT.lexLt b a=false)) :
  ∃ps':List (Int×Int),DenL K G (ps'.map pairD) (res.map (·.1))/\ps'.Pairwise ltP /\ ∀p,p∈ps'↔p∈ps:=by
 have hall : ∀x∈res,∃p,p∈ps/\x.2=tOf p/\Den K G (pairD p) x.1:=fun x hx=>qP7 hd x (hp.mem_iff.mp hx)
 have hlen:vs.length=(ps.map tOf).length:=by rw [hd.len,List.length_map,List.length_map]
 have hperm:(res.map fun x=>pOf x.2).Perm ps:=by
  have h1:=hp.map fun x=>pOf x.2
  have h2:(vs.zip (ps.map tOf)).map (fun x=>pOf x.2)=ps:=by
   rw [show (vs.zip (ps.map tOf)).map (fun x=>pOf x.2)=((vs.zip (ps.map tOf)).map (fun x=>x.2)).map pOf by rw [List.map_map];rfl]
   rw [show (vs.zip (ps.map tOf)).map (fun x=>x.2)=ps.map tOf from List.map_snd_zip (by omega)]
   rw [List.map_map]
   exact List.map_id' ps
  rw [h2] at h1
  exact h1
 refine⟨res.map fun x=>pOf x.2,?_,?_,fun p=>hperm.mem_iff⟩
 ·rw [List.map_map]
  refine DenL.ofAll fun x hx => ?_
  obtain⟨p,_,h2,h3⟩:=hall x hx
  show Den K G (pairD (pOf x.2)) x.1
  rw [h2,qKe];exact h3
 ·have hnd:(res.map fun x=>pOf x.2).Nodup:=hperm.nodup_iff.mpr hn
  have hs':(res.map fun x=>pOf x.2).Pairwise (fun p q=>HT.lexLt (tOf q) (tOf p)=false):=by
   rw [List.pairwise_map] at hs ⊢
   refine hs.imp_of_mem fun {x y} hx hy h => ?_
   obtain⟨p,_,h2,_⟩:=hall x hx
   obtain⟨q,_,h3,_⟩:=hall y hy
   rw [h2,h3,qKe,qKe]
   rw [h2,h3] at h
   exact h
  exact (hs'.and hnd).imp fun {p q} h=>qQv h.1 h.2
theorem qIv : ∀ps:List (Int×Int),PyData.canLayAll0 (ps.map pairD)=true
 | []=>rfl
 | p::r=>by
  show (PyData.canLay0 (pairD p)&&PyData.canLayAll0 (r.map pairD))=true
  rw [qIv r];rfl
theorem qH1 : ∀ps:List (Int×Int),PyData.depthAll (ps.map pairD)<=1
 | []=>Nat.zero_le _
 | p::r=>by
  show max (PyData.depth (pairD p)) (PyData.depthAll (r.map pairD))<=1
  have h1:PyData.depth (pairD p)=1:=rfl
  have:=qH1 r
  omega
theorem qKd (ps:List (Int×Int)):PyData.depth (qFz ps)<=2:=by
 have:=qH1 ps
 show PyData.depthAll (ps.map pairD)+1<=2
 omega
theorem qIu (ps:List (Int×Int)):SeqAt.shaped (qFz ps)=true:=by
 have:=qKd ps
 show (PyData.canLayAll0 (ps.map pairD)&&decide (PyData.depth (qFz ps)<=64))=true
 rw [qIv,decide_eq_true (show PyData.depth (qFz ps)<=64 by omega)];rfl
def qFs (w:List Blk):Nat->List (Int×Int)
 | 0 =>[]
 | i+1=>qFs w i++outs w.length i ((w[i]?.map Blk.ns).getD [])
theorem qE2 (w:List Blk) : ∀i,qAj w i=(-1,0)::qFs w i
 | 0=>rfl
 | i+1=>by
  show qAj w i++_=_
  rw [qE2 w i];rfl
theorem qRs (w:List Blk) (i:Nat):(w[i]?.map Blk.ns).getD []=nxt w (i:Int):=by
 unfold nxt
 rw [if_pos (by omega),Int.toNat_natCast]
theorem srt_mem {ns:List Int} {x:Int}:x∈srt ns↔x∈ns:=by
 unfold srt
 split
 ·split
  ·rfl
  ·simp only [List.mem_cons,List.not_mem_nil,or_false];constructor <;> (intro h;rcases h with h | h <;> simp [h])
 ·rfl
theorem mem_outs {m i:Int} {ns:List Int} {p:Int×Int}:p∈outs m i ns↔p.1=i/\(p.2∈ns\/(ns = []/\p.2=m)):=by
 unfold outs
 rw [List.mem_append,List.mem_map]
 constructor
 ·rintro (⟨x,hx,rfl⟩ | h)
  ·exact⟨rfl,.inl (srt_mem.mp hx)⟩
  ·split at h
   ·next e=>rw [List.mem_singleton.mp h];exact⟨rfl,.inr ⟨e,rfl⟩⟩
   ·cases h
 ·rintro⟨h1,h2 | ⟨h2,h3⟩⟩
  ·exact .inl ⟨p.2,srt_mem.mpr h2,by rw [<-h1]⟩
  ·refine .inr ?_
   rw [if_pos h2,List.mem_singleton,<-h1,<-h3]
theorem in_rest {w:List Blk} {p:Int×Int} : ∀ {n:Nat},p∈qFs w n ↔ ∃i:Nat,i<n/\p∈outs w.length i (nxt w i)
 | 0=>by
  constructor
  ·intro h;cases h
  ·rintro⟨i,h,_⟩;omega
 | n+1=>by
  show p∈qFs w n++outs _ _ _↔_
  rw [List.mem_append,in_rest,qRs]
  constructor
  ·rintro (⟨i,h1,h2⟩ | h)
   ·exact⟨i,by omega,h2⟩
   ·exact⟨n,by omega,h⟩
  ·rintro⟨i,h1,h2⟩
   by_cases e:i=n
   ·subst e;exact .inr h2
   ·exact .inl ⟨i,by omega,h2⟩
theorem qKf {m M i:Int} {ns:List Int} (h:NsOk M ns):(outs m i ns).Pairwise ltP:=by
 rcases h with h | ⟨x,h,_⟩ | ⟨x,y,h,hne,_⟩ <;> subst h
 ·show List.Pairwise ltP [(i,m)];simp
 ·show List.Pairwise ltP [(i,x)];simp
 ·show List.Pairwise ltP ((srt [x,y]).map (fun x=>(i,x)) ++ [])
  rw [List.append_nil]
  show List.Pairwise ltP ((if x<=y then [x,y] else [y,x]).map (fun x=>(i,x)))
  split
  ·simp only [List.map_cons,List.map_nil,List.pairwise_cons,List.mem_singleton,List.not_mem_nil,false_implies,implies_true,List.Pairwise.nil,and_true]
   rintro q rfl;exact .inr ⟨rfl,by show x<y;omega⟩
  ·simp only [List.map_cons,List.map_nil,List.pairwise_cons,List.mem_singleton,List.not_mem_nil,false_implies,implies_true,List.Pairwise.nil,and_true]
   rintro q rfl;exact .inr ⟨rfl,by show y<x;omega⟩
theorem qFr {m works:Int} {w:List Blk} (h:WorkOk m works w) : ∀n,(qFs w n).Pairwise ltP
 | 0 =>.nil
 | n+1=>by
  show (qFs w n++outs _ _ _).Pairwise ltP
  rw [qRs,List.pairwise_append]
  refine⟨qFr h n,qKf (qH3 h n),fun p hp q hq =>.inl ?_⟩
  obtain⟨i,hi,h2⟩:=in_rest.mp hp
  have:=(mem_outs.mp h2).1
  have:=(mem_outs.mp hq).1
  omega
theorem qEz {m works:Int} {w:List Blk} (h:WorkOk m works w) {p:Int×Int} (hp:p∈qFs w w.length):0<=p.1/\p.1<m/\1<=p.2/\p.2<=m/\(p.2<m->p.2∈nxt w p.1):=by
 have hl:=h.len
 obtain⟨i,hi,h2⟩:=in_rest.mp hp
 obtain⟨h3,h4⟩:=mem_outs.mp h2
 rcases h4 with h4 | ⟨h4,h5⟩
 ·have:=(qH3 h i).range _ h4
  exact⟨by omega,by omega,by omega,by omega,fun _=>by rw [h3];exact h4⟩
 ·exact⟨by omega,by omega,by omega,by omega,fun _=>by omega⟩
theorem cut1 (x:V) (xs:List V):cutV (x::xs) (some 1) none=xs:=by
 unfold cutV HT.sIx
 simp
theorem qC8 {X:Cx} {a:Expr} {ta:TE} (K:PySem.W.Frag) (hK:X.K=K) (ha:PE X a ta) (he : ∀whole,isTrue a X.env whole=(do let v <-whole;standAt a.pos;holding [v] (truthy v))) :
  PT X a (fun σ H Q=>ta σ H fun x H' => ∃k,TruV K x H' k/\Q k H'):=hK▸qQb ha he
theorem qI9 (xs:Array Nat) (j:Nat) (up:xs.toList.Pairwise (· < ·)) : ∀(fuel lo hi:Nat),lo<=hi->hi<=xs.size->hi - lo<=fuel->(∀(i x:Nat),xs[i]? = some x->i<lo->x<j)->(∀(i x:Nat),xs[i]? = some x->hi<=i->j<=x) ->
  (SetTable.below.go xs j fuel lo hi<=xs.size)/\(∀(i x:Nat),xs[i]? = some x->i<SetTable.below.go xs j fuel lo hi->x<j)/\(∀(i x:Nat),xs[i]? = some x->SetTable.below.go xs j fuel lo hi<=i->j<=x)
 | 0,lo,hi,h1,h2,h3,h4,h5=>by
  have e:lo=hi:=by omega
  subst e
  exact⟨h2,h4,h5⟩
 | fuel+1,lo,hi,h1,h2,h3,h4,h5=>by
  unfold SetTable.below.go
  by_cases hl:lo<hi
  ·rw [if_pos hl]
   dsimp only
   have hm:(lo+hi) / 2<xs.size:=by omega
   have le : ∀(i k x y:Nat),xs[i]? = some x->xs[k]? = some y->i<=k->x<=y:=by
    intro i k x y hx hy hik
    rw [<-Array.getElem?_toList] at hx hy
    obtain⟨hi',rfl⟩:=List.getElem?_eq_some_iff.mp hx
    obtain⟨hk',rfl⟩:=List.getElem?_eq_some_iff.mp hy
    rcases Nat.lt_or_eq_of_le hik with z | z
    ·exact Nat.le_of_lt (List.pairwise_iff_getElem.mp up i k hi' hk' z)
    ·subst z;exact Nat.le_refl _
   obtain⟨y,hy⟩ : ∃y,xs[(lo+hi) / 2]? = some y:=⟨_,Array.getElem?_eq_getElem hm⟩
   have hg:xs.getD ((lo+hi) / 2) j=y:=by rw [Array.getD_eq_getD_getElem?,hy];rfl
   rw [hg]
   by_cases hy2:y<j
   ·rw [if_pos hy2]
    exact qI9 xs j up fuel _ _ (by omega) h2 (by omega) (fun i x hx hlt=>Nat.lt_of_le_of_lt (le i _ x y hx hy (by omega)) hy2) h5
   ·rw [if_neg hy2]
    exact qI9 xs j up fuel _ _ (by omega) (by omega) (by omega) h4 (fun i x hx hlt=>Nat.le_trans (Nat.le_of_not_lt hy2) (le _ i y x hy hx (by omega)))
  ·rw [if_neg hl]
   have e:lo=hi:=by omega
   subst e
   exact⟨h2,h4,h5⟩
theorem qLr (xs:Array Nat) (j:Nat) (up:xs.toList.Pairwise (· < ·)):SetTable.below xs j<=xs.size/\(∀(i x:Nat),xs[i]? = some x->i<SetTable.below xs j->x<j)/\(∀(i x:Nat),xs[i]? = some x->SetTable.below xs j<=i->j<=x) :=
 qI9 xs j up xs.size 0 xs.size (Nat.zero_le _) (Nat.le_refl _) (Nat.sub_le _ _) (fun _ _ _ h=>absurd h (Nat.not_lt_zero _)) (fun i x hx h=>absurd (Array.getElem?_eq_some_iff.mp hx).1 (by omega))
theorem qNz (xs:Array Nat) (j:Nat) (up:xs.toList.Pairwise (· < ·)) (hj:xs[SetTable.below xs j]? ≠ some j):(SetTable.insertAt xs (SetTable.below xs j) j).toList.Pairwise (· < ·):=by
 obtain⟨h1,h2,h3⟩:=qLr xs j up
 rw [SetTable.toList_insertAt]
 generalize SetTable.below xs j=b at *
 have h4 : ∀x∈xs.toList.drop b,j<x:=by
  intro x hx
  obtain⟨i,hi,e⟩:=List.getElem_of_mem hx
  have hg:xs.toList[b+i]? = some x:=by rw [<-List.getElem?_drop,List.getElem?_eq_getElem hi,e]
  rw [Array.getElem?_toList] at hg
  have hle:=h3 _ _ hg (Nat.le_add_right _ _)
  rcases Nat.lt_or_eq_of_le hle with z | z
  ·exact z
  ·subst z
   by_cases hi0:i=0
   ·subst hi0;exact absurd hg hj
   ·have hbs:b<xs.toList.length:=by rw [List.length_drop] at hi;omega
    have hb:xs[b]? = some xs.toList[b]:=by rw [<-Array.getElem?_toList,List.getElem?_eq_getElem hbs]
    have z1:=h3 _ _ hb (Nat.le_refl _)
    rw [<-Array.getElem?_toList] at hg
    obtain⟨hbi,e2⟩:=List.getElem?_eq_some_iff.mp hg
    have z2:=List.pairwise_iff_getElem.mp up b (b+i) hbs hbi (by omega)
    omega
 refine List.pairwise_append.mpr ⟨up.sublist (List.take_sublist _ _),List.pairwise_cons.mpr ⟨h4,up.sublist (List.drop_sublist _ _)⟩,fun x hx y hy => ?_⟩
 obtain⟨i,hi,e⟩:=List.getElem_of_mem hx
 have hib:i<b:=by rw [List.length_take] at hi;omega
 have hg:xs.toList[i]? = some x:=by rw [<-List.getElem?_take_of_lt hib,List.getElem?_eq_getElem hi,e]
 rw [Array.getElem?_toList] at hg
 have hlt:=h2 _ _ hg hib
 rcases List.mem_cons.mp hy with z | z
 ·subst z;exact hlt
 ·exact Nat.lt_trans hlt (h4 y z)
theorem qCk (n:Nat):(Array.range n).toList.Pairwise (· < ·):=by
 rw [Array.toList_range];exact List.pairwise_lt_range
def qPr (t:SetTable) (j:Nat):Prop:=t.place[SetTable.below t.place j]? ≠ some j
theorem qH4 {t:SetTable} {j:Nat} (h:t.slot j = .empty\/t.slot j = .dummy):qPr t j:=by
 intro e
 unfold SetTable.slot at h
 dsimp only at h
 rw [e] at h
 simp at h
theorem qHr {t:SetTable} {f:Nat->Int} {h:Int} {j:Nat} {dm:Option Nat} : ∀(fuel:Nat) (p:SetTable.Probe),SetTable.probe.go t f h fuel p=some (.empty j dm)->(∀d,p.dummy=some d->t.slot d = .dummy) ->
  t.slot j = .empty /\ ∀d,dm=some d->t.slot d = .dummy
 | 0,p,e,_=>by unfold SetTable.probe.go at e;cases e
 | fuel+1,p,e,hd=>by
  unfold SetTable.probe.go at e
  have ha : ∀q:SetTable.Probe,(t.advance q).dummy=q.dummy:=by
   intro q;unfold SetTable.advance;split <;> rfl
  cases hs:t.slot p.j with
  | empty=>rw [hs] at e;dsimp only at e;cases e;exact⟨hs,hd⟩
  | dummy=>rw [hs] at e;dsimp only at e;exact qHr fuel _ e (fun d z=>by rw [ha] at z;cases z;exact hs)
  | live i =>
   rw [hs] at e;dsimp only at e
   split at e
   ·cases e
   ·exact qHr fuel _ e (fun d z=>by rw [ha] at z;exact hd d z)
theorem qKj {t:SetTable} {h:Int} {slot:Nat} {wd:Bool} (e:t.freeSlot h=some (slot,wd)):qPr t slot:=by
 unfold SetTable.freeSlot at e
 split at e
 ·rename_i j dm hp
  obtain⟨a,b⟩:=qHr _ _ hp (fun d z=>by unfold SetTable.probeStart at z;cases z)
  cases e
  cases dm with
  | none=>exact qH4 (.inl a)
  | some d=>exact qH4 (.inr (b d rfl))
 ·cases e
structure GoodT (b:Bool) (t:SetTable) (n:Nat):Prop where
 fits:t.fits n=true
 rise:t.place.toList.Pairwise (· < ·)
 led:t.led=b
theorem qKi {b:Bool} {t:SetTable} {es:Array (Int×Value)} {h:Int} {x:Value} (g:GoodT b t es.size):GoodT b (layNew t es h x).2.1 (layNew t es h x).1.size:=by
 refine⟨layNew_fits t es h x,?_,?_⟩
 ·unfold layNew
  split
  ·rename_i slot wd hs
   dsimp only
   unfold SetTable.orStandIn
   split
   ·exact qNz _ _ g.rise (qKj hs)
   ·exact qCk _
  ·exact qCk _
 ·unfold layNew
  split
  ·dsimp only
   unfold SetTable.orStandIn
   split
   ·exact g.led
   ·exact g.led
  ·exact g.led
theorem qHp {b:Bool} {t:SetTable} {es:Array (Int×Value)} {m:Nat} (g:GoodT b t es.size):GoodT b (relayAll t es m).2.1 (relayAll t es m).1.size:=by
 refine⟨relayAll_fits t es m,?_,?_⟩
 ·unfold relayAll
  split
  ·rename_i t' order hr
   dsimp only
   split
   ·unfold SetTable.relaid SetTable.laid at hr
    cases hl:SetTable.layClean (SetTable.sizeAbove m - 1) (es.map (·.1)) with
    | none=>rw [hl] at hr;cases hr
    | some owner =>
     rw [hl] at hr
     cases hr
     show (((List.range _).filterMap fun j=>(owner.getD j none).map (j,·)).map (·.1)).Pairwise (· < ·)
     have hsub : ∀l:List Nat,((l.filterMap fun j=>(owner.getD j none).map (j,·)).map (·.1)).Sublist l:=by
      intro l
      induction l with
      | nil=>exact .slnil
      | cons a r ih =>
       rw [List.filterMap_cons]
       cases owner.getD a none with
       | none=>exact ih.cons _
       | some k=>exact ih.cons₂ a
     exact List.Pairwise.sublist (hsub _) List.pairwise_lt_range
   ·exact qCk _
  ·exact qCk _
 ·unfold relayAll
  split
  ·rename_i t' order hr
   dsimp only
   split
   ·unfold SetTable.relaid SetTable.laid at hr
    cases hl:SetTable.layClean (SetTable.sizeAbove m - 1) (es.map (·.1)) with
    | none=>rw [hl] at hr;cases hr
    | some owner=>rw [hl] at hr;cases hr;exact g.led
   ·exact g.led
  ·exact g.led
theorem GoodT.plainOff {b:Bool} {t:SetTable} {n:Nat} (g:GoodT b t n):GoodT b { t with plain:=false } n:=⟨SetTable.fits_plain_off g.fits,g.rise,g.led⟩
def keyI:Int×Value->Int
 | (_,.int n _)=>n
 | _=>0
def EI (e:Int×Value):Prop := ∃n t,e=(hashInt n,Value.int n t)
def qCp (w:World):Bool:=w.params.followText "set-order"
def SetI (w:World) (h:Heap) (a:Addr) (ns:List Int):Prop :=
 ∃o es ep t,h.get? a=some o/\o.ExactSet/\o.data = .set es ep t/\(∀e∈es.toList,EI e)/\(es.toList.map keyI).Perm ns/\ns.Nodup/\es.size<scanBound/\GoodT (!qCp w) t es.size
theorem EI.elems {P:Program} {w:World} {l:List (Int×Value)} (h : ∀e∈l,EI e):ElemsOf (intKind P w) l:=fun e he=>by
 obtain⟨n,t,rfl⟩:=h e he
 exact⟨⟨n,intKind_is P w n t,rfl⟩,rfl⟩
theorem qLa {P:Program} {w:World} {l:List (Int×Value)} (h : ∀e∈l,EI e) (n:Int):n∈l.map keyI ↔ ∃e∈l,(intKind P w).is n e.2=true:=by
 constructor
 ·intro hm
  obtain⟨e,he,q⟩:=List.mem_map.mp hm
  obtain⟨m,t,rfl⟩:=h e he
  cases q
  exact⟨_,he,intKind_is P w m t⟩
 ·rintro⟨e,he,q⟩
  obtain⟨m,t,rfl⟩:=h e he
  have:n=m:=(intKind P w).inj _ _ _ q (intKind_is P w m t)
  subst this
  exact List.mem_map.mpr ⟨_,he,rfl⟩
theorem SetI.len {w:World} {h:Heap} {a:Addr} {ns:List Int} (S:SetI w h a ns):ns.length<scanBound:=by
 obtain⟨o,es,ep,t,_,_,_,_,p,_,hb,_⟩:=S
 have:=p.length_eq
 rw [List.length_map,Array.length_toList] at this
 omega
theorem SetI.stay {w:World} {h h':Heap} {a:Addr} {ns:List Int} (S:SetI w h a ns) (k : ∀o,h.get? a=some o->h'.get? a=some o):SetI w h' a ns:=by
 obtain⟨o,es,ep,t,e,r⟩:=S
 exact⟨o,es,ep,t,k o e,r⟩
def addN (ns:List Int) (n:Int):List Int:=if n∈ns then ns else ns ++ [n]
theorem qDg {ns:List Int} {n:Int} (h:ns.Nodup):(addN ns n).Nodup:=by
 unfold addN;split
 ·exact h
 ·rename_i hn
  exact List.nodup_append.mpr ⟨h,by simp,by intro x hx y hy;simp at hy;subst hy;intro e;subst e;exact hn hx⟩
theorem qQu {ns:List Int} {n m:Int}:m∈addN ns n↔m∈ns\/m=n:=by
 unfold addN;split
 ·rename_i hn;constructor
  ·exact .inl
  ·rintro (h | rfl)
   ·exact h
   ·exact hn
 ·simp
theorem qRc {ns:List Int} {n:Int}:(addN ns n).length<=ns.length+1:=by
 unfold addN;split <;> simp
section
variable {P:Program} {w:World} {A:Around} {E:Value->Shared->Prop} {s:Shared}
theorem SetI.store {h:Heap} {a:Addr} {o:Obj} {es es':Array (Int×Value)} {ep:Nat} {t t':SetTable} {ns:List Int} (ho:h.get? a=some o) (hex:o.ExactSet) (hd:o.data = .set es ep t)
  (hel : ∀e∈es'.toList,EI e) (hp:(es'.toList.map keyI).Perm ns) (hn:ns.Nodup) (hb:es'.size<scanBound) (g:GoodT (!qCp w) t' es'.size) :
  (h.update a (Obj.putSet es' t')).get? a=some { o with data :=.set es' (ep+1) t' }/\SetI w (h.update a (Obj.putSet es' t')) a ns:=by
 have hg:=Heap.get?_update_self (Obj.putSet es' t') ho (by rw [putSet_of es' t' hd];rfl)
 rw [putSet_of es' t' hd] at hg
 exact⟨hg,_,es',ep+1,t',hg,hex,rfl,hel,hp,hn,hb,g⟩
theorem qJw {gw:Bool->Sem Unit} (hg : ∀(b:Bool) (s₁ : Shared) (Q':Unit->Shared->Prop),Q' () s₁ -> wpAny (model P w) A (gw b) Q' E s₁) {a:Addr} {o:Obj} {es:Array (Int×Value)} {ep:Nat} {t:SetTable}
  (ho:s.heap.get? a=some o) (hex:o.ExactSet) (hd:o.data = .set es ep t) {es1:Array (Int×Value)} {t2:SetTable} {ns:List Int} (hel : ∀e∈es1.toList,EI e) (hp:(es1.toList.map keyI).Perm ns) (hn:ns.Nodup)
  (hb:es1.size<scanBound) (g:GoodT (!qCp w) t2 es1.size) {wd:Bool} {R:Option Bool->Shared->Prop} (h : ∀h',Heap.SameBut a s.heap h'->SetI w h' a ns->R (some true) { s with heap:=h' }) :
  wpAny (model P w) A (do
    storeSet a es1 t2
    if (!wd&&t2.tooFull)=true then do
      gw (relayAll t2 es1 (SetTable.grown es1.size)).2.2
      storeSet a (relayAll t2 es1 (SetTable.grown es1.size)).1 (relayAll t2 es1 (SetTable.grown es1.size)).2.1
      pure (some true)
     else pure (some true)) R E s:=by
 refine wpAny_bind (wpAny_storeSet_of ho hd ?_ (fits_of_scanBound hb))
 obtain⟨ho1,hS1⟩:=SetI.store (w:=w) ho hex hd hel hp hn hb g
 have sb:=Heap.SameBut.update s.heap a (Obj.putSet es1 t2)
 split
 ·have hp2:=relayAll_perm t2 es1 (SetTable.grown es1.size)
  have g2:=qHp (m:=SetTable.grown es1.size) g
  generalize relayAll t2 es1 (SetTable.grown es1.size)=Rl at hp2 g2 ⊢
  obtain⟨es2,t3,gv⟩:=Rl
  dsimp only at hp2 g2 ⊢
  have hz:es2.size=es1.size:=by rw [<-Array.length_toList,hp2.length_eq,Array.length_toList]
  have hb2:es2.size<scanBound:=by omega
  refine wpAny_bind (hg _ _ _ (wpAny_bind (wpAny_storeSet_of ho1 rfl ?_ (fits_of_scanBound hb2))))
  exact wpAny_pure (h _ (sb.trans (Heap.SameBut.update _ a _)) (SetI.store (w:=w) ho1 hex rfl (fun e he=>hel e (hp2.mem_iff.mp he)) ((hp2.map keyI).trans hp) hn hb2 g2).2)
 ·exact wpAny_pure (h _ sb hS1)
theorem addI {a:Addr} {ns:List Int} {n:Int} {tk:Tok} {Q:Bool->Shared->Prop} (S:SetI w s.heap a ns) (hroom:ns.length+1<scanBound)
  (h : ∀h',Heap.SameBut a s.heap h'->SetI w h' a (addN ns n)->Q (!decide (n∈ns)) { s with heap:=h',toks:=s.toks+1 }) :
  wpAny (model P w) A (setAdd a (.int n tk)) Q E s:=by
 unfold setAdd
 refine wpAny_holding (wpAny_bind ((intKind P w).pyHash (k:=n) (intKind_is _ _ _ _) ?_))
 obtain⟨o,es,ep,t,ho,hex,hd,hel,hp,hn,hb,g⟩:=S
 have hlen:es.size=ns.length:=by rw [<-hp.length_eq,List.length_map,Array.length_toList]
 have he:=EI.elems (P:=P) (w:=w) hel
 have hkey:=intKind_is P w n tk
 unfold setAddHashed setAddHashedIn
 refine wpAny_holding (wpAny_bind (wpAny_setState_of (s :={ s with toks:=s.toks+1 }) ho hd g.fits ?_))
 dsimp only
 rw [byScan_of (knd:=intKind P w) (x :=.int n tk) rfl hb he]
 simp only [↓reduceIte]
 unfold setAddByScan
 refine wpAny_bind (wpAny_bind (wpAny_rule (wpAny_bind (wpAny_setScan_of (knd:=intKind P w) (k:=n) hkey ho hd g.fits he ?_))))
 cases hr:List.findIdx? (fun e=>(intKind P w).is n e.2) es.toList with
 | some j =>
  dsimp only
  obtain⟨hj,hpj,_⟩:=List.findIdx?_eq_some_iff_getElem.mp hr
  have hm:n∈ns:=hp.mem_iff.mp ((qLa (P:=P) (w:=w) hel n).mpr ⟨_,List.getElem_mem hj,hpj⟩)
  refine wpAny_pure (wpAny_pure ?_)
  have q:=h s.heap (Heap.SameBut.refl a s.heap) ⟨o,es,ep,t,ho,hex,hd,hel,by unfold addN;rw [if_pos hm];exact hp,qDg hn,hb,g⟩
  rw [decide_eq_true hm] at q
  exact q
 | none =>
  dsimp only
  have hm:n∉ns:=fun z=>by
   obtain⟨e,he,q⟩:=(qLa (P:=P) (w:=w) hel n).mp (hp.mem_iff.mpr z)
   have:=List.findIdx?_eq_none_iff.mp hr e he
   rw [q] at this;cases this
  have hgw : ∀(b:Bool) {s₁ : Shared} {Q':Unit->Shared->Prop},Q' () s₁ -> wpAny (model P w) A (match b with | true=>rule "set.scan.the-table-gave-way" | false=>pure ()) Q' E s₁ :=fun b s₁ Q' hq=>by
   cases b
   ·exact wpAny_pure hq
   ·exact wpAny_rule hq
  have hp1:=layNew_perm t es ((intKind P w).hash n) (.int n tk)
  have g1:=qKi (h:=(intKind P w).hash n) (x :=.int n tk) g
  generalize layNew t es ((intKind P w).hash n) (.int n tk)=L at hp1 g1 ⊢
  obtain⟨es1,t1,wd,gave⟩:=L
  dsimp only at hp1 g1 ⊢
  rw [Array.toList_push] at hp1
  have hel1 : ∀e∈es1.toList,EI e:=fun e he=>by
   rcases List.mem_append.mp (hp1.mem_iff.mp he) with z | z
   ·exact hel e z
   ·rw [List.mem_singleton] at z;exact⟨n,tk,z⟩
  have hz1:es1.size=es.size+1:=by rw [<-Array.length_toList,hp1.length_eq,List.length_append,Array.length_toList];rfl
  have hq1:(es1.toList.map keyI).Perm (addN ns n):=by
   unfold addN;rw [if_neg hm]
   refine (hp1.map keyI).trans ?_
   rw [List.map_append]
   exact hp.append_right _
  have fin : ∀h',Heap.SameBut a s.heap h'->SetI w h' a (addN ns n)->Q true { s with heap:=h',toks:=s.toks+1 }:=fun h' sb S'=>by
   have q:=h h' sb S'
   rw [decide_eq_false hm] at q;exact q
  refine wpAny_bind (hgw _ ?_)
  have gw2 : ∀(b:Bool) (s₁ : Shared) (Q':Unit->Shared->Prop),Q' () s₁ -> wpAny (model P w) A (match b with | true=>rule "set.scan.the-table-gave-way" | false=>pure ()) Q' E s₁ :=fun b s₁ Q' hq=>hgw b hq
  split
  ·refine wpAny_bind ?_
   rw [hashByValue_scannable 8 (x :=.int n tk) rfl]
   refine wpAny_pure ?_
   refine qJw (s :={ s with toks:=s.toks+1 }) (fun b s₁ Q' hq => ?_) ho hex hd hel1 hq1 (qDg hn) (by omega) ?_ (fun h' sb S' => ?_)
   ·cases b
    ·exact wpAny_pure hq
    ·exact wpAny_rule hq
   ·split
    ·exact g1
    ·exact g1.plainOff
   ·dsimp only;exact wpAny_pure (fin h' sb S')
  ·refine wpAny_bind (wpAny_pure ?_)
   simp only [↓reduceIte]
   refine qJw (s :={ s with toks:=s.toks+1 }) (fun b s₁ Q' hq => ?_) ho hex hd hel1 hq1 (qDg hn) (by omega) g1 (fun h' sb S' => ?_)
   ·cases b
    ·exact wpAny_pure hq
    ·exact wpAny_rule hq
   ·dsimp only;exact wpAny_pure (fin h' sb S')
end
theorem slot_si_next:Slot "set_iterator" "__next__" "set_iterator.__next__" :=.of (owner := "set_iterator") (n := "__next__") (by rw [typeLookup_type,builtinLookup_eq_fast];kernel_rfl) (by decide +kernel) (by decide +kernel) (by decide +kernel) (by first | exact .inl (by decide +kernel) | exact .inr (by decide +kernel)) (by rw [isSubtype_type];kernel_rfl)
theorem qEy:Slot "set_iterator" "__iter__" "set_iterator.__iter__" :=.of (owner := "set_iterator") (n := "__iter__") (by rw [typeLookup_type,builtinLookup_eq_fast];kernel_rfl) (by decide +kernel) (by decide +kernel) (by decide +kernel) (by first | exact .inl (by decide +kernel) | exact .inr (by decide +kernel)) (by rw [isSubtype_type];kernel_rfl)
theorem qEd:entryFor table "set_iterator.__next__" = some Builtin.«set_iterator.__next__» :=entryFor_of_tree (by kernel_rfl)
theorem qI3:entryFor table "set_iterator.__iter__" = some Builtin.«dict_keyiterator.__iter__» :=entryFor_alias (id' := "dict_keyiterator.__iter__") (by kernel_rfl) rfl (by decide +kernel) (by kernel_rfl)
theorem qF6 (a:Value):argsOk "set_iterator.__next__" ⟨[a],[]⟩:=by unfold argsOk;kernel_rfl
theorem qJv (a:Value):argsOk "set_iterator.__iter__" ⟨[a],[]⟩:=by unfold argsOk;kernel_rfl
theorem qGl:entryFor table "set.__iter__" = some Builtin.«frozenset.__iter__» :=entryFor_alias (id' := "frozenset.__iter__") (by kernel_rfl) rfl (by decide +kernel) (by kernel_rfl)
def SIter (h:Heap) (it:Addr) (first:Value) (i:Nat) (a:Addr) (n ep:Nat):Prop :=
 ∃o,h.get? it=some o/\o.cls = .type "set_iterator" /\ o.data = .fields #[first,.int i 0,.ref a,.int n 0,.int ep 0]
theorem SIter.ty {s:Shared} {it:Addr} {first:Value} {i:Nat} {a:Addr} {n ep:Nat} (h:SIter s.heap it first i a n ep):s.TypeIs (.ref it) "set_iterator" :=let ⟨o,e,c,_⟩:=h;⟨o,e,c⟩
theorem qDe {α : Type} : ∀ {l:List α} {i:Nat} (h:i<l.length),(l[i]::l.eraseIdx i).Perm l
 | a::r,0,_ =>.refl _
 | a::r,i+1,h=>by
  have h':i<r.length:=by simpa using h
  show ((r[i]'h')::a::r.eraseIdx i).Perm (a::r)
  exact (List.Perm.swap _ _ _).trans ((qDe h').cons a)
section
variable {P:Program} {w:World} {A:Around} {E:Value->Shared->Prop} {s:Shared}
theorem qSb {it a:Addr} {first:Value} {i n ep:Nat} {Q:Value->Shared->Prop} (h:SIter s.heap it first i a n ep) (q:Q (.ref it) s):wpAny (model P w) A (pyIter (.ref it)) Q E s:=by
 refine wpAny_pyIter_slot h.ty qEy (wpAny_call_entry qEy h.ty qI3 ?_ (qJv _))
 show wpAny _ _ (ret (.ref it)) _ _ s
 exact wpAny_pure ⟨_,rfl,"set_iterator",_,h.ty,slot_si_next.lookup,q⟩
theorem qMz {src:Source} {n:Nat} {Q:Nat->Shared->Prop} (hn:n≠0) (h : ∀i d,i<n->Q i { s with drawn:=d }):wpAny (model P w) A (choose src n) Q E s:=fun Γ p hΓ =>by
 unfold choose
 rw [Sem.wp_choose]
 exact⟨hn,h _ _ (Nat.mod_lt _ (Nat.pos_of_ne_zero hn))⟩
theorem qJe {α : Type} : ∀(xs:List α) {s:Shared} {Q:List α -> Shared->Prop},(∀ys d,ys.Perm xs->Q ys { s with drawn:=d })->wpAny (model P w) A (drawOrder xs.length xs) Q E s
 | [],s,Q,h=>by
  unfold drawOrder
  exact wpAny_pure (h [] s.drawn (.refl _))
 | x::r,s,Q,h=>by
  show wpAny _ _ (drawOrder (r.length+1) (x::r)) _ _ s
  unfold drawOrder
  refine wpAny_bind (qMz (by simp) fun i d hi => ?_)
  rw [List.getElem?_eq_getElem hi]
  dsimp only
  have hl:((x::r).eraseIdx i).length=r.length:=by rw [List.length_eraseIdx_of_lt hi];rfl
  rw [<-hl]
  refine wpAny_bind (qJe ((x::r).eraseIdx i) fun ys d' hp=>wpAny_pure (h _ d' ?_))
  exact (hp.cons _).trans (qDe hi)
 termination_by xs=>xs.length
theorem qO4 {α : Type} (f:Nat->Nat) : ∀(fuel k:Nat) (l:List α) (out:Array α),l.length=fuel->(pickOrder.go f fuel k l out).toList.Perm (out.toList++l)
 | 0,k,l,out,h=>by
  have:l = []:=List.length_eq_zero_iff.mp h
  subst this
  unfold pickOrder.go
  simp
 | fuel+1,k,l,out,h=>by
  unfold pickOrder.go
  have hl:f k%l.length<l.length:=Nat.mod_lt _ (by omega)
  rw [List.getElem?_eq_getElem hl]
  dsimp only
  refine (qO4 f fuel (k+1) _ _ (by rw [List.length_eraseIdx_of_lt hl];omega)).trans ?_
  rw [Array.toList_push,List.append_assoc]
  exact List.Perm.append_left _ (qDe hl)
theorem qO3 {α : Type} (f:Nat->Nat) (xs:Array α):(pickOrder f xs).toList.Perm xs.toList:=by
 unfold pickOrder
 have:=qO4 f xs.size 0 xs.toList #[] (by simp)
 simpa using this
end
theorem qFi {h:Heap} {it:Addr} {o:Obj} {vs:Array Value} (k:Nat) (v:Value) (ho:h.get? it=some o) (hd:o.data = .fields vs) :
  ∃o',(h.update it (Obj.mapFields (·.setIfInBounds k v))).get? it=some o'/\o'.cls=o.cls/\o'.data = .fields (vs.setIfInBounds k v) :=
 ⟨_,Heap.get?_update_self _ ho (Obj.isFreed_of_fields (Obj.data_mapFields hd _)),Obj.cls_mapFields ..,Obj.data_mapFields hd _⟩
def slotI (t:SetTable):Nat->Nat
 | 0=>0
 | i+1=>t.place.getD i 0+1
theorem qMw {t:SetTable} {n:Nat} (up:t.place.toList.Pairwise (· < ·)) {i:Nat} (hi:i<=t.place.size):SetTable.below t.place (slotI t i)=i:=by
 obtain⟨h1,h2,h3⟩:=qLr t.place (slotI t i) up
 generalize SetTable.below t.place (slotI t i)=b at *
 have lt : ∀(i k x y:Nat),t.place[i]? = some x->t.place[k]? = some y->i<k->x<y:=by
  intro i k x y hx hy hik
  rw [<-Array.getElem?_toList] at hx hy
  obtain⟨hi',rfl⟩:=List.getElem?_eq_some_iff.mp hx
  obtain⟨hk',rfl⟩:=List.getElem?_eq_some_iff.mp hy
  exact List.pairwise_iff_getElem.mp up i k hi' hk' hik
 cases i with
 | zero =>
  by_cases hb:b=0
  ·exact hb
  ·have h0:0<t.place.size:=by omega
   exact absurd (h2 0 _ (Array.getElem?_eq_getElem h0) (by omega)) (Nat.not_lt_zero _)
 | succ i =>
  have hx:t.place[i]? = some (t.place.getD i 0):=by
   have hlt:i<t.place.size:=by omega
   rw [Array.getD_eq_getD_getElem?,Array.getElem?_eq_getElem hlt];rfl
  rcases Nat.lt_trichotomy b (i+1) with z | z | z
  ·have:=h3 i _ hx (by omega)
   simp only [slotI] at this
   omega
  ·exact z
  ·have hlt:i+1<t.place.size:=by omega
   have q:=h2 (i+1) _ (Array.getElem?_eq_getElem hlt) z
   have r:=lt i (i+1) _ _ hx (Array.getElem?_eq_getElem hlt) (by omega)
   simp only [slotI] at q
   omega
inductive Mode (w:World) (h:Heap) (a:Addr) (es:Array (Int×Value)) (ep:Nat) (t:SetTable) (i:Nat):Value->List (Int×Value)->List Addr->Prop
 | told (sl:Nat) (b:qCp w=true):Mode w h a es ep t i (.int sl 0) (pickOrder (w.params.setOrder a ep) es).toList []
 | place (b:qCp w=false) (d:(!t.plain&&decide (es.size>1))=false):Mode w h a es ep t i (.int (slotI t i) 0) es.toList []
 | drawn (tp:Addr) (places:List Nat) (o:Obj) (n:Nat) (ord:List (Int×Value)) (e:h.get? tp=some o) (c:o.data = .seq (places.map fun (j:Nat)=>rawInt (j:Int)).toArray n) (q:places.map (fun j=>es[j]?)=ord.map some):Mode w h a es ep t i (.ref tp) ord [tp]
def SW (w:World) (it a:Addr) (es:Array (Int×Value)) (ep:Nat) (t:SetTable) (ord:List (Int×Value)) (ex:List Addr) (i:Nat) (h:Heap):Prop :=
 ∃first,SIter h it first i a es.size ep/\(∃o,h.get? a=some o/\o.data = .set es ep t)/\GoodT (!qCp w) t es.size/\ord.length=es.size/\Mode w h a es ep t i first ord ex
section
variable {P:Program} {w:World} {A:Around} {E:Value->Shared->Prop} {s:Shared} {it a:Addr} {es:Array (Int×Value)} {ep:Nat} {t:SetTable} {ord:List (Int×Value)} {ex:List Addr} {i:Nat}
theorem qP1 {t:SetTable} {n:Nat} (h:t.fits n=true):t.place.size=n:=by
 simp only [SetTable.fits,Bool.and_eq_true,beq_iff_eq] at h
 exact h.1
theorem qJ1 {o:Obj} {sl:Nat} {Q:Option (Value×Nat)->Shared->Prop} (ho:s.heap.get? a=some o) (hd:o.data = .set es ep t) (g:GoodT (!qCp w) t es.size) (b:qCp w=true)
  (q:Q (((pickOrder (w.params.setOrder a ep) es)[i]?).map fun e=>(e.2,sl)) s):wpAny (model P w) A (setNext a sl i ep) Q E s:=by
 unfold setNext
 refine wpAny_bind (wpAny_setState_of ho hd g.fits ?_)
 dsimp only
 unfold setsByText
 refine wpAny_bind (wpAny_bind (wpAny_askSetting (wpAny_pure ?_)))
 show wpAny _ _ (if w.params.followText "set-order" = true then _ else _) _ _ _
 rw [if_pos (show (w.params.followText "set-order")=true from b),if_neg (by simp)]
 unfold setWalk
 refine wpAny_bind (wpAny_bind (wpAny_setState_of ho hd g.fits ?_))
 dsimp only
 unfold setsByText
 refine wpAny_bind (wpAny_bind (wpAny_askSetting (wpAny_pure ?_)))
 show wpAny _ _ (if w.params.followText "set-order" = true then _ else _) _ _ _
 rw [if_pos (show (w.params.followText "set-order")=true from b)]
 refine wpAny_bind (wpAny_askSetting (wpAny_pure (wpAny_pure ?_)))
 exact q
theorem qH5 {o:Obj} {Q:Option (Value×Nat)->Shared->Prop} (ho:s.heap.get? a=some o) (hd:o.data = .set es ep t) (g:GoodT (!qCp w) t es.size) (b:qCp w=false) (d:(!t.plain&&decide (es.size>1))=false) (hi:i<=es.size)
  (q:Q ((es[i]?).map fun e=>(e.2,slotI t (i+1))) s):wpAny (model P w) A (setNext a (slotI t i) i ep) Q E s:=by
 have hz:=qP1 g.fits
 unfold setNext
 refine wpAny_bind (wpAny_setState_of ho hd g.fits ?_)
 dsimp only
 unfold setsByText
 refine wpAny_bind (wpAny_bind (wpAny_askSetting (wpAny_pure ?_)))
 show wpAny _ _ (if w.params.followText "set-order" = true then _ else _) _ _ _
 rw [if_neg (show ¬(w.params.followText "set-order")=true from fun z=>by rw [show (w.params.followText "set-order")=false from b] at z;cases z)]
 have led:t.led=true:=by rw [g.led,b];rfl
 split
 ·rename_i z
  exact absurd (show (!t.plain&&decide (es.size>1))=true from z) (by rw [d];exact Bool.false_ne_true)
 ·refine wpAny_bind ?_
  show wpAny _ _ (if (!t.led && !es.isEmpty)=true then unsupported "set:maker-not-led" else pure PUnit.unit) _ _ _
  rw [if_neg (by rw [led];simp)]
  refine wpAny_pure (wpAny_pure ?_)
  rw [qMw (n:=es.size) g.rise (by omega)]
  by_cases hlt:i<es.size
  ·have h1:es[i]? = some es[i]:=Array.getElem?_eq_getElem hlt
   have h2:t.place[i]? = some (t.place.getD i 0):=by
    have:i<t.place.size:=by omega
    rw [Array.getD_eq_getD_getElem?,Array.getElem?_eq_getElem this];rfl
   rw [h1] at q ⊢
   rw [h2]
   exact q
  ·have h1:es[i]? = none:=Array.getElem?_eq_none (by omega)
   rw [h1] at q ⊢
   exact q
theorem Mode.stay {h h':Heap} {first:Value} (m:Mode w h a es ep t i first ord ex) (k : ∀b∈ex,∀o,h.get? b=some o->h'.get? b=some o):Mode w h' a es ep t i first ord ex:=by
 cases m with
 | told sl b=>exact .told sl b
 | place b d=>exact .place b d
 | drawn tp places o n _ e c q=>exact .drawn tp places o n _ (k tp (by simp) _ e) c q
theorem qS6 {Q:Option Value->Shared->Prop} (hia:it≠a) (hie:it∉ex) (h:SW w it a es ep t ord ex i s.heap) {e:Int×Value} (he:ord[i]? = some e)
  (q : ∀h',SW w it a es ep t ord ex (i+1) h'->Heap.SameBut it s.heap h'->Q (some e.2) { s with heap:=h' }):wpAny (model P w) A (pyNext (.ref it)) Q E s:=by
 obtain⟨first,hit,⟨o,ho,hd⟩,g,hl,m⟩:=h
 obtain⟨oi,hoi,hc,hdi⟩:=id hit
 have hlt:i<es.size:=by rw [<-hl];exact (List.getElem?_eq_some_iff.mp he).1
 unfold pyNext
 refine wpAny_bind (wpAny_attempt (wpAny_callSpecial?_slot (name:=Str.ofString "__next__") hit.ty slot_si_next (wpAny_call_entry slot_si_next hit.ty qEd ?_ (qF6 _))))
 unfold Builtin.«set_iterator.__next__»
 refine wpAny_bind (m:=slotArgs "__next__" 0 _) (wpAny_pure ?_)
 refine wpAny_bind (wpAny_fieldsOf hoi hdi ?_)
 dsimp only
 refine wpAny_bind (wpAny_setEntries_of ho hd g.fits ?_)
 rw [if_neg (by simp)]
 have two : ∀(sl nx:Nat),first = .int sl 0->(∀h',Heap.SameBut it s.heap h'->Mode w h' a es ep t (i+1) (.int nx 0) ord ex) ->
   wpAny (model P w) A.in1 (do setField (Value.ref it) 0 (rawInt nx);setField (Value.ref it) 1 (rawInt ((i:Int)+1));ret e.2) (fun fin s' => ∃v,fin=Fin.done (Flow.ret v)/\wpAny (model P w) A (pure (some v)) Q E s')
    (fun e s'=>wpAny (model P w) A (do if (<-isInstance e (Value.type "StopIteration"))=true then pure none else throw e) Q E s') s:=by
  intro sl nx hf hm
  subst hf
  refine wpAny_bind (wpAny_setField hoi hdi (by simp) ?_)
  obtain⟨o1,e1,c1,d1⟩:=qFi 0 (rawInt nx) hoi hdi
  refine wpAny_bind (wpAny_setField e1 d1 (by simp) ?_)
  obtain⟨o2,e2,c2,d2⟩:=qFi 1 (rawInt ((i:Int)+1)) e1 d1
  have sb:Heap.SameBut it s.heap _:=(Heap.SameBut.update s.heap it (Obj.mapFields (·.setIfInBounds 0 (rawInt nx)))).trans (Heap.SameBut.update _ it (Obj.mapFields (·.setIfInBounds 1 (rawInt ((i:Int)+1)))))
  refine wpAny_pure ⟨_,rfl,wpAny_pure (q _ ⟨.int nx 0,⟨o2,e2,c2.trans (c1.trans hc),?_⟩,⟨o,(sb.2 a (Ne.symm hia)).trans ho,hd⟩,g,hl,hm _ sb⟩ sb)⟩
  rw [d2]
  simp [rawInt]
 cases m with
 | told sl b =>
  dsimp only
  simp only [Int.toNat_natCast]
  refine wpAny_bind (qJ1 (i:=i) ho hd g b ?_)
  rw [show (pickOrder (w.params.setOrder a ep) es)[i]? = some e by rw [<-Array.getElem?_toList];exact he]
  exact two sl sl rfl fun h' sb =>.told sl b
 | place b d =>
  dsimp only
  simp only [Int.toNat_natCast]
  refine wpAny_bind (qH5 (i:=i) ho hd g b d (by omega) ?_)
  rw [show es[i]? = some e by rw [<-Array.getElem?_toList];exact he]
  exact two _ _ rfl fun h' sb =>.place b d
 | drawn tp places op n _ eo c qq =>
  dsimp only
  refine wpAny_bind (wpAny_seqItems eo c ?_)
  dsimp only
  have hpl:places.length=ord.length:=by have:=congrArg List.length qq;simpa using this
  obtain⟨j,hj⟩ : ∃j,places[i]? = some j:=⟨_,List.getElem?_eq_getElem (by omega)⟩
  have hej:es[j]? = some e:=by
   have:=congrArg (fun l=>l[i]?) qq
   simp only [List.getElem?_map,hj,he,Option.map_some] at this
   exact Option.some.inj this
  have hji:(places.map fun (j:Nat)=>rawInt (j:Int)).toArray[((i:Int)).toNat]? = some (.int (j:Int) 0):=by
   rw [Int.toNat_natCast,List.getElem?_toArray,List.getElem?_map,hj];rfl
  rw [hji]
  dsimp only
  unfold setNextDrawn
  refine wpAny_bind (wpAny_bind (wpAny_setState_of ho hd g.fits ?_))
  dsimp only
  rw [if_neg (by simp)]
  rw [Int.toNat_natCast,hej]
  dsimp only
  refine wpAny_pure ?_
  refine wpAny_bind (wpAny_setField hoi hdi (by simp) ?_)
  obtain⟨o1,e1,c1,d1⟩:=qFi 1 (rawInt ((i:Int)+1)) hoi hdi
  have sb:Heap.SameBut it s.heap _:=Heap.SameBut.update s.heap it (Obj.mapFields (·.setIfInBounds 1 (rawInt ((i:Int)+1))))
  refine wpAny_pure ⟨_,rfl,wpAny_pure (q _ ⟨.ref tp,⟨o1,e1,c1.trans hc,?_⟩,⟨o,(sb.2 a (Ne.symm hia)).trans ho,hd⟩,g,hl,.drawn tp places op n _ ((sb.2 tp (by simpa using Ne.symm (a:=it) (by simpa using hie))).trans eo) c qq⟩ sb)⟩
  rw [d1]
  simp [rawInt]
end
section
variable {P:Program} {w:World} {A:Around} {E:Value->Shared->Prop} {s:Shared} {it a:Addr} {es:Array (Int×Value)} {ep:Nat} {t:SetTable} {ord:List (Int×Value)} {ex:List Addr} {i:Nat}
theorem qDr {s0:Shared} {Q:Option Value->Shared->Prop} {α : Type} {Q0 : α -> Shared->Prop} (hh:A.in1.handled=none) (hsb:Heap.ExtBut it s0.heap s.heap) (q : ∀h',Heap.ExtBut it s0.heap h'->Q none { s with heap:=h' }) :
  wpAny (model P w) A.in1 (do raiseNew (<-newExc (.type "StopIteration") [])) Q0 (fun e s'=>wpAny (model P w) A (do if (<-isInstance e (Value.type "StopIteration"))=true then pure none else throw e) Q E s') s:=by
 refine wpAny_bind ?_
 simp only [newExc,newTuple]
 refine wpAny_bind (wpAny_newObj_type ?_ (by size_fits))
 refine wpAny_bind (m:=firstArgMember _ _) (wpAny_of_eq (a:=Value.none) (by first | rfl | (simp only [firstArgMember];rfl)) ?_)
 refine wpAny_newObj_type ?_ (by size_fits)
 simp only [raiseNew]
 refine wpAny_bind (wpAny_handled ?_)
 rw [hh]
 refine wpAny_bind (wpAny_pure (wpAny_throw ?_))
 refine wpAny_bind (wpAny_isInstance (T := "StopIteration") (b:=true) ⟨_,Heap.get?_push_size _ rfl,rfl⟩ isSubtype_stop ?_)
 exact wpAny_pure (q _ ((hsb.push _).push _))
theorem qS7 {Q:Option Value->Shared->Prop} (hh:A.handled=none) (h:SW w it a es ep t ord ex es.size s.heap) (q : ∀h',Heap.ExtBut it s.heap h'->Q none { s with heap:=h' }):wpAny (model P w) A (pyNext (.ref it)) Q E s:=by
 obtain⟨first,hit,⟨o,ho,hd⟩,g,hl,m⟩:=h
 obtain⟨oi,hoi,hc,hdi⟩:=id hit
 unfold pyNext
 refine wpAny_bind (wpAny_attempt (wpAny_callSpecial?_slot (name:=Str.ofString "__next__") hit.ty slot_si_next (wpAny_call_entry slot_si_next hit.ty qEd ?_ (qF6 _))))
 unfold Builtin.«set_iterator.__next__»
 refine wpAny_bind (m:=slotArgs "__next__" 0 _) (wpAny_pure ?_)
 refine wpAny_bind (wpAny_fieldsOf hoi hdi ?_)
 dsimp only
 refine wpAny_bind (wpAny_setEntries_of ho hd g.fits ?_)
 rw [if_neg (by simp)]
 have hh1:A.in1.handled=none:=hh
 cases m with
 | told sl b =>
  dsimp only
  simp only [Int.toNat_natCast]
  refine wpAny_bind (qJ1 (i:=es.size) ho hd g b ?_)
  rw [show (pickOrder (w.params.setOrder a ep) es)[es.size]? = none by rw [<-Array.getElem?_toList];exact List.getElem?_eq_none (by omega)]
  dsimp only [Option.map]
  refine wpAny_bind (wpAny_setField hoi hdi (by simp) ?_)
  exact qDr (s0:=s) hh1 (Heap.SameBut.update ..).extBut q
 | place b d =>
  dsimp only
  simp only [Int.toNat_natCast]
  refine wpAny_bind (qH5 (i:=es.size) ho hd g b d (Nat.le_refl _) ?_)
  rw [show es[es.size]? = none from Array.getElem?_eq_none (Nat.le_refl _)]
  dsimp only [Option.map]
  refine wpAny_bind (wpAny_setField hoi hdi (by simp) ?_)
  exact qDr (s0:=s) hh1 (Heap.SameBut.update ..).extBut q
 | drawn tp places op n _ eo c qq =>
  dsimp only
  refine wpAny_bind (wpAny_seqItems eo c ?_)
  dsimp only
  have hpl:places.length=ord.length:=by have:=congrArg List.length qq;simpa using this
  have hji:(places.map fun (j:Nat)=>rawInt (j:Int)).toArray[((es.size:Int)).toNat]? = none:=by
   rw [Int.toNat_natCast,List.getElem?_toArray];exact List.getElem?_eq_none (by rw [List.length_map];omega)
  rw [hji]
  dsimp only
  refine wpAny_bind (wpAny_setField hoi hdi (by simp) ?_)
  obtain⟨o1,e1,c1,d1⟩:=qFi 0 (rawInt 0) hoi hdi
  refine wpAny_bind (wpAny_setField e1 d1 (by simp) ?_)
  exact qDr (s0:=s) hh1 ((Heap.SameBut.update ..).trans (Heap.SameBut.update ..)).extBut q
theorem qPy (hh:A.handled=none) (hia:it≠a) (hie:it∉ex):Walks P w A it (it::a::ex) [it] es.size (fun i v=>(ord[i]?).map (·.2)=some v) (SW w it a es ep t ord ex) where
 sub:=fun b hb=>by simp at hb;simp [hb]
 frame:=fun i h h' st k=>by
  obtain⟨first,⟨oi,hoi,hc,hdi⟩,⟨o,ho,hd⟩,g,hl,m⟩:=st
  exact⟨first,⟨oi,k it (by simp) _ hoi,hc,hdi⟩,⟨o,k a (by simp) _ ho,hd⟩,g,hl,m.stay fun b hb o e=>k b (by simp [hb]) o e⟩
 item:=fun i s Q E hi st q=>by
  obtain⟨first,_,_,_,hl,_⟩:=id st
  obtain⟨e,he⟩ : ∃e,ord[i]? = some e:=⟨_,List.getElem?_eq_getElem (by omega)⟩
  refine qS6 hia hie st he fun h' st' sb=>q e.2 h' s.toks (by rw [he];rfl) st' fun b o hb e => ?_
  exact (sb.2 b (by simpa using hb)).trans e
 done:=fun s Q E st q=>qS7 hh st fun h' xb=>q h' s.toks fun b o hb e=>xb b o (by simpa using hb) e
 self:=fun i s Q E st q=>by
  obtain⟨first,hit,_⟩:=st
  exact qSb hit q
theorem qOs {ns:List Int} {Q:Value->Shared->Prop} (S:SetI w s.heap a ns)
  (q : ∀(it:Addr) (es:Array (Int×Value)) (ep:Nat) (t:SetTable) (ord:List (Int×Value)) (ex:List Addr) (h':Heap) (d:Drawn),s.heap.objs.size<=it->it<h'.objs.size->(∀b∈ex,s.heap.objs.size<=b/\b<it)->a<s.heap.objs.size->(∀b u,s.heap.get? b=some u->h'.get? b=some u)->SW w it a es ep t ord ex 0 h'->(∀e∈ord,EI e)->(ord.map keyI).Perm ns->Q (.ref it) { s with heap:=h',drawn:=d }) :
  wpAny (model P w) A (pyIter (.ref a)) Q E s:=by
 obtain⟨o,es,ep,t,ho,hex,hd,hel,hp,hn,hb,g⟩:=S
 have hT:s.TypeIs (.ref a) "set" :=⟨o,ho,hex.1⟩
 have ha:a<s.heap.objs.size:=Heap.lt_size ho
 refine wpAny_pyIter_slot hT F.slot_set_iter (wpAny_call_entry F.slot_set_iter hT qGl ?_ (F.args_set_iter_1 _))
 unfold Builtin.«frozenset.__iter__» Builtin.Frozenset.slot0
 refine wpAny_bind (wpAny_bind (m:=slotArgs "__iter__" 0 _) (wpAny_pure ?_))
 unfold Builtin.Frozenset.addrOf
 refine wpAny_pure ?_
 unfold Builtin.Frozenset.sizeOf
 refine wpAny_bind (wpAny_bind (wpAny_setEntries_of ho hd g.fits (wpAny_pure ?_)))
 unfold setDrawn
 refine wpAny_bind (wpAny_bind (wpAny_setState_of ho hd g.fits ?_))
 dsimp only
 unfold setsByText
 refine wpAny_bind (wpAny_bind (wpAny_askSetting (wpAny_pure (wpAny_pure ?_))))
 show wpAny _ _ (if (!w.params.followText "set-order" && (!t.plain&&decide (es.size>1)))=true then _ else _) _ _ _
 have fin : ∀(s1:Shared) (first:Value) (ord:List (Int×Value)) (ex:List Addr),(∃h' d,s1 = { s with heap:=h',drawn:=d })->s.heap.objs.size<=s1.heap.objs.size->(∀b u,s.heap.get? b=some u->s1.heap.get? b=some u)->(∀b∈ex,s.heap.objs.size<=b/\b<s1.heap.objs.size)->ord.length=es.size->ord.Perm es.toList->(∀h',(∀b u,s1.heap.get? b=some u->h'.get? b=some u)->Mode w h' a es ep t 0 first ord ex) ->
   wpAny (model P w) A.in1 (do let x <-setEpoch a;let y <-newFields "set_iterator" [first,rawInt 0,Value.ref a,rawInt es.size,rawInt x];ret y) (fun fin s' => ∃v,fin=Fin.done (Flow.ret v) /\ ∃T' r,s'.TypeIs v T'/\typeLookup (Value.type T') (Str.ofString "__next__")=pure (some r)/\Q v s') E s1:=by
  rintro s1 first ord ex ⟨h',d,rfl⟩ hsz k hx hl hpm hm
  refine wpAny_bind (wpAny_setEpoch_of (k _ _ ho) hd g.fits ?_)
  refine wpAny_bind (wpAny_newObj_type (wpAny_pure ⟨_,rfl,"set_iterator",_,⟨_,Heap.get?_push_size _ rfl,rfl⟩,slot_si_next.lookup,?_⟩))
  refine q h'.objs.size es ep t ord ex _ d hsz (by rw [Heap.size_push];exact Nat.lt_succ_self _) hx ha (fun b u e=>Heap.get?_push_of_some _ (k b u e)) ⟨first,⟨_,Heap.get?_push_size _ rfl,rfl,rfl⟩,⟨o,Heap.get?_push_of_some _ (k _ _ ho),hd⟩,g,hl,hm _ fun b u e=>Heap.get?_push_of_some _ e⟩ (fun e he=>hel e (hpm.mem_iff.mp he)) ((hpm.map keyI).trans hp)
 cases hb2:qCp w with
 | true =>
  rw [if_neg (by rw [show w.params.followText "set-order" = true from hb2];simp)]
  refine wpAny_bind (wpAny_pure ?_)
  have hpm:=qO3 (w.params.setOrder a ep) es
  exact fin s (rawInt 0) _ [] ⟨s.heap,s.drawn,rfl⟩ (Nat.le_refl _) (fun _ _ e=>e) (fun b hb=>by simp at hb) (by rw [hpm.length_eq,Array.length_toList]) hpm (fun h' k =>.told 0 hb2)
 | false =>
  cases hd2:(!t.plain&&decide (es.size>1)) with
  | false =>
   rw [if_neg (by simp)]
   refine wpAny_bind (wpAny_pure ?_)
   exact fin s (rawInt 0) _ [] ⟨s.heap,s.drawn,rfl⟩ (Nat.le_refl _) (fun _ _ e=>e) (fun b hb=>by simp at hb) (Array.length_toList ..) (.refl _) (fun h' k =>.place hb2 hd2)
  | true =>
   rw [if_pos (by rw [show w.params.followText "set-order" = false from hb2];simp)]
   have hr:(List.range es.size).length=es.size:=List.length_range
   refine wpAny_bind ?_
   have hdp : ∀ {Q':List Nat->Shared->Prop},(∀ys d,ys.Perm (List.range es.size)->Q' ys { s with drawn:=d })->wpAny (model P w) A.in1 (drawOrder es.size (List.range es.size)) Q' E s:=fun {Q'} z=>by
    have z2:=qJe (P:=P) (w:=w) (A:=A.in1) (E:=E) (List.range es.size) (s:=s) (Q:=Q') z
    rw [hr] at z2
    exact z2
   refine hdp fun ys d hys => ?_
   refine wpAny_bind ?_
   have hyl:ys.length=es.size:=by rw [hys.length_eq,hr]
   simp only [newTuple]
   refine wpAny_newObj_type ?_ (by have:=fits_of_scanBound hb;show (List.map (fun (i:Nat)=>rawInt (i:Int)) ys).toArray.size<=sizeLine;rw [List.size_toArray,List.length_map];omega)
   have hord : ∀l:List Nat,(∀j∈l,j<es.size)->l.map (fun j=>es[j]?)=(l.filterMap fun j=>es[j]?).map some:=by
    intro l
    induction l with
    | nil=>intro _;rfl
    | cons j r ih =>
     intro hj
     have h1:es[j]? = some (es[j]'(hj j (by simp))):=Array.getElem?_eq_getElem _
     rw [List.map_cons,ih fun k hk=>hj k (by simp [hk]),List.filterMap_cons,h1];rfl
   have hlt : ∀j∈ys,j<es.size:=fun j hj=>List.mem_range.mp (hys.mem_iff.mp hj)
   have hq:=hord ys hlt
   have hpm:(ys.filterMap fun j=>es[j]?).Perm es.toList:=(hys.filterMap _).trans (by rw [filterMap_getElem?_range])
   exact fin _ (.ref s.heap.objs.size) _ [s.heap.objs.size] ⟨_,d,rfl⟩ (by show _<=(Heap.push _ _).objs.size;rw [Heap.size_push];exact Nat.le_succ _) (fun b u e=>Heap.get?_push_of_some _ e) (fun b hb=>by
    have e:b=s.heap.objs.size:=by simpa using hb
    rw [e];exact⟨Nat.le_refl _,by show _<(Heap.push _ _).objs.size;rw [Heap.size_push];exact Nat.lt_succ_self _⟩) (by have:=congrArg List.length hq;simp at this;omega) hpm (fun h' k =>.drawn s.heap.objs.size ys _ 0 _ (k _ _ (Heap.get?_push_size _ rfl)) rfl hq)
end
theorem qJ5:typeLookup (.type "set") "__len__" = pure (some (.builtin "set.__len__")):=F.slot_set_len.lookup
section
variable {P:Program} {w:World} {A:Around} {E:Value->Shared->Prop} {s:Shared} {a:Addr}
theorem qJj {ns:List Int} {Q:List Value->Shared->Prop} (hh:A.handled=none) (S:SetI w s.heap a ns)
  (q : ∀(vs:List Value) (ms:List Int) (h':Heap) (d:Drawn) (tk:Nat),(∀b u,s.heap.get? b=some u->h'.get? b=some u)->s.heap.objs.size<=h'.objs.size->IntsAre vs ms->ms.Perm ns->Q vs { s with heap:=h',drawn:=d,toks:=tk }) :
  wpAny (model P w) A (collect (.ref a)) Q E s:=by
 unfold collect
 refine wpAny_bind (wpAny_runValue (codeAny_builtin F.entry_proto_collect ?_))
 rw [Around.under_plainId F.plain_proto_collect _]
 show wpAny _ A.in1 (newList [] >>= fun l=>again (.builtin "list.__iadd__" ⟨[l,.ref a],[]⟩)) _ _ s
 refine wpAny_bind (wpAny_newObj_type ?_)
 refine wpAny_pure ⟨plainId_quiet F.plain_list_iadd _,codeAny_builtin F.entry_list_iadd ?_⟩
 rw [Around.under_plainId F.plain_list_iadd _]
 have k1 : ∀b u,s.heap.get? b=some u->(s.heap.push { cls :=.type "list",data :=.seq ([]:List Value).toArray }).get? b=some u:=fun b u e=>Heap.get?_push_of_some _ e
 have S1:=S.stay fun u e=>k1 a u e
 obtain⟨o,es0,ep0,t0,ho,hex,_⟩:=id S1
 have hT:Shared.TypeIs { s with heap:=s.heap.push { cls :=.type "list",data :=.seq ([]:List Value).toArray } } (.ref a) "set" :=⟨o,ho,hex.1⟩
 have haS:a<s.heap.objs.size:=by obtain⟨o,_,_,_,ho,_⟩:=S;exact Heap.lt_size ho
 show wpAny _ A.in1 (Builtin.List.listExtendWith (.ref s.heap.objs.size) (.ref a) (.ref s.heap.objs.size)) _ _ _
 unfold Builtin.List.listExtendWith
 refine wpAny_bind (wpAny_typeOf hT ?_)
 have h1:Builtin.List.listSameRef (.ref s.heap.objs.size) (.ref a)=false:=by simp [Builtin.List.listSameRef];exact Nat.ne_of_gt haS
 have h2:(Value.type "set" == Value.type "list")=false:=by decide
 have h3:(Value.type "set" == Value.type "tuple")=false:=by decide
 simp only [h1,h2,h3,Bool.or_false,Bool.false_eq_true,if_false]
 refine wpAny_bind (qOs S1 fun it es ep t ord ex h' d hit hit2 hx ha k sw hei hpm => ?_)
 refine wpAny_bind (wpAny_holding ?_)
 have hT':Shared.TypeIs { s with heap:=h',drawn:=d } (.ref a) "set" :=⟨o,k _ _ ho,hex.1⟩
 unfold Builtin.List.listLengthHint
 refine wpAny_bind (wpAny_specialOf hT' qJ5 ?_)
 have hsp:splitId "set.__len__" = some ("set","__len__"):=by kernel_rfl
 dsimp only
 rw [hsp]
 dsimp only
 refine wpAny_bind (wpAny_isInstance hT' sub_set_self ?_)
 rw [if_neg (by simp)]
 rw [if_pos (by decide +kernel)]
 refine wpAny_bind (wpAny_typeOf hT' (wpAny_pure ?_))
 rw [if_pos (by decide +kernel)]
 refine wpAny_bind (wpAny_rule ?_)
 have hS1:h'.get? s.heap.objs.size=some { cls :=.type "list",data :=.seq ([]:List Value).toArray }:=k _ _ (Heap.get?_push_size _ rfl)
 refine wpAny_bind ?_
 show wpAny _ A.in1 (updateSeq s.heap.objs.size (·.push .none) >>= fun _=>updateSeq s.heap.objs.size (·.pop)) _ _ _
 refine wpAny_bind (wpAny_updateSeq (s :={ s with heap:=h',drawn:=d }) hS1 rfl ?_)
 have hS2:=Heap.get?_update_self (Obj.mapSeq (·.push Value.none)) hS1 rfl
 refine wpAny_updateSeq hS2 rfl ?_
 have hS3:=Heap.get?_update_self (Obj.mapSeq (·.pop)) hS2 rfl
 have oth : ∀b u,b≠s.heap.objs.size->h'.get? b=some u->((h'.update s.heap.objs.size (Obj.mapSeq (·.push Value.none))).update s.heap.objs.size (Obj.mapSeq (·.pop))).get? b=some u :=
  fun b u hb e=>(Heap.get?_update_other _ _ (Ne.symm hb)).trans ((Heap.get?_update_other _ _ (Ne.symm hb)).trans e)
 rw [Heap.size_push] at hit ha
 have hia:it≠a:=Nat.ne_of_gt (Nat.lt_of_lt_of_le haS (Nat.le_trans (Nat.le_succ _) hit))
 have hie:it∉ex:=fun z=>Nat.lt_irrefl _ (hx it z).2
 have hSf:s.heap.objs.size∉it::a::ex:=fun z=>by
  rcases List.mem_cons.mp z with z | z
  ·exact Nat.ne_of_lt hit z
  ·rcases List.mem_cons.mp z with z | z
   ·exact Nat.ne_of_gt haS z
   ·have z2:=(hx _ z).1
    rw [show (Heap.push s.heap { cls :=.type "list",data :=.seq ([]:List Value).toArray }).objs.size=s.heap.objs.size+1 from Heap.size_push ..] at z2
    exact Nat.not_succ_le_self _ z2
 have hl:ord.length=es.size:=by obtain⟨_,_,_,_,hl,_⟩:=sw;exact hl
 have hz:es.size=ns.length:=by rw [<-hl,<-hpm.length_eq,List.length_map]
 have hzz:es.size<=sizeLine:=fits_of_scanBound (by rw [hz];exact S.len)
 have W:=(qPy (P:=P) (w:=w) (A:=A.in1) (it:=it) (a:=a) (es:=es) (ep:=ep) (t:=t) (ord:=ord) (ex:=ex) hh hia hie).toS
 refine wpAny_pure ⟨plainId_quiet F.plain_extend_loop _,codeAny_extend_loopS W hzz _ hSf _ es.size 0 _ _ _ rfl (Nat.zero_le _)
  (W.frame 0 ({ s with heap:=h',drawn:=d }:Shared) _ s.toks sw (Nat.le_refl _) fun b hb u e=>oth b u (fun z=>hSf (z▸hb)) e) hS3 (ItemsOf.nil _) fun s' acc' c' hm hS' hacc => ?_⟩
 show wpAny _ A (load s.heap.objs.size >>= _) _ _ s'
 refine wpAny_bind (wpAny_load hS' ?_)
 refine wpAny_pure ?_
 obtain⟨h2,g2,d2,tk2,os2⟩:=s'
 have e1:g2=s.gens:=hm.gens
 have e2:d2=d:=hm.drawn
 have e3:os2=s.os:=hm.os
 subst e1;subst e2;subst e3
 have k2 : ∀b u,s.heap.get? b=some u->h2.get? b=some u:=fun b u e=>by
  have hlt:=Heap.lt_size e
  exact hm.heap b u (fun z=>by
   rcases List.mem_cons.mp z with z | z
   ·exact Nat.ne_of_lt hlt z
   ·have z2:b=it:=by simpa using z
    exact Nat.ne_of_lt (Nat.lt_trans hlt hit) z2) (oth b u (Nat.ne_of_lt hlt) (k b u (k1 b u e)))
 refine q acc'.toList (ord.map keyI) h2 d2 tk2 k2 (Nat.le_of_lt (Heap.lt_size hS')) ?_ hpm
 have hget : ∀(i:Nat) (v:Value),acc'.toList[i]? = some v->(ord[i]?).map (·.2)=some v:=fun i v e=>hacc.2 i v (by rw [<-Array.getElem?_toList];exact e)
 have hlen:acc'.toList.length=ord.length:=by rw [Array.length_toList,hacc.1,hl]
 have fin : ∀(ord:List (Int×Value)) (vs:List Value),vs.length=ord.length->(∀e∈ord,EI e)->(∀(i:Nat) (v:Value),vs[i]? = some v->(ord[i]?).map (·.2)=some v)->IntsAre vs (ord.map keyI):=by
  intro ord
  induction ord with
  | nil=>intro vs h _ _;have:vs = []:=List.length_eq_zero_iff.mp h;subst this;exact .nil
  | cons e r ih =>
   intro vs h he hg
   cases vs with
   | nil=>cases h
   | cons v vr =>
    obtain⟨n,tk,rfl⟩:=he e (by simp)
    have:=hg 0 v rfl
    simp at this
    subst this
    exact .cons n tk (ih vr (by simpa using h) (fun e he'=>he e (by simp [he'])) (fun i v hv=>by simpa using hg (i+1) v (by simpa using hv)))
 exact fin ord acc'.toList hlen hei hget
end
theorem qM2 {h:Heap} {D:Addr} {vs:List Value} {out:Array Value} {n:Nat} (ho:h.get? D=some (seqObj "list" vs.toArray n)):(∃c,(sortedHeap h D vs out).get? D=some { cls :=.type "list",data :=.seq out c })/\(∀b u,b≠D->h.get? b=some u->(sortedHeap h D vs out).get? b=some u)/\h.objs.size<=(sortedHeap h D vs out).objs.size:=by
 unfold sortedHeap
 have h1:=get?_update_seq ho (fun _ => #[])
 have h2:=Heap.get?_push_of_some (seqObj "tuple" vs.toArray 0) h1
 have h3:=Heap.get?_push_of_some (seqObj "list" #[] 0) h2
 have h4:=get?_update_seq h3 (fun _=>out)
 refine⟨⟨_,h4⟩,fun b u hb e => ?_,?_⟩
 ·exact (Heap.get?_update_other _ _ (Ne.symm hb)).trans (Heap.get?_push_of_some _ (Heap.get?_push_of_some _ ((Heap.get?_update_other _ _ (Ne.symm hb)).trans e)))
 ·rw [Heap.size_update,Heap.size_push,Heap.size_push,Heap.size_update];omega
section
variable {P:Program} {w:World} {A:Around} {E:Value->Shared->Prop} {s:Shared} {a:Addr}
theorem qK5 {ns:List Int} {Q:Value->Shared->Prop} (hh:A.handled=none) (S:SetI w s.heap a ns) (h64:ns.length<64)
  (q : ∀(D:Addr) (out:Array Value) (c:Nat) (ns':List Int) (h':Heap) (d:Drawn) (tk:Nat),s.heap.objs.size<=D->h'.get? D=some { cls :=.type "list",data :=.seq out c }->(∀b u,s.heap.get? b=some u->h'.get? b=some u)->IntsAre out.toList ns'->ns'.Perm ns->ns'.Pairwise (· <= ·)->Q (.ref D) { s with heap:=h',drawn:=d,toks:=tk }) :
  wpAny (model P w) A (call (.builtin "sorted") [.ref a]) Q E s:=by
 refine Calls.call_function_entry kind_sorted plain_sorted entry_sorted (args_sorted1 _) ?_
 unfold Builtin.«sorted»
 refine wpAny_bind (m:=checkCount "sorted" 1 1 _) (wpAny_pure ?_)
 refine wpAny_bind (qJj (A:=A.in1) hh S fun vs ms h' d tk k hsz hI hpm => ?_)
 have hvl:vs.length<64:=by rw [IntsAre.length hI,hpm.length_eq];exact h64
 refine wpAny_bind (wpAny_newList ?_ (by rw [sizeLine_eq];omega))
 have hoL:(h'.push (seqObj "list" vs.toArray 0)).get? h'.objs.size=some (seqObj "list" vs.toArray 0):=Heap.get?_push_size _ rfl
 refine wpAny_bind (wpAny_holding (wpAny_call_entry slot_list_sort (s :={ s with heap:=h'.push (seqObj "list" vs.toArray 0),drawn:=d,toks:=tk }) ⟨_,hoL,rfl⟩ entry_list_sort (list_sort_tree hoL hI hvl fun out ns' a1 a2 a3=>⟨_,rfl,?_⟩) (args_list_sort _)))
 obtain⟨⟨c,e1⟩,e2,_⟩:=qM2 (out:=out) hoL
 exact wpAny_pure ⟨_,rfl,q h'.objs.size out c ns' _ d tk hsz e1 (fun b u e=>e2 b u (Nat.ne_of_lt (Heap.lt_size (k b u e))) (Heap.get?_push_of_some _ (k b u e))) a1 (a2.trans hpm) a3⟩
end
theorem Inv.drew {X:Cx} {pins:List (Addr×Obj)} {σ : St} {H:Hp} {s:Shared} {d:Drawn} (I:Inv X pins σ H s):Inv X pins σ H { s with drawn:=d }:=⟨I.ok,I.os,I.bare,I.base,I.loc,I.cell,I.free,I.freeC,I.pin,I.hok,I.len⟩
def setO (w:World) (ns:List Int):HO :=.ext fun a h=>SetI w h a ns
section
variable {X:Cx}
theorem qSc {w:World} {P:Program} {w':World} {H:Hp} {h:Heap} {a:Addr} {ns:List Int} (S:SetI w h a ns):ObjOk P w' H h a (setO w ns):=by
 refine⟨S,?_,fun h1 h2 S1 k=>S1.stay k⟩
 obtain⟨o,_,_,_,e,_⟩:=S
 exact⟨o,e⟩
theorem Inv.setI {pins:List (Addr×Obj)} {σ : St} {H:Hp} {s:Shared} {w:World} {a:Addr} {ns:List Int} (I:Inv X pins σ H s) (e:H a=some (setO w ns)):SetI w s.heap a ns:=(I.hok a _ e).1
def qUy (w:World):List V->Hp->VK->Prop:=fun xs H Q => ∃(a:Addr) (ns:List Int),xs = [.ref a]/\H a=some (setO w ns)/\ns.length<64 /\ ∀(l:Addr) (ns':List Int),H l=none->ns'.Perm ns->ns'.Pairwise (· <= ·)->Q (.ref l) (upd H l (.lst (ns'.map V.int)))
theorem qEu (hh:X.A.handled=none):CallR X (.builtin "sorted") (qUy X.w):=by
 intro pins s σ H xs us Q I r h
 obtain⟨a,ns,rfl,hq,hz,q⟩:=h
 obtain⟨u,rfl,ru⟩:=vals1 r
 cases ru
 refine qK5 hh (I.setI hq) hz fun D out c ns' h' d tk hD hget k a1 a2 a3 => ?_
 have hn:H D=none:=I.hok.fresh hD
 have rv':Vals (ns'.map V.int) out.toList:=qFn a1
 refine⟨.ref D,_,(I.laid (t':=tk) (o :=.lst (ns'.map V.int)) k hD ⟨?_,out.toList,c,rv',by simpa using hget⟩).drew,rfl,q _ ns' hn a2 a3⟩
 rw [List.length_map,a2.length_eq,sizeLine_eq];omega
end
def newS (w:World):Obj :={ cls :=.type "set",dict:=none,data :=.set #[] 0 (.fresh 0 0 (!qCp w)) }
theorem qTf {w:World} {h:Heap} {a:Addr} (e:h.get? a=some (newS w)):SetI w h a [] :=
 ⟨_,#[],0,_,e,⟨rfl,rfl,rfl⟩,rfl,fun e he=>by simp at he,.refl _,.nil,by decide,⟨rfl,.nil,rfl⟩⟩
def qBj (ms:List Int):List Int:=ms.foldl addN []
theorem qKo (ms:List Int) (n:Int):qBj (ms ++ [n])=addN (qBj ms) n:=by unfold qBj;rw [List.foldl_append];rfl
theorem qGh : ∀(ms ns:List Int),(ms.foldl addN ns).length<=ns.length+ms.length
 | [],ns=>Nat.le_refl _
 | m::r,ns=>by
  have h1:=qGh r (addN ns m)
  have h2:=qRc (ns:=ns) (n:=m)
  rw [List.foldl_cons,List.length_cons];omega
theorem qDh (ms:List Int):(qBj ms).length<=ms.length:=by have h:=qGh ms [];rw [List.length_nil,Nat.zero_add] at h;exact h
theorem qG3 {m:Int} : ∀(ms ns:List Int),m∈ms.foldl addN ns↔m∈ns\/m∈ms
 | [],ns=>by simp
 | k::r,ns=>by rw [List.foldl_cons,qG3 r,qQu,List.mem_cons,or_assoc]
theorem qEr {m:Int} (ms:List Int):m∈qBj ms↔m∈ms:=by unfold qBj;rw [qG3];simp
theorem qEh : ∀(ms ns:List Int),ns.Nodup->(ms.foldl addN ns).Nodup
 | [],ns,h=>h
 | k::r,ns,h=>qEh r _ (qDg h)
theorem qD2 (ms:List Int):(qBj ms).Nodup:=qEh ms [] .nil
section
variable {P:Program} {w:World} {A:Around} {R:Result->Shared->Prop} {I:Addr} {fp wr:List Addr} {G:Array GenState->Array GenState->Prop} {n:Nat} {T:Nat->Value->Prop} {St:Nat->Shared->Prop}
theorem qP2 (W:WalksS P w A.in1 I fp wr G n T St) (S:Addr) (hSf:S∉fp) (ms:List Int) (hms:ms.length=n) (hval : ∀i v,T i v -> ∃t,v = .int (ms.getD i 0) t) (hb:n+1<scanBound) :
  ∀(k i:Nat) (s:Shared),n - i=k->i<=n->St i s->SetI w s.heap S (qBj (ms.take i))->(∀s',Moved (S::wr) G s s'->SetI w s'.heap S (qBj ms)->R (.ok (.ret .none)) s') ->
   codeAny (model P w) A (.builtin "set.update.loop" ⟨[.ref S,.ref I],[]⟩) R s:=by
 have hSw:S∉wr:=fun h=>hSf (W.sub _ h)
 have hsub : ∀b∈wr,b∈S::wr:=fun b hb=>List.mem_cons_of_mem _ hb
 intro k
 induction k with
 | zero =>
  intro i s hk hi hst hS hR
  have hin:i=n:=by omega
  subst hin
  refine codeAny_builtin F.entry_set_update_loop ?_
  rw [Around.under_plainId F.plain_set_update_loop _]
  show wpAny _ A.in1 (pyNext (.ref I) >>= _) _ _ s
  refine wpAny_bind (W.done s _ _ hst fun s' hm => ?_)
  show wpAny _ A.in1 (ret Value.none) _ _ s'
  rw [<-hms,List.take_length] at hS
  exact wpAny_pure (hR s' (hm.mono hsub) (hS.stay fun o e=>hm.heap S _ hSw e))
 | succ k ih =>
  intro i s hk hi hst hS hR
  have hlt:i<n:=by omega
  refine codeAny_builtin F.entry_set_update_loop ?_
  rw [Around.under_plainId F.plain_set_update_loop _]
  show wpAny _ A.in1 (pyNext (.ref I) >>= _) _ _ s
  refine wpAny_bind (W.item i s _ _ hlt hst fun v s' hP hst' hm => ?_)
  obtain⟨t,rfl⟩:=hval i v hP
  have hS':SetI w s'.heap S (qBj (ms.take i)):=hS.stay fun o e=>hm.heap S _ hSw e
  show wpAny _ A.in1 (holding [Value.int (ms.getD i 0) t] (setAdd S (.int (ms.getD i 0) t)) >>= _) _ _ s'
  have hlen:=qDh (ms.take i)
  rw [List.length_take] at hlen
  refine wpAny_bind (wpAny_holding (addI hS' (by omega) fun h' sb S2 => ?_))
  have ht:ms.take (i+1)=ms.take i ++ [ms.getD i 0]:=by
   have h1:ms[i]? = some (ms.getD i 0):=by
    have:i<ms.length:=by omega
    rw [List.getD_eq_getElem?_getD,List.getElem?_eq_getElem this];rfl
   rw [List.take_add_one,h1];rfl
  rw [<-qKo,<-ht] at S2
  refine wpAny_pure ⟨plainId_quiet F.plain_set_update_loop _,ih (i+1) _ (by omega) hlt (W.frame _ s' _ _ hst' (Nat.le_succ _) fun b hb o e => ?_) S2 fun s'' hm'' hS'' => ?_⟩
  ·rw [sb.2 b (fun h:b=S=>hSf (by rw [<-h];exact hb))];exact e
  ·refine hR s'' (Moved.trans W.gtrans ((hm.mono hsub).then_heap (Nat.le_succ _) fun b o hb e => ?_) hm'') hS''
   rw [sb.2 b (fun h:b=S=>hb (by rw [h];exact List.mem_cons_self))];exact e
end
section
variable {P:Program} {w:World} {A:Around} {E:Value->Shared->Prop} {s:Shared}
theorem qM4 (a:Value) {Q₁ : Value->Shared->Prop} (h:Q₁ (.ref s.heap.objs.size) { s with heap:=s.heap.push (newS w) }) :
  codeAny (model P w) A (.call (.builtin "set.__new__") ⟨[.type "set",a],[]⟩) (wants Q₁ E) s:=by
 refine codeAny_of_tree ?_
 show wpAny _ A.in1 (do checkBuiltinCall "set.__new__" ⟨[.type "set",a],[]⟩;again (.builtin "set.__new__" ⟨[.type "set",a],[]⟩)) _ _ s
 refine wpAny_bind (wpAny_of_eq (F.newCall_set_1 a) (wpAny_pure ⟨plainId_quiet F.plain_set_new _,codeAny_builtin F.entry_set_new ?_⟩))
 rw [Around.under_plainId F.plain_set_new _]
 unfold Builtin.«set.__new__» Builtin.Frozenset.newClass
 have hsub:=sub_set_self
 obtain⟨hp,g,d,tk,os⟩:=s
 dsimp only
 wp_walk
 refine wpAny_askSetting (wpAny_pure ?_)
 dsimp only
 simp only [newObj]
 exact wpAny_bind (wpAny_alloc (wpAny_pure (wpAny_pure h)))
theorem qK7 {l:Addr} {items:Array Value} {ns:List Int} {Q:Value->Shared->Prop} (hh:A.handled=none) (hl:s.heap.IsList l items) (hi:IntsAre items.toList ns) (hb:items.size+1<scanBound)
  (h : ∀(h':Heap) (tk:Nat),SetI w h' s.heap.objs.size (qBj ns)->(∀b o,b<s.heap.objs.size->s.heap.get? b=some o->h'.get? b=some o)->Q (.ref s.heap.objs.size) { s with heap:=h',toks:=tk }) :
  wpAny (model P w) A (call (.type "set") [.ref l]) Q E s:=by
 obtain⟨c,tl,hmro⟩:=F.called_set.mro
 have hmade:=F.called_set.made
 have hsub:=F.called_set.sub
 refine wpAny_call (codeAny_of_tree ?_)
 show wpAny _ _ (callAny (.type "set") _) _ _ _
 refine wpAny_pure ⟨Code.quiet_builtin _ (by decide +kernel),codeAny_builtin F.entry_type_call ?_⟩
 rw [Around.under_plain (weight_type_call_type "set" [.ref l] []) rfl]
 have h1:=F.called_set.notType
 have h2:=F.called_set.canCreate
 have hct:=F.typeCall_set_1 (.ref l)
 repeat (any_goals (first | assumption | wp_step))
 refine codeAny_mono (qM4 (.ref l) (E:=E) (Q₁ :=fun obj s₁ =>obj = .ref s.heap.objs.size/\s₁ = { s with heap:=s.heap.push (newS w) }) ⟨rfl,rfl⟩) fun r s₁ hr => ?_
 cases r with
 | error e=>exact hr
 | ok fl =>
  cases fl with
  | ret obj =>
   obtain⟨rfl,rfl⟩:=hr
   have hS:(s.heap.push (newS w)).get? s.heap.objs.size=some (newS w):=Heap.get?_push_size _ rfl
   have hT:Shared.TypeIs { s with heap:=s.heap.push (newS w) } (.ref s.heap.objs.size) "set" :=⟨_,hS,rfl⟩
   have hli:=F.called_set.init.lookup
   have hbi:=F.called_set.init.bind (.ref s.heap.objs.size)
   repeat (any_goals (first | assumption | wp_step))
   refine codeAny_mono (codeAny_call_builtin (R:=wants (fun r s₂ =>r = .none /\ ∃h' tk,s₂ = { s with heap:=h',toks:=tk }/\SetI w h' s.heap.objs.size (qBj ns)/\(∀b o,b<s.heap.objs.size->s.heap.get? b=some o->h'.get? b=some o)) E) F.called_set.init.plain F.entry_set_init (check_set_init_1 hT ?_)) fun r₂ s₂ hr₂ => ?_
   ·obtain⟨ol,hol,hcl,nl,hdl⟩:=hl
    obtain⟨ocls,odict,odata,oslots⟩:=ol
    simp only at hcl hdl
    subst hcl;subst hdl
    have hol':(s.heap.push (newS w)).get? l=some { cls :=.type "list",dict:=odict,data :=.seq items nl,slots:=oslots }:=Heap.get?_push_of_some _ hol
    have hsls:=F.sub_list_set
    have hslf:=F.sub_list_frozenset
    have hne:(Value.type "list" == Value.type "dict")=false:=by decide
    have hl1:(s.heap.push (newS w)).IsList l items:=⟨_,hol',rfl,nl,rfl⟩
    unfold Builtin.«set.__init__» noKeywords Builtin.Frozenset.updateFrom
    generalize hPI:pyIter=PI
    wp_walk
    subst hPI
    refine wpAny_pyIter_list hl1 (wpAny_bind (wpAny_runValue ?_))
    have hlS:l<s.heap.objs.size:=Heap.lt_size hol
    have hh3:A.in1.in1.in1.handled=none:=hh
    have hneI:l≠(s.heap.push (newS w)).objs.size:=by rw [Heap.size_push];exact Nat.ne_of_lt (Nat.lt_succ_of_lt hlS)
    have hSf:s.heap.objs.size ∉ [(s.heap.push (newS w)).objs.size,l]:=by
     rw [Heap.size_push];simp only [List.mem_cons,List.mem_singleton,List.not_mem_nil,or_false,not_or]
     exact⟨Nat.ne_of_lt (Nat.lt_succ_self _),Nat.ne_of_gt hlS⟩
    have hlen:ns.length=items.size:=by rw [<-IntsAre.length hi,Array.length_toList]
    refine qP2 ((Walks.list hh3 _ l hneI items).toS) s.heap.objs.size hSf ns hlen (fun i v hv=>IntsAre.int_at hi i v (by rw [Array.getElem?_toList];exact hv)) hb (items.size - 0) 0 _ (by omega) (Nat.zero_le _) ⟨⟨_,Heap.get?_push_size _ rfl,rfl,rfl⟩,(hl1.push _)⟩ (qTf (Heap.get?_push_of_some _ hS)) ?_
    intro s' hm hS'
    obtain⟨h',g',d',tk',os'⟩:=s'
    have eg:g'=s.gens:=hm.gens
    have ed:d'=s.drawn:=hm.drawn
    have eo:os'=s.os:=hm.os
    subst eg;subst ed;subst eo
    show wpAny _ _ _ _ _ _
    refine wpAny_pure ?_
    show wpAny _ _ (ret Value.none) _ _ _
    refine wpAny_pure ⟨rfl,h',tk',rfl,hS',fun b o hb e => ?_⟩
    refine hm.heap b o (fun z => ?_) (Heap.get?_push_of_some _ (Heap.get?_push_of_some _ e))
    rcases List.mem_cons.mp z with z | z
    ·exact Nat.ne_of_lt hb z
    ·have z2:b=(s.heap.push (newS w)).objs.size:=by simpa using z
     rw [Heap.size_push] at z2
     exact Nat.ne_of_lt (Nat.lt_succ_of_lt hb) z2
   ·cases r₂ with
    | error e=>exact hr₂
    | ok fl₂ =>cases fl₂ with
     | ret r=>obtain⟨rfl,h',tk,rfl,hS',hk'⟩:=hr₂;(repeat (any_goals (first | assumption | wp_step)));exact h _ _ hS' hk'
     | _=>exact hr₂.elim
  | _=>exact hr.elim
end
section
variable {X:Cx}
def qV1 (w:World) (K:PySem.W.Frag):List V->Hp->VK->Prop:=fun xs H Q => ∃(a:Addr) (ns:List Int),xs = [.ref a]/\SqL K H a (ns.map V.int)/\ns.length+1<4096 /\ ∀l,H l=none->Q (.ref l) (upd H l (setO w (qBj ns)))
theorem qGf (hh:X.A.handled=none):CallR X (.type "set") (qV1 X.w X.K):=by
 intro pins s σ H xs us Q I r h
 obtain⟨a,ns,rfl,hq,hz,q⟩:=h
 obtain⟨u,rfl,ru⟩:=vals1 r
 cases ru
 obtain⟨its,rv,pl,_⟩:=I.list hq
 have hl:=rv.length
 rw [List.length_map] at hl
 refine qK7 hh pl.isList (qDc rv) (by rw [List.size_toArray];show its.length+1<4096;omega) fun h' tk S' k => ?_
 exact⟨.ref s.heap.objs.size,_,I.laid (t':=tk) (fun b u e=>k b u (Heap.lt_size e) e) (Nat.le_refl _) (qSc S'),rfl,q _ (I.hok.fresh (Nat.le_refl _))⟩
end
section
variable {K:PySem.W.Frag} {a:Addr} {xs:List V} {g:TG} {tt:TT} {B:TB} {σ : St} {H:Hp} {Q:St->Hp->Prop}
theorem qLb (Pv:Nat->St->Hp->Prop) (h0:Pv 0 σ H) (hl : ∀i σ H,i<=xs.length->Pv i σ H->SqT K H a xs)
  (hs : ∀i x σ H (R:St->Hp->Prop),xs[i]? = some x->Pv i σ H->(∀ σ' H',Pv (i+1) σ' H'->R σ' H')->g x σ H fun σ2 H2=>tt σ2 H2 fun b H3=>if b=true then B σ2 H3 R else R σ2 H3)
  (hd : ∀ σ H,Pv xs.length σ H->Q σ H):LoopT (Itt K a) g tt B σ H Q:=by
 refine qHz (n:=xs.length) Pv h0 (fun i σ H hi p=>⟨xs,xs[i],hl i σ H (Nat.le_of_lt hi) p,by simp [hi]⟩) (fun σ H p=>⟨xs,hl _ σ H (Nat.le_refl _) p,Nat.le_refl _⟩) (fun i σ H R hi p hR x H' y => ?_) hd
 obtain⟨e,y⟩:=y
 subst e
 exact hs i x σ _ R (y xs (hl i σ _ (Nat.le_of_lt hi) p)) p hR
end
def qF0 (m i:Int) (ns:List Int):List (Int×Int):=if ns = [] then [(i,m)] else ns.map fun x=>(i,x)
def rawTo (w:List Blk):Nat->List (Int×Int)
 | 0 =>[(-1,0)]
 | i+1=>rawTo w i++qF0 w.length i ((w[i]?.map Blk.ns).getD [])
theorem qFt {M m i:Int} {ns:List Int} (h:NsOk M ns):(qF0 m i ns).Perm (outs m i ns):=by
 unfold qF0 outs
 rcases h with z | ⟨x,z,_⟩ | ⟨x,y,z,_⟩ <;> subst z
 ·exact .refl _
 ·exact .refl _
 ·rw [if_neg (by simp),if_neg (by simp),List.append_nil]
  refine List.Perm.map _ ?_
  unfold srt
  dsimp only
  split
  ·exact .refl _
  ·exact List.Perm.swap _ _ _
theorem qD7 {m works:Int} {w:List Blk} (h:WorkOk m works w) : ∀n,(rawTo w n).Perm (qAj w n)
 | 0 =>.refl _
 | i+1=>by
  show (rawTo w i++qF0 _ _ _).Perm (qAj w i++outs w.length i ((w[i]?.map Blk.ns).getD []))
  refine (qD7 h i).append ?_
  cases e:w[i]? with
  | none=>exact qFt (M:=m) (.inl rfl)
  | some b=>exact qFt (h.blk b (List.mem_of_getElem? e)).ns
theorem qFm {m works:Int} {w:List Blk} (h:WorkOk m works w):(qAj w w.length).Pairwise ltP:=by
 rw [qE2]
 refine List.pairwise_cons.mpr ⟨fun p hp => ?_,qFr h _⟩
 have:=(qEz h hp).1
 exact .inl (by show (-1:Int)<p.1;omega)
theorem qIl {l:List (Int×Int)} (h:l.Pairwise ltP):l.Nodup:=h.imp fun {a b} hl e=>by subst e;exact ltP.irr hl
theorem qK8 {m works:Int} {w:List Blk} (h:WorkOk m works w):(rawTo w w.length).Nodup:=(qD7 h _).nodup_iff.mpr (qIl (qFm h))
theorem qIo {m works:Int} {w:List Blk} (h:WorkOk m works w) (i:Nat):(rawTo w i).length<=1+2*i:=by
 rw [(qD7 h i).length_eq];exact qBq (fun b hb=>(h.blk b hb).ns.few) i
def qHk (K:PySem.W.Frag):Sp:=fun vs H Q _ => ∃(a:Addr) (w:List Blk) (m works:Int),vs = [.ref a]/\Den K H (workD w) (.ref a)/\WorkOk m works w/\m<=12 /\
 ∀(l:Addr) (us:List V) (H':Hp),H l=none->Ext [] H H'->H' l=some (.lst us)->DenL K (yo H [l] H') ((qAj w w.length).map pairD) us->Q (.ref l) H'
def wr:Deed->Option Int
 | .set b _=>some b
 | .add b _=>some b
 | _=>none
def qFl (w:List Blk):List Int:=w.flatMap fun b=>b.ds.filterMap wr
def boxes (w:List Blk):List Int:=((List.range 8).map fun (n:Nat)=>(n:Int)).filter fun b=>decide (b∈qFl w)
theorem qNo : ∀ {l1 l2:List Int},l1.Pairwise (· < ·)->l2.Pairwise (· < ·)->(∀p,p∈l1↔p∈l2)->l1=l2
 | [],[],_,_,_=>rfl
 | [],q::l2,_,_,h=>absurd ((h q).mpr (List.mem_cons_self ..)) (by simp)
 | p::l1,[],_,_,h=>absurd ((h p).mp (List.mem_cons_self ..)) (by simp)
 | p::l1,q::l2,h1,h2,h=>by
  rw [List.pairwise_cons] at h1 h2
  have e:p=q:=by
   rcases List.mem_cons.mp ((h p).mp (List.mem_cons_self ..)) with z | z
   ·exact z
   ·rcases List.mem_cons.mp ((h q).mpr (List.mem_cons_self ..)) with y | y
    ·exact y.symm
    ·have:=h2.1 p z;have:=h1.1 q y;omega
  subst e
  refine congrArg (p :: ·) (qNo h1.2 h2.2 fun x=>⟨fun hx => ?_,fun hx => ?_⟩)
  ·rcases List.mem_cons.mp ((h x).mp (List.mem_cons_of_mem _ hx)) with z | z
   ·rw [z] at hx;have:=h1.1 p hx;omega
   ·exact z
  ·rcases List.mem_cons.mp ((h x).mpr (List.mem_cons_of_mem _ hx)) with z | z
   ·rw [z] at hx;have:=h2.1 p hx;omega
   ·exact z
theorem qPt {works:Int} {d:Deed} {b:Int} (h:qGj works d) (e:wr d=some b):0<=b/\b<8:=by
 cases d with
 | set x n=>cases e;exact⟨h.1,h.2.1⟩
 | add x o=>cases e;exact⟨h.1,h.2.1⟩
 | tell x=>cases e
 | call x=>cases e
 | save x=>cases e
 | back x=>cases e
theorem qCe {m works:Int} {w:List Blk} (h:WorkOk m works w) {b:Int} (hb:b∈qFl w):0<=b/\b<8:=by
 obtain⟨k,hk,hb⟩:=List.mem_flatMap.mp hb
 obtain⟨d,hd,e⟩:=List.mem_filterMap.mp hb
 exact qPt ((h.blk k hk).ds d hd) e
theorem qEv (w:List Blk):(boxes w).Pairwise (· < ·):=by
 unfold boxes
 refine List.Pairwise.filter _ ?_
 rw [List.pairwise_map]
 exact List.pairwise_lt_range.imp fun {a b} h=>by omega
theorem qJ4 {m works:Int} {w:List Blk} (h:WorkOk m works w) {b:Int}:b∈boxes w↔b∈qFl w:=by
 unfold boxes
 rw [List.mem_filter,decide_eq_true_eq]
 refine⟨fun z=>z.2,fun z=>⟨?_,z⟩⟩
 have:=qCe h z
 exact List.mem_map.mpr ⟨b.toNat,List.mem_range.mpr (by omega),by omega⟩
theorem qJq (w:List Blk):(boxes w).length<=8:=by
 unfold boxes
 refine Nat.le_trans (List.length_filter_le _ _) (by simp)
mutual
def tame:PyData->Bool
 | .int i=>decide (i.natAbs<10^13)
 | .str x=>x.cps.all (· < 0x110000)&&decide (x.cps.size<=10)
 | .list xs=>qAt xs
 | .tuple xs=>qAt xs
 | .none=>false
 | .bool _=>false
 | .dict _=>false
def qAt:List PyData->Bool
 | []=>true
 | x::xs=>tame x&&qAt xs
end
mutual
def cells:PyData->Nat
 | .list xs=>qB1 xs
 | .tuple xs=>qB1 xs
 | .int _=>0
 | .str _=>0
 | .none=>0
 | .bool _=>0
 | .dict _=>0
def qB1:List PyData->Nat
 | []=>0
 | x::xs=>cells x+1+qB1 xs
end
theorem qRt {n:Nat} (h:n<10^13):n.log2<44:=by
 by_cases hn:n=0
 ·subst hn;decide
 ·exact (Nat.log2_lt hn).mpr (Nat.lt_of_lt_of_le h (by decide))
mutual
theorem qFp : ∀d:PyData,tame d=true->PyData.showable d=true
 | .int i,h=>by
  have h1:i.natAbs<10^13:=by simpa only [tame,decide_eq_true_eq] using h
  have:=qRt h1
  simp only [PyData.showable,decide_eq_true_eq];omega
 | .str x,_=>rfl
 | .list xs,h=>qCq xs (by simpa only [tame] using h)
 | .tuple xs,h=>qCq xs (by simpa only [tame] using h)
theorem qCq : ∀ds:List PyData,qAt ds=true->PyData.showableAll ds=true
 | [],_=>rfl
 | x::xs,h=>by
  have h1:(tame x&&qAt xs)=true:=by simpa only [qAt] using h
  rw [Bool.and_eq_true] at h1
  simp only [PyData.showableAll,qFp x h1.1,qCq xs h1.2,Bool.and_self]
end
mutual
theorem qE3 : ∀d:PyData,tame d=true->PyData.canLay0 d=true
 | .int i,h=>rfl
 | .str x,h=>by
  have h1:(x.cps.all (· < 0x110000)&&decide (x.cps.size<=10))=true:=by simpa only [tame] using h
  rw [Bool.and_eq_true] at h1
  simpa only [PyData.canLay0,PyData.strOk] using h1.1
 | .list xs,h=>qDq xs (by simpa only [tame] using h)
 | .tuple xs,h=>qDq xs (by simpa only [tame] using h)
theorem qDq : ∀ds:List PyData,qAt ds=true->PyData.canLayAll0 ds=true
 | [],_=>rfl
 | x::xs,h=>by
  have h1:(tame x&&qAt xs)=true:=by simpa only [qAt] using h
  rw [Bool.and_eq_true] at h1
  simp only [PyData.canLayAll0,qE3 x h1.1,qDq xs h1.2,Bool.and_self]
end
mutual
theorem qEj : ∀d:PyData,tame d=true->PyData.intsShort 14 d=true
 | .int i,h=>by
  have h1:i.natAbs<10^13:=by simpa only [tame,decide_eq_true_eq] using h
  have e:=int_text_length_le10 (k:=13) (by decide) h1
  simp only [PyData.intsShort,decide_eq_true_eq]
  show (Str.ofString (toString i)).length<=14
  rw [PySem.ofString_length];exact e
 | .str x,h=>rfl
 | .list xs,h=>qCi xs (by simpa only [tame] using h)
 | .tuple xs,h=>qCi xs (by simpa only [tame] using h)
theorem qCi : ∀ds:List PyData,qAt ds=true->PyData.intsShortAll 14 ds=true
 | [],_=>rfl
 | x::xs,h=>by
  have h1:(tame x&&qAt xs)=true:=by simpa only [qAt] using h
  rw [Bool.and_eq_true] at h1
  simp only [PyData.intsShortAll,qEj x h1.1,qCi xs h1.2,Bool.and_self]
end
mutual
theorem qDp : ∀d:PyData,tame d=true->PyData.weight d<=46*cells d+45
 | .int i,h=>by
  have h1:i.natAbs<10^13:=by simpa only [tame,decide_eq_true_eq] using h
  have:=qRt h1
  simp only [PyData.weight,cells]
  split <;> omega
 | .str x,h=>by
  have h1:(x.cps.all (· < 0x110000)&&decide (x.cps.size<=10))=true:=by simpa only [tame] using h
  rw [Bool.and_eq_true,decide_eq_true_eq] at h1
  simp only [PyData.weight,cells];omega
 | .list xs,h=>by
  have:=qC7 xs (by simpa only [tame] using h)
  simp only [PyData.weight,cells];omega
 | .tuple xs,h=>by
  have:=qC7 xs (by simpa only [tame] using h)
  simp only [PyData.weight,cells];omega
theorem qC7 : ∀ds:List PyData,qAt ds=true->PyData.weightAll ds<=46*qB1 ds
 | [],_=>Nat.le_refl _
 | x::xs,h=>by
  have h1:(tame x&&qAt xs)=true:=by simpa only [qAt] using h
  rw [Bool.and_eq_true] at h1
  have h2:=qDp x h1.1
  have h3:=qC7 xs h1.2
  simp only [PyData.weightAll,qB1];omega
end
theorem qLy {d:PyData} (h:tame d=true) (hc:cells d<=5000) (hd:d.depth<=64):d.showable=true/\d.depth<=100/\d.shown.length<=sizeLine:=by
 refine⟨qFp d h,by omega,?_⟩
 have h1:=PyData.shown_le 14 (by decide) d (PyData.leavesShort_of_canLay0 14 d (qE3 d h) (qEj d h))
 have h2:=qDp d h
 have e:sizeLine=16777216:=by decide
 have h3:(14+2)*d.weight<=16*(46*5000+45):=Nat.mul_le_mul (by decide) (by omega)
 omega
theorem qCh {d:PyData} (h:tame d=true) (hd:d.depth<=64) (hs : ∃xs,d = .list xs):SeqAt.shaped d=true:=by
 obtain⟨xs,rfl⟩:=hs
 have h1:=qE3 _ h
 have h1:PyData.canLayAll0 xs=true:=by simpa only [PyData.canLay0] using h1
 show (PyData.canLayAll0 xs&&decide (PyData.depth (.list xs)<=64))=true
 rw [h1,decide_eq_true hd];rfl
theorem qJz {d:PyData} (h:tame d=true):d.hasDict=false:=PyData.hasDict_of_canLay _ (qE3 d h)
theorem qC0 {α : Type} {f : α -> PyData} : ∀ {l:List α},(∀x∈l,tame (f x)=true)->qAt (l.map f)=true
 | [],_=>rfl
 | x::r,h=>by
  simp only [List.map_cons,qAt,h x (List.mem_cons_self ..),qC0 fun y hy=>h y (List.mem_cons_of_mem _ hy),Bool.and_self]
theorem qBi {α : Type} {f : α -> PyData} {n:Nat} : ∀ {l:List α},(∀x∈l,cells (f x)<=n)->qB1 (l.map f)<=(n+1)*l.length
 | [],_=>Nat.zero_le _
 | x::r,h=>by
  have h1:=h x (List.mem_cons_self ..)
  have h2:=qBi (l:=r) fun y hy=>h y (List.mem_cons_of_mem _ hy)
  simp only [List.map_cons,qB1,List.length_cons,Nat.mul_add];omega
theorem qBh {α : Type} {f : α -> PyData} {n:Nat} : ∀ {l:List α},(∀x∈l,(f x).depth<=n)->PyData.depthAll (l.map f)<=n
 | [],_=>Nat.zero_le _
 | x::r,h=>by
  have h1:=h x (List.mem_cons_self ..)
  have h2:=qBh (l:=r) fun y hy=>h y (List.mem_cons_of_mem _ hy)
  simp only [List.map_cons,PyData.depthAll];omega
theorem qFb {i:Int} (h1 : -(10^12)<=i) (h2:i<=10^12):tame (.int i)=true:=by
 simp only [tame,decide_eq_true_eq];omega
theorem qBf {s:Str} (h:(s.cps.all (fun x=>decide (x<0x110000))&&decide (s.cps.size<=10))=true):tame (.str s)=true:=by simpa only [tame] using h
theorem qG9 {works:Int} {d:Deed} (hw:works<=100) (h:qGj works d):tame (deedD d)=true/\cells (deedD d)<=3/\(deedD d).depth<=1:=by
 have key : ∀(s:Str) (b:Int),tame (.str s)=true -> -(10^12)<=b->b<=10^12->tame (.tuple [.str s,.int b])=true:=fun s b hs h1 h2=>by
  simp only [tame,qAt,Bool.and_true] at hs ⊢
  rw [hs];simp only [Bool.true_and,decide_eq_true_eq];omega
 have key3 : ∀(s:Str) (b c:Int),tame (.str s)=true -> -(10^12)<=b->b<=10^12 -> -(10^12)<=c->c<=10^12->tame (.tuple [.str s,.int b,.int c])=true:=fun s b c hs h1 h2 h3 h4=>by
  simp only [tame,qAt,Bool.and_true] at hs ⊢
  rw [hs];simp only [Bool.true_and,Bool.and_eq_true,decide_eq_true_eq];omega
 cases d with
 | set b n=>obtain⟨h1,h2,h3,h4⟩:=h;exact⟨key3 _ _ _ (qBf (by decide +kernel)) (by omega) (by omega) h3 h4,by simp [deedD,cells,qB1],Nat.le_refl _⟩
 | add b n=>obtain⟨h1,h2,h3,h4⟩:=h;exact⟨key3 _ _ _ (qBf (by decide +kernel)) (by omega) (by omega) (by omega) (by omega),by simp [deedD,cells,qB1],Nat.le_refl _⟩
 | tell b=>obtain⟨h1,h2⟩:=h;exact⟨key _ _ (qBf (by decide +kernel)) (by omega) (by omega),by simp [deedD,cells,qB1],Nat.le_refl _⟩
 | call b=>obtain⟨h1,h2⟩:=h;exact⟨key _ _ (qBf (by decide +kernel)) (by omega) (by omega),by simp [deedD,cells,qB1],Nat.le_refl _⟩
 | save b=>obtain⟨h1,h2⟩:=h;exact⟨key _ _ (qBf (by decide +kernel)) (by omega) (by omega),by simp [deedD,cells,qB1],Nat.le_refl _⟩
 | back b=>obtain⟨h1,h2⟩:=h;exact⟨key _ _ (qBf (by decide +kernel)) (by omega) (by omega),by simp [deedD,cells,qB1],Nat.le_refl _⟩
theorem qR4 {m:Int} {ns:List Int} (hm:m<=12) (h:NsOk m ns):tame (endD ns)=true/\cells (endD ns)<=3/\(endD ns).depth<=1:=by
 have hs : ∀s:Str,tame (.str s)=true->(s.cps.all (fun x=>decide (x<0x110000))&&decide (s.cps.size<=10))=true:=fun s h=>by simpa only [tame] using h
 rcases h with z | ⟨x,z,h1,h2⟩ | ⟨x,y,z,_,h1,h2,h3,h4⟩ <;> subst z
 ·refine⟨?_,by simp [endD,cells,qB1],Nat.le_refl _⟩
  simp only [endD,tame,qAt,Bool.and_true]
  exact hs "out" (qBf (by decide +kernel))
 ·refine⟨?_,by simp [endD,cells,qB1],Nat.le_refl _⟩
  simp only [endD,tame,qAt,Bool.and_true]
  rw [hs "go" (qBf (by decide +kernel))];simp only [Bool.true_and,decide_eq_true_eq];omega
 ·refine⟨?_,by simp [endD,cells,qB1],Nat.le_refl _⟩
  simp only [endD,tame,qAt,Bool.and_true]
  rw [hs "fork" (qBf (by decide +kernel))];simp only [Bool.true_and,Bool.and_eq_true,decide_eq_true_eq];omega
theorem qI8 {m works:Int} {b:Blk} (hm:m<=12) (hw:works<=100) (h:BlkOk m works b):tame (blkD b)=true/\cells (blkD b)<=100/\(blkD b).depth<=3:=by
 obtain⟨e1,e2,e3⟩:=qR4 hm h.ns
 have d1:=qC0 (l:=b.ds) (f:=deedD) fun d hd=>(qG9 hw (h.ds d hd)).1
 have d2:=qBi (l:=b.ds) (f:=deedD) (n:=3) fun d hd=>(qG9 hw (h.ds d hd)).2.1
 have d3:=qBh (l:=b.ds) (f:=deedD) (n:=1) fun d hd=>(qG9 hw (h.ds d hd)).2.2
 have hf:=h.few
 refine⟨?_,?_,?_⟩
 ·simp only [blkD,tame,qAt,d1,e1,Bool.and_self]
 ·simp only [blkD,cells,qB1];omega
 ·show max (PyData.depthAll (b.ds.map deedD)+1) (max (endD b.ns).depth 0)+1<=3
  omega
theorem qN0 {m works:Int} {w:List Blk} (hm:m<=12) (hw:works<=100) (h:WorkOk m works w):tame (workD w)=true/\cells (workD w)<=5000/\(workD w).depth<=64:=by
 have d1:=qC0 (l:=w) (f:=blkD) fun b hb=>(qI8 hm hw (h.blk b hb)).1
 have d2:=qBi (l:=w) (f:=blkD) (n:=100) fun b hb=>(qI8 hm hw (h.blk b hb)).2.1
 have d3:=qBh (l:=w) (f:=blkD) (n:=3) fun b hb=>(qI8 hm hw (h.blk b hb)).2.2
 have hl:=h.len
 refine⟨?_,?_,?_⟩
 ·simp only [workD,tame,d1]
 ·simp only [workD,cells];omega
 ·show PyData.depthAll (w.map blkD)+1<=64
  omega
theorem qEc {ns:List Int} (h : ∀n∈ns,-1<=n/\n<=100) (hl:ns.length<=1000):tame (intsD ns)=true/\cells (intsD ns)<=5000/\(intsD ns).depth<=64:=by
 have d1:=qC0 (l:=ns) (f:=PyData.int) fun n hn=>by
  have:=h n hn
  simp only [tame,decide_eq_true_eq];omega
 have d2:=qBi (l:=ns) (f:=PyData.int) (n:=0) fun n hn=>Nat.le_refl _
 have d3:=qBh (l:=ns) (f:=PyData.int) (n:=0) fun n hn=>Nat.le_refl _
 refine⟨?_,?_,?_⟩
 ·simp only [intsD,tame,d1]
 ·simp only [intsD,cells];omega
 ·show PyData.depthAll (ns.map .int)+1<=64
  omega
theorem qLv {m works:Int} {w:List Blk} (hm:m<=12) (h:WorkOk m works w):(∀p∈qAj w w.length,-1<=p.1/\p.1<=100 /\ -1<=p.2/\p.2<=100)/\(qAj w w.length).length<=1000:=by
 have hl:=h.len
 constructor
 ·intro p hp
  rw [qE2] at hp
  rcases List.mem_cons.mp hp with z | z
  ·subst z;exact⟨by decide,by decide,by decide,by decide⟩
  ·obtain⟨h1,h2,h3,h4,_⟩:=qEz h z
   omega
 ·have:=qBq (fun b hb=>(h.blk b hb).ns.few) w.length
  omega
section
variable {X:Cx}
theorem qNq {bs:List Bool} {f:Nat->Bool} (hf : ∀i b,bs[i]? = some b->f i=b):(List.range bs.length).any f=bs.any id:=by
 rw [Bool.eq_iff_iff,List.any_eq_true,List.any_eq_true]
 constructor
 ·rintro⟨i,hi,h⟩
  have hi:=List.mem_range.mp hi
  have:=hf i bs[i] (List.getElem?_eq_getElem hi)
  exact⟨bs[i],List.getElem_mem hi,by rw [<-this];exact h⟩
 ·rintro⟨b,hb,h⟩
  obtain⟨i,hi,e⟩:=List.getElem_of_mem hb
  exact⟨i,List.mem_range.mpr hi,by rw [hf i b (by rw [List.getElem?_eq_getElem hi,e])];exact h⟩
def rAnyB (K:PySem.W.Frag):List V->Hp->VK->Prop:=fun xs H Q => ∃(a:Addr) (bs:List Bool),xs = [.ref a]/\SqL K H a (bs.map V.bl)/\Q (.bl (bs.any id)) H
theorem qPl (hh:X.A.handled=none):CallR X (.builtin "any") (rAnyB X.K):=by
 intro pins s σ H xs us Q I r h
 obtain⟨a,bs,rfl,hq,q⟩:=h
 obtain⟨u,rfl,ru⟩:=vals1 r
 cases ru
 obtain⟨its,rv,pl,_⟩:=I.list hq
 have hlen:=rv.length
 rw [List.length_map] at hlen
 have hl:=pl.isList
 have hne:a≠s.heap.objs.size:=by obtain⟨o,e,_⟩:=hl;exact Nat.ne_of_lt (Heap.lt_size e)
 have hval : ∀(i:Nat) (v:Value),its.toArray[i]? = some v->v = .bool (bs.getD i false):=fun i v e=>by
  rw [List.getElem?_toArray] at e
  have hi:i<bs.length:=by rw [hlen];exact (List.getElem?_eq_some_iff.mp e).1
  obtain⟨u,e2,r2⟩:=rv.get (i:=i) (x:=V.bl bs[i]) (by rw [List.getElem?_map,List.getElem?_eq_getElem hi];rfl)
  rw [e] at e2;cases e2
  have r2:v=Value.bool bs[i]:=r2
  rw [r2,List.getD_eq_getElem?_getD,List.getElem?_eq_getElem hi];rfl
 refine call_any_walk (wpAny_pyIter_list hl ⟨_,_,_,_,_,_,fun i=>bs.getD i false,rfl,Walks.list (by exact hh) _ a hne its.toArray,⟨⟨_,Heap.get?_push_size _ rfl,rfl,rfl⟩,hl.push _⟩,fun i v s Q E hP hQ => ?_,fun h' tk k => ?_⟩)
 ·rw [hval i v hP];exact wpAny_truthy_bool hQ
 ·have e:(List.range its.toArray.size).any (fun i=>bs.getD i false)=bs.any id:=by
   rw [List.size_toArray,<-hlen]
   exact qNq fun i b hb=>by rw [List.getD_eq_getElem?_getD,hb];rfl
  rw [e]
  exact⟨.bl (bs.any id),H,I.kept (t':=tk) (fun b o e=>k b o (by simpa using Nat.ne_of_lt (Heap.lt_size e)) (Heap.get?_push_of_some _ e)),rfl,q⟩
end
abbrev Pl:=Int×Int
def plK (p:Pl):List Key :=[.inl p.1,.inl p.2]
theorem qSr {p q:Pl} (h:plK p=plK q):p=q:=by
 obtain⟨a,b⟩:=p
 obtain⟨c,d⟩:=q
 simp only [plK,List.cons.injEq,Sum.inl.injEq,and_true] at h
 rw [h.1,h.2]
def TK (H H':Hp):Prop := ∀b xs,H b=some (.tup xs)->H' b=some (.tup xs)
theorem TK.trans {H H1 H2:Hp} (a:TK H H1) (b:TK H1 H2):TK H H2:=fun c xs h=>b c xs (a c xs h)
theorem Ext.tk {H H':Hp} (e:Ext [] H H'):TK H H':=fun b xs h=>e b _ (by simp) h
theorem TK.put {H:Hp} {t:Addr} {o:HO} (h : ∀ys,H t≠some (.tup ys)):TK H (upd H t o):=fun b xs e=>by
 have n:b≠t:=fun z=>by rw [z] at e;exact h xs e
 rw [qA4 n];exact e
def PlAt (H:Hp) (v:V) (p:Pl):Prop := ∃b,v = .ref b/\H b=some (.tup [.int p.1,.int p.2])
def PlsAt (H:Hp):List V->List Pl->Prop:=Paired (PlAt H)
theorem PlsAt.mono {H H':Hp} (k:TK H H') {vs:List V} {ps:List Pl} (h:PlsAt H vs ps):PlsAt H' vs ps:=Paired.mapP h fun _ _ ⟨b,e,q⟩=>⟨b,e,k _ _ q⟩
theorem PlsAt.len {H:Hp} {vs:List V} {ps:List Pl} (h:PlsAt H vs ps):vs.length=ps.length:=Paired.length h
theorem PlsAt.append {H:Hp} {vs ws:List V} {ps qs:List Pl} (h:PlsAt H vs ps) (k:PlsAt H ws qs):PlsAt H (vs++ws) (ps++qs):=by
 induction h with
 | nil=>exact k
 | cons a _ ih=>exact .cons a ih
theorem PlsAt.one {H:Hp} {b:Addr} {p:Pl} (h:H b=some (.tup [.int p.1,.int p.2])):PlsAt H [.ref b] [p] :=.cons ⟨b,rfl,h⟩ .nil
theorem PlsAt.last {H:Hp} : ∀ {vs:List V} {ps:List Pl} {y:Pl},PlsAt H vs (ps ++ [y]) -> ∃ws v,vs=ws ++ [v]/\PlsAt H ws ps/\PlAt H v y:=by
 intro vs ps
 induction ps generalizing vs with
 | nil =>
  intro y h
  cases h with
  | cons a r=>cases r;exact⟨[],_,rfl,.nil,a⟩
 | cons p r ih =>
  intro y h
  cases h with
  | cons a t =>
   obtain⟨ws,v,rfl,h1,h2⟩:=ih t
   exact⟨_::ws,v,rfl,.cons a h1,h2⟩
theorem PlsAt.den {K:PySem.W.Frag} {H:Hp} {vs:List V} {ps:List Pl} (h:PlsAt H vs ps):DenL K H (ps.map pairD) vs:=by
 induction h with
 | nil=>exact .nil
 | cons a _ ih=>obtain⟨b,e,q⟩:=a;subst e;exact .cons (.tuple (SqT.of q) (.cons .int (.cons .int .nil))) ih
inductive RT (N:Pl->List Pl) (a:Pl):Pl->Prop
 | refl:RT N a a
 | step {b c:Pl}:RT N a b->c∈N b->RT N a c
theorem RT.within {N:Pl->List Pl} {U:List Pl} {a b:Pl} (hc : ∀p∈U,∀q∈N p,q∈U) (ha:a∈U) (r:RT N a b):b∈U:=by
 induction r with
 | refl=>exact ha
 | step _ h ih=>exact hc _ ih _ h
def trueD (ks:List Pl):List (List Key×V):=ks.map fun p=>(plK p,V.bl true)
theorem qJy (y:Pl) : ∀ks:List Pl,valV (trueD ks) (plK y)=if y∈ks then some (V.bl true) else none
 | []=>rfl
 | k::r=>by
  have ih:=qJy y r
  unfold trueD at ih ⊢
  by_cases e:k=y
  ·subst e
   rw [List.map_cons,qF8 rfl,if_pos (List.mem_cons_self ..)]
  ·rw [List.map_cons,qF9 (fun z=>e (qSr z)),ih]
   have:(y∈k::r)↔y∈r:=by simp [Ne.symm e]
   simp only [this]
def dword:Deed->Str
 | .set _ _ => "set"
 | .add _ _ => "add"
 | .tell _ => "tell"
 | .call _ => "call"
 | .save _ => "save"
 | .back _ => "back"
def dargs:Deed->List Int
 | .set b n =>[b,n]
 | .add b o =>[b,o]
 | .tell b =>[b]
 | .call b =>[b]
 | .save b =>[b]
 | .back b =>[b]
def darg:Deed->Int
 | .set b _=>b
 | .add b _=>b
 | .tell b=>b
 | .call b=>b
 | .save b=>b
 | .back b=>b
theorem qTr (d:Deed):deedD d = .tuple (.str (dword d)::(dargs d).map .int):=by cases d <;> rfl
theorem qMr (d:Deed) : ∃r,dargs d=darg d::r:=by cases d <;> exact⟨_,rfl⟩
theorem qPd (d:Deed):1<=(dargs d).length/\(dargs d).length<=2:=by cases d <;> simp [dargs]
theorem qP8 (d:Deed):inV (V.str (dword d)) [V.str "set",.str "add"]=(wr d).isSome:=by cases d <;> first | rfl | (show inV (V.str _) _=_;simp only [dword,wr];decide)
def wrB (x:Int) (d:Deed):Bool:=(wr d).isSome&&decide (darg d=x)
def qVk:Deed->Bool
 | .add _ _=>true
 | .tell _=>true
 | _=>false
def rdB (x:Int) (d:Deed):Bool:=qVk d&&decide (x∈dargs d)
def qK4 (φ : Int->Deed->Bool) (K:PySem.W.Frag):Sp:=fun vs H Q _ => ∃(v:V) (d:Deed) (x:Int),vs = [v,.int x]/\Den K H (deedD d) v /\ ∀H',Ext [] H H'->Q (.bl (φ x d)) H'
def till (x:Int):List Deed->List Deed
 | [] =>[]
 | d::r=>if wrB x d=true then [d] else d::till x r
def wrote (x:Int) (ds:List Deed):Bool:=ds.any (wrB x)
def qEg:Deed->Option Int
 | .call c=>some c
 | _=>none
def qLh (d:Deed):Bool:=(qEg d).isSome
theorem qP9 (d:Deed):decide (dword d = "call")=qLh d:=by
 cases d with
 | call c=>exact decide_eq_true rfl
 | set _ _=>exact decide_eq_false (show ¬("set" : Str) = "call" by decide)
 | add _ _=>exact decide_eq_false (show ¬("add" : Str) = "call" by decide)
 | tell _=>exact decide_eq_false (show ¬("tell" : Str) = "call" by decide)
 | save _=>exact decide_eq_false (show ¬("save" : Str) = "call" by decide)
 | back _=>exact decide_eq_false (show ¬("back" : Str) = "call" by decide)
theorem qTv (d:Deed) (h:qLh d=true):qEg d=some (darg d):=by cases d <;> first | rfl | cases h
theorem qFa (x:Int) : ∀ds:List Deed,(till x ds).length<=ds.length
 | []=>Nat.le_refl _
 | d::r=>by
  unfold till
  split
  ·simp
  ·have:=qFa x r;simp;omega
theorem qKr {x:Int} {d:Deed} : ∀ {ds:List Deed},d∈till x ds->d∈ds
 | [],h=>h
 | e::r,h=>by
  unfold till at h
  split at h
  ·rw [List.mem_singleton.mp h];exact List.mem_cons_self ..
  ·rcases List.mem_cons.mp h with z | z
   ·rw [z];exact List.mem_cons_self ..
   ·exact List.mem_cons_of_mem _ (qKr z)
abbrev qCn (ws:List (List Blk)):PyData :=.list (ws.map workD)
def blkAt (ws:List (List Blk)) (p:Pl):Option Blk:=if 0<=p.1/\0<=p.2 then (ws[p.1.toNat]?).bind fun w=>w[p.2.toNat]? else none
def qGe (x:Int) (b:Blk):List Pl:=((till x b.ds).filterMap qEg).map fun c=>(c,0)
def metB (x n:Int) (b:Blk):List Pl:=qGe x b++(if wrote x b.ds=true then [] else b.ns.map fun t=>(n,t))
def metOf (ws:List (List Blk)) (x:Int) (p:Pl):List Pl:=match blkAt ws p with
 | none =>[]
 | some b=>metB x p.1 b
def readB (x:Int) (b:Blk):Bool:=(till x b.ds).any (rdB x)
def qIn (ws:List (List Blk)) (x:Int) (p:Pl):Bool:=match blkAt ws p with
 | none=>false
 | some b=>readB x b
def Asks (ws:List (List Blk)) (x:Int) (p:Pl):Prop := ∃q,RT (metOf ws x) p q/\qIn ws x q=true
structure WsOk (ws:List (List Blk)):Prop where
 all : ∀w∈ws,∃m:Int,1<=m/\m<=12/\WorkOk m (ws.length:Int) w
 one:1<=ws.length
 few:ws.length<=25
theorem qD0 (ws:List (List Blk)) (n a:Nat):blkAt ws ((n:Int),(a:Int))=(ws[n]?).bind fun w=>w[a]? :=by
 unfold blkAt
 rw [if_pos ⟨by omega,by omega⟩];rfl
theorem qEw {ws:List (List Blk)} {p:Pl} {b:Blk} (h:blkAt ws p=some b) : ∃(n a:Nat) (w:List Blk),p=((n:Int),(a:Int))/\ws[n]? = some w/\w[a]? = some b:=by
 unfold blkAt at h
 split at h
 ·rename_i hp
  cases e:ws[p.1.toNat]? with
  | none=>rw [e] at h;cases h
  | some w =>
   rw [e] at h
   refine⟨p.1.toNat,p.2.toNat,w,?_,e,h⟩
   rw [Int.toNat_of_nonneg hp.1,Int.toNat_of_nonneg hp.2]
 ·cases h
def places (ws:List (List Blk)):List Pl:=(List.range ws.length).flatMap fun (n:Nat)=>(List.range ((ws[n]?).getD []).length).map fun (a:Nat)=>((n:Int),(a:Int))
theorem mem_places {ws:List (List Blk)} {p:Pl}:p∈places ws ↔ ∃b,blkAt ws p=some b:=by
 unfold places
 rw [List.mem_flatMap]
 constructor
 ·rintro⟨n,hn,hp⟩
  obtain⟨a,ha,rfl⟩:=List.mem_map.mp hp
  rw [qD0]
  have hn:=List.mem_range.mp hn
  have ha:=List.mem_range.mp ha
  rw [List.getElem?_eq_getElem hn] at ha ⊢
  exact⟨_,List.getElem?_eq_getElem ha⟩
 ·rintro⟨b,hb⟩
  obtain⟨n,a,w,rfl,hw,ha⟩:=qEw hb
  refine⟨n,List.mem_range.mpr (List.getElem?_eq_some_iff.mp hw).1,List.mem_map.mpr ⟨a,List.mem_range.mpr ?_,rfl⟩⟩
  rw [hw]
  exact (List.getElem?_eq_some_iff.mp ha).1
theorem WsOk.blk {ws:List (List Blk)} (h:WsOk ws) {p:Pl} {b:Blk} (hb:blkAt ws p=some b) : ∃(m:Int) (n:Nat) (w:List Blk),p.1=(n:Int)/\ws[n]? = some w/\(w.length:Int)=m/\1<=m/\m<=12/\BlkOk m (ws.length:Int) b:=by
 obtain⟨n,a,w,rfl,hw,ha⟩:=qEw hb
 obtain⟨m,h1,h2,h3⟩:=h.all w (List.mem_of_getElem? hw)
 exact⟨m,n,w,rfl,hw,h3.len,h1,h2,h3.blk b (List.mem_of_getElem? ha)⟩
theorem qOi {ws:List (List Blk)} (h:WsOk ws) {x:Int} {p q:Pl} (hq:q∈metOf ws x p):q∈places ws:=by
 unfold metOf at hq
 split at hq
 ·cases hq
 ·rename_i b hb
  obtain⟨m,n,w,hp,hw,hm,hm1,hm2,hbok⟩:=h.blk hb
  unfold metB at hq
  rcases List.mem_append.mp hq with z | z
  ·unfold qGe at z
   obtain⟨c,hc,rfl⟩:=List.mem_map.mp z
   obtain⟨d,hd,e⟩:=List.mem_filterMap.mp hc
   have hdok:=hbok.ds d (qKr hd)
   have hcc:0<=c/\c<(ws.length:Int):=by
    cases d with
    | call c'=>cases e;exact hdok
    | set _ _=>cases e
    | add _ _=>cases e
    | tell _=>cases e
    | save _=>cases e
    | back _=>cases e
   obtain⟨k,rfl⟩:=Int.eq_ofNat_of_zero_le hcc.1
   have hk:k<ws.length:=by omega
   refine mem_places.mpr ?_
   have:=qD0 ws k 0
   show ∃b,blkAt ws ((k:Int),((0:Nat):Int))=some b
   rw [this,List.getElem?_eq_getElem hk]
   obtain⟨m',g1,g2,g3⟩:=h.all ws[k] (List.getElem_mem hk)
   have g4:=g3.len
   exact⟨_,List.getElem?_eq_getElem (by omega)⟩
  ·split at z
   ·cases z
   ·obtain⟨t,ht,rfl⟩:=List.mem_map.mp z
    have hr:=hbok.ns.range t ht
    obtain⟨k,rfl⟩:=Int.eq_ofNat_of_zero_le (show 0<=t by omega)
    refine mem_places.mpr ?_
    rw [hp,qD0,hw]
    exact⟨_,List.getElem?_eq_getElem (by omega)⟩
theorem qTh {ws:List (List Blk)} (h:WsOk ws) (x:Int) (p:Pl):(metOf ws x p).length<=22:=by
 unfold metOf
 split
 ·exact Nat.zero_le _
 ·rename_i b hb
  obtain⟨m,n,w,hp,hw,hm,hm1,hm2,hbok⟩:=h.blk hb
  unfold metB qGe
  have h1:=List.length_filterMap_le qEg (till x b.ds)
  have h2:=qFa x b.ds
  have h3:=hbok.few
  have h4:=hbok.ns.few
  rw [List.length_append,List.length_map]
  split
  ·simp;omega
  ·rw [List.length_map];omega
theorem qMa {ws:List (List Blk)} (h:WsOk ws):(places ws).length<=300:=by
 unfold places
 have key : ∀l:List Nat,(∀n∈l,n<ws.length)->(l.flatMap fun (n:Nat)=>(List.range ((ws[n]?).getD []).length).map fun (a:Nat)=>((n:Int),(a:Int))).length<=12*l.length:=by
  intro l
  induction l with
  | nil=>intro _;exact Nat.le_refl _
  | cons n r ih =>
   intro hl
   rw [List.flatMap_cons,List.length_append,List.length_map,List.length_range,List.length_cons]
   have h1:=ih fun m hm=>hl m (List.mem_cons_of_mem _ hm)
   have hn:=hl n (List.mem_cons_self ..)
   rw [List.getElem?_eq_getElem hn]
   obtain⟨m',g1,g2,g3⟩:=h.all ws[n] (List.getElem_mem hn)
   have g4:=g3.len
   show ws[n].length+_<=_
   omega
 have h1:=key (List.range ws.length) fun n hn=>List.mem_range.mp hn
 rw [List.length_range] at h1
 have:=h.few
 omega
def qTt (X:Cx) (own:List Str) (cap:List Nat) (scope:Scope) (y:Str) (cl:List (Str×Addr)) (s:Shared) (H:Hp) (ex:List Addr):Cx :=
 { qAk X own cap scope ((y,s.heap.objs.size+1)::cl) s H ex with fn:=fun x=>x == y }
theorem qGc {X:Cx} {own:List Str} {cap:List Nat} {scope:Scope} {y:Str} {cl:List (Str×Addr)} {s:Shared} {H:Hp} {ex:List Addr}:(qTt X own cap scope y cl s H ex).K=X.K:=rfl
noncomputable def askB (ws:List (List Blk)) (x:Int) (p:Pl):Bool :=@decide (Asks ws x p) (Classical.propDecidable _)
theorem askB_iff {ws:List (List Blk)} {x:Int} {p:Pl}:askB ws x p=true↔Asks ws x p:=by unfold askB;exact @decide_eq_true_iff _ (Classical.propDecidable _)
theorem qD3 (x:Int) (ds:List Deed) (d:Deed):wrote x (ds ++ [d])=(wrote x ds||wrB x d):=by unfold wrote;simp
theorem qFk {x:Int} {ds:List Deed} (h:wrote x ds=false) : ∀e∈ds,wrB x e=false:=by
 unfold wrote at h
 intro e he
 have:=List.any_eq_false.mp h e he
 simpa using this
theorem qCg {x:Int} {d:Deed} : ∀ {ds:List Deed},wrote x ds=false->till x (ds ++ [d])=till x ds ++ [d]
 | [],_=>by
  show (if wrB x d=true then [d] else d::till x []) = [d]
  split <;> rfl
 | e::r,h=>by
  have h1:=qFk h e (by simp)
  have h2:wrote x r=false:=by unfold wrote at h ⊢;simp at h ⊢;exact h.2
  simp only [List.cons_append,till]
  rw [if_neg (by rw [h1];exact Bool.false_ne_true),if_neg (by rw [h1];exact Bool.false_ne_true),qCg h2];rfl
theorem qCf {x:Int} : ∀ {ds es:List Deed},wrote x ds=true->till x (ds++es)=till x ds
 | [],es,h=>by cases h
 | e::r,es,h=>by
  simp only [List.cons_append,till]
  by_cases hw:wrB x e=true
  ·rw [if_pos hw,if_pos hw]
  ·have h2:wrote x r=true:=by
    unfold wrote at h ⊢
    rw [List.any_cons] at h
    rw [Bool.eq_false_iff.mpr hw,Bool.false_or] at h
    exact h
   rw [if_neg hw,if_neg hw,qCf h2]
theorem qPx {x:Int} {ds:List Deed} {j:Nat} {d:Deed} (h:wrote x (ds.take j)=false) (hd:ds[j]? = some d):d∈till x ds:=by
 have e:ds=(ds.take j ++ [d])++ds.drop (j+1):=by
  rw [<-qB6 hd,List.take_append_drop]
 have h1:=qCg (d:=d) h
 by_cases hw:wrB x d=true
 ·have h2:wrote x (ds.take j ++ [d])=true:=by rw [qD3,h,hw];rfl
  rw [e,qCf h2,h1]
  simp
 ·have all : ∀(as bs:List Deed),wrote x as=false -> ∀f∈as,f∈till x (as++bs):=by
   intro as bs
   induction as with
   | nil=>intro _ f hf;cases hf
   | cons a r ih =>
    intro ha f hf
    have h3:=qFk ha a (by simp)
    have h4:wrote x r=false:=by unfold wrote at ha ⊢;simp at ha ⊢;exact ha.2
    simp only [List.cons_append,till]
    rw [if_neg (by rw [h3];exact Bool.false_ne_true)]
    rcases List.mem_cons.mp hf with z | z
    ·rw [z];exact List.mem_cons_self ..
    ·exact List.mem_cons_of_mem _ (ih h4 f z)
  have h2:wrote x (ds.take j ++ [d])=false:=by rw [qD3,h,Bool.eq_false_iff.mpr hw];rfl
  rw [e]
  exact all _ _ h2 d (by simp)
theorem qI2 (ps:List (Int×Int)):PyData.eqv (qFz ps) (.list [])=decide (ps = []):=by
 cases ps with
 | nil=>rfl
 | cons p r=>rfl
def qFq (K:PySem.W.Frag):Sp:=fun vs H Q _ => ∃(wa:Addr) (ws:List (List Blk)) (n b:Nat) (x:Int),vs = [.ref wa,.int n,.int b,.int x]/\Den K H (qCn ws) (.ref wa)/\WsOk ws/\((n:Int),(b:Int))∈places ws /\ ∀H',Ext [] H H'->Q (.bl (askB ws x ((n:Int),(b:Int)))) H'
section
variable {X:Cx}
def rSumI (K:PySem.W.Frag):List V->Hp->VK->Prop:=fun xs H Q => ∃(a:Addr) (ns:List Int),xs = [.ref a]/\SqL K H a (ns.map V.int)/\Q (.int ns.sum) H
theorem qJl (hh:X.A.handled=none):CallR X (.builtin "sum") (rSumI X.K):=by
 intro pins s σ H xs us Q I r h
 obtain⟨a,ns,rfl,hq,q⟩:=h
 obtain⟨u,rfl,ru⟩:=vals1 r
 cases ru
 obtain⟨its,rv,pl,_⟩:=I.list hq
 have hi:=qDc rv
 obtain⟨xs,hx⟩:=hi.allInts.items
 have hl':s.heap.IsList a (intItems xs):=hx▸pl.isList
 refine sum_intListG hh hl' fun h' tk t' hk => ?_
 have e1:ns=xs.toList.map (·.1):=by
  rw [<-nums_intItems,<-hx]
  exact (show numsOf its.toArray.toList=ns from hi.numsOf).symm
 have e2:preSum (numAt xs) xs.size=ns.sum:=by rw [preSum_eq,List.take_of_length_le (by simp),e1]
 rw [e2]
 exact⟨.int ns.sum,H,I.kept (t':=tk) hk,⟨t',rfl⟩,q⟩
end
theorem sumK {X:Cx} (K:PySem.W.Frag) (hK:X.K=K) (hh:X.A.handled=none):CallR X (.builtin "sum") (rSumI K):=hK▸qJl hh
def qNd (K:PySem.W.Frag):Sp:=fun vs H Q _ => ∃(wa:Addr) (ws:List (List Blk)),vs = [.ref wa]/\Den K H (qCn ws) (.ref wa)/\ws.length<=25/\(∀w∈ws,w.length<=12) /\ ∀(r:Int) (H':Hp),Ext [] H H'->Q (.int r) H'
def slimB (b:Blk):Blk:=⟨b.ds.take 2,b.ns⟩
def qGp (ws:List (List Blk)):List (List Blk):=ws.take 1++(ws.drop 1).map fun w=>w.map slimB
theorem qFe (ws:List (List Blk)):(qGp ws).length=ws.length:=by unfold qGp;simp;omega
theorem qSa {ws:List (List Blk)} (h:WsOk ws):WsOk (qGp ws):=by
 refine⟨fun w hw => ?_,by rw [qFe];exact h.one,by rw [qFe];exact h.few⟩
 rw [qFe]
 unfold qGp at hw
 rcases List.mem_append.mp hw with z | z
 ·exact h.all w (List.mem_of_mem_take z)
 ·obtain⟨w0,hw0,rfl⟩:=List.mem_map.mp z
  obtain⟨m,h1,h2,h3⟩:=h.all w0 (List.mem_of_mem_drop hw0)
  refine⟨m,h1,h2,by rw [List.length_map];exact h3.len,fun b hb => ?_⟩
  obtain⟨b0,hb0,rfl⟩:=List.mem_map.mp hb
  have hb0:=h3.blk b0 hb0
  refine⟨hb0.ns,fun d hd=>hb0.ds d (List.mem_of_mem_take hd),?_⟩
  show (b0.ds.take 2).length<=20
  rw [List.length_take];omega
def hasW (wk:List Blk) (x:Int) (i:Nat):Bool:=(wk[i]?).any fun b=>wrote x b.ds
def wrTo (wk:List Blk) (x:Int) (i:Nat):List Int:=((List.range i).filter (hasW wk x)).map fun (n:Nat)=>(n:Int)
theorem qMy (wk:List Blk) (x:Int) (i:Nat):wrTo wk x (i+1)=if hasW wk x i=true then wrTo wk x i ++ [(i:Int)] else wrTo wk x i:=by
 unfold wrTo
 rw [List.range_succ,List.filter_append,List.filter_cons,List.filter_nil]
 split
 ·rw [List.map_append];rfl
 ·rw [List.append_nil]
theorem qE1 (wk:List Blk) (x:Int) (i:Nat):(wrTo wk x i).length<=i:=by
 unfold wrTo
 rw [List.length_map]
 have:=List.length_filter_le (hasW wk x) (List.range i)
 rw [List.length_range] at this
 exact this
theorem qTn {wk:List Blk} {x:Int} {i:Nat} {b:Blk} (h:wk[i]? = some b):hasW wk x i=wrote x b.ds:=by unfold hasW;rw [h];rfl
theorem mem_wrTo {wk:List Blk} {x y:Int} {i:Nat}:y∈wrTo wk x i ↔ ∃n:Nat,y=(n:Int)/\n<i/\hasW wk x n=true:=by
 unfold wrTo
 rw [List.mem_map]
 constructor
 ·rintro⟨n,hn,rfl⟩
  obtain⟨h1,h2⟩:=List.mem_filter.mp hn
  exact⟨n,rfl,List.mem_range.mp h1,h2⟩
 ·rintro⟨n,rfl,h1,h2⟩
  exact⟨n,List.mem_filter.mpr ⟨List.mem_range.mpr h1,h2⟩,rfl⟩
def qCs (K:PySem.W.Frag):Sp:=fun vs H Q _ => ∃(wa:Addr) (wk:List Blk) (m works x:Int),vs = [.ref wa,.int x]/\Den K H (workD wk) (.ref wa)/\WorkOk m works wk/\m<=12 /\
 ∀(l:Addr) (H':Hp),H l=none->Ext [] H H'->H' l=some (.lst ((wrTo wk x wk.length).map V.int))->Q (.ref l) H'
noncomputable def waitTo (ws:List (List Blk)) (x:Int) (n i:Nat):List Int:=((List.range i).filter fun (a:Nat)=>askB ws x ((n:Int),(a:Int))).map fun (a:Nat)=>(a:Int)
def qBr (wk:List Blk) (x:Int):List Int:=(wrTo wk x wk.length).flatMap (nxt wk)
theorem qI1 {α β : Type} (f : α -> List β) (h : ∀a,(f a).length<=2) : ∀l:List α,(l.flatMap f).length<=2*l.length
 | []=>Nat.le_refl _
 | a::r=>by
  have:=qI1 f h r
  have:=h a
  rw [List.flatMap_cons,List.length_append,List.length_cons];omega
def grow (nx:Int->List Int) (F:List Int) (b:Int):List Int:=F++(nx b).filter fun x => !decide (x∈F)
structure BehI (nx:Int->List Int) (ss:List Int) (m:Nat) (F:List Int):Prop where
 sub : ∀s∈ss,s∈F
 rk : ∀x∈F,∃s∈ss,Reach nx s x
 len:F.length<=ss.length+2*cnt (fun x=>decide (x∈F)) m
theorem BehI.start (nx:Int->List Int) (ss:List Int) (m:Nat):BehI nx ss m ss:=⟨fun _ h=>h,fun x h=>⟨x,h,.refl⟩,Nat.le_add_right _ _⟩
theorem mem_grow {nx:Int->List Int} {F:List Int} {b x:Int}:x∈grow nx F b↔x∈F\/x∈nx b:=by
 unfold grow
 rw [List.mem_append,List.mem_filter]
 by_cases h:x∈F <;> simp [h]
theorem BehI.grow {nx:Int->List Int} {ss F:List Int} {m:Nat} {b:Int} (h:BehI nx ss m F) (hb:b∈F) (few : ∀x,(nx x).length<=2) (hr : ∀x,(∃s∈ss,Reach nx s x)->0<=x/\x<(m:Int)):BehI nx ss m (grow nx F b):=by
 refine⟨fun s hs=>mem_grow.mpr (.inl (h.sub s hs)),fun x hx => ?_,?_⟩
 ·rcases mem_grow.mp hx with z | z
  ·exact h.rk x z
  ·obtain⟨s,hs,r⟩:=h.rk b hb
   exact⟨s,hs,.step r z⟩
 ·have hl:=h.len
  by_cases e:(nx b).filter (fun x => !decide (x∈F)) = []
  ·have:L2.grow nx F b=F:=by unfold L2.grow;rw [e,List.append_nil]
   rw [this];exact hl
  ·obtain⟨y,hy⟩:=List.exists_mem_of_ne_nil _ e
   obtain⟨hy1,hy2⟩:=List.mem_filter.mp hy
   have hyF:y∉F:=by simpa using hy2
   obtain⟨s,hs,r⟩:=h.rk b hb
   have hyr:=hr y ⟨s,hs,.step r hy1⟩
   have hlt:=qPg (p:=fun x=>decide (x∈F)) (q:=fun x=>decide (x∈L2.grow nx F b)) (x:=y) (fun i hi=>decide_eq_true (mem_grow.mpr (.inl (of_decide_eq_true hi)))) (decide_eq_true (mem_grow.mpr (.inr hy1))) (decide_eq_false hyF) m hyr.1 hyr.2
   have h1:=List.length_filter_le (fun x => !decide (x∈F)) (nx b)
   have h2:=few b
   have:(L2.grow nx F b).length=F.length+((nx b).filter fun x => !decide (x∈F)).length:=by unfold L2.grow;rw [List.length_append]
   omega
def Lays (nx:Int->List Int) (ss:List Int) (t:Nat) (F:List Int):Prop := ∀s∈ss,∀j,j<=t -> ∀x∈(lay nx s j).2,x∈F
theorem Lays.zero {nx:Int->List Int} {ss F:List Int} (h : ∀s∈ss,s∈F):Lays nx ss 0 F:=fun s hs j hj x hx=>by
 have:j=0:=by omega
 subst this
 have:x=s:=by simpa [lay] using hx
 rw [this];exact h s hs
theorem Lays.succ {nx:Int->List Int} {ss F G:List Int} {t:Nat} (h:Lays nx ss t F) (h1 : ∀x∈F,x∈G) (h2 : ∀b∈F,∀c∈nx b,c∈G):Lays nx ss (t+1) G:=fun s hs j hj x hx=>by
 by_cases e:j=t+1
 ·subst e
  obtain⟨⟨b,hb,hx1⟩,_⟩:=lay_further.mp hx
  exact h2 b (h s hs t (Nat.le_refl _) b hb) x hx1
 ·exact h1 x (h s hs j (by omega) x hx)
theorem Lays.all {nx:Int->List Int} {ss F:List Int} {m:Nat} (h:Lays nx ss m F) (I:BehI nx ss m F) (hr : ∀x,(∃s∈ss,Reach nx s x)->0<=x/\x<(m:Int)) (x:Int):x∈F ↔ ∃s∈ss,Reach nx s x:=by
 refine⟨I.rk x,fun ⟨s,hs,r⟩ => ?_⟩
 obtain⟨j,hj,hx⟩:=qTl (m:=m) (fun y i hy=>hr y ⟨s,hs,qJa hy⟩) r
 exact h s hs j hj x hx
def qHn (K:PySem.W.Frag):Sp:=fun vs H Q _ => ∃(wa:Addr) (wk:List Blk) (m works x:Int),vs = [.ref wa,.int x]/\Den K H (workD wk) (.ref wa)/\WorkOk m works wk/\m<=12 /\
 ∀(l:Addr) (ns:List Int) (H':Hp),H l=none->Ext [] H H'->H' l=some (.lst (ns.map V.int))->ns.Pairwise (· <= ·)->ns.Nodup->(∀y,y∈ns ↔ ∃s∈qBr wk x,Reach (nxt wk) s y)->Q (.ref l) H'
mutual
def noI:PyData->Bool
 | .list ds=>noIs ds&&(match ds with | .int _::_=>false | _=>true)
 | .tuple ds=>noIs ds
 | _=>true
def noIs:List PyData->Bool
 | []=>true
 | d::ds=>noI d&&noIs ds
end
section
variable {K:PySem.W.Frag} {H:Hp} {t:Addr} {x:Int} {r:List V}
theorem qRj {a:Addr} {o:HO} (h:a≠t) (e:Rd H a o):Rd (wo [t] H) a o:=by
 have hn:a ∉ [t]:=by simpa using h
 rcases e with e | ⟨u,e⟩
 ·exact .inl (by rw [qCo hn];exact e)
 ·exact .inr ⟨u,by rw [qCo hn];exact e⟩
mutual
theorem Den.off (ht:H t=some (.lst (.int x::r))) : ∀ {d:PyData} {v:V},noI d=true->Den K H d v->Den K (wo [t] H) d v
 | .none,_,_,e=>by simp only [Den] at e ⊢;exact e
 | .bool _,_,_,e=>by simp only [Den] at e ⊢;exact e
 | .int _,_,_,e=>by simp only [Den] at e ⊢;exact e
 | .str _,_,_,e=>by simp only [Den] at e ⊢;exact e
 | .list ds,_,hn,e=>by
  simp only [Den] at e ⊢
  obtain⟨a,vs,e1,e2,e3⟩:=e
  simp only [noI,Bool.and_eq_true] at hn
  refine⟨a,vs,e1,?_,DenL.off ht hn.1 e3⟩
  rcases e2 with e2 | e2
  ·refine .inl (qRj (fun h => ?_) e2)
   subst h
   rcases e2 with e2 | ⟨o,e2⟩
   ·rw [ht] at e2
    cases e2
    cases ds with
    | nil=>have:=e3.ofNil;cases this
    | cons d ds =>
     obtain⟨v,r',e4,e5,_⟩:=e3.ofCons
     cases e4
     cases d with
     | int i=>simp at hn
     | none=>simp only [Den] at e5;cases e5
     | bool=>simp only [Den] at e5;cases e5
     | str=>simp only [Den] at e5;cases e5
     | list=>simp only [Den] at e5;obtain⟨_,_,z,_⟩:=e5;cases z
     | tuple=>simp only [Den] at e5;obtain⟨_,_,z,_⟩:=e5;cases z
     | dict=>simp only [Den] at e5
   ·rw [ht] at e2;cases e2
  ·exact .inr e2
 | .tuple ds,_,hn,e=>by
  simp only [Den] at e ⊢
  obtain⟨a,vs,e1,e2,e3⟩:=e
  simp only [noI] at hn
  refine⟨a,vs,e1,?_,DenL.off ht hn e3⟩
  rcases e2 with e2 | e2
  ·refine .inl (qRj (fun h => ?_) e2)
   subst h
   rcases e2 with e2 | ⟨o,e2⟩
   ·rw [ht] at e2;cases e2
   ·rw [ht] at e2;cases e2
  ·exact .inr e2
 | .dict _,_,_,e=>by simp only [Den] at e
theorem DenL.off (ht:H t=some (.lst (.int x::r))) : ∀ {ds:List PyData} {vs:List V},noIs ds=true->DenL K H ds vs->DenL K (wo [t] H) ds vs
 | [],_,_,e=>by simp only [DenL] at e ⊢;exact e
 | d::ds,_,hn,e=>by
  simp only [DenL] at e ⊢
  simp only [noIs,Bool.and_eq_true] at hn
  obtain⟨v,r,e1,e2,e3⟩:=e
  exact⟨v,r,e1,Den.off ht hn.1 e2,DenL.off ht hn.2 e3⟩
end
end
theorem qFg {α : Type} {f : α -> PyData} : ∀ {l:List α},(∀a∈l,noI (f a)=true)->noIs (l.map f)=true
 | [],_=>rfl
 | a::l,h=>by
  simp only [List.map_cons,noIs,Bool.and_eq_true]
  exact⟨h a (List.mem_cons_self ..),qFg fun b hb=>h b (List.mem_cons_of_mem _ hb)⟩
theorem qQq (d:Deed):noI (deedD d)=true:=by cases d <;> rfl
theorem qTd (ns:List Int):noI (endD ns)=true:=by
 match ns with
 | []=>rfl
 | [x]=>rfl
 | x::y::_=>rfl
theorem qTe (b:Blk):noI (blkD b)=true:=by
 simp only [blkD,noI,noIs,qTd,Bool.and_true,Bool.and_eq_true]
 refine⟨qFg fun d _=>qQq d,?_⟩
 cases b.ds with
 | nil=>rfl
 | cons d ds=>cases d <;> rfl
theorem qQp (w:List Blk):noI (workD w)=true:=by
 simp only [workD,noI,Bool.and_eq_true]
 refine⟨qFg fun d _=>qTe d,?_⟩
 cases w <;> rfl
theorem qJ0 (ws:List (List Blk)):noI (qCn ws)=true:=by
 simp only [qCn,noI,Bool.and_eq_true]
 refine⟨qFg fun d _=>qQp d,?_⟩
 cases ws <;> rfl
theorem qFf : ∀ {ns:List Int} {lo hi:Int},ns.Pairwise (· <= ·)->ns.Nodup->(∀n∈ns,lo<=n/\n<hi)->(ns.length:Int)<=max 0 (hi - lo)
 | [],_,_,_,_,_=>by simp;omega
 | n::r,lo,hi,h1,h2,h3=>by
  obtain⟨h11,h12⟩:=List.pairwise_cons.mp h1
  obtain⟨h21,h22⟩:=List.nodup_cons.mp h2
  have hn:=h3 n (List.mem_cons_self ..)
  have:=qFf (ns:=r) (lo:=n+1) (hi:=hi) h12 h22 fun m hm=>by
   have a:=h11 m hm
   have b:=h3 m (List.mem_cons_of_mem _ hm)
   have c:m≠n:=fun z=>h21 (z▸hm)
   omega
  rw [List.length_cons]
  omega
theorem qMf {CX:CXT} {P:Program} {w:World} {K:PySem.W.Frag} {mg:Str->Option Value} {base:Heap} {N:List Str} {qual:Str} {scope:Scope} {f:Addr} {cd:Value} {A:Around} {outer:List Env} {s:Shared} {H:Hp} {E:XK}:(cxOf CX P w K mg base N qual scope f cd A outer s H E).nox.w=w:=rfl
theorem qTx {CX:CXT} {P:Program} {w:World} {K:PySem.W.Frag} {mg:Str->Option Value} {base:Heap} {N:List Str} {qual:Str} {scope:Scope} {f:Addr} {cd:Value} {A:Around} {outer:List Env} {s:Shared} {H:Hp} {E:XK}:(cxOf CX P w K mg base N qual scope f cd A outer s H E).w=w:=rfl
def BusyP (ws:List (List Blk)) (n:Nat) (wk:List Blk) (x y:Int):Prop:=y∈wrTo wk x wk.length\/(∃s∈qBr wk x,Reach (nxt wk) s y)/\y∈waitTo ws x n wk.length
def qNh (K:PySem.W.Frag):Sp:=fun vs H Q _ => ∃(wa:Addr) (ws:List (List Blk)) (n:Nat) (wk:List Blk) (x:Int),vs = [.ref wa,.int n,.int x]/\Den K H (qCn ws) (.ref wa)/\WsOk ws/\ws[n]? = some wk /\
 ∀(l:Addr) (ns:List Int) (H':Hp),H l=none->Ext [] H H'->H' l=some (.lst (ns.map V.int))->ns.Pairwise (· <= ·)->ns.Nodup->(∀y,y∈ns↔BusyP ws n wk x y)->Q (.ref l) H'
theorem neDK (K:PySem.W.Frag) {X:Cx} {k:Nat} (hK:X.K=K) (hr:Room k X.A):OpR X (compareOp .NotEq) (rEqD K true):=hK▸qL6 hr
def boxTo (wk:List Blk) (i:Nat):List Int:=((List.range i).filter fun (k:Nat) => !decide (wrTo wk (k:Int) wk.length = [])).map fun (k:Nat)=>(k:Int)
theorem qHe (wk:List Blk) (i:Nat):boxTo wk (i+1)=if wrTo wk (i:Int) wk.length = [] then boxTo wk i else boxTo wk i ++ [(i:Int)]:=by
 unfold boxTo
 rw [List.range_succ,List.filter_append,List.filter_cons,List.filter_nil]
 by_cases h:wrTo wk (i:Int) wk.length = []
 ·rw [decide_eq_true h,if_pos h];simp
 ·rw [decide_eq_false h,if_neg h];simp
theorem qPm (wk:List Blk) (i:Nat):(boxTo wk i).length<=i:=by
 unfold boxTo
 rw [List.length_map]
 have:=List.length_filter_le (fun (k:Nat) => !decide (wrTo wk (k:Int) wk.length = [])) (List.range i)
 rw [List.length_range] at this
 exact this
theorem qOk {wk:List Blk} {i:Nat} {y:Int}:y∈boxTo wk i↔(0<=y/\y<i)/\wrTo wk y wk.length ≠ []:=by
 unfold boxTo
 rw [List.mem_map]
 constructor
 ·rintro⟨k,hk,rfl⟩
  obtain⟨h1,h2⟩:=List.mem_filter.mp hk
  have:=List.mem_range.mp h1
  exact⟨by omega,by simpa using h2⟩
 ·rintro⟨h1,h2⟩
  refine⟨y.toNat,List.mem_filter.mpr ⟨List.mem_range.mpr (by omega),?_⟩,by omega⟩
  rw [Int.toNat_of_nonneg h1.1];simpa using h2
def qHm (K:PySem.W.Frag):Sp:=fun vs H Q _ => ∃(wa:Addr) (wk:List Blk) (m works:Int),vs = [.ref wa]/\Den K H (workD wk) (.ref wa)/\WorkOk m works wk/\m<=12 /\
 ∀(l:Addr) (H':Hp),H l=none->Ext [] H H'->H' l=some (.lst ((boxTo wk 8).map V.int))->Q (.ref l) H'
theorem qEx {m works x y:Int} {wk:List Blk} (h:WorkOk m works wk) (hy : ∃s∈qBr wk x,Reach (nxt wk) s y):0<=y/\y<m:=by
 obtain⟨s,hs,rr⟩:=hy
 obtain⟨b,hb,hsb⟩:=List.mem_flatMap.mp hs
 have:=(qH3 h b).range _ hsb
 exact rr.range h (by omega)
theorem qGm {m works x y:Int} {wk:List Blk} (h:WorkOk m works wk) (hy:y∈wrTo wk x wk.length):0<=y/\y<m:=by
 obtain⟨n,rfl,h1,_⟩:=mem_wrTo.mp hy
 have:=h.len
 omega
theorem qMv {ws:List (List Blk)} {n:Nat} {m works x y:Int} {wk:List Blk} (h:WorkOk m works wk) (hy:BusyP ws n wk x y):0<=y/\y<m:=hy.elim (qGm h) fun z=>qEx h z.1
theorem qMk {ws:List (List Blk)} {x y:Int} {n i:Nat}:y∈waitTo ws x n i ↔ ∃a:Nat,y=(a:Int)/\a<i/\askB ws x ((n:Int),(a:Int))=true:=by
 unfold waitTo
 rw [List.mem_map]
 constructor
 ·rintro⟨a,ha,rfl⟩
  obtain⟨h1,h2⟩:=List.mem_filter.mp ha
  exact⟨a,rfl,List.mem_range.mp h1,h2⟩
 ·rintro⟨a,rfl,h1,h2⟩
  exact⟨a,List.mem_filter.mpr ⟨List.mem_range.mpr h1,h2⟩,rfl⟩
mutual
def DenE (G:Hp):PyData->V->Prop
 | .none,v=>v = .non
 | .bool b,v=>v = .bl b
 | .int i,v=>v = .int i
 | .str x,v=>v = .str x
 | .list ds,v => ∃a vs,v = .ref a/\G a=some (.lst vs)/\DenEL G ds vs
 | .tuple ds,v => ∃a vs,v = .ref a/\G a=some (.tup vs)/\DenEL G ds vs
 | .dict _,_=>False
def DenEL (G:Hp):List PyData->List V->Prop
 | [],vs=>vs = []
 | d::ds,vs => ∃v r,vs=v::r/\DenE G d v/\DenEL G ds r
end
section
variable {G G':Hp}
mutual
theorem DenE.mono (h:Same G G') : ∀ {d:PyData} {v:V},DenE G d v->DenE G' d v
 | .none,_,e=>by simp only [DenE] at e ⊢;exact e
 | .bool _,_,e=>by simp only [DenE] at e ⊢;exact e
 | .int _,_,e=>by simp only [DenE] at e ⊢;exact e
 | .str _,_,e=>by simp only [DenE] at e ⊢;exact e
 | .list ds,_,e=>by
  simp only [DenE] at e ⊢
  obtain⟨a,vs,e1,e2,e3⟩:=e
  exact⟨a,vs,e1,h _ _ e2,DenEL.mono h e3⟩
 | .tuple ds,_,e=>by
  simp only [DenE] at e ⊢
  obtain⟨a,vs,e1,e2,e3⟩:=e
  exact⟨a,vs,e1,h _ _ e2,DenEL.mono h e3⟩
 | .dict _,_,e=>by simp only [DenE] at e
theorem DenEL.mono (h:Same G G') : ∀ {ds:List PyData} {vs:List V},DenEL G ds vs->DenEL G' ds vs
 | [],_,e=>by simp only [DenEL] at e ⊢;exact e
 | d::ds,_,e=>by
  simp only [DenEL] at e ⊢
  obtain⟨v,r,e1,e2,e3⟩:=e
  exact⟨v,r,e1,DenE.mono h e2,DenEL.mono h e3⟩
end
theorem DenEL.len : ∀ {ds:List PyData} {vs:List V},DenEL G ds vs->vs.length=ds.length
 | [],_,e=>by simp only [DenEL] at e;rw [e];rfl
 | d::ds,_,e=>by
  simp only [DenEL] at e
  obtain⟨v,r,rfl,_,e3⟩:=e
  simp [DenEL.len e3]
theorem DenEL.nil:DenEL G [] []:=by simp only [DenEL]
theorem DenEL.cons {d:PyData} {ds:List PyData} {v:V} {vs:List V} (h1:DenE G d v) (h2:DenEL G ds vs):DenEL G (d::ds) (v::vs):=by
 simp only [DenEL];exact⟨v,vs,rfl,h1,h2⟩
theorem DenEL.append : ∀ {ds es:List PyData} {vs ws:List V},DenEL G ds vs->DenEL G es ws->DenEL G (ds++es) (vs++ws)
 | [],_,_,_,e,f=>by simp only [DenEL] at e;subst e;exact f
 | d::ds,_,_,_,e,f=>by
  simp only [DenEL] at e
  obtain⟨v,r,rfl,e2,e3⟩:=e
  exact .cons e2 (DenEL.append e3 f)
theorem DenEL.get : ∀ {ds:List PyData} {vs:List V} {i:Nat} {v:V},DenEL G ds vs->vs[i]? = some v -> ∃d,ds[i]? = some d/\DenE G d v
 | [],_,_,_,e,h=>by simp only [DenEL] at e;subst e;simp at h
 | d::ds,_,0,_,e,h=>by
  simp only [DenEL] at e
  obtain⟨v,r,rfl,e2,e3⟩:=e
  simp at h;subst h
  exact⟨d,rfl,e2⟩
 | d::ds,_,i+1,_,e,h=>by
  simp only [DenEL] at e
  obtain⟨v,r,rfl,e2,e3⟩:=e
  exact DenEL.get (i:=i) e3 (by simpa using h)
theorem DenE.int {i:Int}:DenE G (.int i) (.int i):=by simp only [DenE]
theorem DenE.str {i:Str}:DenE G (.str i) (.str i):=by simp only [DenE]
theorem DenE.list {ds:List PyData} {a:Addr} {vs:List V} (h:G a=some (.lst vs)) (e:DenEL G ds vs):DenE G (.list ds) (.ref a):=by simp only [DenE];exact⟨a,vs,rfl,h,e⟩
theorem DenE.tuple {ds:List PyData} {a:Addr} {vs:List V} (h:G a=some (.tup vs)) (e:DenEL G ds vs):DenE G (.tuple ds) (.ref a):=by simp only [DenE];exact⟨a,vs,rfl,h,e⟩
theorem DenE.ofListE {ds:List PyData} {v:V} (h:DenE G (.list ds) v) : ∃a vs,v = .ref a/\G a=some (.lst vs)/\DenEL G ds vs:=by simpa only [DenE] using h
theorem DenE.ofTupleE {ds:List PyData} {v:V} (h:DenE G (.tuple ds) v) : ∃a vs,v = .ref a/\G a=some (.tup vs)/\DenEL G ds vs:=by simpa only [DenE] using h
theorem DenEL.ofCons {d:PyData} {ds:List PyData} {vs:List V} (h:DenEL G (d::ds) vs) : ∃v r,vs=v::r/\DenE G d v/\DenEL G ds r:=by simpa only [DenEL] using h
theorem DenEL.ofNil {vs:List V} (h:DenEL G [] vs):vs = []:=by simpa only [DenEL] using h
end
section
variable {K:PySem.W.Frag} {G:Hp}
theorem DenE.ofList {ds:List PyData} {v:V} (h:DenE G (.list ds) v) : ∃a vs,v = .ref a/\SqL K G a vs/\DenEL G ds vs:=by
 obtain⟨a,vs,e,h1,h2⟩:=h.ofListE
 exact⟨a,vs,e,SqL.of h1,h2⟩
theorem DenE.ofTuple {ds:List PyData} {v:V} (h:DenE G (.tuple ds) v) : ∃a vs,v = .ref a/\SqT K G a vs/\DenEL G ds vs:=by
 obtain⟨a,vs,e,h1,h2⟩:=h.ofTupleE
 exact⟨a,vs,e,SqT.of h1,h2⟩
mutual
theorem DenE.den : ∀ {d:PyData} {v:V},DenE G d v->Den K G d v
 | .none,_,e=>by simp only [DenE] at e;simp only [Den];exact e
 | .bool _,_,e=>by simp only [DenE] at e;simp only [Den];exact e
 | .int _,_,e=>by simp only [DenE] at e;simp only [Den];exact e
 | .str _,_,e=>by simp only [DenE] at e;simp only [Den];exact e
 | .list ds,_,e=>by
  simp only [DenE] at e
  obtain⟨a,vs,rfl,e2,e3⟩:=e
  exact .list (SqL.of e2) (DenEL.den e3)
 | .tuple ds,_,e=>by
  simp only [DenE] at e
  obtain⟨a,vs,rfl,e2,e3⟩:=e
  exact .tuple (SqT.of e2) (DenEL.den e3)
 | .dict _,_,e=>by simp only [DenE] at e
theorem DenEL.den : ∀ {ds:List PyData} {vs:List V},DenEL G ds vs->DenL K G ds vs
 | [],_,e=>by simp only [DenEL] at e;subst e;exact .nil
 | d::ds,_,e=>by
  simp only [DenEL] at e
  obtain⟨v,r,rfl,e2,e3⟩:=e
  exact .cons (DenE.den e2) (DenEL.den e3)
end
end
def WorksE (G H:Hp) (as:List Addr) (ws:List (List Blk)):Prop:=Paired (fun a w => ∃bs,H a=some (.lst bs)/\DenEL G (w.map blkD) bs) as ws
theorem WorksE.len {G H:Hp} {as:List Addr} {ws:List (List Blk)} (h:WorksE G H as ws):as.length=ws.length:=Paired.length h
theorem WorksE.mono {G G' H H':Hp} (g:Same G G') {as:List Addr} {ws:List (List Blk)} (h:WorksE G H as ws) (k : ∀a∈as,∀o,H a=some o->H' a=some o):WorksE G' H' as ws:=by
 induction h with
 | nil=>exact .nil
 | cons a _ ih=>obtain⟨bs,e,d⟩:=a;exact .cons ⟨bs,k _ (by simp) _ e,d.mono g⟩ (ih fun a ha o e=>k a (by simp [ha]) o e)
theorem WorksE.get {G H:Hp} : ∀ {as:List Addr} {ws:List (List Blk)} {i:Nat} {a:Addr},WorksE G H as ws->as[i]? = some a -> ∃w bs,ws[i]? = some w/\H a=some (.lst bs)/\DenEL G (w.map blkD) bs
 | _,_,_,_,.nil,e=>by simp at e
 | _,_,0,_,.cons ⟨bs,e,d⟩ _,h=>by simp at h;subst h;exact⟨_,bs,rfl,e,d⟩
 | _,_,i+1,a,.cons _ r,h=>by
  obtain⟨w,bs,h1,h2⟩:=WorksE.get (i:=i) (a:=a) r (by simpa using h)
  exact⟨w,bs,by simpa using h1,h2⟩
theorem WorksE.snoc {G H:Hp} {a:Addr} {w:List Blk} {bs:List V} {as:List Addr} {ws:List (List Blk)} (h:WorksE G H as ws) (e:H a=some (.lst bs)) (d:DenEL G (w.map blkD) bs):WorksE G H (as ++ [a]) (ws ++ [w]):=by
 induction h with
 | nil=>exact .cons ⟨bs,e,d⟩ .nil
 | cons a _ ih=>exact .cons a ih
def qFd (K:PySem.W.Frag):Sp:=fun vs H Q _ => ∃(t b:Addr) (k:Nat) (most first works:Int) (bs:List Int),vs = [.ref t,.int most,.ref b,.int first,.int works]/\Tape H t k/\k+130<=2^40/\0<=most/\most<=12/\0<=first/\first<=100/\1<=works/\works<=100 /\
 H b=some (.lst (bs.map V.int))/\b≠t/\BsOk bs /\ ∀(l:Addr) (ds:List Deed) (H':Hp),H l=none->Tape H' t (k+130)->Ext [t] H H'->(∀d∈ds,qGj works d)->ds.length<=12->DenE (yo H [t] H') (.list (ds.map deedD)) (.ref l)->Q (.ref l) H'
def qK0 (K:PySem.W.Frag):Sp:=fun vs H Q _ => ∃(t:Addr) (k:Nat) (m most first works:Int),vs = [.ref t,.int m,.int most,.int first,.int works]/\Tape H t k/\k+2000<=2^40/\1<=m/\m<=12/\0<=most/\most<=12/\0<=first/\first<=100/\1<=works/\works<=100 /\
 ∀(l:Addr) (w:List Blk) (bs:List V) (H':Hp),H l=none->l≠t->Tape H' t (k+2000)->Ext [t] H H'->WorkOk m works w->(∀b∈w,b.ds.length<=12)->H' l=some (.lst bs)->DenEL (yo H [l,t] H') (w.map blkD) bs->Q (.ref l) H'
def qK1 (K:PySem.W.Frag):Sp:=fun vs H Q _ => ∃(wa:Addr) (ws:List (List Blk)),vs = [.ref wa]/\DenE H (qCn ws) (.ref wa)/\WsOk ws /\ ∀(l:Addr) (ws':List (List Blk)) (H':Hp),Ext [] H H'->DenE H' (qCn ws') (.ref l)->WsOk ws'->ws'.length=ws.length->Q (.ref l) H'
theorem qLu {G H:Hp} {as:List Addr} {ws:List (List Blk)} (h:WorksE G H as ws) (g:Same G H):DenEL H (ws.map workD) (as.map V.ref):=by
 induction h with
 | nil=>exact .nil
 | cons a _ ih=>obtain⟨bs,e,d⟩:=a;exact .cons (.list e (d.mono g)) ih
def qHi (K:PySem.W.Frag):Sp:=fun vs H Q _ => ∃(t:Addr) (k:Nat) (most:Int),vs = [.ref t,.int most]/\Tape H t k/\k+21000<=2^40/\0<=most/\most<=12 /\
 ∀(l:Addr) (ws:List (List Blk)) (H':Hp),Tape H' t (k+21000)->Ext [t] H H'->DenE H' (qCn ws) (.ref l)->WsOk ws->Q (.ref l) H'
end L2
namespace L2
open PySem PySem.W PyProof.Rows
def qTo:Bool->Keyed->Array Keyed->Nat->Nat->Nat->StateT SortSt Sem (Option Nat):=sortPriv% PySem.Builtin.gallop
section
variable {prog:Program} {w:World} {A:Around} {E:Value->Shared->Prop} {κ : SortKind} {it:Array Keyed} {lt:Nat->Nat->Bool} {I:Shared->Prop} {N:Nat}
def AskOk (prog:Program) (w:World) (A:Around) (κ : SortKind) (it:Array Keyed) (lt:Nat->Nat->Bool) (I:Shared->Prop) (N:Nat):Prop :=
 ∀(i j:Nat) (s:Shared) (C:Bool->Shared->Prop),i<N->j<N->I s->(∀s',I s'->C (lt i j) s')->kas_cmp prog w A κ it i j C s
theorem qOl (hA:AskOk prog w A κ it lt I N) {i j:Nat} {st:SortSt} {s:Shared} {Q:Option Bool->SortSt->Shared->Prop} (hk:kindOf st = κ) (hi:i<N) (hj:j<N) (hI:I s) (h : ∀s',I s'->Q (some (lt i j)) st s') :
  kasC (model prog w) A E (lt' (kas_item it i) (kas_item it j)) Q st s:=by
 rw [lt'_eq]
 refine kasC_bind (kasC_get ?_)
 rw [hk]
 refine kasC_bind (kasC_lift (wpAny_attempt (wpAny_mono (hA i j s (fun c s'=>Q (some c) st s') hi hj hI fun s' hs=>h s' hs) (fun c s' hc => ?_) fun _ _ hF=>hF.elim)))
 exact kasC_pure hc
theorem qAf {q:Array Nat} {i x:Nat} {st:SortSt} {s:Shared} {Q:Keyed->SortSt->Shared->Prop} (h:q[i]? = some x) (hQ:Q (kas_item it x) st s):kasC (model prog w) A E (elem' (q.map (kas_item it)) i) Q st s:=by
 rw [elem'_eq,Array.getElem?_map,h]
 exact kasC_pure hQ
theorem qAd {σ α : Type} {M:Model} {m:StateT σ Sem α} {Q Q' : α -> σ -> Shared->Prop} {st : σ} {s:Shared} (h:kasC M A E m Q st s) (k : ∀a st' s',Q a st' s'->Q' a st' s'):kasC M A E m Q' st s:=wpAny_mono h (fun r s' h'=>k _ _ _ h') fun _ _ e=>e
theorem qBm {σ β : Type} {M:Model} {f:Nat -> β -> StateT σ Sem (ForInStep β)} {Q : β -> σ -> Shared->Prop} (Pv:Nat -> β -> σ -> Shared->Prop) (hs : ∀k x b st s,Pv (k+1) b st s->kasC M A E (f x b) (fun r st' s'=>match r with | .done b'=>Q b' st' s' | .yield b'=>Pv k b' st' s') st s) (hd : ∀b st s,Pv 0 b st s->Q b st s) :
  ∀(l:List Nat) {b : β} {st : σ} {s:Shared},Pv l.length b st s->kasC M A E (forIn l b f) Q st s
 | [],b,st,s,h=>kasC_nil (hd b st s h)
 | x::l,b,st,s,h=>kasC_cons (qAd (hs l.length x b st s h) fun r st' s' h'=>by
   cases r with
   | done b'=>exact h'
   | yield b'=>exact qBm Pv hs hd l h')
theorem qB8 {σ β : Type} {M:Model} {n:Nat} {b : β} {f:Nat -> β -> StateT σ Sem (ForInStep β)} {st : σ} {s:Shared} {Q : β -> σ -> Shared->Prop} (Pv:Nat -> β -> σ -> Shared->Prop) (h0:Pv n b st s) (hs : ∀k x b st s,Pv (k+1) b st s->kasC M A E (f x b) (fun r st' s'=>match r with | .done b'=>Q b' st' s' | .yield b'=>Pv k b' st' s') st s) (hd : ∀b st s,Pv 0 b st s->Q b st s) :
  kasC M A E (forIn [0:n] b f) Q st s:=kasC_range (qBm Pv hs hd _ (by rw [List.length_range'];exact h0))
def byd (lt:Nat->Nat->Bool) (left:Bool) (key:Nat) (q:Array Nat) (base i:Nat):Bool:=if left then lt (q.getD (base+i) 0) key else !lt key (q.getD (base+i) 0)
theorem qJo {α : Type} (hA:AskOk prog w A κ it lt I N) {left:Bool} {key:Nat} {q:Array Nat} {base n i:Nat} {st:SortSt} {s:Shared} {F:Option Bool->StateT SortSt Sem α} {Q : α -> SortSt->Shared->Prop} (hk:kindOf st = κ) (hget : ∀i,i<n -> ∃x,q[base+i]? = some x/\x<N/\q.getD (base+i) 0=x) (hkey:key<N) (hi:i<n) (hI:I s)
  (h : ∀s',I s'->kasC (model prog w) A E (F (some (byd lt left key q base i))) Q st s') :
  kasC (model prog w) A E ((elem' (q.map (kas_item it)) (base+i) >>= fun x=>if left=true then lt' x (kas_item it key) else lt' (kas_item it key) x >>= fun d=>pure (Option.map (fun x => !x) d)) >>= F) Q st s:=by
 obtain⟨x,e1,e2,e3⟩:=hget i hi
 refine kasC_bind (kasC_bind (qAf e1 ?_))
 unfold byd at h
 rw [e3] at h
 cases left with
 | true=>exact qOl hA hk e2 hkey hI fun s' hs=>h s' hs
 | false=>exact kasC_bind (qOl hA hk hkey e2 hI fun s' hs=>kasC_pure (h s' hs))
theorem qBu (hA:AskOk prog w A κ it lt I N) {left:Bool} {key:Nat} {q:Array Nat} {base n hint:Nat} {st:SortSt} {s:Shared} {Q:Option Nat->SortSt->Shared->Prop} (hk:kindOf st = κ) (hq:base+n<=q.size) (hin : ∀x∈q,x<N) (hkey:key<N) (hh:hint<n) (hI:I s)
  (mono : ∀i j,i<=j->j<n->byd lt left key q base j=true->byd lt left key q base i=true)
  (h : ∀r s',r<=n->(∀i,i<r->byd lt left key q base i=true)->(∀i,r<=i->i<n->byd lt left key q base i=false)->I s'->Q (some r) st s') :
  kasC (model prog w) A E (qTo left (kas_item it key) (q.map (kas_item it)) base n hint) Q st s:=by
 have hget : ∀i,i<n -> ∃x,q[base+i]? = some x/\x<N/\q.getD (base+i) 0=x:=fun i hi=>by
  have hlt:base+i<q.size:=by omega
  exact⟨q[base+i],Array.getElem?_eq_getElem hlt,hin _ (Array.getElem_mem hlt),by simp [Array.getD,hlt]⟩
 refine qJo hA hk hget hkey hh hI fun s1 hI1 => ?_
 dsimp only
 cases hb0:byd lt left key q base hint with
 | true =>
  rw [if_pos rfl]
  refine kasC_bind (qAd (qB8 (Q:=fun b st' s' => ∃la ofs,b=(none,la,ofs)/\st=st'/\I s'/\la<ofs/\hint+la<n/\byd lt left key q base (hint+la)=true/\(n - hint<=ofs\/hint+ofs<n/\byd lt left key q base (hint+ofs)=false)) (fun k b st' s' => ∃la ofs,b=(none,la,ofs)/\st=st'/\I s'/\la<ofs/\hint+la<n/\byd lt left key q base (hint+la)=true/\n<=ofs+k) ⟨0,1,rfl,rfl,hI1,by omega,by omega,hb0,by omega⟩ ?_ ?_) ?_)
  ·rintro k x b st' s' ⟨la,ofs,rfl,rfl,hI',h1,h2,h3,h4⟩
   dsimp only
   by_cases hc:ofs>=n - hint
   ·rw [if_pos hc]
    exact kasC_pure ⟨la,ofs,rfl,rfl,hI',h1,h2,h3,.inl hc⟩
   ·rw [if_neg hc]
    refine qJo hA hk hget hkey (by omega) hI' fun s3 hI3 => ?_
    dsimp only
    cases hb:byd lt left key q base (hint+ofs) with
    | true =>
     rw [if_neg (by decide)]
     exact kasC_pure ⟨_,_,rfl,rfl,hI3,by omega,by omega,hb,by omega⟩
    | false =>
     rw [if_pos (by decide)]
     exact kasC_pure ⟨la,ofs,rfl,rfl,hI3,h1,h2,h3,.inr ⟨by omega,hb⟩⟩
  ·rintro b st' s' ⟨la,ofs,rfl,rfl,hI',h1,h2,h3,h4⟩
   exact⟨la,ofs,rfl,rfl,hI',h1,h2,h3,.inl (by omega)⟩
  rintro b st' s2 ⟨la,ofs,rfl,rfl,hI2,h2,h3,h4,h5⟩
  dsimp only
  have pre : ∀i,i<hint+la+1->byd lt left key q base i=true:=fun i hi=>mono i (hint+la) (by omega) h3 h4
  have suf : ∀i,hint+min ofs (n - hint)<=i->i<n->byd lt left key q base i=false:=fun i hi hn=>by
   rcases h5 with z | ⟨z1,z2⟩
   ·omega
   ·cases hc:byd lt left key q base i with
    | false=>rfl
    | true=>rw [mono (hint+ofs) i (by omega) hn hc] at z2;cases z2
  refine kasC_bind (qAd (qB8 (Q:=fun b st' s' => ∃hi,b=(none,hi,hi)/\st=st'/\I s'/\hi<=n/\(∀i,i<hi->byd lt left key q base i=true) /\ ∀i,hi<=i->i<n->byd lt left key q base i=false) (fun k b st' s' => ∃lo hi,b=(none,lo,hi)/\st=st'/\I s'/\lo<=hi/\hi<=n/\hi<=lo+k/\(∀i,i<lo->byd lt left key q base i=true) /\ ∀i,hi<=i->i<n->byd lt left key q base i=false) ⟨_,_,rfl,rfl,hI2,by omega,by omega,by omega,pre,suf⟩ ?_ ?_) ?_)
  ·rintro k x b st' s' ⟨lo,hi,rfl,rfl,hI',h1,h2,h3,h4,h5⟩
   dsimp only
   by_cases hc:lo>=hi
   ·rw [if_pos hc]
    obtain rfl:lo=hi:=by omega
    exact kasC_pure ⟨lo,rfl,rfl,hI',h2,h4,h5⟩
   ·rw [if_neg hc]
    refine qJo hA hk hget hkey (by omega) hI' fun s3 hI3 => ?_
    dsimp only
    cases hb:byd lt left key q base (lo+(hi - lo) / 2) with
    | true =>
     rw [if_pos rfl]
     exact kasC_pure ⟨_,_,rfl,rfl,hI3,by omega,h2,by omega,fun i hi'=>mono i (lo+(hi - lo) / 2) (by omega) (by omega) hb,h5⟩
    | false =>
     rw [if_neg Bool.false_ne_true]
     refine kasC_pure ⟨_,_,rfl,rfl,hI3,by omega,by omega,by omega,h4,fun i hi' hn => ?_⟩
     cases hc:byd lt left key q base i with
     | false=>rfl
     | true=>rw [mono (lo+(hi - lo) / 2) i hi' hn hc] at hb;cases hb
  ·rintro b st' s' ⟨lo,hi,rfl,rfl,hI',h1,h2,h3,h4,h5⟩
   obtain rfl:lo=hi:=by omega
   exact⟨lo,rfl,rfl,hI',h2,h4,h5⟩
  ·rintro b st' s' ⟨hi,rfl,rfl,hI',h1,h2,h3⟩
   dsimp only
   exact kasC_pure (h hi s' h1 h2 h3 hI')
 | false =>
  rw [if_neg Bool.false_ne_true]
  refine kasC_bind (qAd (qB8 (Q:=fun b st' s' => ∃la ofs,b=(none,la,ofs)/\st=st'/\I s'/\la<ofs/\la<=hint/\byd lt left key q base (hint - la)=false/\(hint+1<=ofs\/ofs<=hint/\byd lt left key q base (hint - ofs)=true)) (fun k b st' s' => ∃la ofs,b=(none,la,ofs)/\st=st'/\I s'/\la<ofs/\la<=hint/\byd lt left key q base (hint - la)=false/\n<=ofs+k) ⟨0,1,rfl,rfl,hI1,by omega,by omega,hb0,by omega⟩ ?_ ?_) ?_)
  ·rintro k x b st' s' ⟨la,ofs,rfl,rfl,hI',h1,h2,h3,h4⟩
   dsimp only
   by_cases hc:ofs>=hint+1
   ·rw [if_pos hc]
    exact kasC_pure ⟨la,ofs,rfl,rfl,hI',h1,h2,h3,.inl hc⟩
   ·rw [if_neg hc]
    refine qJo hA hk hget hkey (by omega) hI' fun s3 hI3 => ?_
    dsimp only
    cases hb:byd lt left key q base (hint - ofs) with
    | true =>
     rw [if_pos rfl]
     exact kasC_pure ⟨la,ofs,rfl,rfl,hI3,h1,h2,h3,.inr ⟨by omega,hb⟩⟩
    | false =>
     rw [if_neg Bool.false_ne_true]
     exact kasC_pure ⟨_,_,rfl,rfl,hI3,by omega,by omega,hb,by omega⟩
  ·rintro b st' s' ⟨la,ofs,rfl,rfl,hI',h1,h2,h3,h4⟩
   exact⟨la,ofs,rfl,rfl,hI',h1,h2,h3,.inl (by omega)⟩
  rintro b st' s2 ⟨la,ofs,rfl,rfl,hI2,h2,h3,h4,h5⟩
  dsimp only
  have pre : ∀i,i<hint+1 - min ofs (hint+1)->byd lt left key q base i=true:=fun i hi=>by
   rcases h5 with z | ⟨z1,z2⟩
   ·omega
   ·exact mono i (hint - ofs) (by omega) (by omega) z2
  have suf : ∀i,hint - la<=i->i<n->byd lt left key q base i=false:=fun i hi hn=>by
   cases hc:byd lt left key q base i with
   | false=>rfl
   | true=>rw [mono (hint - la) i hi hn hc] at h4;cases h4
  refine kasC_bind (qAd (qB8 (Q:=fun b st' s' => ∃hi,b=(none,hi,hi)/\st=st'/\I s'/\hi<=n/\(∀i,i<hi->byd lt left key q base i=true) /\ ∀i,hi<=i->i<n->byd lt left key q base i=false) (fun k b st' s' => ∃lo hi,b=(none,lo,hi)/\st=st'/\I s'/\lo<=hi/\hi<=n/\hi<=lo+k/\(∀i,i<lo->byd lt left key q base i=true) /\ ∀i,hi<=i->i<n->byd lt left key q base i=false) ⟨_,_,rfl,rfl,hI2,by omega,by omega,by omega,pre,suf⟩ ?_ ?_) ?_)
  ·rintro k x b st' s' ⟨lo,hi,rfl,rfl,hI',h1,h2,h3,h4,h5⟩
   dsimp only
   by_cases hc:lo>=hi
   ·rw [if_pos hc]
    obtain rfl:lo=hi:=by omega
    exact kasC_pure ⟨lo,rfl,rfl,hI',h2,h4,h5⟩
   ·rw [if_neg hc]
    refine qJo hA hk hget hkey (by omega) hI' fun s3 hI3 => ?_
    dsimp only
    cases hb:byd lt left key q base (lo+(hi - lo) / 2) with
    | true =>
     rw [if_pos rfl]
     exact kasC_pure ⟨_,_,rfl,rfl,hI3,by omega,h2,by omega,fun i hi'=>mono i (lo+(hi - lo) / 2) (by omega) (by omega) hb,h5⟩
    | false =>
     rw [if_neg Bool.false_ne_true]
     refine kasC_pure ⟨_,_,rfl,rfl,hI3,by omega,by omega,by omega,h4,fun i hi' hn => ?_⟩
     cases hc:byd lt left key q base i with
     | false=>rfl
     | true=>rw [mono (lo+(hi - lo) / 2) i hi' hn hc] at hb;cases hb
  ·rintro b st' s' ⟨lo,hi,rfl,rfl,hI',h1,h2,h3,h4,h5⟩
   obtain rfl:lo=hi:=by omega
   exact⟨lo,rfl,rfl,hI',h2,h4,h5⟩
  ·rintro b st' s' ⟨hi,rfl,rfl,hI',h1,h2,h3⟩
   dsimp only
   exact kasC_pure (h hi s' h1 h2 h3 hI')
end
def qQs:Array Keyed->Array Keyed->StateT SortSt Sem (Array Keyed):=sortPriv% PySem.Builtin.mergeLo
def qQt:Array Keyed->Array Keyed->StateT SortSt Sem (Array Keyed):=sortPriv% PySem.Builtin.mergeHi
def SameSt (st st':SortSt):Prop:=kindOf st'=kindOf st/\arrOf st'=arrOf st/\pendingOf st'=pendingOf st/\failedOf st'=failedOf st
theorem SameSt.refl (st:SortSt):SameSt st st:=⟨rfl,rfl,rfl,rfl⟩
abbrev Ri (lt:Nat->Nat->Bool) (l:List Nat):Prop:=l.Pairwise fun x y=>lt y x=false
abbrev Be (lt:Nat->Nat->Bool) (k l:List Nat):Prop := ∀x∈k,∀y∈l,lt y x=false
section
variable {lt:Nat->Nat->Bool}
structure Mg (lt:Nat->Nat->Bool) (all o a b:List Nat):Prop where
 perm:(o++(a++b)).Perm all
 up:Ri lt o
 ra:Ri lt a
 rb:Ri lt b
 oa:Be lt o a
 ob:Be lt o b
theorem Mg.takeA {all o a a' b:List Nat} (h:Mg lt all o (a++a') b) (hb:Be lt a b):Mg lt all (o++a) a' b:=by
 obtain⟨h1,h2,h3⟩:=List.pairwise_append.mp h.ra
 refine⟨?_,List.pairwise_append.mpr ⟨h.up,h1,fun x hx y hy=>h.oa x hx y (List.mem_append.mpr (.inl hy))⟩,h2,h.rb,fun x hx y hy => ?_,fun x hx y hy => ?_⟩
 ·have:=h.perm
  simpa [List.append_assoc] using this
 ·rcases List.mem_append.mp hx with z | z
  ·exact h.oa x z y (List.mem_append.mpr (.inr hy))
  ·exact h3 x z y hy
 ·rcases List.mem_append.mp hx with z | z
  ·exact h.ob x z y hy
  ·exact hb x z y hy
theorem Mg.swap {all o a b:List Nat} (h:Mg lt all o a b):Mg lt all o b a:=⟨((List.Perm.append_left o List.perm_append_comm).trans h.perm),h.up,h.rb,h.ra,h.ob,h.oa⟩
theorem Mg.takeB {all o a b b':List Nat} (h:Mg lt all o a (b++b')) (ha:Be lt b a):Mg lt all (o++b) a b':=(h.swap.takeA ha).swap
theorem Mg.fin {all o a b:List Nat} (h:Mg lt all o a b) (hb:Be lt a b):Ri lt (o++a++b)/\(o++a++b).Perm all:=by
 refine⟨?_,by simpa [List.append_assoc] using h.perm⟩
 refine List.pairwise_append.mpr ⟨List.pairwise_append.mpr ⟨h.up,h.ra,h.oa⟩,h.rb,fun x hx y hy => ?_⟩
 rcases List.mem_append.mp hx with z | z
 ·exact h.ob x z y hy
 ·exact hb x z y hy
theorem Mg.fin' {all o a b:List Nat} (h:Mg lt all o a b) (hb:Be lt b a):Ri lt (o++b++a)/\(o++b++a).Perm all:=h.swap.fin hb
theorem qD1 (O:Srt.Ord lt) {x y:Nat} {l:List Nat} (hl:Ri lt (y::l)) (h:lt y x=false):Be lt [x] (y::l):=by
 intro z hz v hv
 have hz:z=x:=by simpa using hz
 subst hz
 rcases List.mem_cons.mp hv with e | e
 ·rw [e];exact h
 ·exact O.trans _ y _ h ((List.pairwise_cons.mp hl).1 v e)
theorem qAz {b:Array Nat} {i:Nat} (h:i<b.size):b.toList.drop i=b[i]::b.toList.drop (i+1):=by
 rw [List.drop_eq_getElem_cons (by simpa using h)];simp
theorem qH9 {a:Array Nat} {i k:Nat}:a.toList.drop i=(a.extract i (i+k)).toList++a.toList.drop (i+k):=by
 rw [Array.toList_extract,List.extract_eq_drop_take,Nat.add_sub_cancel_left,<-List.drop_drop,List.take_append_drop]
theorem qFj {a:Array Nat} {i:Nat}:(a.extract i a.size).toList=a.toList.drop i:=by
 rw [Array.toList_extract,List.extract_eq_drop_take,List.take_of_length_le (by simp)]
theorem qP6 {all:List Nat} {o a b:Array Nat} {ia ib:Nat} {f:Nat->Keyed} (h:Mg lt all o.toList (a.toList.drop ia) (b.toList.drop ib)) (hb:Be lt (a.toList.drop ia) (b.toList.drop ib)) : ∃r:Array Nat,o.map f++(a.map f).extract ia (a.map f).size++(b.map f).extract ib (b.map f).size=r.map f/\Ri lt r.toList/\r.toList.Perm all:=by
 refine⟨o++a.extract ia a.size++b.extract ib b.size,by simp [Array.map_append,Array.map_extract],?_⟩
 have e:(o++a.extract ia a.size++b.extract ib b.size).toList=o.toList++a.toList.drop ia++b.toList.drop ib:=by
  rw [Array.toList_append,Array.toList_append,qFj,qFj]
 rw [e]
 exact h.fin hb
theorem qTq {all:List Nat} {o a b:Array Nat} {ia ib:Nat} {f:Nat->Keyed} (h:Mg lt all o.toList (a.toList.drop ia) (b.toList.drop ib)) (hb:Be lt (b.toList.drop ib) (a.toList.drop ia)) : ∃r:Array Nat,o.map f++(b.map f).extract ib (b.map f).size++(a.map f).extract ia (a.map f).size=r.map f/\Ri lt r.toList/\r.toList.Perm all:=by
 refine⟨o++b.extract ib b.size++a.extract ia a.size,by simp [Array.map_append,Array.map_extract],?_⟩
 have e:(o++b.extract ib b.size++a.extract ia a.size).toList=o.toList++b.toList.drop ib++a.toList.drop ia:=by
  rw [Array.toList_append,Array.toList_append,qFj,qFj]
 rw [e]
 exact h.fin' hb
theorem qIq {all:List Nat} {o a b:Array Nat} {ia ib:Nat} (h:Mg lt all o.toList (a.toList.drop ia) (b.toList.drop ib)) (hi:ia<a.size) (hb:Be lt [a[ia]] (b.toList.drop ib)):Mg lt all (o.push a[ia]).toList (a.toList.drop (ia+1)) (b.toList.drop ib):=by
 rw [qAz hi] at h
 rw [Array.toList_push]
 exact Mg.takeA (a :=[a[ia]]) h hb
theorem qL0 {all:List Nat} {o a b:Array Nat} {ia ib:Nat} (h:Mg lt all o.toList (a.toList.drop ia) (b.toList.drop ib)) (hi:ib<b.size) (hb:Be lt [b[ib]] (a.toList.drop ia)):Mg lt all (o.push b[ib]).toList (a.toList.drop ia) (b.toList.drop (ib+1)):=by
 rw [qAz hi] at h
 rw [Array.toList_push]
 exact Mg.takeB (b :=[b[ib]]) h hb
theorem qTu {all:List Nat} {o a b:Array Nat} {ia ib k:Nat} (h:Mg lt all o.toList (a.toList.drop ia) (b.toList.drop ib)) (hb:Be lt (a.extract ia (ia+k)).toList (b.toList.drop ib)):Mg lt all (o++a.extract ia (ia+k)).toList (a.toList.drop (ia+k)) (b.toList.drop ib):=by
 rw [qH9 (k:=k)] at h
 rw [Array.toList_append]
 exact Mg.takeA h hb
theorem qPj {all:List Nat} {o a b:Array Nat} {ia ib k:Nat} (h:Mg lt all o.toList (a.toList.drop ia) (b.toList.drop ib)) (hb:Be lt (b.extract ib (ib+k)).toList (a.toList.drop ia)):Mg lt all (o++b.extract ib (ib+k)).toList (a.toList.drop ia) (b.toList.drop (ib+k)):=by
 rw [qH9 (a:=b) (k:=k)] at h
 rw [Array.toList_append]
 exact Mg.takeB h hb
theorem qG2 {a:Array Nat} {i k x:Nat} (h:x∈(a.extract i (i+k)).toList) : ∃j,j<k/\i+j<a.size/\a.getD (i+j) 0=x:=by
 obtain⟨j,hj,e⟩:=List.getElem_of_mem h
 have hl:j<(a.extract i (i+k)).size:=by rw [<-Array.length_toList];exact hj
 have hl0:=hl
 rw [Array.size_extract] at hl
 refine⟨j,by omega,by omega,?_⟩
 have e2:(a.extract i (i+k))[j]'hl0=x:=by rw [<-e,Array.getElem_toList]
 rw [Array.getElem_extract] at e2
 have hlt:i+j<a.size:=by omega
 simp [Array.getD,hlt,e2]
theorem qD9 {a:Array Nat} {i x:Nat} (h:x∈a.toList.drop i) : ∃j,i<=j/\j<a.size/\a.getD j 0=x:=by
 obtain⟨j,hj,e⟩:=List.getElem_of_mem h
 rw [List.getElem_drop] at e
 have hl:i+j<a.size:=by
  have:j<a.toList.length - i:=by simpa using hj
  simp at this;omega
 exact⟨i+j,by omega,hl,by simp [Array.getD,hl];simpa using e⟩
end
def qSd:Nat->StateT SortSt Sem Unit:=sortPriv% PySem.Builtin.setMinGallop
theorem SameSt.trans {st st1 st2:SortSt} (h:SameSt st st1) (k:SameSt st1 st2):SameSt st st2:=⟨k.1.trans h.1,k.2.1.trans h.2.1,k.2.2.1.trans h.2.2.1,k.2.2.2.trans h.2.2.2⟩
section
variable {prog:Program} {w:World} {A:Around} {E:Value->Shared->Prop} {κ : SortKind} {it:Array Keyed} {lt:Nat->Nat->Bool} {I:Shared->Prop} {N:Nat}
theorem qA5 {σ α : Type} {M:Model} {c:Prop} [Decidable c] {t e:StateT σ Sem α} {Q : α -> σ -> Shared->Prop} {st : σ} {s:Shared} (h1:c->kasC M A E t Q st s) (h2 : ¬c->kasC M A E e Q st s):kasC M A E (if c then t else e) Q st s:=by
 by_cases h:c
 ·rw [if_pos h];exact h1 h
 ·rw [if_neg h];exact h2 h
theorem qE4 {M:Model} {g:Nat} {Q:Unit->SortSt->Shared->Prop} {st:SortSt} {s:Shared} (h : ∀st',SameSt st st'->Q () st' s):kasC M A E (qSd g) Q st s:=kasC_modify (h _ ⟨rfl,rfl,rfl,rfl⟩)
theorem qAi {a:Array Nat} {i:Nat} (h:i<a.size):a[i]? = some a[i]:=Array.getElem?_eq_getElem h
theorem qDf (O:Srt.Ord lt) {left:Bool} {key:Nat} {q:Array Nat} {base n:Nat} (hq:base+n<=q.size) (hr:Ri lt (q.toList.drop base)) : ∀i j,i<=j->j<n->byd lt left key q base j=true->byd lt left key q base i=true:=by
 intro i j hij hj h
 have le:lt (q.getD (base+j) 0) (q.getD (base+i) 0)=false:=by
  by_cases e:i=j
  ·subst e;exact O.irr _
  ·have:=List.pairwise_iff_getElem.mp hr i j (by simp;omega) (by simp;omega) (by omega)
   rw [List.getElem_drop,List.getElem_drop] at this
   have h1:base+i<q.size:=by omega
   have h2:base+j<q.size:=by omega
   simpa [Array.getD,h1,h2] using this
 unfold byd at h ⊢
 cases left with
 | true =>
  simp only [if_true] at h ⊢
  cases z:lt (q.getD (base+i) 0) key with
  | true=>rfl
  | false=>rw [O.trans _ _ _ z le] at h;cases h
 | false =>
  simp only [Bool.false_eq_true,if_false,Bool.not_eq_true'] at h ⊢
  exact O.trans _ _ _ le h
def Fin2 (lt:Nat->Nat->Bool) (all:List Nat) (f:Nat->Keyed) (x:Array Keyed):Prop := ∃r:Array Nat,x=r.map f/\Ri lt r.toList/\r.toList.Perm all
theorem qMh (O:Srt.Ord lt) (hA:AskOk prog w A κ it lt I N) {a b:Array Nat} {st:SortSt} {s:Shared} {Q:Array Keyed->SortSt->Shared->Prop} (hk:kindOf st = κ) (hI:I s) (ha:0<a.size) (hb:0<b.size) (hna : ∀x∈a,x<N) (hnb : ∀x∈b,x<N)
  (ra:Ri lt a.toList) (rb:Ri lt b.toList) (hlast : ∀y∈b.toList,lt a[a.size - 1] y=false) (hfirst:lt b[0] a[0]=true)
  (h : ∀x st' s',Fin2 lt (a.toList++b.toList) (kas_item it) x->SameSt st st'->I s'->Q x st' s') :
  kasC (model prog w) A E (qQs (a.map (kas_item it)) (b.map (kas_item it))) Q st s:=by
 have sa:(a.map (kas_item it)).size=a.size:=Array.size_map
 have sb:(b.map (kas_item it)).size=b.size:=Array.size_map
 have hmb : ∀i (hi:i<b.size),b[i]<N:=fun i hi=>hnb _ (Array.getElem_mem hi)
 have hma : ∀i (hi:i<a.size),a[i]<N:=fun i hi=>hna _ (Array.getElem_mem hi)
 have nilb : ∀ {x:List Nat} {i:Nat},i=b.size->Be lt x (b.toList.drop i):=fun {x i} e u hu y hy=>by
  rw [e,List.drop_of_length_le (by simp)] at hy;cases hy
 have lasta : ∀ {j i:Nat},i+1=a.size->Be lt (b.toList.drop j) (a.toList.drop i):=fun {j i} e x hx y hy=>by
  rw [qAz (b:=a) (by omega),e,List.drop_of_length_le (by simp)] at hy
  have hy:y=a[i]:=by simpa using hy
  have:i=a.size - 1:=by omega
  subst this
  rw [hy]
  exact hlast x (List.mem_of_mem_drop hx)
 have M1:Mg lt (a.toList++b.toList) (#[b[0]]:Array Nat).toList (a.toList.drop 0) (b.toList.drop 1):=by
  have M0:Mg lt (a.toList++b.toList) (#[]:Array Nat).toList (a.toList.drop 0) (b.toList.drop 0):=⟨by simp,by simp,by simpa using ra,by simpa using rb,by intro x hx;simp at hx,by intro x hx;simp at hx⟩
  refine qL0 M0 hb ?_
  rw [qAz (b:=a) (by omega)]
  refine qD1 O (by rw [<-qAz (b:=a) (by omega)];simpa using ra) (O.asym _ _ hfirst)
 have e0:(#[kas_item it b[0]]:Array Keyed)=(#[b[0]]:Array Nat).map (kas_item it):=by simp
 have fin_ab : ∀ {o:Array Nat} {i j:Nat},Mg lt (a.toList++b.toList) o.toList (a.toList.drop i) (b.toList.drop j)->j=b.size->Fin2 lt (a.toList++b.toList) (kas_item it) (o.map (kas_item it)++(a.map (kas_item it)).extract i (a.map (kas_item it)).size++(b.map (kas_item it)).extract j (b.map (kas_item it)).size):=fun {o i j} hM e=>qP6 hM (nilb e)
 have fin_ba : ∀ {o:Array Nat} {i j:Nat},Mg lt (a.toList++b.toList) o.toList (a.toList.drop i) (b.toList.drop j)->i+1=a.size->Fin2 lt (a.toList++b.toList) (kas_item it) (o.map (kas_item it)++(b.map (kas_item it)).extract j (b.map (kas_item it)).size++(a.map (kas_item it)).extract i (a.map (kas_item it)).size):=fun {o i j} hM e=>qTq hM (lasta e)
 refine kasC_bind (kasC_lift (wpAny_rule ?_))
 refine kasC_bind (qAf (qAi hb) ?_)
 rw [e0]
 refine qA5 (fun hc=>kasC_pure ?_) (fun hc => ?_)
 ·have hc:1=b.size:=by rw [sb] at hc;simpa using hc
  exact h _ _ _ (fin_ab M1 hc) (.refl _) hI
 refine qA5 (fun hc2=>kasC_pure ?_) (fun hc2 => ?_)
 ·have hc2:0+1=a.size:=by rw [sa] at hc2;simpa using hc2
  exact h _ _ _ (fin_ba M1 hc2) (.refl _) hI
 have hb1:1<b.size:=by rw [sb] at hc;simp at hc;omega
 have ha1:0+1<a.size:=by rw [sa] at hc2;simp at hc2;omega
 refine kasC_bind (kasC_get ?_)
 refine kasC_bind (qAd (qB8 (Q:=fun v st' s' => ∃x y,v=(some x,y)/\Fin2 lt (a.toList++b.toList) (kas_item it) x/\SameSt st st'/\I s') (fun k v st' s' => ∃(o:Array Nat) (ia ib mg:Nat),v=(none,o.map (kas_item it),ia,ib,mg)/\SameSt st st'/\I s'/\Mg lt (a.toList++b.toList) o.toList (a.toList.drop ia) (b.toList.drop ib)/\ia+1<a.size/\ib<b.size/\(a.size - ia)+(b.size - ib)<=k) ⟨#[b[0]],0,1,gallopOf st,rfl,.refl _,hI,M1,ha1,hb1,by rw [sa,sb];omega⟩ ?_ ?_) ?_)
 ·rintro k x v st1 s1 ⟨o,ia,ib,mg,rfl,hS1,hI1,hM1,h1,h2,h3⟩
  have hR0:(a.size - ia)+(b.size - ib)<=a.size+b.size:=by omega
  refine kasC_bind (qAd (qB8 (Q:=fun v st' s'=>(∃x y,v=(some x,y)/\Fin2 lt (a.toList++b.toList) (kas_item it) x/\SameSt st st'/\I s') \/ ∃(o:Array Nat) (ja jb ac bc:Nat),v=(none,o.map (kas_item it),ja,jb,ac,bc)/\SameSt st st'/\I s'/\Mg lt (a.toList++b.toList) o.toList (a.toList.drop ja) (b.toList.drop jb)/\ja+1<a.size/\jb<b.size/\(a.size - ja)+(b.size - jb)<(a.size - ia)+(b.size - ib))
   (fun k v st' s' => ∃(o:Array Nat) (ja jb ac bc:Nat),v=(none,o.map (kas_item it),ja,jb,ac,bc)/\SameSt st st'/\I s'/\Mg lt (a.toList++b.toList) o.toList (a.toList.drop ja) (b.toList.drop jb)/\ja+1<a.size/\jb<b.size/\(a.size - ja)+(b.size - jb)+(a.size+b.size)<=(a.size - ia)+(b.size - ib)+k/\k<=a.size+b.size) ⟨o,ia,ib,0,0,rfl,hS1,hI1,hM1,h1,h2,by rw [sa,sb];omega,by rw [sa,sb];omega⟩ ?_ ?_) ?_)
  ·rintro k x v st2 s2 ⟨o,ja,jb,ac,bc,rfl,hS2,hI2,hM2,g1,g2,g3,g4⟩
   refine kasC_bind (qAf (qAi g2) ?_)
   refine kasC_bind (qAf (qAi (by omega:ja<a.size)) ?_)
   refine kasC_bind (qOl hA (hS2.1.trans hk) (hmb _ g2) (hma _ (by omega)) hI2 fun s3 hI3 => ?_)
   cases hw:lt b[jb] a[ja] with
   | true =>
    refine qA5 (fun _ => ?_) (fun z=>absurd rfl z)
    refine kasC_bind (qAf (qAi g2) ?_)
    have hM3:=qL0 hM2 g2 (by
     rw [qAz (b:=a) (by omega)]
     exact qD1 O (by rw [<-qAz (b:=a) (by omega)];exact hM2.ra) (O.asym _ _ hw))
    refine qA5 (fun hc=>kasC_pure (.inl ⟨_,_,rfl,?_,hS2,hI3⟩)) (fun hc => ?_)
    ·have hc:jb+1=b.size:=by rw [sb] at hc;simpa using hc
     have:=fin_ab hM3 hc
     rw [Array.map_push] at this
     exact this
    ·have hc:jb+1≠b.size:=by rw [sb] at hc;simpa using hc
     refine qA5 (fun _=>kasC_pure (.inr ⟨o.push b[jb],ja,jb+1,_,_,by rw [Array.map_push],hS2,hI3,hM3,g1,by omega,by omega⟩)) (fun _=>kasC_pure ⟨o.push b[jb],ja,jb+1,_,_,by rw [Array.map_push],hS2,hI3,hM3,g1,by omega,by omega,by omega⟩)
   | false =>
    refine qA5 (fun z=>absurd z Bool.false_ne_true) (fun _ => ?_)
    refine kasC_bind (qAf (qAi (by omega:ja<a.size)) ?_)
    have hM3:=qIq hM2 (by omega:ja<a.size) (by
     rw [qAz g2]
     exact qD1 O (by rw [<-qAz g2];exact hM2.rb) hw)
    refine qA5 (fun hc=>kasC_pure (.inl ⟨_,_,rfl,?_,hS2,hI3⟩)) (fun hc => ?_)
    ·have hc:ja+1+1=a.size:=by rw [sa] at hc;simpa using hc
     have:=fin_ba hM3 hc
     rw [Array.map_push] at this
     exact this
    ·have hc:ja+1+1≠a.size:=by rw [sa] at hc;simpa using hc
     refine qA5 (fun _=>kasC_pure (.inr ⟨o.push a[ja],ja+1,jb,_,_,by rw [Array.map_push],hS2,hI3,hM3,by omega,g2,by omega⟩)) (fun _=>kasC_pure ⟨o.push a[ja],ja+1,jb,_,_,by rw [Array.map_push],hS2,hI3,hM3,by omega,g2,by omega,by omega⟩)
  ·rintro v st2 s2 ⟨o,ja,jb,ac,bc,rfl,hS2,hI2,hM2,g1,g2,g3,g4⟩
   omega
  rintro v st2 s2 (⟨x,y,rfl,hF,hS2,hI2⟩ | ⟨o,ja,jb,ac,bc,rfl,hS2,hI2,hM2,g1,g2,g3⟩)
  ·exact kasC_pure ⟨_,_,rfl,hF,hS2,hI2⟩
  refine kasC_bind (kasC_lift (wpAny_rule ?_))
  refine kasC_bind (qAd (qB8 (Q:=fun v st' s'=>(∃x y,v=(some x,y)/\Fin2 lt (a.toList++b.toList) (kas_item it) x/\SameSt st st'/\I s') \/ ∃(o:Array Nat) (ja jb g ac bc:Nat),v=(none,o.map (kas_item it),ja,jb,g,ac,bc)/\SameSt st st'/\I s'/\Mg lt (a.toList++b.toList) o.toList (a.toList.drop ja) (b.toList.drop jb)/\ja+1<a.size/\jb<b.size/\(a.size - ja)+(b.size - jb)<(a.size - ia)+(b.size - ib))
   (fun k v st' s' => ∃(o:Array Nat) (ja jb g ac bc:Nat),v=(none,o.map (kas_item it),ja,jb,g,ac,bc)/\SameSt st st'/\I s'/\Mg lt (a.toList++b.toList) o.toList (a.toList.drop ja) (b.toList.drop jb)/\ja+1<a.size/\jb<b.size/\(a.size - ja)+(b.size - jb)<(a.size - ia)+(b.size - ib)) ⟨o,ja,jb,_,_,_,rfl,hS2,hI2,hM2,g1,g2,g3⟩ ?_ ?_) ?_)
  ·clear g3 g2 g1 hM2 hI2 hS2
   rintro k x v st2 s2 ⟨o,ja,jb,g,ac,bc,rfl,hS2,hI2,hM2,g1,g2,g3⟩
   have g0:ja<a.size:=by omega
   refine qA5 (fun _ => ?_) (fun _ => ?_)
   all_goals
    refine kasC_bind (qE4 fun st4 hS4 => ?_)
    have hS5:=hS2.trans hS4
    refine kasC_bind (qAf (qAi g2) ?_)
    refine kasC_bind (qBu hA (left:=false) (key:=b[jb]) (q:=a) (base:=ja) (hint:=0) (n:=(a.map (kas_item it)).size - ja) (hS5.1.trans hk) (by rw [sa];omega) hna (hmb _ g2) (by rw [sa];omega) hI2 (qDf O (by rw [sa];omega) hM2.ra) fun k1 s4 hk1 hpre hsuf hI4 => ?_)
    rw [sa] at hk1 hsuf
    refine qA5 (fun hk0 => ?_) (fun hk0 => ?_)
    ·have hM5:=qTu (k:=k1) hM2 (fun x hx y hy=>by
      obtain⟨j,j1,j2,j3⟩:=qG2 hx
      have:=hpre j j1
      unfold byd at this
      rw [j3,if_neg Bool.false_ne_true] at this
      have this:lt b[jb] x=false:=by simpa using this
      exact qD1 O (by rw [<-qAz g2];exact hM2.rb) this x (by simp) y (by rw [<-qAz g2];exact hy))
     have hs5 : ∀y∈a.toList.drop (ja+k1),lt b[jb] y=true:=fun y hy=>by
      obtain⟨j,j1,j2,j3⟩:=qD9 hy
      have:=hsuf (j - ja) (by omega) (by omega)
      unfold byd at this
      rw [show ja+(j - ja)=j by omega,j3,if_neg Bool.false_ne_true] at this
      simpa using this
     have he1 : ∀o:Array Nat,o.map (kas_item it)++(a.map (kas_item it)).extract ja (ja+k1)=(o++a.extract ja (ja+k1)).map (kas_item it):=fun o=>by simp [Array.map_append,Array.map_extract]
     rw [he1]
     refine qA5 (fun hc=>kasC_pure (.inl ⟨_,_,rfl,?_,hS5,hI4⟩)) (fun hc => ?_)
     ·have hc:ja+k1+1=a.size:=by rw [sa] at hc;simpa using hc
      exact fin_ba hM5 hc
     have hc5:ja+k1+1≠a.size:=by rw [sa] at hc;simpa using hc
     refine qA5 (fun hc=>kasC_pure (.inl ⟨_,_,rfl,?_,hS5,hI4⟩)) (fun hc => ?_)
     ·have hc:ja+k1=a.size:=by rw [sa] at hc;simpa using hc
      exact qP6 hM5 (fun u hu=>by rw [hc,List.drop_of_length_le (by simp)] at hu;cases hu)
     have hc6:ja+k1≠a.size:=by rw [sa] at hc;simpa using hc
     have g5:ja+k1<a.size:=by omega
     refine kasC_bind (qAf (qAi g2) ?_)
     have hM6:=qL0 hM5 g2 (fun x hx y hy=>by
      have hx:=List.mem_singleton.mp hx
      rw [hx]
      exact O.asym _ _ (hs5 y hy))
     rw [<-Array.map_push]
     refine qA5 (fun hc=>kasC_pure (.inl ⟨_,_,rfl,?_,hS5,hI4⟩)) (fun hc => ?_)
     ·have hc:jb+1=b.size:=by rw [sb] at hc;simpa using hc
      exact fin_ab hM6 hc
     have hc:jb+1≠b.size:=by rw [sb] at hc;simpa using hc
     refine kasC_bind (qAf (qAi g5) ?_)
     refine kasC_bind (qBu hA (left:=true) (key:=a[(ja+k1)]'g5) (q:=b) (base:=jb+1) (hint:=0) (n:=(b.map (kas_item it)).size - (jb+1)) (hS5.1.trans hk) (by rw [sb];omega) hnb (hma _ g5) (by rw [sb];omega) hI4 (qDf O (by rw [sb];omega) hM6.rb) fun k2 s5 hk2 hpre2 hsuf2 hI5 => ?_)
     rw [sb] at hk2 hsuf2
     refine qA5 (fun hk0 => ?_) (fun hk0 => ?_)
     ·have hM7:=qPj (k:=k2) hM6 (fun x hx y hy=>by
       obtain⟨j,j1,j2,j3⟩:=qG2 hx
       have:=hpre2 j j1
       unfold byd at this
       rw [j3,if_pos rfl] at this
       exact qD1 O (by rw [<-qAz (b:=a) g5];exact hM6.ra) (O.asym _ _ this) x (by simp) y (by rw [<-qAz (b:=a) g5];exact hy))
      have hs7 : ∀y∈b.toList.drop (jb+1+k2),lt y (a[(ja+k1)]'g5)=false:=fun y hy=>by
       obtain⟨j,j1,j2,j3⟩:=qD9 hy
       have:=hsuf2 (j - (jb+1)) (by omega) (by omega)
       unfold byd at this
       rw [show jb+1+(j - (jb+1))=j by omega,j3,if_pos rfl] at this
       exact this
      have he2 : ∀o:Array Nat,o.map (kas_item it)++(b.map (kas_item it)).extract (jb+1) (jb+1+k2)=(o++b.extract (jb+1) (jb+1+k2)).map (kas_item it):=fun o=>by simp [Array.map_append,Array.map_extract]
      rw [he2]
      refine qA5 (fun hc=>kasC_pure (.inl ⟨_,_,rfl,?_,hS5,hI5⟩)) (fun hc => ?_)
      ·have hc:jb+1+k2=b.size:=by rw [sb] at hc;simpa using hc
       exact fin_ab hM7 hc
      have hc7:jb+1+k2≠b.size:=by rw [sb] at hc;simpa using hc
      refine kasC_bind (qAf (qAi g5) ?_)
      have hM8:=qIq hM7 g5 (fun x hx y hy=>by
       have hx:=List.mem_singleton.mp hx
       rw [hx]
       exact hs7 y hy)
      refine qA5 (fun hc=>kasC_pure (.inl ⟨_,_,rfl,?_,hS5,hI5⟩)) (fun hc => ?_)
      ·have hc:(ja+k1)+1+1=a.size:=by rw [sa] at hc;simpa using hc
       have:=fin_ba hM8 hc
       rw [Array.map_push] at this
       exact this
      have hc:(ja+k1)+1+1≠a.size:=by rw [sa] at hc;simpa using hc
      exact qA5 (fun _=>kasC_pure (.inr ⟨_,_,_,_,_,_,by rw [<-Array.map_push],hS5,hI5,hM8,by omega,by omega,by omega⟩)) (fun _=>kasC_pure ⟨_,_,_,_,_,_,by rw [<-Array.map_push],hS5,hI5,hM8,by omega,by omega,by omega⟩)
     ·have hk0:k2=0:=by omega
      subst hk0
      have hM7:=hM6
      have hs7 : ∀y∈b.toList.drop (jb+1),lt y (a[(ja+k1)]'g5)=false:=fun y hy=>by
       obtain⟨j,j1,j2,j3⟩:=qD9 hy
       have:=hsuf2 (j - (jb+1)) (by omega) (by omega)
       unfold byd at this
       rw [show jb+1+(j - (jb+1))=j by omega,j3,if_pos rfl] at this
       exact this
      refine kasC_bind (qAf (qAi g5) ?_)
      have hM8:=qIq hM7 g5 (fun x hx y hy=>by
       have hx:=List.mem_singleton.mp hx
       rw [hx]
       exact hs7 y hy)
      refine qA5 (fun hc=>kasC_pure (.inl ⟨_,_,rfl,?_,hS5,hI5⟩)) (fun hc => ?_)
      ·have hc:(ja+k1)+1+1=a.size:=by rw [sa] at hc;simpa using hc
       have:=fin_ba hM8 hc
       rw [Array.map_push] at this
       exact this
      have hc:(ja+k1)+1+1≠a.size:=by rw [sa] at hc;simpa using hc
      exact qA5 (fun _=>kasC_pure (.inr ⟨_,_,_,_,_,_,by rw [<-Array.map_push],hS5,hI5,hM8,by omega,by omega,by omega⟩)) (fun _=>kasC_pure ⟨_,_,_,_,_,_,by rw [<-Array.map_push],hS5,hI5,hM8,by omega,by omega,by omega⟩)
    ·have hk0:k1=0:=by omega
     subst hk0
     have hM5:=hM2
     have g5:ja<a.size:=g0
     have hs5 : ∀y∈a.toList.drop ja,lt b[jb] y=true:=fun y hy=>by
      obtain⟨j,j1,j2,j3⟩:=qD9 hy
      have:=hsuf (j - ja) (by omega) (by omega)
      unfold byd at this
      rw [show ja+(j - ja)=j by omega,j3,if_neg Bool.false_ne_true] at this
      simpa using this
     refine kasC_bind (qAf (qAi g2) ?_)
     have hM6:=qL0 hM5 g2 (fun x hx y hy=>by
      have hx:=List.mem_singleton.mp hx
      rw [hx]
      exact O.asym _ _ (hs5 y hy))
     rw [<-Array.map_push]
     refine qA5 (fun hc=>kasC_pure (.inl ⟨_,_,rfl,?_,hS5,hI4⟩)) (fun hc => ?_)
     ·have hc:jb+1=b.size:=by rw [sb] at hc;simpa using hc
      exact fin_ab hM6 hc
     have hc:jb+1≠b.size:=by rw [sb] at hc;simpa using hc
     refine kasC_bind (qAf (qAi g5) ?_)
     refine kasC_bind (qBu hA (left:=true) (key:=a[ja]'g5) (q:=b) (base:=jb+1) (hint:=0) (n:=(b.map (kas_item it)).size - (jb+1)) (hS5.1.trans hk) (by rw [sb];omega) hnb (hma _ g5) (by rw [sb];omega) hI4 (qDf O (by rw [sb];omega) hM6.rb) fun k2 s5 hk2 hpre2 hsuf2 hI5 => ?_)
     rw [sb] at hk2 hsuf2
     refine qA5 (fun hk0 => ?_) (fun hk0 => ?_)
     ·have hM7:=qPj (k:=k2) hM6 (fun x hx y hy=>by
       obtain⟨j,j1,j2,j3⟩:=qG2 hx
       have:=hpre2 j j1
       unfold byd at this
       rw [j3,if_pos rfl] at this
       exact qD1 O (by rw [<-qAz (b:=a) g5];exact hM6.ra) (O.asym _ _ this) x (by simp) y (by rw [<-qAz (b:=a) g5];exact hy))
      have hs7 : ∀y∈b.toList.drop (jb+1+k2),lt y (a[ja]'g5)=false:=fun y hy=>by
       obtain⟨j,j1,j2,j3⟩:=qD9 hy
       have:=hsuf2 (j - (jb+1)) (by omega) (by omega)
       unfold byd at this
       rw [show jb+1+(j - (jb+1))=j by omega,j3,if_pos rfl] at this
       exact this
      have he2 : ∀o:Array Nat,o.map (kas_item it)++(b.map (kas_item it)).extract (jb+1) (jb+1+k2)=(o++b.extract (jb+1) (jb+1+k2)).map (kas_item it):=fun o=>by simp [Array.map_append,Array.map_extract]
      rw [he2]
      refine qA5 (fun hc=>kasC_pure (.inl ⟨_,_,rfl,?_,hS5,hI5⟩)) (fun hc => ?_)
      ·have hc:jb+1+k2=b.size:=by rw [sb] at hc;simpa using hc
       exact fin_ab hM7 hc
      have hc7:jb+1+k2≠b.size:=by rw [sb] at hc;simpa using hc
      refine kasC_bind (qAf (qAi g5) ?_)
      have hM8:=qIq hM7 g5 (fun x hx y hy=>by
       have hx:=List.mem_singleton.mp hx
       rw [hx]
       exact hs7 y hy)
      refine qA5 (fun hc=>kasC_pure (.inl ⟨_,_,rfl,?_,hS5,hI5⟩)) (fun hc => ?_)
      ·have hc:ja+1+1=a.size:=by rw [sa] at hc;simpa using hc
       have:=fin_ba hM8 hc
       rw [Array.map_push] at this
       exact this
      have hc:ja+1+1≠a.size:=by rw [sa] at hc;simpa using hc
      exact qA5 (fun _=>kasC_pure (.inr ⟨_,_,_,_,_,_,by rw [<-Array.map_push],hS5,hI5,hM8,by omega,by omega,by omega⟩)) (fun _=>kasC_pure ⟨_,_,_,_,_,_,by rw [<-Array.map_push],hS5,hI5,hM8,by omega,by omega,by omega⟩)
     ·have hk0:k2=0:=by omega
      subst hk0
      have hM7:=hM6
      have hs7 : ∀y∈b.toList.drop (jb+1),lt y (a[ja]'g5)=false:=fun y hy=>by
       obtain⟨j,j1,j2,j3⟩:=qD9 hy
       have:=hsuf2 (j - (jb+1)) (by omega) (by omega)
       unfold byd at this
       rw [show jb+1+(j - (jb+1))=j by omega,j3,if_pos rfl] at this
       exact this
      refine kasC_bind (qAf (qAi g5) ?_)
      have hM8:=qIq hM7 g5 (fun x hx y hy=>by
       have hx:=List.mem_singleton.mp hx
       rw [hx]
       exact hs7 y hy)
      refine qA5 (fun hc=>kasC_pure (.inl ⟨_,_,rfl,?_,hS5,hI5⟩)) (fun hc => ?_)
      ·have hc:ja+1+1=a.size:=by rw [sa] at hc;simpa using hc
       have:=fin_ba hM8 hc
       rw [Array.map_push] at this
       exact this
      have hc:ja+1+1≠a.size:=by rw [sa] at hc;simpa using hc
      exact qA5 (fun _=>kasC_pure (.inr ⟨_,_,_,_,_,_,by rw [<-Array.map_push],hS5,hI5,hM8,by omega,by omega,by omega⟩)) (fun _=>kasC_pure ⟨_,_,_,_,_,_,by rw [<-Array.map_push],hS5,hI5,hM8,by omega,by omega,by omega⟩)
  ·rintro v st2 s2 ⟨o,ja,jb,g,ac,bc,rfl,hS2,hI2,hM2,g1,g2,g3⟩
   exact .inr ⟨o,ja,jb,g,ac,bc,rfl,hS2,hI2,hM2,g1,g2,g3⟩
  rintro v st2 s2 (⟨x,y,rfl,hF,hS2,hI2⟩ | ⟨o,ja,jb,g,ac,bc,rfl,hS2,hI2,hM2,g1,g2,g3⟩)
  ·exact kasC_pure ⟨_,_,rfl,hF,hS2,hI2⟩
  refine kasC_bind (qE4 fun st4 hS4 => ?_)
  exact kasC_pure ⟨o,ja,jb,_,rfl,hS2.trans hS4,hI2,hM2,g1,g2,by omega⟩
 ·rintro v st1 s1 ⟨o,ia,ib,mg,rfl,hS1,hI1,hM1,h1,h2,h3⟩
  omega
 ·rintro v st1 s1 ⟨x,y,rfl,hF,hS1,hI1⟩
  exact kasC_pure (h _ _ _ hF hS1 hI1)
end
def flp (lt:Nat->Nat->Bool):Nat->Nat->Bool:=fun x y=>lt y x
section
variable {lt:Nat->Nat->Bool}
theorem qP0 (O:Srt.Ord lt):Srt.Ord (flp lt):=⟨fun a b h=>O.asym _ _ h,fun a b c h1 h2=>O.trans _ _ _ h2 h1⟩
theorem ri_rev {l:List Nat}:Ri (flp lt) l.reverse↔Ri lt l:=List.pairwise_reverse
theorem qUc {l:List Nat} (h:Ri (flp lt) l):Ri lt l.reverse:=List.pairwise_reverse.mpr h
theorem qCr {a:Array Nat} {n:Nat} (h0:0<n) (h:n<=a.size):(a.toList.take n).reverse=a[n - 1]::(a.toList.take (n - 1)).reverse:=by
 obtain⟨m,rfl⟩ : ∃m,n=m+1:=⟨n - 1,by omega⟩
 rw [List.take_add_one,List.getElem?_eq_getElem (by simp;omega)]
 simp
theorem qM0 {a:Array Nat} {i n:Nat} (h:i<=n):(a.toList.take n).reverse=(a.extract i n).reverse.toList++(a.toList.take i).reverse:=by
 rw [Array.toList_reverse,<-List.reverse_append]
 congr 1
 rw [Array.toList_extract,List.extract_eq_drop_take,<-List.take_add]
 congr 1
 omega
theorem qKt {a:Array Nat} {n:Nat}:(a.extract 0 n).toList=a.toList.take n:=by
 rw [Array.toList_extract,List.extract_eq_drop_take];simp
theorem qVm {all:List Nat} {o a b:Array Nat} {na nb:Nat} {f:Nat->Keyed} (h:Mg (flp lt) all o.toList (a.toList.take na).reverse (b.toList.take nb).reverse) (hb:Be (flp lt) (b.toList.take nb).reverse (a.toList.take na).reverse):Fin2 lt all f ((a.map f).extract 0 na++(b.map f).extract 0 nb++(o.map f).reverse):=by
 refine⟨a.extract 0 na++b.extract 0 nb++o.reverse,by simp [Array.map_append,Array.map_extract,Array.map_reverse],?_⟩
 obtain⟨h1,h2⟩:=h.fin' hb
 have e:(a.extract 0 na++b.extract 0 nb++o.reverse).toList=(o.toList++(b.toList.take nb).reverse++(a.toList.take na).reverse).reverse:=by
  rw [Array.toList_append,Array.toList_append,qKt,qKt,Array.toList_reverse]
  simp
 rw [e]
 exact⟨qUc h1,(List.reverse_perm _).trans h2⟩
theorem qWe {all:List Nat} {o a b:Array Nat} {na nb:Nat} {f:Nat->Keyed} (h:Mg (flp lt) all o.toList (a.toList.take na).reverse (b.toList.take nb).reverse) (hb:Be (flp lt) (a.toList.take na).reverse (b.toList.take nb).reverse):Fin2 lt all f ((b.map f).extract 0 nb++(a.map f).extract 0 na++(o.map f).reverse):=qVm h.swap hb
theorem qDt {all:List Nat} {o a b:Array Nat} {na nb:Nat} (h:Mg (flp lt) all o.toList (a.toList.take na).reverse (b.toList.take nb).reverse) (h0:0<na) (hn:na<=a.size) (hb:Be (flp lt) [a[na - 1]] (b.toList.take nb).reverse):Mg (flp lt) all (o.push a[na - 1]).toList (a.toList.take (na - 1)).reverse (b.toList.take nb).reverse:=by
 rw [qCr h0 hn] at h
 rw [Array.toList_push]
 exact Mg.takeA (a :=[a[na - 1]]) h hb
theorem qLm {all:List Nat} {o a b:Array Nat} {na nb i:Nat} (h:Mg (flp lt) all o.toList (a.toList.take na).reverse (b.toList.take nb).reverse) (hi:i<=na) (hb:Be (flp lt) (a.extract i na).reverse.toList (b.toList.take nb).reverse):Mg (flp lt) all (o++(a.extract i na).reverse).toList (a.toList.take i).reverse (b.toList.take nb).reverse:=by
 rw [qM0 hi] at h
 rw [Array.toList_append]
 exact Mg.takeA h hb
theorem qBs {a:Array Nat} {n x:Nat} (h:x∈(a.toList.take n).reverse) : ∃j,j<n/\j<a.size/\a.getD j 0=x:=by
 obtain⟨j,hj,e⟩:=List.getElem_of_mem (List.mem_reverse.mp h)
 rw [List.getElem_take] at e
 have hl:j<n/\j<a.size:=by
  have:j<min n a.toList.length:=by simpa using hj
  simp at this;omega
 exact⟨j,hl.1,hl.2,by simp [Array.getD,hl.2];simpa using e⟩
theorem qDa {a:Array Nat} {i n x:Nat} (h:x∈(a.extract i n).reverse.toList) : ∃j,i<=j/\j<n/\j<a.size/\a.getD j 0=x:=by
 rw [Array.toList_reverse] at h
 obtain⟨j,hj,e⟩:=List.getElem_of_mem (List.mem_reverse.mp h)
 have hl:j<(a.extract i n).size:=by rw [<-Array.length_toList];exact hj
 have hl0:=hl
 rw [Array.size_extract] at hl
 have e2:(a.extract i n)[j]'hl0=x:=by rw [<-e,Array.getElem_toList]
 rw [Array.getElem_extract] at e2
 have hlt:i+j<a.size:=by omega
 exact⟨i+j,by omega,by omega,hlt,by simp [Array.getD,hlt,e2]⟩
end
section
variable {prog:Program} {w:World} {A:Around} {E:Value->Shared->Prop} {κ : SortKind} {it:Array Keyed} {lt:Nat->Nat->Bool} {I:Shared->Prop} {N:Nat}
theorem qKa {all:List Nat} {o a b:Array Nat} {na nb:Nat} (h:Mg (flp lt) all o.toList (a.toList.take na).reverse (b.toList.take nb).reverse) (h0:0<nb) (hn:nb<=b.size) (hb:Be (flp lt) [b[nb - 1]] (a.toList.take na).reverse):Mg (flp lt) all (o.push b[nb - 1]).toList (a.toList.take na).reverse (b.toList.take (nb - 1)).reverse:=(qDt h.swap h0 hn hb).swap
theorem qLl {all:List Nat} {o a b:Array Nat} {na nb i:Nat} (h:Mg (flp lt) all o.toList (a.toList.take na).reverse (b.toList.take nb).reverse) (hi:i<=nb) (hb:Be (flp lt) (b.extract i nb).reverse.toList (a.toList.take na).reverse):Mg (flp lt) all (o++(b.extract i nb).reverse).toList (a.toList.take na).reverse (b.toList.take i).reverse:=(qLm h.swap hi hb).swap
theorem qSi (O:Srt.Ord lt) {a:Array Nat} (h:Ri lt a.toList) {i j:Nat} (hij:i<=j) (hj:j<a.size):lt (a[j]) (a[i]'(by omega))=false:=by
 by_cases e:i=j
 ·subst e;exact O.irr _
 ·have:=List.pairwise_iff_getElem.mp h i j (by simp;omega) (by simpa using hj) (by omega)
  simpa using this
theorem qMi (O:Srt.Ord lt) (hA:AskOk prog w A κ it lt I N) {a b:Array Nat} {st:SortSt} {s:Shared} {Q:Array Keyed->SortSt->Shared->Prop} (hk:kindOf st = κ) (hI:I s) (ha:0<a.size) (hb:0<b.size) (hna : ∀x∈a,x<N) (hnb : ∀x∈b,x<N)
  (ra:Ri lt a.toList) (rb:Ri lt b.toList) (hlast : ∀y∈b.toList,lt a[a.size - 1] y=false) (hfirst:lt b[0] a[0]=true)
  (h : ∀x st' s',Fin2 lt (a.toList++b.toList) (kas_item it) x->SameSt st st'->I s'->Q x st' s') :
  kasC (model prog w) A E (qQt (a.map (kas_item it)) (b.map (kas_item it))) Q st s:=by
 have sa:(a.map (kas_item it)).size=a.size:=Array.size_map
 have sb:(b.map (kas_item it)).size=b.size:=Array.size_map
 have hmb : ∀i (hi:i<b.size),b[i]<N:=fun i hi=>hnb _ (Array.getElem_mem hi)
 have hma : ∀i (hi:i<a.size),a[i]<N:=fun i hi=>hna _ (Array.getElem_mem hi)
 have ra0:Ri lt (a.toList.drop 0):=by simpa using ra
 have rb0:Ri lt (b.toList.drop 0):=by simpa using rb
 have lea : ∀ {i n y:Nat},i<n->(hn:n<=a.size)->a.getD i 0=y->lt (a[n - 1]'(by omega)) y=false:=fun {i n y} h1 hn e=>by
  have hi:i<a.size:=by omega
  have:=qSi O ra (i:=i) (j:=n - 1) (by omega) (by omega)
  rw [<-e];simpa [Array.getD,hi] using this
 have leb : ∀ {i n y:Nat},i<n->(hn:n<=b.size)->b.getD i 0=y->lt (b[n - 1]'(by omega)) y=false:=fun {i n y} h1 hn e=>by
  have hi:i<b.size:=by omega
  have:=qSi O rb (i:=i) (j:=n - 1) (by omega) (by omega)
  rw [<-e];simpa [Array.getD,hi] using this
 have fin_ab : ∀ {o:Array Nat} {i j:Nat},Mg (flp lt) (a.toList++b.toList) o.toList (a.toList.take i).reverse (b.toList.take j).reverse->i=0\/j=0->Fin2 lt (a.toList++b.toList) (kas_item it) ((a.map (kas_item it)).extract 0 i++(b.map (kas_item it)).extract 0 j++(o.map (kas_item it)).reverse):=fun {o i j} hM e=>qVm hM (fun x hx y hy=>by
  rcases e with e | e
  ·rw [e] at hy;simp at hy
  ·rw [e] at hx;simp at hx)
 have fin_ba : ∀ {o:Array Nat} {i j:Nat},Mg (flp lt) (a.toList++b.toList) o.toList (a.toList.take i).reverse (b.toList.take j).reverse->j=1->Fin2 lt (a.toList++b.toList) (kas_item it) ((b.map (kas_item it)).extract 0 j++(a.map (kas_item it)).extract 0 i++(o.map (kas_item it)).reverse):=fun {o i j} hM e=>qWe hM (fun x hx y hy=>by
  subst e
  obtain⟨p,p1,p2,p3⟩:=qBs hx
  obtain⟨q,q1,q2,q3⟩:=qBs hy
  have q0:q=0:=by omega
  subst q0
  have e1:y=b[0]:=by rw [<-q3];simp [Array.getD,hb]
  have e2:x=a[p]:=by rw [<-p3];simp [Array.getD,p2]
  rw [e1,e2]
  exact O.trans _ _ _ (O.asym _ _ hfirst) (qSi O ra (Nat.zero_le p) p2))
 have M1:Mg (flp lt) (a.toList++b.toList) (#[a[a.size - 1]]:Array Nat).toList (a.toList.take (a.size - 1)).reverse (b.toList.take b.size).reverse:=by
  have M0:Mg (flp lt) (a.toList++b.toList) (#[]:Array Nat).toList (a.toList.take a.size).reverse (b.toList.take b.size).reverse:=by
   rw [List.take_of_length_le (by simp),List.take_of_length_le (by simp)]
   exact⟨by simpa using (List.Perm.append (List.reverse_perm _) (List.reverse_perm _)),by simp,ri_rev.mpr ra,ri_rev.mpr rb,by intro x hx;simp at hx,by intro x hx;simp at hx⟩
  refine qDt M0 ha (Nat.le_refl _) (fun x hx y hy => ?_)
  have hx:=List.mem_singleton.mp hx
  rw [hx]
  exact hlast y (List.mem_of_mem_take (List.mem_reverse.mp hy))
 have e0:(#[kas_item it a[a.size - 1]]:Array Keyed)=(#[a[a.size - 1]]:Array Nat).map (kas_item it):=by simp
 refine kasC_bind (kasC_lift (wpAny_rule ?_))
 refine kasC_bind (qAf (x:=a[a.size - 1]) (by rw [sa];exact qAi (by omega)) ?_)
 rw [e0,sa,sb]
 refine qA5 (fun hc=>kasC_pure ?_) (fun hc => ?_)
 ·have hc:a.size - 1=0:=by simpa using hc
  exact h _ _ _ (fin_ab M1 (.inl hc)) (.refl _) hI
 refine qA5 (fun hc2=>kasC_pure ?_) (fun hc2 => ?_)
 ·have hc2:b.size=1:=by simpa using hc2
  exact h _ _ _ (fin_ba M1 hc2) (.refl _) hI
 have ha1:a.size - 1≠0:=by simpa using hc
 have hb1:b.size≠1:=by simpa using hc2
 refine kasC_bind (kasC_get ?_)
 refine kasC_bind (qAd (qB8 (Q:=fun v st' s' => ∃x y,v=(some x,y)/\Fin2 lt (a.toList++b.toList) (kas_item it) x/\SameSt st st'/\I s') (fun k v st' s' => ∃(o:Array Nat) (ja jb mg:Nat),v=(none,ja,jb,o.map (kas_item it),mg)/\SameSt st st'/\I s'/\Mg (flp lt) (a.toList++b.toList) o.toList (a.toList.take ja).reverse (b.toList.take jb).reverse/\0<ja/\ja<=a.size/\1<jb/\jb<=b.size/\ja+jb<=k) ⟨#[a[a.size - 1]],_,_,gallopOf st,rfl,.refl _,hI,M1,by omega,by omega,by omega,by omega,by omega⟩ ?_ ?_) ?_)
 ·rintro k x v st1 s1 ⟨o,ia,ib,mg,rfl,hS1,hI1,hM1,h1,h2,h3,h4,h5⟩
  refine kasC_bind (qAd (qB8 (Q:=fun v st' s'=>(∃x y,v=(some x,y)/\Fin2 lt (a.toList++b.toList) (kas_item it) x/\SameSt st st'/\I s') \/ ∃(o:Array Nat) (ja jb ac bc:Nat),v=(none,ja,jb,o.map (kas_item it),ac,bc)/\SameSt st st'/\I s'/\Mg (flp lt) (a.toList++b.toList) o.toList (a.toList.take ja).reverse (b.toList.take jb).reverse/\0<ja/\ja<=a.size/\1<jb/\jb<=b.size/\ja+jb<ia+ib)
   (fun k v st' s' => ∃(o:Array Nat) (ja jb ac bc:Nat),v=(none,ja,jb,o.map (kas_item it),ac,bc)/\SameSt st st'/\I s'/\Mg (flp lt) (a.toList++b.toList) o.toList (a.toList.take ja).reverse (b.toList.take jb).reverse/\0<ja/\ja<=a.size/\1<jb/\jb<=b.size/\ja+jb+(a.size+b.size)<=ia+ib+k/\k<=a.size+b.size) ⟨o,ia,ib,0,0,rfl,hS1,hI1,hM1,h1,h2,h3,h4,by omega,by omega⟩ ?_ ?_) ?_)
  ·rintro k x v st2 s2 ⟨o,ja,jb,ac,bc,rfl,hS2,hI2,hM2,g1,g2,g3,g4,g5,g6⟩
   have ga:ja - 1<a.size:=by omega
   have gb:jb - 1<b.size:=by omega
   refine kasC_bind (qAf (qAi gb) ?_)
   refine kasC_bind (qAf (qAi ga) ?_)
   refine kasC_bind (qOl hA (hS2.1.trans hk) (hmb _ gb) (hma _ ga) hI2 fun s3 hI3 => ?_)
   cases hw:lt b[jb - 1] a[ja - 1] with
   | true =>
    refine qA5 (fun _ => ?_) (fun z=>absurd rfl z)
    refine kasC_bind (qAf (qAi ga) ?_)
    have hM3:=qDt hM2 g1 g2 (by
     rw [qCr (a:=b) (by omega) g4]
     exact qD1 (qP0 O) (by rw [<-qCr (a:=b) (by omega) g4];exact hM2.rb) (O.asym _ _ hw))
    refine qA5 (fun hc=>kasC_pure (.inl ⟨_,_,rfl,?_,hS2,hI3⟩)) (fun hc => ?_)
    ·have hc:ja - 1=0:=by simpa using hc
     have:=fin_ab hM3 (.inl hc)
     rw [Array.map_push] at this
     exact this
    ·have hc:ja - 1≠0:=by simpa using hc
     exact qA5 (fun _=>kasC_pure (.inr ⟨o.push a[ja - 1],ja - 1,jb,_,_,by rw [Array.map_push],hS2,hI3,hM3,by omega,by omega,by omega,by omega,by omega⟩)) (fun _=>kasC_pure ⟨o.push a[ja - 1],ja - 1,jb,_,_,by rw [Array.map_push],hS2,hI3,hM3,by omega,by omega,by omega,by omega,by omega,by omega⟩)
   | false =>
    refine qA5 (fun z=>absurd z Bool.false_ne_true) (fun _ => ?_)
    refine kasC_bind (qAf (qAi gb) ?_)
    have hM3:=qKa hM2 (by omega) g4 (by
     rw [qCr (a:=a) g1 g2]
     exact qD1 (qP0 O) (by rw [<-qCr (a:=a) g1 g2];exact hM2.ra) hw)
    refine qA5 (fun hc=>kasC_pure (.inl ⟨_,_,rfl,?_,hS2,hI3⟩)) (fun hc => ?_)
    ·have hc:jb - 1=1:=by simpa using hc
     have:=fin_ba hM3 hc
     rw [Array.map_push] at this
     exact this
    ·have hc:jb - 1≠1:=by simpa using hc
     exact qA5 (fun _=>kasC_pure (.inr ⟨o.push b[jb - 1],ja,jb - 1,_,_,by rw [Array.map_push],hS2,hI3,hM3,by omega,by omega,by omega,by omega,by omega⟩)) (fun _=>kasC_pure ⟨o.push b[jb - 1],ja,jb - 1,_,_,by rw [Array.map_push],hS2,hI3,hM3,by omega,by omega,by omega,by omega,by omega,by omega⟩)
  ·rintro v st2 s2 ⟨o,ja,jb,ac,bc,rfl,hS2,hI2,hM2,g1,g2,g3,g4,g5,g6⟩
   omega
  rintro v st2 s2 (⟨x,y,rfl,hF,hS2,hI2⟩ | ⟨o,ja,jb,ac,bc,rfl,hS2,hI2,hM2,g1,g2,g3,g4,g5⟩)
  ·exact kasC_pure ⟨_,_,rfl,hF,hS2,hI2⟩
  refine kasC_bind (kasC_lift (wpAny_rule ?_))
  refine kasC_bind (qAd (qB8 (Q:=fun v st' s'=>(∃x y,v=(some x,y)/\Fin2 lt (a.toList++b.toList) (kas_item it) x/\SameSt st st'/\I s') \/ ∃(o:Array Nat) (ja jb g ac bc:Nat),v=(none,ja,jb,o.map (kas_item it),g,ac,bc)/\SameSt st st'/\I s'/\Mg (flp lt) (a.toList++b.toList) o.toList (a.toList.take ja).reverse (b.toList.take jb).reverse/\0<ja/\ja<=a.size/\1<jb/\jb<=b.size/\ja+jb<ia+ib)
   (fun k v st' s' => ∃(o:Array Nat) (ja jb g ac bc:Nat),v=(none,ja,jb,o.map (kas_item it),g,ac,bc)/\SameSt st st'/\I s'/\Mg (flp lt) (a.toList++b.toList) o.toList (a.toList.take ja).reverse (b.toList.take jb).reverse/\0<ja/\ja<=a.size/\1<jb/\jb<=b.size/\ja+jb<ia+ib) ⟨o,ja,jb,_,_,_,rfl,hS2,hI2,hM2,g1,g2,g3,g4,g5⟩ ?_ ?_) ?_)
  ·clear g5 g4 g3 g2 g1 hM2 hI2 hS2
   rintro k x v st2 s2 ⟨o,ja,jb,g,ac,bc,rfl,hS2,hI2,hM2,g1,g2,g3,g4,g5⟩
   have ga:ja - 1<a.size:=by omega
   have gb:jb - 1<b.size:=by omega
   refine qA5 (fun _ => ?_) (fun _ => ?_)
   all_goals
    refine kasC_bind (qE4 fun st4 hS4 => ?_)
    have hS5:=hS2.trans hS4
    refine kasC_bind (qAf (qAi gb) ?_)
    refine kasC_bind (qBu hA (left:=false) (key:=b[jb - 1]) (q:=a) (base:=0) (hint:=ja - 1) (n:=ja) (hS5.1.trans hk) (by omega) hna (hmb _ gb) (by omega) hI2 (qDf O (by omega) ra0) fun k1 s4 hk1 hpre hsuf hI4 => ?_)
    have hs5 : ∀y∈(a.toList.take k1).reverse,lt b[jb - 1] y=false:=fun y hy=>by
     obtain⟨j,j1,j2,j3⟩:=qBs hy
     have:=hpre j j1
     unfold byd at this
     rw [Nat.zero_add,j3,if_neg Bool.false_ne_true] at this
     simpa using this
    refine qA5 (fun hk0 => ?_) (fun hk0 => ?_)
    ·have hM5:=qLm hM2 hk1 (fun x hx y hy=>by
      obtain⟨j,j1,j2,j3,j4⟩:=qDa hx
      have:=hsuf j j1 j2
      unfold byd at this
      rw [Nat.zero_add,j4,if_neg Bool.false_ne_true] at this
      have this:lt b[jb - 1] x=true:=by simpa using this
      obtain⟨i,i1,i2,i3⟩:=qBs hy
      exact O.trans _ _ _ (leb i1 g4 i3) (O.asym _ _ this))
     have he1 : ∀o:Array Nat,o.map (kas_item it)++((a.map (kas_item it)).extract k1 ja).reverse=(o++(a.extract k1 ja).reverse).map (kas_item it):=fun o=>by simp [Array.map_append,Array.map_extract,Array.map_reverse]
     rw [he1]
     refine qA5 (fun hc=>kasC_pure (.inl ⟨_,_,rfl,?_,hS5,hI4⟩)) (fun hc => ?_)
     ·have hc:k1=0:=by simpa using hc
      exact fin_ab hM5 (.inl hc)
     have hc5:k1≠0:=by simpa using hc
     refine kasC_bind (qAf (qAi (by omega:jb - 1<b.size)) ?_)
     have hM6:=qKa hM5 (by omega:0<jb) g4 (fun x hx y hy=>by
      have hx:=List.mem_singleton.mp hx
      rw [hx]
      exact hs5 y hy)
     rw [<-Array.map_push]
     refine qA5 (fun hc=>kasC_pure (.inl ⟨_,_,rfl,?_,hS5,hI4⟩)) (fun hc => ?_)
     ·have hc:jb - 1=1:=by simpa using hc
      exact fin_ba hM6 hc
     have hc:jb - 1≠1:=by simpa using hc
     refine kasC_bind (qAf (qAi (by omega:k1 - 1<a.size)) ?_)
     refine kasC_bind (qBu hA (left:=true) (key:=a[k1 - 1]'(by omega)) (q:=b) (base:=0) (hint:=jb - 1 - 1) (n:=jb - 1) (hS5.1.trans hk) (by omega) hnb (hma _ _) (by omega) hI4 (qDf O (by omega) rb0) fun k2 s5 hk2 hpre2 hsuf2 hI5 => ?_)
     refine qA5 (fun hk0 => ?_) (fun hk0 => ?_)
     ·have hM7:=qLl hM6 hk2 (fun x hx y hy=>by
       obtain⟨j,j1,j2,j3,j4⟩:=qDa hx
       have:=hsuf2 j j1 j2
       unfold byd at this
       rw [Nat.zero_add,j4,if_pos rfl] at this
       obtain⟨i,i1,i2,i3⟩:=qBs hy
       exact O.trans _ _ _ (lea i1 (by omega) i3) this)
      have hs7 : ∀y∈(b.toList.take k2).reverse,lt (a[k1 - 1]'(by omega)) y=false:=fun y hy=>by
       obtain⟨j,j1,j2,j3⟩:=qBs hy
       have:=hpre2 j j1
       unfold byd at this
       rw [Nat.zero_add,j3,if_pos rfl] at this
       exact O.asym _ _ this
      have he2 : ∀o:Array Nat,o.map (kas_item it)++((b.map (kas_item it)).extract k2 (jb - 1)).reverse=(o++(b.extract k2 (jb - 1)).reverse).map (kas_item it):=fun o=>by simp [Array.map_append,Array.map_extract,Array.map_reverse]
      rw [he2]
      refine qA5 (fun hc=>kasC_pure (.inl ⟨_,_,rfl,?_,hS5,hI5⟩)) (fun hc => ?_)
      ·have hc:k2=1:=by simpa using hc
       exact fin_ba hM7 hc
      have hc7:k2≠1:=by simpa using hc
      refine qA5 (fun hc=>kasC_pure (.inl ⟨_,_,rfl,?_,hS5,hI5⟩)) (fun hc => ?_)
      ·have hc:k2=0:=by simpa using hc
       exact fin_ab hM7 (.inr hc)
      have hc8:k2≠0:=by simpa using hc
      refine kasC_bind (qAf (qAi (by omega:k1 - 1<a.size)) ?_)
      have hM8:=qDt hM7 (by omega:0<k1) (by omega) (fun x hx y hy=>by
       have hx:=List.mem_singleton.mp hx
       rw [hx]
       exact hs7 y hy)
      rw [<-Array.map_push]
      refine qA5 (fun hc=>kasC_pure (.inl ⟨_,_,rfl,?_,hS5,hI5⟩)) (fun hc => ?_)
      ·have hc:k1 - 1=0:=by simpa using hc
       exact fin_ab hM8 (.inl hc)
      have hc:k1 - 1≠0:=by simpa using hc
      exact qA5 (fun _=>kasC_pure (.inr ⟨_,k1 - 1,k2,_,_,_,rfl,hS5,hI5,hM8,by omega,by omega,by omega,by omega,by omega⟩)) (fun _=>kasC_pure ⟨_,k1 - 1,k2,_,_,_,rfl,hS5,hI5,hM8,by omega,by omega,by omega,by omega,by omega⟩)
     ·have hk0:k2=jb - 1:=by
       have hk0 : ¬(jb - 1 - k2>0):=hk0
       omega
      subst hk0
      have hM7:=hM6
      have hs7 : ∀y∈(b.toList.take (jb - 1)).reverse,lt (a[k1 - 1]'(by omega)) y=false:=fun y hy=>by
       obtain⟨j,j1,j2,j3⟩:=qBs hy
       have:=hpre2 j j1
       unfold byd at this
       rw [Nat.zero_add,j3,if_pos rfl] at this
       exact O.asym _ _ this
      refine kasC_bind (qAf (qAi (by omega:k1 - 1<a.size)) ?_)
      have hM8:=qDt hM7 (by omega:0<k1) (by omega) (fun x hx y hy=>by
       have hx:=List.mem_singleton.mp hx
       rw [hx]
       exact hs7 y hy)
      rw [<-Array.map_push]
      refine qA5 (fun hc=>kasC_pure (.inl ⟨_,_,rfl,?_,hS5,hI5⟩)) (fun hc => ?_)
      ·have hc:k1 - 1=0:=by simpa using hc
       exact fin_ab hM8 (.inl hc)
      have hc:k1 - 1≠0:=by simpa using hc
      exact qA5 (fun _=>kasC_pure (.inr ⟨_,k1 - 1,(jb - 1),_,_,_,rfl,hS5,hI5,hM8,by omega,by omega,by omega,by omega,by omega⟩)) (fun _=>kasC_pure ⟨_,k1 - 1,(jb - 1),_,_,_,rfl,hS5,hI5,hM8,by omega,by omega,by omega,by omega,by omega⟩)
    ·have hk0:k1=ja:=by
      have hk0 : ¬(ja - k1>0):=hk0
      omega
     subst hk0
     have hM5:=hM2
     refine kasC_bind (qAf (qAi (by omega:jb - 1<b.size)) ?_)
     have hM6:=qKa hM5 (by omega:0<jb) g4 (fun x hx y hy=>by
      have hx:=List.mem_singleton.mp hx
      rw [hx]
      exact hs5 y hy)
     rw [<-Array.map_push]
     refine qA5 (fun hc=>kasC_pure (.inl ⟨_,_,rfl,?_,hS5,hI4⟩)) (fun hc => ?_)
     ·have hc:jb - 1=1:=by simpa using hc
      exact fin_ba hM6 hc
     have hc:jb - 1≠1:=by simpa using hc
     refine kasC_bind (qAf (qAi (by omega:k1 - 1<a.size)) ?_)
     refine kasC_bind (qBu hA (left:=true) (key:=a[k1 - 1]'(by omega)) (q:=b) (base:=0) (hint:=jb - 1 - 1) (n:=jb - 1) (hS5.1.trans hk) (by omega) hnb (hma _ _) (by omega) hI4 (qDf O (by omega) rb0) fun k2 s5 hk2 hpre2 hsuf2 hI5 => ?_)
     refine qA5 (fun hk0 => ?_) (fun hk0 => ?_)
     ·have hM7:=qLl hM6 hk2 (fun x hx y hy=>by
       obtain⟨j,j1,j2,j3,j4⟩:=qDa hx
       have:=hsuf2 j j1 j2
       unfold byd at this
       rw [Nat.zero_add,j4,if_pos rfl] at this
       obtain⟨i,i1,i2,i3⟩:=qBs hy
       exact O.trans _ _ _ (lea i1 (by omega) i3) this)
      have hs7 : ∀y∈(b.toList.take k2).reverse,lt (a[k1 - 1]'(by omega)) y=false:=fun y hy=>by
       obtain⟨j,j1,j2,j3⟩:=qBs hy
       have:=hpre2 j j1
       unfold byd at this
       rw [Nat.zero_add,j3,if_pos rfl] at this
       exact O.asym _ _ this
      have he2 : ∀o:Array Nat,o.map (kas_item it)++((b.map (kas_item it)).extract k2 (jb - 1)).reverse=(o++(b.extract k2 (jb - 1)).reverse).map (kas_item it):=fun o=>by simp [Array.map_append,Array.map_extract,Array.map_reverse]
      rw [he2]
      refine qA5 (fun hc=>kasC_pure (.inl ⟨_,_,rfl,?_,hS5,hI5⟩)) (fun hc => ?_)
      ·have hc:k2=1:=by simpa using hc
       exact fin_ba hM7 hc
      have hc7:k2≠1:=by simpa using hc
      refine qA5 (fun hc=>kasC_pure (.inl ⟨_,_,rfl,?_,hS5,hI5⟩)) (fun hc => ?_)
      ·have hc:k2=0:=by simpa using hc
       exact fin_ab hM7 (.inr hc)
      have hc8:k2≠0:=by simpa using hc
      refine kasC_bind (qAf (qAi (by omega:k1 - 1<a.size)) ?_)
      have hM8:=qDt hM7 (by omega:0<k1) (by omega) (fun x hx y hy=>by
       have hx:=List.mem_singleton.mp hx
       rw [hx]
       exact hs7 y hy)
      rw [<-Array.map_push]
      refine qA5 (fun hc=>kasC_pure (.inl ⟨_,_,rfl,?_,hS5,hI5⟩)) (fun hc => ?_)
      ·have hc:k1 - 1=0:=by simpa using hc
       exact fin_ab hM8 (.inl hc)
      have hc:k1 - 1≠0:=by simpa using hc
      exact qA5 (fun _=>kasC_pure (.inr ⟨_,k1 - 1,k2,_,_,_,rfl,hS5,hI5,hM8,by omega,by omega,by omega,by omega,by omega⟩)) (fun _=>kasC_pure ⟨_,k1 - 1,k2,_,_,_,rfl,hS5,hI5,hM8,by omega,by omega,by omega,by omega,by omega⟩)
     ·have hk0:k2=jb - 1:=by
       have hk0 : ¬(jb - 1 - k2>0):=hk0
       omega
      subst hk0
      have hM7:=hM6
      have hs7 : ∀y∈(b.toList.take (jb - 1)).reverse,lt (a[k1 - 1]'(by omega)) y=false:=fun y hy=>by
       obtain⟨j,j1,j2,j3⟩:=qBs hy
       have:=hpre2 j j1
       unfold byd at this
       rw [Nat.zero_add,j3,if_pos rfl] at this
       exact O.asym _ _ this
      refine kasC_bind (qAf (qAi (by omega:k1 - 1<a.size)) ?_)
      have hM8:=qDt hM7 (by omega:0<k1) (by omega) (fun x hx y hy=>by
       have hx:=List.mem_singleton.mp hx
       rw [hx]
       exact hs7 y hy)
      rw [<-Array.map_push]
      refine qA5 (fun hc=>kasC_pure (.inl ⟨_,_,rfl,?_,hS5,hI5⟩)) (fun hc => ?_)
      ·have hc:k1 - 1=0:=by simpa using hc
       exact fin_ab hM8 (.inl hc)
      have hc:k1 - 1≠0:=by simpa using hc
      exact qA5 (fun _=>kasC_pure (.inr ⟨_,k1 - 1,(jb - 1),_,_,_,rfl,hS5,hI5,hM8,by omega,by omega,by omega,by omega,by omega⟩)) (fun _=>kasC_pure ⟨_,k1 - 1,(jb - 1),_,_,_,rfl,hS5,hI5,hM8,by omega,by omega,by omega,by omega,by omega⟩)
  ·rintro v st2 s2 ⟨o,ja,jb,g,ac,bc,rfl,hS2,hI2,hM2,g1,g2,g3,g4,g5⟩
   exact .inr ⟨o,ja,jb,g,ac,bc,rfl,hS2,hI2,hM2,g1,g2,g3,g4,g5⟩
  rintro v st2 s2 (⟨x,y,rfl,hF,hS2,hI2⟩ | ⟨o,ja,jb,g,ac,bc,rfl,hS2,hI2,hM2,g1,g2,g3,g4,g5⟩)
  ·exact kasC_pure ⟨_,_,rfl,hF,hS2,hI2⟩
  refine kasC_bind (qE4 fun st4 hS4 => ?_)
  exact kasC_pure ⟨o,ja,jb,_,rfl,hS2.trans hS4,hI2,hM2,g1,g2,g3,g4,by omega⟩
 ·rintro v st1 s1 ⟨o,ia,ib,mg,rfl,hS1,hI1,hM1,h1,h2,h3,h4,h5⟩
  omega
 ·rintro v st1 s1 ⟨x,y,rfl,hF,hS1,hI1⟩
  exact kasC_pure (h _ _ _ hF hS1 hI1)
end
theorem qG5 {α : Type} (sa:Nat) : ∀(m:List α) (i:Nat) (q:Array α),sa+i+m.length<=q.size->((m.zipIdx i).foldl (fun (a:Array α) (x : α × Nat)=>a.setIfInBounds (sa+x.2) x.1) q).toList=q.toList.take (sa+i)++m++q.toList.drop (sa+i+m.length)
 | [],i,q,h=>by simp
 | x::m,i,q,h=>by
  rw [List.zipIdx_cons,List.foldl_cons]
  have hl:(x::m).length=m.length+1:=rfl
  rw [hl] at h
  have:=qG5 sa m (i+1) (q.setIfInBounds (sa+i) x) (by rw [Array.size_setIfInBounds];omega)
  rw [this,Array.toList_setIfInBounds,hl]
  have hq:sa+i<q.toList.length:=by rw [Array.length_toList];omega
  have t1:(q.toList.set (sa+i) x).take (sa+(i+1))=q.toList.take (sa+i) ++ [x]:=by
   rw [show sa+(i+1)=sa+i+1 by omega,List.take_add_one,List.getElem?_set_self hq,List.take_set_of_le (Nat.le_refl _)];rfl
  have t2:(q.toList.set (sa+i) x).drop (sa+(i+1)+m.length)=q.toList.drop (sa+i+(m.length+1)):=by
   rw [List.drop_set_of_lt (by omega)]
   congr 1;omega
  rw [t1,t2]
  simp
section
variable {lt:Nat->Nat->Bool}
theorem qNk {X1 X2 Y1 Y2 R:List Nat} (hx:Ri lt (X1++X2)) (hy:Ri lt (Y1++Y2)) (hr:Ri lt R) (hp:R.Perm (X2++Y1)) (h1:Be lt X1 (Y1++Y2)) (h2:Be lt X2 Y2):Ri lt (X1++R++Y2):=by
 obtain⟨x1,x2,x3⟩:=List.pairwise_append.mp hx
 obtain⟨y1,y2,y3⟩:=List.pairwise_append.mp hy
 have b1:Be lt X1 R:=fun u hu v hv=>by
  rcases List.mem_append.mp (hp.mem_iff.mp hv) with z | z
  ·exact x3 u hu v z
  ·exact h1 u hu v (List.mem_append.mpr (.inl z))
 have b2:Be lt R Y2:=fun u hu v hv=>by
  rcases List.mem_append.mp (hp.mem_iff.mp hu) with z | z
  ·exact h2 u z v hv
  ·exact y3 u z v hv
 refine List.pairwise_append.mpr ⟨List.pairwise_append.mpr ⟨x1,hr,b1⟩,y2,fun u hu v hv => ?_⟩
 rcases List.mem_append.mp hu with z | z
 ·exact h1 u z v (List.mem_append.mpr (.inr hv))
 ·exact b2 u z v hv
theorem qJp (O:Srt.Ord lt) {left:Bool} {key:Nat} {q:Array Nat} {base n:Nat} (hr : ∀i j,i<=j->j<n->lt (q.getD (base+j) 0) (q.getD (base+i) 0)=false) : ∀i j,i<=j->j<n->byd lt left key q base j=true->byd lt left key q base i=true:=by
 intro i j hij hj h
 have le:=hr i j hij hj
 unfold byd at h ⊢
 cases left with
 | true =>
  simp only [if_true] at h ⊢
  cases z:lt (q.getD (base+i) 0) key with
  | true=>rfl
  | false=>rw [O.trans _ _ _ z le] at h;cases h
 | false =>
  simp only [Bool.false_eq_true,if_false,Bool.not_eq_true'] at h ⊢
  exact O.trans _ _ _ le h
theorem qHt (O:Srt.Ord lt) {q:Array Nat} {base n:Nat} (hq:base+n<=q.size) (h:Ri lt (q.extract base (base+n)).toList) : ∀i j,i<=j->j<n->lt (q.getD (base+j) 0) (q.getD (base+i) 0)=false:=by
 intro i j hij hj
 by_cases e:i=j
 ·subst e;exact O.irr _
 ·have sz:(q.extract base (base+n)).size=n:=by rw [Array.size_extract];omega
  have:=List.pairwise_iff_getElem.mp h i j (by rw [Array.length_toList,sz];omega) (by rw [Array.length_toList,sz];omega) (by omega)
  rw [Array.getElem_toList,Array.getElem_toList,Array.getElem_extract,Array.getElem_extract] at this
  have h1:base+i<q.size:=by omega
  have h2:base+j<q.size:=by omega
  simpa [Array.getD,h1,h2] using this
end
theorem qQy {σ : Type} {M:Model} {A:Around} {E:Value->Shared->Prop} {st st' : σ} {s:Shared} {Q:PUnit -> σ -> Shared->Prop} (h:Q ⟨⟩ st' s):kasC M A E (set st':StateT σ Sem PUnit) Q st s:=by
 unfold kasC
 show wpAny M A (pure ((PUnit.unit,st'):PUnit × σ)) _ E s
 exact wpAny_pure h
theorem qDd {p:Array Nat} {i n:Nat}:(p.extract i (i+n)).toList=(p.toList.drop i).take n:=by
 rw [Array.toList_extract,List.extract_eq_drop_take,Nat.add_sub_cancel_left]
theorem qBo {p:Array Nat} {i j l:Nat} (h1:i<=j) (h2:j<=l):(p.extract i l).toList=(p.extract i j).toList++(p.extract j l).toList:=by
 obtain⟨m,rfl⟩ : ∃m,j=i+m:=⟨j - i,by omega⟩
 obtain⟨n,rfl⟩ : ∃n,l=i+m+n:=⟨l - (i+m),by omega⟩
 rw [qDd,qDd,Nat.add_assoc,qDd,<-List.drop_drop,<-List.take_add]
theorem qLz {p:Array Nat} {i j:Nat} (h1:i<=j):p.toList.take j=p.toList.take i++(p.extract i j).toList:=by
 obtain⟨m,rfl⟩ : ∃m,j=i+m:=⟨j - i,by omega⟩
 rw [qDd,List.take_add]
theorem qH8 {p:Array Nat} {i j:Nat} (h1:i<=j):p.toList.drop i=(p.extract i j).toList++p.toList.drop j:=by
 obtain⟨m,rfl⟩ : ∃m,j=i+m:=⟨j - i,by omega⟩
 rw [qDd,<-List.drop_drop,List.take_append_drop]
theorem qCz {p:Array Nat} {i j:Nat} (h:j<=p.size):(p.extract i j).toList.length=j - i:=by rw [Array.length_toList,Array.size_extract];omega
theorem qDw {a:Array Nat} {i j x:Nat} (h:x∈(a.extract i j).toList) : ∃l,i<=l/\l<j/\l<a.size/\a.getD l 0=x:=qDa (by rw [Array.toList_reverse];exact List.mem_reverse.mpr h)
theorem qIp {lt:Nat->Nat->Bool} {p:Array Nat} {sa na nb k n2:Nat} {r:List Nat} (hk:k<=na) (h2:n2<=nb) (hsz:sa+na+nb<=p.size) (hr:Ri lt r) (hp:r.Perm ((p.extract (sa+k) (sa+na)).toList++(p.extract (sa+na) (sa+na+n2)).toList))
  (rx:Ri lt (p.extract sa (sa+na)).toList) (ry:Ri lt (p.extract (sa+na) (sa+na+nb)).toList) (b1:Be lt (p.extract sa (sa+k)).toList (p.extract (sa+na) (sa+na+nb)).toList) (b2:Be lt (p.extract (sa+k) (sa+na)).toList (p.extract (sa+na+n2) (sa+na+nb)).toList) :
  ∃p':Array Nat,p'.toList=p.toList.take (sa+k)++r++p.toList.drop (sa+k+r.length)/\p'.size=p.size/\p'.toList.take sa=p.toList.take sa/\p'.toList.drop (sa+na+nb)=p.toList.drop (sa+na+nb)/\Ri lt (p'.extract sa (sa+na+nb)).toList/\p'.toList.Perm p.toList:=by
 have rl:r.length=(na - k)+n2:=by
  rw [hp.length_eq,List.length_append,qCz (by omega),qCz (by omega)];omega
 have eq0:p.toList.take (sa+k)++r++p.toList.drop (sa+k+r.length)=p.toList.take sa++((p.extract sa (sa+k)).toList++r++(p.extract (sa+na+n2) (sa+na+nb)).toList)++p.toList.drop (sa+na+nb):=by
  rw [rl,show sa+k+(na - k+n2)=sa+na+n2 by omega,qLz (i:=sa) (j:=sa+k) (by omega),qH8 (i:=sa+na+n2) (j:=sa+na+nb) (by omega)]
  simp [List.append_assoc]
 have tl:(p.toList.take sa).length=sa:=by rw [List.length_take,Array.length_toList];omega
 have ml:((p.extract sa (sa+k)).toList++r++(p.extract (sa+na+n2) (sa+na+nb)).toList).length=na+nb:=by
  rw [List.length_append,List.length_append,qCz (by omega),qCz (by omega),rl];omega
 have P0:p.toList=p.toList.take sa++((p.extract sa (sa+k)).toList++((p.extract (sa+k) (sa+na)).toList++(p.extract (sa+na) (sa+na+n2)).toList)++(p.extract (sa+na+n2) (sa+na+nb)).toList)++p.toList.drop (sa+na+nb):=by
  conv=>lhs;rw [<-List.take_append_drop sa p.toList,qH8 (i:=sa) (j:=sa+na+nb) (by omega),qBo (i:=sa) (j:=sa+na) (by omega) (by omega),qBo (i:=sa) (j:=sa+k) (l:=sa+na) (by omega) (by omega),qBo (i:=sa+na) (j:=sa+na+n2) (l:=sa+na+nb) (by omega) (by omega)]
  simp [List.append_assoc]
 have x12:=rx
 rw [qBo (i:=sa) (j:=sa+k) (l:=sa+na) (by omega) (by omega)] at x12
 have y12:=ry
 rw [qBo (i:=sa+na) (j:=sa+na+n2) (l:=sa+na+nb) (by omega) (by omega)] at y12 b1
 have mid:=qNk x12 y12 hr hp b1 b2
 refine⟨(p.toList.take (sa+k)++r++p.toList.drop (sa+k+r.length)).toArray,by simp,?_,?_,?_,?_,?_⟩
 ·rw [List.size_toArray,eq0,List.length_append,List.length_append,ml,tl,List.length_drop,Array.length_toList];omega
 ·rw [List.toList_toArray,eq0,List.append_assoc,List.take_append_of_le_length (by omega),List.take_of_length_le (by omega)]
 ·rw [List.toList_toArray,eq0,List.drop_append_of_le_length (by rw [List.length_append,ml,tl];omega),List.drop_of_length_le (by rw [List.length_append,ml,tl];omega)];rfl
 ·rw [show sa+na+nb=sa+(na+nb) by omega,qDd,List.toList_toArray,eq0,List.append_assoc,List.drop_append_of_le_length (by omega),List.drop_of_length_le (by omega),List.nil_append,List.take_append_of_le_length (by omega),List.take_of_length_le (by omega)]
  exact mid
 ·rw [List.toList_toArray,eq0]
  conv=>rhs;rw [P0]
  exact ((((List.Perm.append_left _ hp).append_right _).append_left _).append_right _)
section
variable {prog:Program} {w:World} {A:Around} {E:Value->Shared->Prop} {κ : SortKind} {it:Array Keyed} {lt:Nat->Nat->Bool} {I:Shared->Prop} {N:Nat}
theorem qCm {p:Array Nat} {i:Nat} (h:i<p.size):p.getD i 0=p[i]:=by simp [Array.getD,h]
theorem qMj (O:Srt.Ord lt) (hA:AskOk prog w A κ it lt I N) {p:Array Nat} {st:SortSt} {s:Shared} {i sa na nb pw pw2:Nat} {Q:Bool->SortSt->Shared->Prop} (hst:arrOf st=p.map (kas_item it)) (hk:kindOf st = κ) (hf:failedOf st=none) (hp1:(pendingOf st)[i]? = some (sa,na,pw)) (hp2:(pendingOf st)[i+1]? = some (sa+na,nb,pw2)) (h0:0<na) (h1:0<nb) (hsz:sa+na+nb<=p.size) (hin : ∀x∈p,x<N) (hI:I s)
  (rx:Ri lt (p.extract sa (sa+na)).toList) (ry:Ri lt (p.extract (sa+na) (sa+na+nb)).toList)
  (h : ∀(p':Array Nat) st' s',arrOf st'=p'.map (kas_item it)->kindOf st' = κ -> failedOf st'=none->pendingOf st'=((pendingOf st).setIfInBounds i (sa,na+nb,pw)).eraseIdxIfInBounds (i+1)->p'.size=p.size->p'.toList.take sa=p.toList.take sa->p'.toList.drop (sa+na+nb)=p.toList.drop (sa+na+nb)->Ri lt (p'.extract sa (sa+na+nb)).toList->p'.toList.Perm p.toList->I s'->Q true st' s') :
  kasC (model prog w) A E (mergeAt' i) Q st s:=by
 have hm : ∀i (hi:i<p.size),p[i]<N:=fun i hi=>hin _ (Array.getElem_mem hi)
 have px:=qHt O (base:=sa) (n:=na) (by omega) rx
 have py:=qHt O (base:=sa+na) (n:=nb) (by omega) ry
 have hsb:sa+na<p.size:=by omega
 have hla:sa+na - 1<p.size:=by omega
 have whole:Be lt (p.extract sa (sa+na)).toList (p.extract (sa+na) (sa+na+nb)).toList->Ri lt (p.extract sa (sa+na+nb)).toList:=fun hb=>by
  rw [qBo (i:=sa) (j:=sa+na) (by omega) (by omega)]
  exact List.pairwise_append.mpr ⟨rx,ry,hb⟩
 have leY : ∀ {y:Nat},y∈(p.extract (sa+na) (sa+na+nb)).toList->lt y p[sa+na]=false:=fun {y} hy=>by
  obtain⟨l,l1,l2,l3,l4⟩:=qDw hy
  have:=py 0 (l - (sa+na)) (Nat.zero_le _) (by omega)
  rw [show sa+na+(l - (sa+na))=l by omega,l4,Nat.add_zero,qCm hsb] at this
  exact this
 have leX : ∀ {x:Nat},x∈(p.extract sa (sa+na)).toList->lt p[sa+na - 1] x=false:=fun {x} hx=>by
  obtain⟨l,l1,l2,l3,l4⟩:=qDw hx
  have:=px (l - sa) (na - 1) (by omega) (by omega)
  rw [show sa+(l - sa)=l by omega,l4,show sa+(na - 1)=sa+na - 1 by omega,qCm hla] at this
  exact this
 refine kasC_bind (kasC_get ?_)
 rw [hp1,hp2]
 refine kasC_bind (qQy ?_)
 have hst2:(sortPriv% PySem.Builtin.SortState.a) st=p.map (kas_item it):=hst
 rw [hst2]
 refine kasC_bind (qAf (qAi hsb) ?_)
 refine kasC_bind (qBu hA (left:=false) (key:=p[sa+na]) (q:=p) (base:=sa) (hint:=0) (n:=na) hk (by omega) hin (hm _ hsb) h0 hI (qJp O px) fun k s1 hk1 hpre hsuf hI1 => ?_)
 have hpre' : ∀ {x:Nat},x∈(p.extract sa (sa+k)).toList->lt p[sa+na] x=false:=fun {x} hx=>by
  obtain⟨l,l1,l2,l3,l4⟩:=qDw hx
  have:=hpre (l - sa) (by omega)
  unfold byd at this
  rw [show sa+(l - sa)=l by omega,l4,if_neg Bool.false_ne_true] at this
  simpa using this
 refine qA5 (fun hc=>kasC_pure ?_) (fun hc => ?_)
 ·have hc:na - k=0:=by simpa using hc
  have hkn:k=na:=by omega
  subst hkn
  exact h p _ _ rfl hk hf rfl rfl rfl rfl (whole fun x hx y hy=>O.trans _ _ _ (hpre' hx) (leY hy)) (.refl _) hI1
 have hc:na - k≠0:=by simpa using hc
 refine kasC_bind (qAf (x:=p[sa+na - 1]) (by
  show p[sa+k+(na - k) - 1]? = _
  rw [show sa+k+(na - k) - 1=sa+na - 1 by omega];exact qAi hla) ?_)
 refine kasC_bind (qBu hA (left:=true) (key:=p[sa+na - 1]) (q:=p) (base:=sa+na) (hint:=nb - 1) (n:=nb) hk (by omega) hin (hm _ hla) (by omega) hI1 (qJp O py) fun n2 s2 hn2 hpre2 hsuf2 hI2 => ?_)
 have hsuf' : ∀ {y:Nat},y∈(p.extract (sa+na+n2) (sa+na+nb)).toList->lt y p[sa+na - 1]=false:=fun {y} hy=>by
  obtain⟨l,l1,l2,l3,l4⟩:=qDw hy
  have:=hsuf2 (l - (sa+na)) (by omega) (by omega)
  unfold byd at this
  rw [show sa+na+(l - (sa+na))=l by omega,l4,if_pos rfl] at this
  exact this
 refine qA5 (fun hc2=>kasC_pure ?_) (fun hc2 => ?_)
 ·have hc2:n2=0:=by simpa using hc2
  subst hc2
  exact h p _ _ rfl hk hf rfl rfl rfl rfl (whole fun x hx y hy=>O.trans _ _ _ (leX hx) (hsuf' (by simpa using hy))) (.refl _) hI2
 have hc2:n2≠0:=by simpa using hc2
 have em : ∀i j,(p.map (kas_item it)).extract i j=(p.extract i j).map (kas_item it):=fun i j=>by simp
 have s1':(p.extract (sa+k) (sa+na)).size=na - k:=by rw [Array.size_extract];omega
 have s2':(p.extract (sa+na) (sa+na+n2)).size=n2:=by rw [Array.size_extract];omega
 have rx2:=rx
 rw [qBo (i:=sa) (j:=sa+k) (l:=sa+na) (by omega) (by omega)] at rx2
 have ry2:=ry
 rw [qBo (i:=sa+na) (j:=sa+na+n2) (l:=sa+na+nb) (by omega) (by omega)] at ry2
 have f0:(p.extract (sa+na) (sa+na+n2))[0]'(by omega)=p[sa+na]:=by simp
 have f1:(p.extract (sa+k) (sa+na))[0]'(by omega)=p[sa+k]'(by omega):=by simp
 have f2:(p.extract (sa+k) (sa+na))[(p.extract (sa+k) (sa+na)).size - 1]'(by omega)=p[sa+na - 1]:=by
  rw [Array.getElem_extract]
  congr 1
  rw [s1'];omega
 have e1 : ∀x∈p.extract (sa+k) (sa+na),x<N:=fun x hx=>by
  obtain⟨l,_,_,l3,l4⟩:=qDw (Array.mem_def.mp hx)
  rw [<-l4,qCm l3];exact hm _ l3
 have e2 : ∀x∈p.extract (sa+na) (sa+na+n2),x<N:=fun x hx=>by
  obtain⟨l,_,_,l3,l4⟩:=qDw (Array.mem_def.mp hx)
  rw [<-l4,qCm l3];exact hm _ l3
 have hlast : ∀y∈(p.extract (sa+na) (sa+na+n2)).toList,lt ((p.extract (sa+k) (sa+na))[(p.extract (sa+k) (sa+na)).size - 1]'(by omega)) y=false:=fun y hy=>by
  rw [f2]
  obtain⟨l,l1,l2,l3,l4⟩:=qDw hy
  have:=hpre2 (l - (sa+na)) (by omega)
  unfold byd at this
  rw [show sa+na+(l - (sa+na))=l by omega,l4,if_pos rfl] at this
  exact O.asym _ _ this
 have hfirst:lt ((p.extract (sa+na) (sa+na+n2))[0]'(by omega)) ((p.extract (sa+k) (sa+na))[0]'(by omega))=true:=by
  rw [f0,f1]
  have:=hsuf k (Nat.le_refl _) (by omega)
  unfold byd at this
  rw [if_neg Bool.false_ne_true,qCm (by omega)] at this
  simpa using this
 have b1:Be lt (p.extract sa (sa+k)).toList (p.extract (sa+na) (sa+na+nb)).toList:=fun x hx y hy=>O.trans _ _ _ (hpre' hx) (leY hy)
 have b2:Be lt (p.extract (sa+k) (sa+na)).toList (p.extract (sa+na+n2) (sa+na+nb)).toList:=fun x hx y hy=>O.trans _ _ _ (leX (by rw [qBo (i:=sa) (j:=sa+k) (l:=sa+na) (by omega) (by omega)];exact List.mem_append.mpr (.inr hx))) (hsuf' hy)
 rw [em,em]
 refine qA5 (fun hle => ?_) (fun hle => ?_)
 ·refine kasC_bind (qMh O hA hk hI2 (by omega) (by omega) e1 e2 (List.pairwise_append.mp rx2).2.1 (List.pairwise_append.mp ry2).1 hlast hfirst fun x st3 s3 hF hS3 hI3 => ?_)
  obtain⟨r,rfl,hr,hp⟩:=hF
  obtain⟨p',q1,q2,q3,q4,q5,q6⟩:=qIp (k:=k) (n2:=n2) hk1 hn2 hsz hr hp rx ry b1 b2
  have ef:failedOf st3=none:=hS3.2.2.2.trans hf
  have ea:arrOf st3=p.map (kas_item it):=hS3.2.1
  have rl:r.toList.length=(na - k)+n2:=by rw [hp.length_eq,List.length_append,qCz (by omega),qCz (by omega)];omega
  have key:=qG5 (sa+k) (r.map (kas_item it)).toList 0 (p.map (kas_item it)) (by rw [Array.toList_map,List.length_map,rl,Array.size_map];omega)
  have key2:=key.trans (show _=(p'.map (kas_item it)).toList by
   rw [Array.toList_map,Array.toList_map,Array.toList_map,q1,List.length_map];simp)
  have key3:=Array.toList_inj.mp key2
  rw [<-ea] at key3
  refine kasC_bind (kasC_modify (kasC_bind (kasC_get (kasC_pure ?_))))
  show Q (failedOf st3).isNone _ _
  rw [ef]
  exact h p' _ _ key3 (hS3.1.trans hk) ef hS3.2.2.1 q2 q3 q4 q5 q6 hI3
 ·refine kasC_bind (qMi O hA hk hI2 (by omega) (by omega) e1 e2 (List.pairwise_append.mp rx2).2.1 (List.pairwise_append.mp ry2).1 hlast hfirst fun x st3 s3 hF hS3 hI3 => ?_)
  obtain⟨r,rfl,hr,hp⟩:=hF
  obtain⟨p',q1,q2,q3,q4,q5,q6⟩:=qIp (k:=k) (n2:=n2) hk1 hn2 hsz hr hp rx ry b1 b2
  have ef:failedOf st3=none:=hS3.2.2.2.trans hf
  have ea:arrOf st3=p.map (kas_item it):=hS3.2.1
  have rl:r.toList.length=(na - k)+n2:=by rw [hp.length_eq,List.length_append,qCz (by omega),qCz (by omega)];omega
  have key:=qG5 (sa+k) (r.map (kas_item it)).toList 0 (p.map (kas_item it)) (by rw [Array.toList_map,List.length_map,rl,Array.size_map];omega)
  have key2:=key.trans (show _=(p'.map (kas_item it)).toList by
   rw [Array.toList_map,Array.toList_map,Array.toList_map,q1,List.length_map];simp)
  have key3:=Array.toList_inj.mp key2
  rw [<-ea] at key3
  refine kasC_bind (kasC_modify (kasC_bind (kasC_get (kasC_pure ?_))))
  show Q (failedOf st3).isNone _ _
  rw [ef]
  exact h p' _ _ key3 (hS3.1.trans hk) ef hS3.2.2.1 q2 q3 q4 q5 q6 hI3
end
section
variable {prog:Program} {w:World} {A:Around} {E:Value->Shared->Prop} {κ : SortKind} {it:Array Keyed} {lt:Nat->Nat->Bool} {I:Shared->Prop} {N:Nat}
def SameA (st st':SortSt):Prop:=kindOf st'=kindOf st/\pendingOf st'=pendingOf st/\failedOf st'=failedOf st/\gallopOf st'=gallopOf st
theorem SameA.refl (st:SortSt):SameA st st:=⟨rfl,rfl,rfl,rfl⟩
theorem SameA.trans {a b c:SortSt} (h:SameA a b) (k:SameA b c):SameA a c:=⟨k.1.trans h.1,k.2.1.trans h.2.1,k.2.2.1.trans h.2.2.1,k.2.2.2.trans h.2.2.2⟩
theorem qH6 {σ β : Type} {M:Model} {f:Nat -> β -> StateT σ Sem (ForInStep β)} {Q : β -> σ -> Shared->Prop} (Pv:Nat -> β -> σ -> Shared->Prop) : ∀(c a:Nat) {b : β} {st : σ} {s:Shared},(∀i b st s,a<=i->i<a+c->Pv i b st s->kasC M A E (f i b) (fun r st' s'=>match r with | .done b'=>Q b' st' s' | .yield b'=>Pv (i+1) b' st' s') st s)->(∀b st s,Pv (a+c) b st s->Q b st s)->Pv a b st s->kasC M A E (forIn (List.range' a c) b f) Q st s
 | 0,a,b,st,s,hs,hd,h=>kasC_nil (hd b st s h)
 | c+1,a,b,st,s,hs,hd,h=>by
  rw [List.range'_succ]
  refine kasC_cons (qAd (hs a b st s (Nat.le_refl _) (by omega) h) fun r st' s' h' => ?_)
  cases r with
  | done b'=>exact h'
  | yield b'=>exact qH6 Pv c (a+1) (fun i b st s h1 h2=>hs i b st s (by omega) (by omega)) (fun b st s h=>hd b st s (by rw [show a+(c+1)=a+1+c by omega];exact h)) h'
theorem qC2 (hA:AskOk prog w A κ it lt I N) {p:Array Nat} {i j:Nat} {st:SortSt} {s:Shared} {Q:Option Bool->SortSt->Shared->Prop} (hst:arrOf st=p.map (kas_item it)) (hk:kindOf st = κ) (hin : ∀x∈p,x<N) (hi:i<p.size) (hj:j<p.size) (hI:I s) (h : ∀s',I s'->Q (some (lt (Srt.at' p i) (Srt.at' p j))) st s'):kasC (model prog w) A E (ltAt' i j) Q st s:=by
 rw [ltAt'_eq]
 refine kasC_bind (kasC_get ?_)
 dsimp only
 rw [show arrOf st=p.map (kas_item it) from hst]
 refine kasC_bind (qAf (qAi hi) ?_)
 refine kasC_bind (qAf (qAi hj) ?_)
 refine qOl hA hk (hin _ (Array.getElem_mem hi)) (hin _ (Array.getElem_mem hj)) hI fun s' hs => ?_
 have:=h s' hs
 unfold Srt.at' at this
 rw [qCm hi,qCm hj] at this
 exact this
theorem qTg {M:Model} {p:Array Nat} {k l:Nat} {st:SortSt} {s:Shared} {Q:Unit->SortSt->Shared->Prop} (hst:arrOf st=p.map (kas_item it)) (h : ∀st',arrOf st'=(bubble p k (k - l)).map (kas_item it)->SameA st st'->Q () st' s):kasC M A E (moveDown' k l) Q st s:=by
 rw [moveDown'_eq]
 refine kasC_modify (h _ ?_ ⟨rfl,rfl,rfl,rfl⟩)
 show bubble (arrOf st) k (k - l)=_
 rw [hst]
 exact kas_swaps_map (kas_item it) (fun i=>k - i) (fun i=>k - i - 1) _ p
def UpAt (lt:Nat->Nat->Bool) (p:Array Nat) (lo k:Nat):Prop := ∀i j,i<=j->j<k->lt (Srt.at' p (lo+j)) (Srt.at' p (lo+i))=false
theorem UpAt.ins (O:Srt.Ord lt) {p:Array Nat} {lo k l:Nat} (h:UpAt lt p lo k) (hk:lo+k<p.size) (hl:l<=k) (h1 : ∀i,i<l->lt (Srt.at' p (lo+k)) (Srt.at' p (lo+i))=false) (h2 : ∀i,l<=i->i<k->lt (Srt.at' p (lo+k)) (Srt.at' p (lo+i))=true):UpAt lt (bubble p (lo+k) (lo+k - (lo+l))) lo (k+1):=by
 have at1 : ∀i,Srt.at' (bubble p (lo+k) (lo+k - (lo+l))) (lo+i)=if i=l then Srt.at' p (lo+k) else if l<i/\i<=k then Srt.at' p (lo+(i - 1)) else Srt.at' p (lo+i):=fun i=>by
  rw [Srt.at_bub hk (by omega)]
  by_cases e:i=l
  ·rw [if_pos e,if_pos (by omega)]
  ·rw [if_neg e,if_neg (by omega)]
   by_cases c:l<i/\i<=k
   ·rw [if_pos c,if_pos (by omega),show lo+i - 1=lo+(i - 1) by omega]
   ·rw [if_neg c,if_neg (by omega)]
 intro i j hij hj
 rw [at1,at1]
 by_cases ei:i=l
 ·rw [if_pos ei]
  by_cases ej:j=l
  ·rw [if_pos ej];exact O.irr _
  ·rw [if_neg ej,if_pos (by omega)]
   exact O.asym _ _ (h2 (j - 1) (by omega) (by omega))
 ·rw [if_neg ei]
  by_cases ci:l<i/\i<=k
  ·rw [if_pos ci,if_neg (by omega),if_pos (by omega)]
   exact h (i - 1) (j - 1) (by omega) (by omega)
  ·rw [if_neg ci]
   by_cases ej:j=l
   ·rw [if_pos ej];exact h1 i (by omega)
   ·rw [if_neg ej]
    by_cases cj:l<j/\j<=k
    ·rw [if_pos cj];exact h i (j - 1) (by omega) (by omega)
    ·rw [if_neg cj];exact h i j hij (by omega)
end
section
variable {prog:Program} {w:World} {A:Around} {E:Value->Shared->Prop} {κ : SortKind} {it:Array Keyed} {lt:Nat->Nat->Bool} {I:Shared->Prop} {N:Nat}
theorem qPn (O:Srt.Ord lt) (hA:AskOk prog w A κ it lt I N) {p:Array Nat} {st:SortSt} {s:Shared} {lo n ok:Nat} {Q:Bool->SortSt->Shared->Prop} (hst:arrOf st=p.map (kas_item it)) (hk:kindOf st = κ) (hin : ∀x∈p,x<N) (hsz:lo+n<=p.size) (hI:I s) (up:UpAt lt p lo (max ok 1)) (hok:max ok 1<=n)
  (h : ∀(p':Array Nat) st' s',arrOf st'=p'.map (kas_item it)->SameA st st'->p'.size=p.size->p'.toList.Perm p.toList->(∀i,i<lo\/lo+n<=i->Srt.at' p' i=Srt.at' p i)->UpAt lt p' lo n->I s'->Q true st' s') :
  kasC (model prog w) A E (binarySort' lo n ok) Q st s:=by
 refine kasC_bind (qAd (kasC_range (qH6 (Q:=fun v st' s' => ∃p':Array Nat,v.1=none/\arrOf st'=p'.map (kas_item it)/\SameA st st'/\p'.size=p.size/\p'.toList.Perm p.toList/\(∀i,i<lo\/lo+n<=i->Srt.at' p' i=Srt.at' p i)/\UpAt lt p' lo n/\I s') (fun k v st' s' => ∃p':Array Nat,v.1=none/\arrOf st'=p'.map (kas_item it)/\SameA st st'/\p'.size=p.size/\p'.toList.Perm p.toList/\(∀i,i<lo\/lo+n<=i->Srt.at' p' i=Srt.at' p i)/\UpAt lt p' lo k/\I s') (n - max ok 1) (max ok 1) ?_ ?_ ⟨p,rfl,hst,.refl _,rfl,.refl _,fun _ _=>rfl,up,hI⟩)) ?_)
 ·rintro k v st1 s1 k1 k2 ⟨q,hv,hq,hS1,hsz1,hp1,ho1,up1,hI1⟩
  have hin1 : ∀x∈q,x<N:=fun x hx=>hin x (by
   have:=hp1.mem_iff.mp (Array.mem_def.mp hx)
   exact Array.mem_def.mpr this)
  have hkq:lo+k<q.size:=by omega
  refine kasC_bind (qAd (qB8 (Q:=fun v st' s' => ∃l r,v=(none,l,r)/\l=r/\st1=st'/\I s'/\r<=k/\(∀i,i<l->lt (Srt.at' q (lo+k)) (Srt.at' q (lo+i))=false) /\ ∀i,r<=i->i<k->lt (Srt.at' q (lo+k)) (Srt.at' q (lo+i))=true) (fun c v st' s' => ∃l r,v=(none,l,r)/\l<=r/\r<=l+c/\st1=st'/\I s'/\r<=k/\(∀i,i<l->lt (Srt.at' q (lo+k)) (Srt.at' q (lo+i))=false) /\ ∀i,r<=i->i<k->lt (Srt.at' q (lo+k)) (Srt.at' q (lo+i))=true) ⟨0,k,rfl,by omega,by omega,rfl,hI1,Nat.le_refl _,fun i hi=>by omega,fun i h1 h2=>by omega⟩ ?_ ?_) ?_)
  ·rintro c x v st2 s2 ⟨l,r,rfl,g1,g2,rfl,hI2,g3,g4,g5⟩
   refine qA5 (fun hc=>kasC_pure ⟨l,r,rfl,by have hc:l>=r:=hc;omega,rfl,hI2,g3,g4,g5⟩) (fun hc => ?_)
   have hc : ¬l>=r:=hc
   refine kasC_bind (qC2 hA hq (hS1.1.trans hk) hin1 hkq (show lo+(l+r) / 2<q.size by omega) hI2 fun s3 hI3 => ?_)
   cases hb:lt (Srt.at' q (lo+k)) (Srt.at' q (lo+(l+r) / 2)) with
   | true =>
    refine qA5 (fun _=>kasC_pure ⟨l,(l+r) / 2,rfl,by omega,by omega,rfl,hI3,by omega,g4,fun i h1 h2 => ?_⟩) (fun z=>absurd rfl z)
    cases hz:lt (Srt.at' q (lo+k)) (Srt.at' q (lo+i)) with
    | true=>rfl
    | false=>rw [O.trans _ _ _ (up1 ((l+r) / 2) i h1 h2) hz] at hb;cases hb
   | false =>
    refine qA5 (fun z=>absurd z Bool.false_ne_true) (fun _=>kasC_pure ⟨(l+r) / 2+1,r,rfl,by omega,by omega,rfl,hI3,g3,fun i hi => ?_,g5⟩)
    exact O.trans _ _ _ (up1 i ((l+r) / 2) (by omega) (by omega)) hb
  ·rintro v st2 s2 ⟨l,r,rfl,g1,g2,rfl,hI2,g3,g4,g5⟩
   exact⟨l,r,rfl,by omega,rfl,hI2,g3,g4,g5⟩
  ·rintro v st2 s2 ⟨l,r,rfl,rfl,rfl,hI2,g3,g4,g5⟩
   refine kasC_bind (qTg hq fun st3 h3 hS3=>kasC_pure ⟨_,rfl,h3,hS1.trans hS3,?_,?_,fun i hi => ?_,up1.ins O hkq g3 g4 g5,hI2⟩)
   ·rw [bubble_size];exact hsz1
   ·exact (Array.perm_iff_toList_perm.mp (bubble_perm q _ _)).trans hp1
   ·rw [Srt.at_bub (l:=lo+l) hkq (by omega),if_neg (by omega),if_neg (by omega)]
    exact ho1 i hi
 ·rintro v st1 s1 ⟨q,hv,hq,hS1,hsz1,hp1,ho1,up1,hI1⟩
  rw [show max ok 1+(n - max ok 1)=n by omega] at up1
  exact⟨q,hv,hq,hS1,hsz1,hp1,ho1,up1,hI1⟩
 ·rintro⟨v,u⟩ st1 s1 ⟨q,hv,hq,hS1,hsz1,hp1,ho1,up1,hI1⟩
  have hv:v=none:=hv
  subst hv
  exact kasC_pure (h q st1 s1 hq hS1 hsz1 hp1 ho1 up1 hI1)
end
section
variable {prog:Program} {w:World} {A:Around} {E:Value->Shared->Prop} {κ : SortKind} {it:Array Keyed} {lt:Nat->Nat->Bool} {I:Shared->Prop} {N:Nat}
theorem qE5 {M:Model} {p:Array Nat} {i j:Nat} {st:SortSt} {s:Shared} {Q:Unit->SortSt->Shared->Prop} (hst:arrOf st=p.map (kas_item it)) (h : ∀st',arrOf st'=(kas_rev p i j).map (kas_item it)->SameA st st'->Q () st' s):kasC M A E (reverseSlice' i j) Q st s:=by
 rw [reverseSlice'_eq]
 refine kasC_modify (h _ ?_ ⟨rfl,rfl,rfl,rfl⟩)
 show mirror (arrOf st) i j ((j - i) / 2)=_
 rw [hst]
 exact kas_swaps_map (kas_item it) (fun k=>i+k) (fun k=>j - 1 - k) _ p
def DnAt (lt:Nat->Nat->Bool) (p:Array Nat) (lo k:Nat):Prop := ∀i j,i<=j->j<k->lt (Srt.at' p (lo+i)) (Srt.at' p (lo+j))=false
def EqAt (lt:Nat->Nat->Bool) (p:Array Nat) (lo a b:Nat):Prop := ∀i j,a<=i->i<b->a<=j->j<b->lt (Srt.at' p (lo+i)) (Srt.at' p (lo+j))=false
structure Cr (p q:Array Nat) (lo n:Nat):Prop where
 size:q.size=p.size
 perm:q.toList.Perm p.toList
 out : ∀i,i<lo\/lo+n<=i->Srt.at' q i=Srt.at' p i
theorem Cr.refl (p:Array Nat) (lo n:Nat):Cr p p lo n:=⟨rfl,.refl _,fun _ _=>rfl⟩
theorem qIb {p:Array Nat} {lo a b:Nat} (h:lo+b<=p.size) (i:Nat):Srt.at' (kas_rev p (lo+a) (lo+b)) (lo+i)=if a<=i/\i<b then Srt.at' p (lo+(a+b - 1 - i)) else Srt.at' p (lo+i):=by
 rw [Srt.at_rev h]
 by_cases c:a<=i/\i<b
 ·rw [if_pos c,if_pos (by omega)]
  congr 1;omega
 ·rw [if_neg c,if_neg (by omega)]
theorem Cr.rev {p q:Array Nat} {lo n a b:Nat} (h:Cr p q lo n) (hb:b<=n) (hn:lo+n<=p.size):Cr p (kas_rev q (lo+a) (lo+b)) lo n:=by
 have hq:lo+b<=q.size:=by rw [h.size];omega
 refine⟨by rw [kas_rev_size];exact h.size,(Array.perm_iff_toList_perm.mp (mirror_perm _ _ _ _)).trans h.perm,fun i hi => ?_⟩
 rw [Srt.at_rev hq,if_neg (by omega)]
 exact h.out i hi
theorem UpAt.snoc (O:Srt.Ord lt) {p:Array Nat} {lo n:Nat} (h1:1<=n) (u:UpAt lt p lo n) (h:lt (Srt.at' p (lo+n)) (Srt.at' p (lo+n - 1))=false):UpAt lt p lo (n+1):=by
 intro i j hij hj
 by_cases e:j=n
 ·subst e
  by_cases e2:i=j
  ·subst e2;exact O.irr _
  ·have:=u i (j - 1) (by omega) (by omega)
   rw [show lo+(j - 1)=lo+j - 1 by omega] at this
   exact O.trans _ _ _ this h
 ·exact u i j hij (by omega)
theorem DnAt.snoc (O:Srt.Ord lt) {p:Array Nat} {lo n:Nat} (h1:1<=n) (u:DnAt lt p lo n) (h:lt (Srt.at' p (lo+n - 1)) (Srt.at' p (lo+n))=false):DnAt lt p lo (n+1):=by
 intro i j hij hj
 by_cases e:j=n
 ·subst e
  by_cases e2:i=j
  ·subst e2;exact O.irr _
  ·have:=u i (j - 1) (by omega) (by omega)
   rw [show lo+(j - 1)=lo+j - 1 by omega] at this
   exact O.trans _ _ _ h this
 ·exact u i j hij (by omega)
theorem DnAt.revEq {p:Array Nat} {lo k a b:Nat} (u:DnAt lt p lo k) (e:EqAt lt p lo a b) (hab:a<=b) (hb:b<=k) (hs:lo+b<=p.size):DnAt lt (kas_rev p (lo+a) (lo+b)) lo k:=by
 intro i j hij hj
 rw [qIb hs,qIb hs]
 by_cases ci:a<=i/\i<b
 ·rw [if_pos ci]
  by_cases cj:a<=j/\j<b
  ·rw [if_pos cj];exact e _ _ (by omega) (by omega) (by omega) (by omega)
  ·rw [if_neg cj];exact u _ _ (by omega) hj
 ·rw [if_neg ci]
  by_cases cj:a<=j/\j<b
  ·rw [if_pos cj];exact u _ _ (by omega) (by omega)
  ·rw [if_neg cj];exact u _ _ hij hj
theorem DnAt.rev {p:Array Nat} {lo n:Nat} (u:DnAt lt p lo n) (hs:lo+n<=p.size):UpAt lt (kas_rev p lo (lo+n)) lo n:=by
 intro i j hij hj
 have e1:=qIb (p:=p) (lo:=lo) (a:=0) (b:=n) hs i
 have e2:=qIb (p:=p) (lo:=lo) (a:=0) (b:=n) hs j
 rw [Nat.add_zero] at e1 e2
 rw [e1,e2,if_pos (by omega),if_pos (by omega)]
 exact u _ _ (by omega) (by omega)
theorem EqAt.snoc (O:Srt.Ord lt) {p:Array Nat} {lo a n:Nat} (ha:a<n) (e:EqAt lt p lo a n) (h1:lt (Srt.at' p (lo+n)) (Srt.at' p (lo+n - 1))=false) (h2:lt (Srt.at' p (lo+n - 1)) (Srt.at' p (lo+n))=false):EqAt lt p lo a (n+1):=by
 intro i j ai ib aj jb
 have ex:lo+n - 1=lo+(n - 1):=by omega
 rw [ex] at h1 h2
 by_cases c:i=n
 ·subst c
  by_cases d:j=i
  ·subst d;exact O.irr _
  ·exact O.trans _ _ _ (e (i - 1) j (by omega) (by omega) aj (by omega)) h1
 ·by_cases d:j=n
  ·subst d
   exact O.trans _ _ _ h2 (e i (j - 1) ai (by omega) (by omega) (by omega))
  ·exact e i j ai (by omega) aj (by omega)
end
section
variable {prog:Program} {w:World} {A:Around} {E:Value->Shared->Prop} {κ : SortKind} {it:Array Keyed} {lt:Nat->Nat->Bool} {I:Shared->Prop} {N:Nat}
theorem count_ok (O:Srt.Ord lt) (hA:AskOk prog w A κ it lt I N) {p:Array Nat} {st:SortSt} {s:Shared} {lo nrem:Nat} {Q:Option Nat->SortSt->Shared->Prop} (hst:arrOf st=p.map (kas_item it)) (hk:kindOf st = κ) (hin : ∀x∈p,x<N) (h1:1<=nrem) (hsz:lo+nrem<=p.size) (hI:I s)
  (h : ∀(q:Array Nat) n st' s',arrOf st'=q.map (kas_item it)->SameA st st'->Cr p q lo nrem->1<=n->n<=nrem->UpAt lt q lo n->I s'->Q (some n) st' s') :
  kasC (model prog w) A E (countRun' lo nrem) Q st s:=by
 have hmem : ∀ {q:Array Nat},Cr p q lo nrem -> ∀x∈q,x<N:=fun {q} c x hx=>hin x (Array.mem_def.mpr (c.perm.mem_iff.mp (Array.mem_def.mp hx)))
 refine kasC_bind (qAd (kasC_range (qBm (Q:=fun v st' s' => ∃n,v=(none,n)/\st=st'/\I s'/\1<=n/\n<=nrem/\UpAt lt p lo n/\(n=nrem\/n<nrem/\lt (Srt.at' p (lo+n)) (Srt.at' p (lo+n - 1))=true)) (fun k v st' s' => ∃n,v=(none,n)/\st=st'/\I s'/\1<=n/\n+k=nrem/\UpAt lt p lo n) ?_ ?_ _ ⟨1,rfl,rfl,hI,Nat.le_refl _,by rw [List.length_range'];omega,fun i j hij hj=>by rw [show i=0 by omega,show j=0 by omega];exact O.irr _⟩)) ?_)
 ·rintro k x v st1 s1 ⟨n,rfl,rfl,hI1,g1,g2,g3⟩
  refine kasC_bind (qC2 hA hst hk hin (show lo+n<p.size by omega) (show lo+n - 1<p.size by omega) hI1 fun s2 hI2 => ?_)
  cases hb:lt (Srt.at' p (lo+n)) (Srt.at' p (lo+n - 1)) with
  | true=>exact qA5 (fun _=>kasC_pure ⟨n,rfl,rfl,hI2,g1,by omega,g3,.inr ⟨by omega,hb⟩⟩) (fun z=>absurd rfl z)
  | false=>exact qA5 (fun z=>absurd z Bool.false_ne_true) (fun _=>kasC_pure ⟨n+1,rfl,rfl,hI2,by omega,by omega,g3.snoc O g1 hb⟩)
 ·rintro v st1 s1 ⟨n,rfl,rfl,hI1,g1,g2,g3⟩
  exact⟨n,rfl,rfl,hI1,g1,by omega,g3,.inl (by omega)⟩
 rintro v st1 s1 ⟨n,rfl,rfl,hI1,g1,g2,g3,g4⟩
 refine qA5 (fun hc=>kasC_pure (h p n _ _ hst (.refl _) (.refl _ _ _) g1 g2 g3 hI1)) (fun hc => ?_)
 have hc:n≠nrem:=by simpa using hc
 obtain⟨g5,g6⟩:n<nrem/\lt (Srt.at' p (lo+n)) (Srt.at' p (lo+n - 1))=true:=by
  rcases g4 with z | z
  ·exact absurd z hc
  ·exact z
 refine qA5 (fun hn => ?_) (fun hn => ?_)
 ·have hn:n>1:=hn
  refine kasC_bind (qC2 hA hst hk hin (show lo<p.size by omega) (show lo+n - 1<p.size by omega) hI1 fun s3 hI3 => ?_)
  cases hb:lt (Srt.at' p lo) (Srt.at' p (lo+n - 1)) with
  | true=>exact qA5 (fun _=>kasC_pure (h p n _ _ hst (.refl _) (.refl _ _ _) g1 g2 g3 hI3)) (fun z=>absurd rfl z)
  | false =>
   refine qA5 (fun z=>absurd z Bool.false_ne_true) (fun _ => ?_)
   have hE:EqAt lt p lo 0 n:=fun i j _ hi _ hj=>by
    have e3:=g3 0 i (Nat.zero_le _) hi
    have e4:=g3 j (n - 1) (by omega) (by omega)
    rw [Nat.add_zero] at e3
    rw [show lo+(n - 1)=lo+n - 1 by omega] at e4
    exact O.trans _ _ _ e4 (O.trans _ _ _ hb e3)
   have hD0:DnAt lt p lo (n+1):=DnAt.snoc O g1 (fun i j _ hj=>hE i j (Nat.zero_le _) (by omega) (Nat.zero_le _) hj) (O.asym _ _ g6)
   refine kasC_bind (qE5 hst fun st1 hq1 hS1 => ?_)
   have hC1:Cr p (kas_rev p lo (lo+n)) lo nrem:=by
    have:=(Cr.refl p lo nrem).rev (a:=0) (b:=n) g2 hsz
    rw [Nat.add_zero] at this;exact this
   have hD1:DnAt lt (kas_rev p lo (lo+n)) lo (n+1):=by
    have:=hD0.revEq hE (Nat.zero_le _) (by omega) (by omega)
    rw [Nat.add_zero] at this;exact this
   refine kasC_bind (kasC_lift (wpAny_rule ?_))
   refine kasC_bind (qAd (kasC_range (qBm (Q:=fun v st' s' => ∃(q:Array Nat) (m neq:Nat),v=(none,m,neq)/\arrOf st'=q.map (kas_item it)/\SameA st st'/\Cr p q lo nrem/\I s'/\neq+1<=m/\m<=nrem/\DnAt lt q lo m/\EqAt lt q lo (m - (neq+1)) m) (fun k v st' s' => ∃(q:Array Nat) (m neq:Nat),v=(none,m,neq)/\arrOf st'=q.map (kas_item it)/\SameA st st'/\Cr p q lo nrem/\I s'/\neq+1<=m/\m+k=nrem/\DnAt lt q lo m/\EqAt lt q lo (m - (neq+1)) m) ?_ ?_ _ ⟨_,n+1,0,rfl,hq1,hS1,hC1,hI3,by omega,by rw [List.length_range'];show n+1+(nrem - (n+1))=nrem;omega,hD1,fun i j i1 i2 j1 j2=>by rw [show i=j by omega];exact O.irr _⟩)) ?_)
   ·rintro k x v st2 s2 ⟨q,m,neq,rfl,hq,hS,hC,hI2,a1,a2,hD,hE⟩
    refine kasC_bind (qC2 hA hq (hS.1.trans hk) (hmem hC) (show lo+m<q.size by rw [hC.size];omega) (show lo+m - 1<q.size by rw [hC.size];omega) hI2 fun s3 hI4 => ?_)
    have ei:lo+m - (neq+1)=lo+(m - (neq+1)):=by omega
    have hqs:lo+m<=q.size:=by rw [hC.size];omega
    cases hb:lt (Srt.at' q (lo+m)) (Srt.at' q (lo+m - 1)) with
    | true =>
     refine qA5 (fun _ => ?_) (fun z=>absurd rfl z)
     refine qA5 (fun hn => ?_) (fun hn => ?_)
     ·refine kasC_bind (qE5 hq fun st3 h3 hS3=>kasC_pure ⟨_,m+1,0,rfl,h3,hS.trans hS3,?_,hI4,by omega,by omega,?_,fun i j i1 i2 j1 j2=>by rw [show i=j by omega];exact O.irr _⟩)
      ·show Cr p (kas_rev q (lo+m - (neq+1)) (lo+m)) lo nrem
       rw [ei];exact hC.rev (by omega) hsz
      ·show DnAt lt (kas_rev q (lo+m - (neq+1)) (lo+m)) lo (m+1)
       rw [ei]
       exact (hD.snoc O (by omega) (O.asym _ _ hb)).revEq hE (by omega) (by omega) hqs
     ·exact kasC_pure ⟨q,m+1,0,rfl,hq,hS,hC,hI4,by omega,by omega,hD.snoc O (by omega) (O.asym _ _ hb),fun i j i1 i2 j1 j2=>by rw [show i=j by omega];exact O.irr _⟩
    | false =>
     refine qA5 (fun z=>absurd z Bool.false_ne_true) (fun _ => ?_)
     refine kasC_bind (qC2 hA hq (hS.1.trans hk) (hmem hC) (show lo+m - 1<q.size by omega) (show lo+m<q.size by rw [hC.size];omega) hI4 fun s5 hI5 => ?_)
     cases hb2:lt (Srt.at' q (lo+m - 1)) (Srt.at' q (lo+m)) with
     | true=>exact qA5 (fun _=>kasC_pure ⟨q,m,neq,rfl,hq,hS,hC,hI5,a1,by omega,hD,hE⟩) (fun z=>absurd rfl z)
     | false=>exact qA5 (fun z=>absurd z Bool.false_ne_true) (fun _=>kasC_pure ⟨q,m+1,neq+1,rfl,hq,hS,hC,hI5,by omega,by omega,hD.snoc O (by omega) hb2,by rw [show m+1 - (neq+1+1)=m - (neq+1) by omega];exact hE.snoc O (by omega) hb hb2⟩)
   ·rintro v st2 s2 ⟨q,m,neq,rfl,hq,hS,hC,hI2,a1,a2,hD,hE⟩
    exact⟨q,m,neq,rfl,hq,hS,hC,hI2,a1,by omega,hD,hE⟩
   rintro v st2 s2 ⟨q,m,neq,rfl,hq,hS,hC,hI4,a1,a2,hD,hE⟩
   have hqs:lo+m<=q.size:=by rw [hC.size];omega
   have ei:lo+m - (neq+1)=lo+(m - (neq+1)):=by omega
   refine qA5 (fun hn => ?_) (fun hn => ?_)
   ·refine kasC_bind (qE5 hq fun st3 h3 hS3 => ?_)
    obtain⟨q2,hq2,hC2,hD2⟩ : ∃q2:Array Nat,arrOf st3=q2.map (kas_item it)/\Cr p q2 lo nrem/\DnAt lt q2 lo m:=⟨_,h3,by
     show Cr p (kas_rev q (lo+m - (neq+1)) (lo+m)) lo nrem
     rw [ei];exact hC.rev (by omega) hsz,by
     show DnAt lt (kas_rev q (lo+m - (neq+1)) (lo+m)) lo m
     rw [ei];exact hD.revEq hE (by omega) (Nat.le_refl _) hqs⟩
    have hS2:=hS.trans hS3
    refine kasC_bind (qE5 hq2 fun st5 h5 hS5 => ?_)
    have hC5:=hC2.rev (a:=0) (b:=m) a2 hsz
    rw [Nat.add_zero] at hC5
    have hU5:=hD2.rev (by rw [hC2.size];omega)
    have hS6:=hS2.trans hS5
    refine kasC_bind (qAd (kasC_range (qBm (Q:=fun v st' s' => ∃n,v=(none,n)/\st5=st'/\I s'/\1<=n/\n<=nrem/\UpAt lt (kas_rev q2 lo (lo+m)) lo n) (fun k v st' s' => ∃n,v=(none,n)/\st5=st'/\I s'/\1<=n/\n+k=nrem/\UpAt lt (kas_rev q2 lo (lo+m)) lo n) ?_ ?_ _ ⟨m,rfl,rfl,hI4,by omega,by rw [List.length_range'];show m+(nrem - m)=nrem;omega,hU5⟩)) ?_)
    ·rintro k x v st7 s7 ⟨n,rfl,rfl,hI7,b1,b2,b3⟩
     refine kasC_bind (qC2 hA h5 (hS6.1.trans hk) (hmem hC5) (show lo+n<_ by rw [hC5.size];omega) (show lo+n - 1<_ by rw [hC5.size];omega) hI7 fun s8 hI8 => ?_)
     cases hb:lt (Srt.at' (kas_rev q2 lo (lo+m)) (lo+n)) (Srt.at' (kas_rev q2 lo (lo+m)) (lo+n - 1)) with
     | true=>exact qA5 (fun _=>kasC_pure ⟨n,rfl,rfl,hI8,b1,by omega,b3⟩) (fun z=>absurd rfl z)
     | false=>exact qA5 (fun z=>absurd z Bool.false_ne_true) (fun _=>kasC_pure ⟨n+1,rfl,rfl,hI8,by omega,by omega,b3.snoc O b1 hb⟩)
    ·rintro v st7 s7 ⟨n,rfl,rfl,hI7,b1,b2,b3⟩
     exact⟨n,rfl,rfl,hI7,b1,by omega,b3⟩
    rintro v st7 s7 ⟨n,rfl,rfl,hI7,b1,b2,b3⟩
    exact kasC_pure (h _ n _ _ h5 hS6 hC5 b1 b2 b3 hI7)
   ·obtain⟨q2,hq2,hC2,hD2⟩ : ∃q2:Array Nat,arrOf st2=q2.map (kas_item it)/\Cr p q2 lo nrem/\DnAt lt q2 lo m:=⟨q,hq,hC,hD⟩
    have hS2:=hS
    refine kasC_bind (qE5 hq2 fun st5 h5 hS5 => ?_)
    have hC5:=hC2.rev (a:=0) (b:=m) a2 hsz
    rw [Nat.add_zero] at hC5
    have hU5:=hD2.rev (by rw [hC2.size];omega)
    have hS6:=hS2.trans hS5
    refine kasC_bind (qAd (kasC_range (qBm (Q:=fun v st' s' => ∃n,v=(none,n)/\st5=st'/\I s'/\1<=n/\n<=nrem/\UpAt lt (kas_rev q2 lo (lo+m)) lo n) (fun k v st' s' => ∃n,v=(none,n)/\st5=st'/\I s'/\1<=n/\n+k=nrem/\UpAt lt (kas_rev q2 lo (lo+m)) lo n) ?_ ?_ _ ⟨m,rfl,rfl,hI4,by omega,by rw [List.length_range'];show m+(nrem - m)=nrem;omega,hU5⟩)) ?_)
    ·rintro k x v st7 s7 ⟨n,rfl,rfl,hI7,b1,b2,b3⟩
     refine kasC_bind (qC2 hA h5 (hS6.1.trans hk) (hmem hC5) (show lo+n<_ by rw [hC5.size];omega) (show lo+n - 1<_ by rw [hC5.size];omega) hI7 fun s8 hI8 => ?_)
     cases hb:lt (Srt.at' (kas_rev q2 lo (lo+m)) (lo+n)) (Srt.at' (kas_rev q2 lo (lo+m)) (lo+n - 1)) with
     | true=>exact qA5 (fun _=>kasC_pure ⟨n,rfl,rfl,hI8,b1,by omega,b3⟩) (fun z=>absurd rfl z)
     | false=>exact qA5 (fun z=>absurd z Bool.false_ne_true) (fun _=>kasC_pure ⟨n+1,rfl,rfl,hI8,by omega,by omega,b3.snoc O b1 hb⟩)
    ·rintro v st7 s7 ⟨n,rfl,rfl,hI7,b1,b2,b3⟩
     exact⟨n,rfl,rfl,hI7,b1,by omega,b3⟩
    rintro v st7 s7 ⟨n,rfl,rfl,hI7,b1,b2,b3⟩
    exact kasC_pure (h _ n _ _ h5 hS6 hC5 b1 b2 b3 hI7)
 ·have hn : ¬n>1:=hn
  have hn1:n=1:=by omega
  subst hn1
  have hI3:=hI1
  have hq1:=hst
  have hS1:SameA st st :=.refl _
  have hC1:Cr p p lo nrem :=.refl _ _ _
  have hD1:DnAt lt p lo (1+1):=DnAt.snoc O (Nat.le_refl _) (fun i j hij hj=>by rw [show i=0 by omega,show j=0 by omega];exact O.irr _) (O.asym _ _ g6)
  refine kasC_bind (kasC_lift (wpAny_rule ?_))
  refine kasC_bind (qAd (kasC_range (qBm (Q:=fun v st' s' => ∃(q:Array Nat) (m neq:Nat),v=(none,m,neq)/\arrOf st'=q.map (kas_item it)/\SameA st st'/\Cr p q lo nrem/\I s'/\neq+1<=m/\m<=nrem/\DnAt lt q lo m/\EqAt lt q lo (m - (neq+1)) m) (fun k v st' s' => ∃(q:Array Nat) (m neq:Nat),v=(none,m,neq)/\arrOf st'=q.map (kas_item it)/\SameA st st'/\Cr p q lo nrem/\I s'/\neq+1<=m/\m+k=nrem/\DnAt lt q lo m/\EqAt lt q lo (m - (neq+1)) m) ?_ ?_ _ ⟨_,1+1,0,rfl,hq1,hS1,hC1,hI3,by omega,by rw [List.length_range'];show 1+1+(nrem - (1+1))=nrem;omega,hD1,fun i j i1 i2 j1 j2=>by rw [show i=j by omega];exact O.irr _⟩)) ?_)
  ·rintro k x v st2 s2 ⟨q,m,neq,rfl,hq,hS,hC,hI2,a1,a2,hD,hE⟩
   refine kasC_bind (qC2 hA hq (hS.1.trans hk) (hmem hC) (show lo+m<q.size by rw [hC.size];omega) (show lo+m - 1<q.size by rw [hC.size];omega) hI2 fun s3 hI4 => ?_)
   have ei:lo+m - (neq+1)=lo+(m - (neq+1)):=by omega
   have hqs:lo+m<=q.size:=by rw [hC.size];omega
   cases hb:lt (Srt.at' q (lo+m)) (Srt.at' q (lo+m - 1)) with
   | true =>
    refine qA5 (fun _ => ?_) (fun z=>absurd rfl z)
    refine qA5 (fun hn => ?_) (fun hn => ?_)
    ·refine kasC_bind (qE5 hq fun st3 h3 hS3=>kasC_pure ⟨_,m+1,0,rfl,h3,hS.trans hS3,?_,hI4,by omega,by omega,?_,fun i j i1 i2 j1 j2=>by rw [show i=j by omega];exact O.irr _⟩)
     ·show Cr p (kas_rev q (lo+m - (neq+1)) (lo+m)) lo nrem
      rw [ei];exact hC.rev (by omega) hsz
     ·show DnAt lt (kas_rev q (lo+m - (neq+1)) (lo+m)) lo (m+1)
      rw [ei]
      exact (hD.snoc O (by omega) (O.asym _ _ hb)).revEq hE (by omega) (by omega) hqs
    ·exact kasC_pure ⟨q,m+1,0,rfl,hq,hS,hC,hI4,by omega,by omega,hD.snoc O (by omega) (O.asym _ _ hb),fun i j i1 i2 j1 j2=>by rw [show i=j by omega];exact O.irr _⟩
   | false =>
    refine qA5 (fun z=>absurd z Bool.false_ne_true) (fun _ => ?_)
    refine kasC_bind (qC2 hA hq (hS.1.trans hk) (hmem hC) (show lo+m - 1<q.size by omega) (show lo+m<q.size by rw [hC.size];omega) hI4 fun s5 hI5 => ?_)
    cases hb2:lt (Srt.at' q (lo+m - 1)) (Srt.at' q (lo+m)) with
    | true=>exact qA5 (fun _=>kasC_pure ⟨q,m,neq,rfl,hq,hS,hC,hI5,a1,by omega,hD,hE⟩) (fun z=>absurd rfl z)
    | false=>exact qA5 (fun z=>absurd z Bool.false_ne_true) (fun _=>kasC_pure ⟨q,m+1,neq+1,rfl,hq,hS,hC,hI5,by omega,by omega,hD.snoc O (by omega) hb2,by rw [show m+1 - (neq+1+1)=m - (neq+1) by omega];exact hE.snoc O (by omega) hb hb2⟩)
  ·rintro v st2 s2 ⟨q,m,neq,rfl,hq,hS,hC,hI2,a1,a2,hD,hE⟩
   exact⟨q,m,neq,rfl,hq,hS,hC,hI2,a1,by omega,hD,hE⟩
  rintro v st2 s2 ⟨q,m,neq,rfl,hq,hS,hC,hI4,a1,a2,hD,hE⟩
  have hqs:lo+m<=q.size:=by rw [hC.size];omega
  have ei:lo+m - (neq+1)=lo+(m - (neq+1)):=by omega
  refine qA5 (fun hn => ?_) (fun hn => ?_)
  ·refine kasC_bind (qE5 hq fun st3 h3 hS3 => ?_)
   obtain⟨q2,hq2,hC2,hD2⟩ : ∃q2:Array Nat,arrOf st3=q2.map (kas_item it)/\Cr p q2 lo nrem/\DnAt lt q2 lo m:=⟨_,h3,by
    show Cr p (kas_rev q (lo+m - (neq+1)) (lo+m)) lo nrem
    rw [ei];exact hC.rev (by omega) hsz,by
    show DnAt lt (kas_rev q (lo+m - (neq+1)) (lo+m)) lo m
    rw [ei];exact hD.revEq hE (by omega) (Nat.le_refl _) hqs⟩
   have hS2:=hS.trans hS3
   refine kasC_bind (qE5 hq2 fun st5 h5 hS5 => ?_)
   have hC5:=hC2.rev (a:=0) (b:=m) a2 hsz
   rw [Nat.add_zero] at hC5
   have hU5:=hD2.rev (by rw [hC2.size];omega)
   have hS6:=hS2.trans hS5
   refine kasC_bind (qAd (kasC_range (qBm (Q:=fun v st' s' => ∃n,v=(none,n)/\st5=st'/\I s'/\1<=n/\n<=nrem/\UpAt lt (kas_rev q2 lo (lo+m)) lo n) (fun k v st' s' => ∃n,v=(none,n)/\st5=st'/\I s'/\1<=n/\n+k=nrem/\UpAt lt (kas_rev q2 lo (lo+m)) lo n) ?_ ?_ _ ⟨m,rfl,rfl,hI4,by omega,by rw [List.length_range'];show m+(nrem - m)=nrem;omega,hU5⟩)) ?_)
   ·rintro k x v st7 s7 ⟨n,rfl,rfl,hI7,b1,b2,b3⟩
    refine kasC_bind (qC2 hA h5 (hS6.1.trans hk) (hmem hC5) (show lo+n<_ by rw [hC5.size];omega) (show lo+n - 1<_ by rw [hC5.size];omega) hI7 fun s8 hI8 => ?_)
    cases hb:lt (Srt.at' (kas_rev q2 lo (lo+m)) (lo+n)) (Srt.at' (kas_rev q2 lo (lo+m)) (lo+n - 1)) with
    | true=>exact qA5 (fun _=>kasC_pure ⟨n,rfl,rfl,hI8,b1,by omega,b3⟩) (fun z=>absurd rfl z)
    | false=>exact qA5 (fun z=>absurd z Bool.false_ne_true) (fun _=>kasC_pure ⟨n+1,rfl,rfl,hI8,by omega,by omega,b3.snoc O b1 hb⟩)
   ·rintro v st7 s7 ⟨n,rfl,rfl,hI7,b1,b2,b3⟩
    exact⟨n,rfl,rfl,hI7,b1,by omega,b3⟩
   rintro v st7 s7 ⟨n,rfl,rfl,hI7,b1,b2,b3⟩
   exact kasC_pure (h _ n _ _ h5 hS6 hC5 b1 b2 b3 hI7)
  ·obtain⟨q2,hq2,hC2,hD2⟩ : ∃q2:Array Nat,arrOf st2=q2.map (kas_item it)/\Cr p q2 lo nrem/\DnAt lt q2 lo m:=⟨q,hq,hC,hD⟩
   have hS2:=hS
   refine kasC_bind (qE5 hq2 fun st5 h5 hS5 => ?_)
   have hC5:=hC2.rev (a:=0) (b:=m) a2 hsz
   rw [Nat.add_zero] at hC5
   have hU5:=hD2.rev (by rw [hC2.size];omega)
   have hS6:=hS2.trans hS5
   refine kasC_bind (qAd (kasC_range (qBm (Q:=fun v st' s' => ∃n,v=(none,n)/\st5=st'/\I s'/\1<=n/\n<=nrem/\UpAt lt (kas_rev q2 lo (lo+m)) lo n) (fun k v st' s' => ∃n,v=(none,n)/\st5=st'/\I s'/\1<=n/\n+k=nrem/\UpAt lt (kas_rev q2 lo (lo+m)) lo n) ?_ ?_ _ ⟨m,rfl,rfl,hI4,by omega,by rw [List.length_range'];show m+(nrem - m)=nrem;omega,hU5⟩)) ?_)
   ·rintro k x v st7 s7 ⟨n,rfl,rfl,hI7,b1,b2,b3⟩
    refine kasC_bind (qC2 hA h5 (hS6.1.trans hk) (hmem hC5) (show lo+n<_ by rw [hC5.size];omega) (show lo+n - 1<_ by rw [hC5.size];omega) hI7 fun s8 hI8 => ?_)
    cases hb:lt (Srt.at' (kas_rev q2 lo (lo+m)) (lo+n)) (Srt.at' (kas_rev q2 lo (lo+m)) (lo+n - 1)) with
    | true=>exact qA5 (fun _=>kasC_pure ⟨n,rfl,rfl,hI8,b1,by omega,b3⟩) (fun z=>absurd rfl z)
    | false=>exact qA5 (fun z=>absurd z Bool.false_ne_true) (fun _=>kasC_pure ⟨n+1,rfl,rfl,hI8,by omega,by omega,b3.snoc O b1 hb⟩)
   ·rintro v st7 s7 ⟨n,rfl,rfl,hI7,b1,b2,b3⟩
    exact⟨n,rfl,rfl,hI7,b1,by omega,b3⟩
   rintro v st7 s7 ⟨n,rfl,rfl,hI7,b1,b2,b3⟩
   exact kasC_pure (h _ n _ _ h5 hS6 hC5 b1 b2 b3 hI7)
end
section
variable {lt:Nat->Nat->Bool}
theorem qTy {p:Array Nat} {lo n:Nat} (h:UpAt lt p lo n) (hs:lo+n<=p.size):Ri lt (p.extract lo (lo+n)).toList:=by
 refine List.pairwise_iff_getElem.mpr ?_
 intro i j hi hj hij
 have sz:(p.extract lo (lo+n)).size=n:=by rw [Array.size_extract];omega
 rw [Array.length_toList,sz] at hi hj
 have:=h i j (by omega) hj
 unfold Srt.at' at this
 rw [qCm (by omega),qCm (by omega)] at this
 rw [Array.getElem_toList,Array.getElem_toList,Array.getElem_extract,Array.getElem_extract]
 exact this
theorem qVu (O:Srt.Ord lt) {p:Array Nat} {lo n:Nat} (h:Ri lt (p.extract lo (lo+n)).toList) (hs:lo+n<=p.size):UpAt lt p lo n:=qHt O hs h
def Chain (lt:Nat->Nat->Bool) (p:Array Nat):Nat->List (Nat×Nat×Nat)->Nat->Prop
 | a,[],b=>a=b
 | a,x::r,b=>x.1=a/\0<x.2.1/\UpAt lt p x.1 x.2.1/\Chain lt p (a+x.2.1) r b
theorem Chain.le {p:Array Nat} : ∀ {l:List (Nat×Nat×Nat)} {a b:Nat},Chain lt p a l b->a+l.length<=b
 | [],a,b,h=>by have h:a=b:=h;simp;omega
 | x::r,a,b,h=>by
  obtain⟨_,h2,_,h4⟩:=h
  have:=Chain.le h4
  rw [List.length_cons];omega
theorem UpAt.agree {p p':Array Nat} {lo n:Nat} (h:UpAt lt p lo n) (e : ∀i,lo<=i->i<lo+n->Srt.at' p' i=Srt.at' p i):UpAt lt p' lo n:=fun i j hij hj=>by
 rw [e _ (by omega) (by omega),e _ (by omega) (by omega)];exact h i j hij hj
theorem Chain.agree {p p':Array Nat} : ∀ {l:List (Nat×Nat×Nat)} {a b:Nat},(∀i,a<=i->i<b->Srt.at' p' i=Srt.at' p i)->Chain lt p a l b->Chain lt p' a l b
 | [],a,b,_,h=>h
 | x::r,a,b,e,h=>by
  obtain⟨h1,h2,h3,h4⟩:=h
  have hl:=Chain.le h4
  exact⟨h1,h2,h3.agree fun i i1 i2=>e i (by omega) (by omega),Chain.agree (fun i i1 i2=>e i (by omega) i2) h4⟩
theorem Chain.snoc {p:Array Nat} {n w:Nat} (hn:0<n) : ∀ {l:List (Nat×Nat×Nat)} {a b:Nat},Chain lt p a l b->UpAt lt p b n->Chain lt p a (l ++ [(b,n,w)]) (b+n)
 | [],a,b,h,u=>by
  have h:a=b:=h
  subst h
  exact⟨rfl,hn,u,rfl⟩
 | x::r,a,b,h,u=>by
  obtain⟨h1,h2,h3,h4⟩:=h
  exact⟨h1,h2,h3,Chain.snoc hn h4 u⟩
theorem Chain.get {p:Array Nat} : ∀ {l:List (Nat×Nat×Nat)} {a b i:Nat} {x y:Nat×Nat×Nat},Chain lt p a l b->l[i]? = some x->l[i+1]? = some y->y.1=x.1+x.2.1/\0<x.2.1/\0<y.2.1/\UpAt lt p x.1 x.2.1/\UpAt lt p y.1 y.2.1/\y.1+y.2.1<=b/\a<=x.1
 | [],_,_,_,_,_,_,e,_=>by simp at e
 | [_],_,_,0,_,_,_,_,e=>by simp at e
 | x::y::r,a,b,0,x',y',h,e1,e2=>by
  simp at e1 e2
  subst e1 e2
  obtain⟨h1,h2,h3,h4,h5,h6,h7⟩:=h
  have:=Chain.le h7
  exact⟨by rw [h4,h1],h2,h5,h3,h6,by omega,by omega⟩
 | x::r,a,b,i+1,x',y',h,e1,e2=>by
  obtain⟨h1,h2,h3,h4⟩:=h
  obtain⟨g1,g2,g3,g4,g5,g6,g7⟩:=Chain.get (i:=i) h4 (by simpa using e1) (by simpa using e2)
  exact⟨g1,g2,g3,g4,g5,g6,by omega⟩
theorem Chain.merge {p p':Array Nat} : ∀ {l:List (Nat×Nat×Nat)} {a b i s n w n2 w2:Nat},Chain lt p a l b->l[i]? = some (s,n,w)->l[i+1]? = some (s+n,n2,w2)->(∀j,j<s\/s+n+n2<=j->Srt.at' p' j=Srt.at' p j)->UpAt lt p' s (n+n2)->Chain lt p' a ((l.set i (s,n+n2,w)).eraseIdx (i+1)) b
 | [],_,_,_,_,_,_,_,_,_,e,_,_,_=>by simp at e
 | [_],_,_,0,_,_,_,_,_,_,_,e,_,_=>by simp at e
 | x::y::r,a,b,0,s,n,w,n2,w2,h,e1,e2,ag,up=>by
  simp at e1 e2
  subst e1 e2
  obtain⟨h1,h2,h3,h4,h5,h6,h7⟩:=h
  have h1:s=a:=h1
  subst h1
  refine⟨rfl,by show 0<n+n2;have:0<n:=h2;omega,up,?_⟩
  show Chain lt p' (s+(n+n2)) r b
  rw [<-Nat.add_assoc]
  exact Chain.agree (fun i i1 i2=>ag i (.inr i1)) h7
 | x::r,a,b,i+1,s,n,w,n2,w2,h,e1,e2,ag,up=>by
  obtain⟨h1,h2,h3,h4⟩:=h
  have e1:r[i]? = some (s,n,w):=by simpa using e1
  have e2:r[i+1]? = some (s+n,n2,w2):=by simpa using e2
  obtain⟨g1,g2,g3,g4,g5,g6,g7⟩:=Chain.get h4 e1 e2
  exact⟨h1,h2,h3.agree fun j j1 j2=>ag j (.inl (by omega)),Chain.merge h4 e1 e2 ag up⟩
theorem Chain.modi {p:Array Nat} {f:Nat×Nat×Nat->Nat×Nat×Nat} (hf : ∀x,(f x).1=x.1/\(f x).2.1=x.2.1) : ∀ {l:List (Nat×Nat×Nat)} {a b i:Nat},Chain lt p a l b->Chain lt p a (l.modify i f) b
 | [],_,_,_,h=>by simpa using h
 | x::r,a,b,0,h=>by
  obtain⟨h1,h2,h3,h4⟩:=h
  rw [List.modify_zero_cons]
  refine⟨(hf x).1.trans h1,by rw [(hf x).2];exact h2,by rw [(hf x).1,(hf x).2];exact h3,by rw [(hf x).2];exact h4⟩
 | x::r,a,b,i+1,h=>by
  obtain⟨h1,h2,h3,h4⟩:=h
  rw [List.modify_succ_cons]
  exact⟨h1,h2,h3,Chain.modi hf h4⟩
end
section
variable {prog:Program} {w:World} {A:Around} {E:Value->Shared->Prop} {κ : SortKind} {it:Array Keyed} {lt:Nat->Nat->Bool} {I:Shared->Prop} {N:Nat}
theorem qS5 {p q:Array Nat} {n:Nat} (h:q.toList.take n=p.toList.take n) {i:Nat} (hi:i<n):Srt.at' q i=Srt.at' p i:=by
 refine Srt.at_eq ?_
 have:=congrArg (fun l=>l[i]?) h
 simp only [List.getElem?_take,hi,if_true] at this
 simpa using this
theorem qP5 {p q:Array Nat} {n:Nat} (h:q.toList.drop n=p.toList.drop n) {i:Nat} (hi:n<=i):Srt.at' q i=Srt.at' p i:=by
 refine Srt.at_eq ?_
 have:=congrArg (fun l=>l[i - n]?) h
 simp only [List.getElem?_drop,show n+(i - n)=i by omega] at this
 simpa using this
structure Mid (κ : SortKind) (it:Array Keyed) (lt:Nat->Nat->Bool) (p0:Array Nat) (st:SortSt) (lo:Nat) (q:Array Nat):Prop where
 arr:arrOf st=q.map (kas_item it)
 kind:kindOf st = κ
 failed:failedOf st=none
 size:q.size=p0.size
 perm:q.toList.Perm p0.toList
 chain:Chain lt q 0 (pendingOf st).toList lo
theorem qG1 (O:Srt.Ord lt) (hA:AskOk prog w A κ it lt I N) {p0 q:Array Nat} {st:SortSt} {s:Shared} {lo i:Nat} {Q:Bool->SortSt->Shared->Prop} (hin : ∀x∈p0,x<N) (m:Mid κ it lt p0 st lo q) (hlo:lo<=p0.size) (hi:i+1<(pendingOf st).size) (hI:I s)
  (h : ∀q' st' s',Mid κ it lt p0 st' lo q'->(pendingOf st').size+1=(pendingOf st).size->(∀j,lo<=j->Srt.at' q' j=Srt.at' q j)->I s'->Q true st' s'):kasC (model prog w) A E (mergeAt' i) Q st s:=by
 have e1:(pendingOf st)[i]? = some (pendingOf st)[i]:=Array.getElem?_eq_getElem (by omega)
 have e2:(pendingOf st)[i+1]? = some (pendingOf st)[i+1]:=Array.getElem?_eq_getElem hi
 obtain⟨x1,x2,x3⟩ : ∃a b c,(pendingOf st)[i]=(a,b,c):=⟨_,_,_,rfl⟩
 generalize hx:(pendingOf st)[i]=x at e1
 generalize hy:(pendingOf st)[i+1]=y at e2
 obtain⟨sa,na,pw⟩:=x
 obtain⟨sb,nb,pw2⟩:=y
 obtain⟨g1,g2,g3,g4,g5,g6,g7⟩:=m.chain.get (i:=i) (x:=(sa,na,pw)) (y:=(sb,nb,pw2)) (by simpa using e1) (by simpa using e2)
 have g1:sb=sa+na:=g1
 subst g1
 have hsz:sa+na+nb<=q.size:=by
  have g6:sa+na+nb<=lo:=g6
  rw [m.size];omega
 refine qMj O hA m.arr m.kind m.failed e1 e2 g2 g3 hsz (fun x hx=>hin x (Array.mem_def.mpr (m.perm.mem_iff.mp (Array.mem_def.mp hx)))) hI (qTy g4 (by omega)) (qTy g5 (by omega)) fun p' st' s' a1 a2 a3 a4 a5 a6 a7 a8 a9 hI' => ?_
 have ee:(((pendingOf st).setIfInBounds i (sa,na+nb,pw)).eraseIdxIfInBounds (i+1)).toList=((pendingOf st).toList.set i (sa,na+nb,pw)).eraseIdx (i+1):=by simp
 refine h p' st' s' ⟨a1,a2,a3,a5.trans m.size,a9.trans m.perm,?_⟩ ?_ (fun j hj=>qP5 a7 (by have hbeh:sa+na+nb<=lo:=g6;omega)) hI'
 ·rw [a4]
  rw [ee]
  refine m.chain.merge (i:=i) (by simpa using e1) (by simpa using e2) (fun j hj => ?_) (qVu O (by rw [<-Nat.add_assoc];exact a8) (by rw [a5];omega))
  rcases hj with z | z
  ·exact qS5 a6 z
  ·exact qP5 a7 z
 ·rw [a4,<-Array.length_toList,ee,List.length_eraseIdx,List.length_set,Array.length_toList,if_pos hi];omega
theorem qVl {c:Prop} [Decidable c] {x z:Nat} (h:x+1<z):(if c then x - 1 else x)+1<z:=by
 split <;> omega
theorem qSg (O:Srt.Ord lt) (hA:AskOk prog w A κ it lt I N) {p:Array Nat} {st:SortSt} {s:Shared} {Q:Unit->SortSt->Shared->Prop} (hst:arrOf st=p.map (kas_item it)) (hk:kindOf st = κ) (hf:failedOf st=none) (hpd:pendingOf st = #[]) (hin : ∀x∈p,x<N) (h2:1<=p.size) (hI:I s)
  (h : ∀(q:Array Nat) st' s',arrOf st'=q.map (kas_item it)->failedOf st'=none->q.size=p.size->q.toList.Perm p.toList->UpAt lt q 0 p.size->I s'->Q () st' s') :
  kasC (model prog w) A E sortRuns' Q st s:=by
 have hsz:(arrOf st).size=p.size:=by rw [hst,Array.size_map]
 refine kasC_bind (kasC_get ?_)
 have hsz2:((sortPriv% PySem.Builtin.SortState.a) st).size=p.size:=hsz
 rw [hsz2]
 generalize (sortPriv% PySem.Builtin.minRun) p.size p.size 0=mr
 refine kasC_bind (qAd (qB8 (Q:=fun v st' s' => ∃q,v.1=none/\Mid κ it lt p st' p.size q/\I s') (fun k v st' s' => ∃q lo,v=(none,lo)/\Mid κ it lt p st' lo q/\lo<=p.size/\p.size<=lo+k/\I s') ⟨p,0,rfl,⟨hst,hk,hf,rfl,.refl _,by rw [hpd];rfl⟩,by omega,by omega,hI⟩ ?_ ?_) ?_)
 ·rintro k x v st1 s1 ⟨q,lo,rfl,m,l1,l2,hI1⟩
  refine qA5 (fun hc=>kasC_pure ⟨q,rfl,by
   have hc:lo>=p.size:=hc
   obtain rfl:lo=p.size:=by omega
   exact m,hI1⟩) (fun hc => ?_)
  have hc : ¬lo>=p.size:=hc
  have hinq : ∀ {q:Array Nat},q.toList.Perm p.toList -> ∀x∈q,x<N:=fun {q} c x hx=>hin x (Array.mem_def.mpr (c.mem_iff.mp (Array.mem_def.mp hx)))
  refine kasC_bind (count_ok O hA (lo:=lo) (nrem:=p.size - lo) m.arr m.kind (hinq m.perm) (by omega) (by rw [m.size];omega) hI1 fun q1 n st2 s2 b1 b2 b3 b4 b5 b6 hI2 => ?_)
  have m1:Mid κ it lt p st2 lo q1:=⟨b1,b2.1.trans m.kind,b2.2.2.1.trans m.failed,b3.size.trans m.size,b3.perm.trans m.perm,by
   rw [b2.2.1]
   exact m.chain.agree fun i _ i2=>b3.out i (.inl i2)⟩
  refine qA5 (fun hlt => ?_) (fun hlt => ?_)
  ·refine kasC_bind (kasC_lift (wpAny_rule ?_))
   have hlt:n<(sortPriv% PySem.Builtin.minRun) p.size p.size 0:=hlt
   generalize hF:min (p.size - lo) ((sortPriv% PySem.Builtin.minRun) p.size p.size 0)=F at *
   refine kasC_bind (qPn O hA (lo:=lo) (n:=F) (ok:=n) b1 (b2.1.trans m.kind) (hinq m1.perm) (by rw [m1.size];omega) hI2 (by rw [Nat.max_eq_left b4];exact b6) (by omega) fun q2 st3 s3 c1 c2 c3 c4 c5 c6 hI3 => ?_)
   refine qA5 (fun z=>absurd z (by decide)) (fun _ => ?_)
   have mm:Mid κ it lt p st3 lo q2:=⟨c1,c2.1.trans m1.kind,c2.2.2.1.trans m1.failed,c3.trans m1.size,c4.trans m1.perm,by
    rw [c2.2.1]
    exact m1.chain.agree fun i _ i2=>c5 i (.inl i2)⟩
   have hu:=c6
   have hIX:=hI3
   have hn1:1<=F:=by omega
   have hn2:lo+F<=p.size:=by omega
   refine kasC_bind (kasC_get ?_)
   rcases hb:(pendingOf st3).back? with _ | ⟨s1',n1',w1'⟩
   ·skip
    refine kasC_bind (kasC_modify (kasC_pure ⟨q2,lo+F,rfl,⟨mm.arr,mm.kind,mm.failed,mm.size,mm.perm,?_⟩,by omega,by omega,hIX⟩))
    show Chain lt q2 0 ((pendingOf st3).push (lo,F,0)).toList (lo+F)
    rw [Array.toList_push]
    exact Chain.snoc (by omega) mm.chain hu
   ·skip
    refine kasC_bind (qAd (qB8 (Q:=fun v st' s'=>v.1=none /\ ∃q,Mid κ it lt p st' lo q/\UpAt lt q lo F/\I s') (fun _ v st' s'=>v=(none,()) /\ ∃q,Mid κ it lt p st' lo q/\UpAt lt q lo F/\I s') ⟨rfl,q2,mm,hu,hIX⟩ ?_ ?_) ?_)
    ·rintro k' x' v' st6 s6 ⟨rfl,q6,m6,u6,hI6⟩
     refine kasC_bind (kasC_get ?_)
     by_cases hp:(pendingOf st6).size>1
     ·obtain⟨⟨y1,y2,y3⟩,hif⟩ : ∃x6,(if ((sortPriv% PySem.Builtin.SortState.pending) st6).size>1 then ((sortPriv% PySem.Builtin.SortState.pending) st6)[((sortPriv% PySem.Builtin.SortState.pending) st6).size - 2]? else none)=some x6:=⟨(pendingOf st6)[(pendingOf st6).size - 2]'(by omega),by
       rw [if_pos hp];exact Array.getElem?_eq_getElem _⟩
      dsimp only
      rw [hif]
      refine qA5 (fun _=>kasC_pure ⟨rfl,q6,m6,u6,hI6⟩) (fun _ => ?_)
      refine kasC_bind (qG1 O hA hin m6 l1 (show (pendingOf st6).size - 2+1<(pendingOf st6).size by omega) hI6 fun q7 st7 s7 m7 _ ag hI7 => ?_)
      exact qA5 (fun z=>absurd z (by decide)) (fun _=>kasC_pure ⟨rfl,q7,m7,u6.agree fun j j1 _=>ag j j1,hI7⟩)
     ·have hif:(if ((sortPriv% PySem.Builtin.SortState.pending) st6).size>1 then ((sortPriv% PySem.Builtin.SortState.pending) st6)[((sortPriv% PySem.Builtin.SortState.pending) st6).size - 2]? else none)=none:=if_neg hp
      dsimp only
      rw [hif]
      exact kasC_pure ⟨rfl,q6,m6,u6,hI6⟩
    ·rintro v' st6 s6 ⟨rfl,q6,m6,u6,hI6⟩
     exact⟨rfl,q6,m6,u6,hI6⟩
    rintro⟨v',u'⟩ st6 s6 ⟨hv',q6,m6,u6,hI6⟩
    have hv':v'=none:=hv'
    subst hv'
    refine kasC_bind (kasC_modify ?_)
    have ch6:Chain lt q6 0 (((pendingOf st6).modify ((pendingOf st6).size - 1) fun x=>(x.1,x.2.1,(sortPriv% PySem.Builtin.power) p.size (2*s1'+n1') (2*s1'+n1'+n1'+F) p.size)).toList) lo:=by
     rw [Array.toList_modify]
     exact Chain.modi (f:=fun x=>(x.1,x.2.1,(sortPriv% PySem.Builtin.power) p.size (2*s1'+n1') (2*s1'+n1'+n1'+F) p.size)) (fun x=>⟨rfl,rfl⟩) m6.chain
    refine kasC_bind (kasC_modify (kasC_pure ⟨q6,lo+F,rfl,⟨m6.arr,m6.kind,m6.failed,m6.size,m6.perm,?_⟩,by omega,by omega,hI6⟩))
    show Chain lt q6 0 (((pendingOf st6).modify ((pendingOf st6).size - 1) fun x=>(x.1,x.2.1,(sortPriv% PySem.Builtin.power) p.size (2*s1'+n1') (2*s1'+n1'+n1'+F) p.size)).push (lo,F,0)).toList (lo+F)
    rw [Array.toList_push]
    exact Chain.snoc (by omega) ch6 u6
  ·have mm:=m1
   have hu:=b6
   have hIX:=hI2
   have hn1:1<=n:=b4
   have hn2:lo+n<=p.size:=by omega
   refine kasC_bind (kasC_get ?_)
   rcases hb:(pendingOf st2).back? with _ | ⟨s1',n1',w1'⟩
   ·skip
    refine kasC_bind (kasC_modify (kasC_pure ⟨q1,lo+n,rfl,⟨mm.arr,mm.kind,mm.failed,mm.size,mm.perm,?_⟩,by omega,by omega,hIX⟩))
    show Chain lt q1 0 ((pendingOf st2).push (lo,n,0)).toList (lo+n)
    rw [Array.toList_push]
    exact Chain.snoc (by omega) mm.chain hu
   ·skip
    refine kasC_bind (qAd (qB8 (Q:=fun v st' s'=>v.1=none /\ ∃q,Mid κ it lt p st' lo q/\UpAt lt q lo n/\I s') (fun _ v st' s'=>v=(none,()) /\ ∃q,Mid κ it lt p st' lo q/\UpAt lt q lo n/\I s') ⟨rfl,q1,mm,hu,hIX⟩ ?_ ?_) ?_)
    ·rintro k' x' v' st6 s6 ⟨rfl,q6,m6,u6,hI6⟩
     refine kasC_bind (kasC_get ?_)
     by_cases hp:(pendingOf st6).size>1
     ·obtain⟨⟨y1,y2,y3⟩,hif⟩ : ∃x6,(if ((sortPriv% PySem.Builtin.SortState.pending) st6).size>1 then ((sortPriv% PySem.Builtin.SortState.pending) st6)[((sortPriv% PySem.Builtin.SortState.pending) st6).size - 2]? else none)=some x6:=⟨(pendingOf st6)[(pendingOf st6).size - 2]'(by omega),by
       rw [if_pos hp];exact Array.getElem?_eq_getElem _⟩
      dsimp only
      rw [hif]
      refine qA5 (fun _=>kasC_pure ⟨rfl,q6,m6,u6,hI6⟩) (fun _ => ?_)
      refine kasC_bind (qG1 O hA hin m6 l1 (show (pendingOf st6).size - 2+1<(pendingOf st6).size by omega) hI6 fun q7 st7 s7 m7 _ ag hI7 => ?_)
      exact qA5 (fun z=>absurd z (by decide)) (fun _=>kasC_pure ⟨rfl,q7,m7,u6.agree fun j j1 _=>ag j j1,hI7⟩)
     ·have hif:(if ((sortPriv% PySem.Builtin.SortState.pending) st6).size>1 then ((sortPriv% PySem.Builtin.SortState.pending) st6)[((sortPriv% PySem.Builtin.SortState.pending) st6).size - 2]? else none)=none:=if_neg hp
      dsimp only
      rw [hif]
      exact kasC_pure ⟨rfl,q6,m6,u6,hI6⟩
    ·rintro v' st6 s6 ⟨rfl,q6,m6,u6,hI6⟩
     exact⟨rfl,q6,m6,u6,hI6⟩
    rintro⟨v',u'⟩ st6 s6 ⟨hv',q6,m6,u6,hI6⟩
    have hv':v'=none:=hv'
    subst hv'
    refine kasC_bind (kasC_modify ?_)
    have ch6:Chain lt q6 0 (((pendingOf st6).modify ((pendingOf st6).size - 1) fun x=>(x.1,x.2.1,(sortPriv% PySem.Builtin.power) p.size (2*s1'+n1') (2*s1'+n1'+n1'+n) p.size)).toList) lo:=by
     rw [Array.toList_modify]
     exact Chain.modi (f:=fun x=>(x.1,x.2.1,(sortPriv% PySem.Builtin.power) p.size (2*s1'+n1') (2*s1'+n1'+n1'+n) p.size)) (fun x=>⟨rfl,rfl⟩) m6.chain
    refine kasC_bind (kasC_modify (kasC_pure ⟨q6,lo+n,rfl,⟨m6.arr,m6.kind,m6.failed,m6.size,m6.perm,?_⟩,by omega,by omega,hI6⟩))
    show Chain lt q6 0 (((pendingOf st6).modify ((pendingOf st6).size - 1) fun x=>(x.1,x.2.1,(sortPriv% PySem.Builtin.power) p.size (2*s1'+n1') (2*s1'+n1'+n1'+n) p.size)).push (lo,n,0)).toList (lo+n)
    rw [Array.toList_push]
    exact Chain.snoc (by omega) ch6 u6
 ·rintro v st1 s1 ⟨q,lo,rfl,m,l1,l2,hI1⟩
  obtain rfl:lo=p.size:=by omega
  exact⟨q,rfl,m,hI1⟩
 rintro⟨v,u⟩ st1 s1 ⟨q,hv,m,hI1⟩
 have hv:v=none:=hv
 subst hv
 refine kasC_bind (qAd (qB8 (Q:=fun v st' s'=>v.1=none /\ ∃q,Mid κ it lt p st' p.size q/\(pendingOf st').size<=1/\I s') (fun k v st' s'=>v=(none,()) /\ ∃q,Mid κ it lt p st' p.size q/\(pendingOf st').size<=k+1/\I s') ⟨rfl,q,m,by have:=m.chain.le;rw [Array.length_toList] at this;omega,hI1⟩ ?_ ?_) ?_)
 ·rintro k x v st2 s2 ⟨rfl,q2,m2,hs2,hI2⟩
  refine kasC_bind (kasC_get ?_)
  refine qA5 (fun hc=>kasC_pure ⟨rfl,q2,m2,hc,hI2⟩) (fun hc => ?_)
  have hc : ¬(pendingOf st2).size<=1:=hc
  refine kasC_bind (qG1 O hA hin m2 (Nat.le_refl _) ?_ hI2 fun q3 st3 s3 m3 hp3 _ hI3 => ?_)
  ·exact qVl (show (pendingOf st2).size - 2+1<(pendingOf st2).size by omega)
  ·exact qA5 (fun z=>absurd z (by decide)) (fun _=>kasC_pure ⟨rfl,q3,m3,by omega,hI3⟩)
 ·rintro v st2 s2 ⟨rfl,q2,m2,hs2,hI2⟩
  exact⟨rfl,q2,m2,by omega,hI2⟩
 rintro⟨v2,u2⟩ st2 s2 ⟨hv2,q2,m2,hs2,hI2⟩
 have hv2:v2=none:=hv2
 subst hv2
 refine kasC_pure (h q2 st2 s2 m2.arr m2.failed m2.size m2.perm ?_ hI2)
 have ch:=m2.chain
 have hl:(pendingOf st2).toList.length<=1:=by rw [Array.length_toList];exact hs2
 match hL:(pendingOf st2).toList,hl with
 | [],_ =>
  rw [hL] at ch
  have ch:0=p.size:=ch
  omega
 | [x],_ =>
  rw [hL] at ch
  obtain⟨c1,c2,c3,c4⟩:=ch
  have c4:0+x.2.1=p.size:=c4
  rw [c1] at c3
  rw [show p.size=x.2.1 by omega]
  exact c3
end
end L2
namespace L2
open PySem PySem.Spec PyProof.Rows
section
variable {X:Cx} {pins:List (Addr×Obj)} {σ : St} {H:Hp} {s:Shared}
theorem Inv.thaw {d:Addr} {o:Obj} {u:HO} (I:Inv X pins σ H s) (e:H d=some (.frz o u)) (h0 : ∀o u,X.H₀ d≠some (.frz o u)):Inv X pins σ (upd H d u) s:=by
 have ne : ∀b,H b=none->b≠d:=fun b hb z=>by rw [z,e] at hb;cases hb
 refine⟨I.ok,I.os,I.bare,⟨I.base.keep,I.base.slot,?_,I.base.there,?_,?_,?_⟩,I.loc,I.cell,?_,?_,?_,?_,I.len⟩
 ·intro b ob q n hx
  have:=I.base.free b ob q n hx
  rw [qA4 (ne b this)];exact this
 ·intro b xs q
  have:=I.base.tups b xs q
  rw [qA4 (fun z=>by rw [z,e] at this;cases this)];exact this
 ·intro b ob v q
  have:=I.base.frzs b ob v q
  rw [qA4 (fun z=>h0 ob v (by rw [<-z];exact q))];exact this
 ·intro b ps q
  obtain⟨more,this⟩:=I.base.tbls b ps q
  exact⟨more,by rw [qA4 (fun z=>by rw [z,e] at this;cases this)];exact this⟩
 ·rw [qA4 (ne _ I.free)];exact I.free
 ·intro x c q
  have:=I.freeC x c q
  rw [qA4 (ne c this)];exact this
 ·intro p hp
  obtain⟨a1,a2,a3⟩:=I.pin p hp
  exact⟨a1,by rw [qA4 (ne _ a2)];exact a2,a3⟩
 ·intro b v q
  have st : ∀ {b v},ObjOk X.prog X.w H s.heap b v->ObjOk X.prog X.w (upd H d u) s.heap b v:=fun {b v} h=>h.stay (fun c w _ q=>q) (fun c q=>by
   rw [qA4 (fun z=>by rw [z,e] at q;cases q)];exact q) fun c xs q=>by
   rw [qA4 (fun z=>by rw [z,e] at q;cases q)];exact q
  by_cases hb:b=d
  ·subst hb
   rw [qA1] at q
   have q:u=v:=Option.some.inj q
   rw [<-q]
   exact st (show ObjOk X.prog X.w H s.heap b (.frz o u) from I.hok b _ e).2
  ·rw [qA4 hb] at q
   exact st (I.hok b v q)
end
end L2
namespace L2
open PySem PySem.W PyProof.Rows
section
variable {prog:Program} {w:World} {A:Around} {E:Value->Shared->Prop} {s:Shared} {κ : SortKind} {lt:Nat->Nat->Bool}
theorem qQ0 (O:Srt.Ord lt) {a:Addr} {us:List Value} {n:Nat} {R:PySem.Fin->Shared->Prop} (g2:s.heap.get? a=some (seqObj "list" us.toArray n)) (h2:2<=us.length) (hz:us.length<=sizeLine)
  (hK : ∀(h':Heap) (Q:SortKind->Shared->Prop),(∀b o,b≠a->s.heap.get? b=some o->h'.get? b=some o)->Q κ { s with heap:=h' }->wpAny (model prog w) A (keyKind' us.toArray) Q E { s with heap:=h' })
  (hA : ∀h':Heap,(∀b o,b≠a->s.heap.get? b=some o->h'.get? b=some o)->AskOk prog w A κ (us.toArray.zip us.toArray) lt (fun s'=>s' = { s with heap:=h' }) us.length)
  (h : ∀(h':Heap) (c:Nat) (q:Array Nat),(∀b o,b≠a->s.heap.get? b=some o->h'.get? b=some o)->q.toList.Perm (List.range us.length)->UpAt lt q 0 us.length->h'.get? a=some (seqObj "list" (q.toList.map fun i=>us.getD i Value.none).toArray c)->R (.done (.ret .none)) { s with heap:=h' }) :
  wpAny (model prog w) A (Builtin.«list.sort» ⟨[.ref a],[]⟩) R E s:=by
 have ha:a<s.heap.objs.size:=Heap.lt_size g2
 rw [list_sort_plain]
 obtain⟨e1,g3⟩ : ∃e1,(s.heap.update a (Obj.mapSeq fun _ => #[])).get? a=some (seqObj "list" #[] e1):=⟨_,get?_update_seq g2 fun _ => #[]⟩
 refine wpAny_bind (listItems_at g2 rfl (wpAny_bind (listUpdate_at g2 rfl (wpAny_bind (seqEpoch_at g3 rfl (wpAny_bind (wpAny_newTuple (wpAny_bind (wpAny_newList (wpAny_holding ?_) (Nat.zero_le _))) (by show us.length<=_;exact hz))))) (by rw [List.size_toArray];exact hz) (Nat.zero_le _))))
 dsimp only
 have hk : ∀b o,b≠a->s.heap.get? b=some o->(((s.heap.update a (Obj.mapSeq fun _=>(#[]:Array Value))).push (seqObj "tuple" us.toArray 0)).push (seqObj "list" #[] 0)).get? b=some o:=fun b o hb e=>Heap.get?_push_of_some _ (Heap.get?_push_of_some _ ((Heap.get?_update_other _ _ (Ne.symm hb)).trans e))
 have g4:(((s.heap.update a (Obj.mapSeq fun _=>(#[]:Array Value))).push (seqObj "tuple" us.toArray 0)).push (seqObj "list" #[] 0)).get? a=some (seqObj "list" #[] e1):=Heap.get?_push_of_some _ (Heap.get?_push_of_some _ g3)
 show wpAny (model prog w) A _ R E { s with heap:=((s.heap.update a (Obj.mapSeq fun _=>(#[]:Array Value))).push (seqObj "tuple" us.toArray 0)).push (seqObj "list" #[] 0) }
 generalize ((s.heap.update a (Obj.mapSeq fun _=>(#[]:Array Value))).push (seqObj "tuple" us.toArray 0)).push (seqObj "list" #[] 0)=h1 at hk g4 ⊢
 have hn2 : ¬us.toArray.size<2:=by rw [List.size_toArray];omega
 rw [if_neg hn2,if_neg hn2]
 refine wpAny_bind (hK h1 _ hk ?_)
 have est:arrOf (SortSt.mk' κ (us.toArray.zip us.toArray) #[] 7 none)=(List.toArray (List.range us.length)).map (kas_item (us.toArray.zip us.toArray)):=by
  have e:=kas_range (us.toArray.zip us.toArray)
  rw [show (us.toArray.zip us.toArray).size=us.length by simp] at e
  exact e.symm
 have run:=qSg O (hA h1 hk) (E:=E) (Q:=fun _ st' s' => ∃q:Array Nat,arrOf st'=q.map (kas_item (us.toArray.zip us.toArray))/\failedOf st'=none/\q.toList.Perm (List.range us.length)/\UpAt lt q 0 us.length/\s' = { s with heap:=h1 }) est rfl rfl rfl (fun x hx=>by simpa using hx) (by simp;omega) rfl fun q st' s' a1 a2 a3 a4 a5 a6=>⟨q,a1,a2,by simpa using a4,by simpa using a5,a6⟩
 refine wpAny_bind (wpAny_mono run (fun r s' hr => ?_) fun _ _ e=>e)
 obtain⟨⟨⟩,st'⟩:=r
 obtain⟨q,a1,a2,a3,a4,rfl⟩:=hr
 dsimp only
 have hout:(arrOf st').map (·.2)=List.toArray (q.toList.map fun i=>us.getD i Value.none):=kat_snds rfl a1
 have hsz:(List.toArray (q.toList.map fun i=>us.getD i Value.none)).size=us.length:=by rw [List.size_toArray,List.length_map,a3.length_eq,List.length_range]
 rw [hout]
 refine wpAny_bind (seqEpoch_at g4 rfl (wpAny_bind (listUpdate_at g4 rfl ?_ (Nat.zero_le _) (by rw [hsz];omega))))
 rw [a2]
 simp only [bne_self_eq_false,Bool.false_eq_true,if_false]
 obtain⟨c,g5⟩ : ∃c,(h1.update a (Obj.mapSeq fun _=>List.toArray (q.toList.map fun i=>us.getD i Value.none))).get? a=some (seqObj "list" (List.toArray (q.toList.map fun i=>us.getD i Value.none)) c):=⟨_,get?_update_seq g4 fun _=>_⟩
 exact wpAny_pure (h _ c q (fun b o hb e=>(Heap.get?_update_other _ _ (Ne.symm hb)).trans (hk b o hb e)) a3 a4 g5)
end
section
variable {prog:Program} {w:World} {A:Around} {E:Value->Shared->Prop} {s:Shared} {κ : SortKind} {lt:Nat->Nat->Bool}
theorem qM3 (O:Srt.Ord lt) {l:Addr} {us:List Value} {Q:Value->Shared->Prop} (hl:s.heap.IsList l us.toArray) (h2:2<=us.length) (hz:us.length<=sizeLine)
  (hK : ∀(h':Heap) (R:SortKind->Shared->Prop),(∀b o,s.heap.get? b=some o->h'.get? b=some o)->R κ { s with heap:=h' }->wpAny (model prog w) A.in1.in1 (keyKind' us.toArray) R (fun _ _=>False) { s with heap:=h' })
  (hA : ∀h':Heap,(∀b o,s.heap.get? b=some o->h'.get? b=some o)->AskOk prog w A.in1.in1 κ (us.toArray.zip us.toArray) lt (fun s'=>s' = { s with heap:=h' }) us.length)
  (h : ∀(h':Heap) (c:Nat) (q:Array Nat),(∀b o,s.heap.get? b=some o->h'.get? b=some o)->q.toList.Perm (List.range us.length)->UpAt lt q 0 us.length->h'.get? (s.heap.objs.size+1)=some (seqObj "list" (q.toList.map fun i=>us.getD i Value.none).toArray c)->Q (.ref (s.heap.objs.size+1)) { s with heap:=h' }) :
  wpAny (model prog w) A (call (.builtin "sorted") [.ref l]) Q E s:=by
 refine Calls.call_function_entry kind_sorted plain_sorted entry_sorted (args_sorted1 _) ?_
 unfold Builtin.«sorted»
 refine wpAny_bind (m:=checkCount "sorted" 1 1 _) (wpAny_pure (wpAny_bind (collect_list hl (wpAny_bind (wpAny_newList ?_ hz)) hz)))
 generalize hh:(s.heap.push (seqObj "list" #[] 0)).update s.heap.objs.size (Obj.mapSeq (· ++ us.toArray))=h1
 have z1:h1.objs.size=s.heap.objs.size+1:=by rw [<-hh,Heap.size_update,size_push']
 have k1 : ∀b o,s.heap.get? b=some o->h1.get? b=some o:=fun b o e=>by
  have hb:b<s.heap.objs.size:=Heap.lt_size e
  rw [<-hh,Heap.get?_update_ne _ _ _ _ (Nat.ne_of_lt hb),Heap.get?_push_ne _ _ _ (Nat.ne_of_lt hb)];exact e
 have g2:(h1.push (seqObj "list" us.toArray 0)).get? h1.objs.size=some (seqObj "list" us.toArray 0):=Heap.get?_push_size _ rfl
 have k2 : ∀b o,s.heap.get? b=some o->b≠s.heap.objs.size+1/\(h1.push (seqObj "list" us.toArray 0)).get? b=some o:=fun b o e=>⟨Nat.ne_of_lt (Nat.lt_succ_of_lt (Heap.lt_size e)),Heap.get?_push_of_some _ (k1 b o e)⟩
 show wpAny _ _ _ _ _ { s with heap:=h1.push (seqObj "list" us.toArray 0) }
 rw [z1] at g2 ⊢
 refine wpAny_bind (wpAny_holding (wpAny_call_entry slot_list_sort ⟨_,g2,rfl⟩ entry_list_sort (qQ0 O (s :={ s with heap:=h1.push (seqObj "list" us.toArray 0) }) g2 h2 hz (fun h' R k hR => ?_) (fun h' k=>hA h' fun b o e=>k b o (k2 b o e).1 (k2 b o e).2) fun h' c q k a1 a2 a3=>⟨_,rfl,wpAny_pure ⟨_,rfl,h h' c q (fun b o e=>k b o (k2 b o e).1 (k2 b o e).2) a1 a2 a3⟩⟩) (args_list_sort _)))
 exact wpAny_mono (hK h' R (fun b o e=>k b o (k2 b o e).1 (k2 b o e).2) hR) (fun _ _ x=>x) fun _ _ x=>x.elim
abbrev K4:=(Int×Int)×Bool×Int
def wdS (b:Bool):Str:=if b then "save" else "back"
def wN (b:Bool):Int:=if b then 1 else 0
def lt4 (x y:K4):Bool:=decide (x.1.1<y.1.1\/x.1.1=y.1.1/\(x.1.2<y.1.2\/x.1.2=y.1.2/\(wN x.2.1<wN y.2.1\/wN x.2.1=wN y.2.1/\x.2.2<y.2.2)))
theorem ord4 (f:Nat->K4):Srt.Ord (fun i j=>lt4 (f i) (f j)):=by
 refine⟨fun a b h => ?_,fun a b c h1 h2 => ?_⟩
 ·have h:=of_decide_eq_true h
  refine decide_eq_false ?_
  generalize wN (f a).2.1=u at *
  generalize wN (f b).2.1=v at *
  omega
 ·have h1:=of_decide_eq_false h1
  have h2:=of_decide_eq_false h2
  refine decide_eq_false ?_
  generalize wN (f a).2.1=u at *
  generalize wN (f b).2.1=v at *
  generalize wN (f c).2.1=z at *
  omega
def PairAt (h:Heap) (a:Addr) (p q:Int):Prop := ∃(o:Obj) (t1 t2:Tok) (n:Nat),h.get? a=some o/\o.cls = .type "tuple" /\ o.data = .seq #[.int p t1,.int q t2] n
def RowAt (h:Heap) (a:Addr) (k:K4):Prop := ∃(o:Obj) (wa:Addr) (t1 t2:Tok) (n:Nat),h.get? a=some o/\o.cls = .type "tuple" /\ o.data = .seq #[.ref wa,.str (wdS k.2.1) t1,.int k.2.2 t2] n/\PairAt h wa k.1.1 k.1.2
theorem PairAt.key {h:Heap} {a:Addr} {p q:Int} (x:PairAt h a p q):IsTupleKey (qB7 prog w) h [.inl p,.inl q] a:=by
 obtain⟨o,t1,t2,n,h1,h2,h3⟩:=x
 exact⟨o,_,n,h1,h2,h3,.cons (qDv prog w p t1) (.cons (qDv prog w q t2) .nil)⟩
theorem PairAt.ty {a:Addr} {p q:Int} (x:PairAt s.heap a p q):s.TypeIs (.ref a) "tuple" :=by
 obtain⟨o,t1,t2,n,h1,h2,h3⟩:=x
 exact⟨o,h1,h2⟩
theorem qIw {a b:Addr} {p q p' q':Int} {R:PySem.Fin->Shared->Prop} (hx:PairAt s.heap a p q) (hy:PairAt s.heap b p' q') (h:R (.done (.ret (.bool (decide (p<p'\/p=p'/\q<q'))))) s) :
  wpAny (model prog w) A (Builtin.«tuple.__lt__» ⟨[.ref a,.ref b],[]⟩) R E s:=by
 have hTb:=hy.ty
 obtain⟨oa,t1,t2,na,hoa,_,hda⟩:=hx
 obtain⟨ob,t3,t4,nb,hob,_,hdb⟩:=hy
 show wpAny _ _ (isInstance (.ref b) (.type "tuple") >>= _) _ _ s
 refine wpAny_bind (wpAny_isInstance hTb isSubtype_tuple_tuple ?_)
 simp only [Bool.not_true,Bool.false_eq_true,if_false]
 refine wpAny_bind (wpAny_tupleItemsOf hoa hda ?_)
 refine wpAny_bind (wpAny_tupleItemsOf hob hdb ?_)
 refine wpAny_bind ?_
 refine wpAny_forIn_list _ (fun rest r s'=>s=s'/\((r.1=none/\(rest = [(Value.int p t1,Value.int p' t3),(Value.int q t2,Value.int q' t4)]\/(rest = [(Value.int q t2,Value.int q' t4)]/\p=p')\/(rest = []/\p=p'/\q=q'))))) _ ?_ ?_ _ _ ⟨rfl,rfl,.inl rfl⟩
 ·rintro⟨u,v⟩ rest r s' ⟨rfl,hr,z | ⟨z,hxy⟩ | ⟨z,_⟩⟩
  ·cases z
   refine wpAny_bind (wpAny_eqBool_int ?_)
   by_cases hk:p=p'
   ·rw [show (p == p')=true from beq_iff_eq.mpr hk]
    simp only [Bool.not_true,Bool.false_eq_true,if_false]
    exact wpAny_pure ⟨rfl,rfl,.inr (.inl ⟨by first | rfl | trivial,hk⟩)⟩
   ·rw [show (p == p')=false from beq_eq_false_iff_ne.mpr hk]
    simp only [Bool.not_false,if_true]
    rw [show decide (p<p'\/p=p'/\q<q')=decide (p<p') from by simp [hk]] at h
    refine wpAny_bind (wpAny_rule (wpAny_bind ?_))
    show wpAny _ _ (compareOp .Lt _ _) _ _ _
    refine lt_int ?_
    exact wpAny_bind (wpAny_pure (wpAny_pure (wpAny_pure h)))
  ·cases z
   refine wpAny_bind (wpAny_eqBool_int ?_)
   by_cases hk:q=q'
   ·rw [show (q == q')=true from beq_iff_eq.mpr hk]
    simp only [Bool.not_true,Bool.false_eq_true,if_false]
    exact wpAny_pure ⟨rfl,rfl,.inr (.inr ⟨by first | rfl | trivial,hxy,hk⟩)⟩
   ·rw [show (q == q')=false from beq_eq_false_iff_ne.mpr hk]
    simp only [Bool.not_false,if_true]
    rw [show decide (p<p'\/p=p'/\q<q')=decide (q<q') from by simp [hxy]] at h
    refine wpAny_bind (wpAny_rule (wpAny_bind ?_))
    show wpAny _ _ (compareOp .Lt _ _) _ _ _
    refine lt_int ?_
    exact wpAny_bind (wpAny_pure (wpAny_pure (wpAny_pure h)))
  ·cases z
 ·rintro⟨r1,r2⟩ s' ⟨rfl,hr,z | ⟨z,_⟩ | ⟨z,hxy,hxy2⟩⟩
  ·cases z
  ·cases z
  ·simp only at hr
   subst hr
   refine wpAny_pure ?_
   rw [show decide (p<p'\/p=p'/\q<q')=false from by simp [hxy,hxy2]] at h
   exact h
theorem qSv {a b:Addr} {p q p' q':Int} {Q:Bool->Shared->Prop} (hu:A.units<cLine) (hx:PairAt s.heap a p q) (hy:PairAt s.heap b p' q') (h:Q (decide (p<p'\/p=p'/\q<q')) s) :
  wpAny (model prog w) A (oneLt' false (.ref a) (.ref b)) Q E s:=by
 refine kat_one _ _ ?_
 show wpAny _ _ (richCompare .Lt _ _) _ _ _
 exact wpAny_richCompare_same_room (op :=.Lt) hx.ty hy.ty F.slot_tuple_lt (wpAny_call_entry F.slot_tuple_lt hx.ty F.entry_tuple_lt (qIw hx hy ⟨_,rfl,(fun e=>nomatch e),h⟩) (F.args_tuple_lt_2 _ _)) hu
theorem qVt {b c:Bool}:decide (wdS b=wdS c)=decide (b=c):=by cases b <;> cases c <;> decide
theorem qVs {b c:Bool}:decide ((wdS b).cps.toList<(wdS c).cps.toList)=decide (wN b<wN c):=by cases b <;> cases c <;> decide
theorem qUb {a b:Addr} {x y:K4} {Q:Bool->Shared->Prop} (hu:A.units<cLine) (hx:RowAt s.heap a x) (hy:RowAt s.heap b y) (h:Q (lt4 x y) s):wpAny (model prog w) A (keyLt' (tuples' false) (.ref a) (.ref b)) Q E s:=by
 obtain⟨o1,w1,t1,t2,n1,a1,a2,a3,a4⟩:=hx
 obtain⟨o2,w2,t3,t4,n2,b1,b2,b3,b4⟩:=hy
 refine kat_lt a1 a3 b1 b3 ?_
 show KatLex prog w A false false Q [(.ref w1,.ref w2),(.str (wdS x.2.1) t1,.str (wdS y.2.1) t3),(.int x.2.2 t2,.int y.2.2 t4)] 0 s
 refine kat_cons (wpAny_eqBool_tuple hu a4.key b4.key ?_)
 by_cases e1:x.1=y.1
 ·rw [decide_eq_true (show ([Sum.inl x.1.1,Sum.inl x.1.2]:List Key) = [Sum.inl y.1.1,Sum.inl y.1.2] by rw [e1])]
  refine kat_yes (kat_cons (wpAny_eqBool_str ?_))
  rw [qVt]
  by_cases e2:x.2.1=y.2.1
  ·rw [decide_eq_true e2]
   refine kat_yes (kat_cons (wpAny_eqBool_int ?_))
   by_cases e3:x.2.2=y.2.2
   ·rw [show (x.2.2 == y.2.2)=true from beq_iff_eq.mpr e3]
    refine kat_yes (kat_nil ?_)
    rw [show lt4 x y=false from decide_eq_false (by rw [e1,e2,e3];omega)] at h
    exact h
   ·rw [show (x.2.2 == y.2.2)=false from beq_eq_false_iff_ne.mpr e3]
    refine kat_no (kat_one _ _ (lt_int ?_))
    show Q (decide (x.2.2<y.2.2)) s
    rw [show lt4 x y=decide (x.2.2<y.2.2) by unfold lt4;rw [e1,e2];simp] at h
    exact h
  ·rw [decide_eq_false e2]
   refine kat_no (kat_one _ _ (PyProof.Rows.lt_str ?_))
   show Q (decide ((wdS x.2.1).cps.toList<(wdS y.2.1).cps.toList)) s
   rw [qVs]
   have:wN x.2.1≠wN y.2.1:=fun z=>e2 (by revert z;cases x.2.1 <;> cases y.2.1 <;> decide)
   rw [show lt4 x y=decide (wN x.2.1<wN y.2.1) by unfold lt4;rw [e1];simp [this]] at h
   exact h
 ·have e1' : ¬(x.1.1=y.1.1/\x.1.2=y.1.2):=fun z=>e1 (Prod.ext z.1 z.2)
  rw [decide_eq_false (show ¬([Sum.inl x.1.1,Sum.inl x.1.2]:List Key) = [Sum.inl y.1.1,Sum.inl y.1.2] from fun z=>e1' (by simpa using z))]
  refine kat_no (qSv hu a4 b4 ?_)
  rw [show lt4 x y=decide (x.1.1<y.1.1\/x.1.1=y.1.1/\x.1.2<y.1.2) by
   unfold lt4
   generalize wN x.2.1=u
   generalize wN y.2.1=v
   exact decide_eq_decide.mpr (by omega)] at h
  exact h
end
end L2
namespace L2
open PySem PySem.Spec PyProof.Rows
def RowsI (K:PySem.W.Frag) (H:Hp):List V->List K4->Prop:=Paired fun v k => ∃a wa,v = .ref a/\SqT K H a [.ref wa,.str (wdS k.2.1),.int k.2.2]/\SqT K H wa [.int k.1.1,.int k.1.2]
def RowsAt (h:Heap):List Value->List K4->Prop:=Paired fun u k => ∃a,u=Value.ref a/\RowAt h a k
theorem RowsI.len {K:PySem.W.Frag} {H:Hp} {vs:List V} {ks:List K4} (h:RowsI K H vs ks):vs.length=ks.length:=Paired.length h
theorem RowAt.keeps {h h':Heap} {a:Addr} {k:K4} (kp : ∀b o,h.get? b=some o->h'.get? b=some o) (x:RowAt h a k):RowAt h' a k:=by
 obtain⟨o,wa,t1,t2,n,h1,h2,h3,o2,t3,t4,n2,g1,g2,g3⟩:=x
 exact⟨o,wa,t1,t2,n,kp _ _ h1,h2,h3,o2,t3,t4,n2,kp _ _ g1,g2,g3⟩
theorem RowsAt.keeps {h h':Heap} (kp : ∀b o,h.get? b=some o->h'.get? b=some o) : ∀ {us:List Value} {ks:List K4},RowsAt h us ks->RowsAt h' us ks
 | _,_,.nil =>.nil
 | _,_,.cons ⟨a,e,x⟩ r =>.cons ⟨a,e,x.keeps kp⟩ (RowsAt.keeps kp r)
theorem RowsAt.get {h:Heap} : ∀ {us:List Value} {ks:List K4} (i:Nat),RowsAt h us ks->i<ks.length -> ∃a,us.getD i Value.none=Value.ref a/\RowAt h a (ks.getD i ((0,0),false,0))
 | _,_,_,.nil,hi=>absurd hi (by simp)
 | _,_,0,.cons ⟨a,e,x⟩ _,_=>⟨a,e,x⟩
 | _::us,_::ks,i+1,.cons _ r,hi=>RowsAt.get i r (by simpa using hi)
theorem RowsAt.firsts {h:Heap} {M:Model} : ∀ {us:List Value} {ks:List K4},RowsAt h us ks -> ∃fs:List Value,PySem.W.KatTups h us fs/\fs.length=us.length /\ ∀v∈fs,PySem.W.Looks M h (typeOf v) (.type "tuple")
 | _,_,.nil=>⟨[],trivial,rfl,fun _ h=>nomatch h⟩
 | _::us,k::ks,.cons ⟨a,e,o,wa,t1,t2,n,h1,h2,h3,o2,t3,t4,n2,g1,g2,g3⟩ r=>by
  obtain⟨fs,a1,a2,a3⟩:=RowsAt.firsts (M:=M) r
  subst e
  refine⟨.ref wa::fs,PySem.W.KatTups.cons h1 h2 h3 rfl a1,by simp [a2],fun v hv => ?_⟩
  rcases List.mem_cons.mp hv with z | z
  ·subst z
   rw [<-g2]
   exact (PySem.W.Looks.ld g1).andThen .now
  ·exact a3 v z
section
variable {X:Cx} {pins:List (Addr×Obj)} {σ : St} {H:Hp} {s:Shared}
theorem RowsI.at (I:Inv X pins σ H s) : ∀ {vs:List V} {us:List Value} {ks:List K4},RowsI X.K H vs ks->Vals vs us->RowsAt s.heap us ks
 | _,_,_,.nil,.nil =>.nil
 | _,_,_,.cons ⟨a,wa,e,hq,hw⟩ r,.cons ru rr=>by
  subst e
  cases ru
  obtain⟨its,rv,⟨o,h1,h2,n,h3⟩,_⟩:=I.tuple hq
  obtain⟨its2,rv2,⟨o2,g1,g2,n2,g3⟩,_⟩:=I.tuple hw
  cases rv with | cons r1 rv=>cases rv with | cons r2 rv=>cases rv with | cons r3 rv=>cases rv with | nil =>
  cases r1
  obtain⟨t1,rfl⟩:=r2
  obtain⟨t2,rfl⟩:=r3
  cases rv2 with | cons r1 rv=>cases rv with | cons r2 rv=>cases rv with | nil =>
  obtain⟨t3,rfl⟩:=r1
  obtain⟨t4,rfl⟩:=r2
  exact .cons ⟨a,rfl,o,wa,t1,t2,n,h1,h2,h3,o2,t3,t4,n2,g1,g2,g3⟩ (RowsI.at I r rr)
end
section
variable {X:Cx}
def qV0 (K:PySem.W.Frag):List V->Hp->VK->Prop:=fun xs H Q => ∃(a:Addr) (vs:List V) (ks:List K4),xs = [.ref a]/\SqL K H a vs/\RowsI K H vs ks /\
 ∀(l:Addr) (ps:List (V×K4)),H l=none->ps.Perm (vs.zip ks)->(ps.map (·.2)).Pairwise (fun a b=>lt4 b a=false)->Q (.ref l) (upd H l (.lst (ps.map (·.1))))
theorem qHc (hu:X.A.units+2<cLine):CallR X (.builtin "sorted") (qV0 X.K):=by
 intro pins s σ H xs us Q I r h
 obtain⟨a,vs,ks,rfl,hq,hT,q⟩:=h
 obtain⟨u,rfl,ru⟩:=vals1 r
 cases ru
 obtain⟨its,rv,pl,big⟩:=I.list hq
 have hl:=rv.length
 have hlT:=hT.len
 by_cases h0:its.length=0
 ·have e0:its = []:=List.eq_nil_of_length_eq_zero h0
  subst e0
  cases rv
  cases hT
  refine sorted_ints (ns :=[]) pl.isList .nil (by simp) fun out ns' a1 a2 a3 => ?_
  have:ns' = []:=a2.eq_nil
  subst this
  obtain⟨e,he⟩:=sortedAll_at s.heap [] out
  have ho:out.toList = []:=by cases a1':out.toList with
   | nil=>rfl
   | cons x l=>rw [a1'] at a1;cases a1
  have hout:out = #[]:=by apply Array.toList_inj.mp;rw [ho]
  subst hout
  exact⟨.ref (s.heap.objs.size+1),_,I.laid (t':=s.toks) (o :=.lst []) (fun b u e=>sortedAll_old e) (Nat.le_succ _) ⟨Nat.zero_le _,[],e,.nil,he⟩,rfl,q _ [] (I.hok.fresh (Nat.le_succ _)) List.Perm.nil List.Pairwise.nil⟩
 ·by_cases h1:its.length=1
  ·obtain⟨v1,rfl⟩:=List.length_eq_one_iff.mp h1
   obtain⟨x1,rfl⟩:=List.length_eq_one_iff.mp (hl.trans h1)
   obtain⟨t1,rfl⟩:=List.length_eq_one_iff.mp (hlT.symm.trans (hl.trans h1))
   refine qH2 pl.isList fun h' c k g => ?_
   exact⟨.ref (s.heap.objs.size+1),_,I.laid (t':=s.toks) (o :=.lst [x1]) k (Nat.le_succ _) ⟨by show 1<=sizeLine;decide,[v1],c,rv,g⟩,rfl,q _ [(x1,t1)] (I.hok.fresh (Nat.le_succ _)) (List.Perm.refl _) (List.pairwise_singleton _ _)⟩
  ·have TA:=RowsI.at I hT rv
   refine qM3 (κ :=tuples' false) (ord4 fun i=>ks.getD i ((0,0),false,0)) pl.isList (by omega) (by omega) (fun h' R k hR => ?_) (fun h' k i j s' C hi hj hs hC => ?_) fun h' c p k perm up g => ?_
   ·obtain⟨fs,kt,hfl,hfi⟩:=(TA.keeps k).firsts (M:=model X.prog X.w)
    exact PySem.W.kat_kind (T :=.type "tuple") (fs:=fs) kt (by omega) hfi rfl hR
   ·subst hs
    have TA':=TA.keeps k
    obtain⟨a1,b1,b2⟩:=TA'.get i (by omega)
    obtain⟨a2,c1,c2⟩:=TA'.get j (by omega)
    unfold PySem.W.kas_cmp
    rw [PySem.W.kat_item rfl,PySem.W.kat_item rfl,b1,c1]
    exact qUb (s :={ s with heap:=h' }) (show X.A.units+1+1<cLine by omega) b2 c2 (hC _ rfl)
   ·have hps:(p.toList.map fun i=>(vs.getD i .non,ks.getD i ((0,0),false,0))).Perm (vs.zip ks):=by
     rw [<-qE9 V.non ((0,0),false,0) vs ks hlT,hl]
     exact perm.map _
    have e1:(p.toList.map fun i=>(vs.getD i V.non,ks.getD i ((0,0),false,0))).map (·.1)=p.toList.map fun i=>vs.getD i V.non:=by rw [List.map_map];rfl
    have hlen:(p.toList.map fun i=>vs.getD i V.non).length<=sizeLine:=by
     rw [List.length_map,perm.length_eq,List.length_range];omega
    refine⟨.ref (s.heap.objs.size+1),_,I.laid (t':=s.toks) (o :=.lst (p.toList.map fun i=>vs.getD i V.non)) k (Nat.le_succ _) ⟨hlen,_,c,qHg rv p.toList,g⟩,rfl,?_⟩
    have:=q _ _ (I.hok.fresh (Nat.le_succ _)) hps ?_
    ·rw [e1] at this;exact this
    ·rw [List.map_map,List.pairwise_iff_getElem]
     intro i j hi hj hij
     have hp:p.toList.length=its.length:=by rw [perm.length_eq,List.length_range]
     have hj':j<p.size:=by simpa using hj
     have hi':i<p.size:=by simpa using hi
     have u:=up i j (Nat.le_of_lt hij) (by simp at hp;omega)
     have g1:Srt.at' p (0+i)=p[i]:=by simp [Srt.at',Array.getD,hi']
     have g2:Srt.at' p (0+j)=p[j]:=by simp [Srt.at',Array.getD,hj']
     rw [g1,g2] at u
     simpa using u
end
theorem qRd (d:Deed) (b:Int):wrB b d=true↔wr d=some b:=by
 cases d <;> simp [wrB,wr,darg] <;> exact decide_eq_true_iff
theorem qKn {m works:Int} {wk:List Blk} (h:WorkOk m works wk):boxTo wk 8=boxes wk:=by
 refine qNo ?_ (qEv wk) fun b => ?_
 ·unfold boxTo
  rw [List.pairwise_map]
  exact (List.Pairwise.filter _ List.pairwise_lt_range).imp fun {a b} h=>by omega
 ·rw [qOk,qJ4 h]
  unfold qFl
  constructor
  ·intro ⟨_,hne⟩
   obtain⟨y,hy⟩ : ∃y,y∈wrTo wk b wk.length:=by
    cases e:wrTo wk b wk.length with
    | nil=>exact absurd e hne
    | cons y r=>exact⟨y,List.mem_cons_self ..⟩
   obtain⟨n,rfl,hn,hw⟩:=mem_wrTo.mp hy
   unfold hasW at hw
   rw [List.getElem?_eq_getElem hn] at hw
   have hw:wrote b wk[n].ds=true:=hw
   obtain⟨d,hd,e⟩:=List.any_eq_true.mp hw
   refine List.mem_flatMap.mpr ⟨wk[n],List.getElem_mem hn,List.mem_filterMap.mpr ⟨d,hd,?_⟩⟩
   exact (qRd d b).mp e
  ·intro hb
   have hr:=qCe h (by unfold qFl;exact hb)
   refine⟨by omega,fun e => ?_⟩
   obtain⟨blk,hk,hb⟩:=List.mem_flatMap.mp hb
   obtain⟨d,hd,e2⟩:=List.mem_filterMap.mp hb
   obtain⟨n,hn,en⟩:=List.getElem_of_mem hk
   have:(n:Int)∈wrTo wk b wk.length:=mem_wrTo.mpr ⟨n,rfl,hn,by
    unfold hasW
    rw [List.getElem?_eq_getElem hn,en]
    exact List.any_eq_true.mpr ⟨d,hd,(qRd d b).mpr e2⟩⟩
   rw [e] at this;cases this
theorem qLp {m works y:Int} {wk:List Blk} (h:WorkOk m works wk) (hy:y∈boxes wk):0<=y/\y<8:=qCe h ((qJ4 h).mp hy)
def ListsAt (H:Hp) (as:List Addr) (ls:List (List Int)):Prop:=Paired (fun a ns=>H a=some (.lst (ns.map V.int))) as ls
theorem ListsAt.mono {H H':Hp} {as:List Addr} {ls:List (List Int)} (h:ListsAt H as ls) (k : ∀a∈as,∀o,H a=some o->H' a=some o):ListsAt H' as ls:=by
 unfold ListsAt at h ⊢
 induction h with
 | nil=>exact .nil
 | @cons a n as ns r _ ih=>exact .cons (k a (List.mem_cons_self ..) _ r) (ih fun b hb o e=>k b (List.mem_cons_of_mem _ hb) o e)
theorem ListsAt.snoc {H:Hp} {as:List Addr} {ls:List (List Int)} {a:Addr} {ns:List Int} (h:ListsAt H as ls) (e:H a=some (.lst (ns.map V.int))):ListsAt H (as ++ [a]) (ls ++ [ns]):=Paired.snoc h e
theorem ListsAt.get {H:Hp} {as:List Addr} {ls:List (List Int)} (h:ListsAt H as ls) : ∀ {i:Nat} {a:Addr},as[i]? = some a -> ∃ns,ls[i]? = some ns/\H a=some (.lst (ns.map V.int)):=by
 unfold ListsAt at h
 induction h with
 | nil=>intro i a e;simp at e
 | @cons a n as ns r _ ih =>
  intro i b e
  cases i with
  | zero=>simp at e;subst e;exact⟨n,rfl,r⟩
  | succ i=>simpa using ih (i:=i) (a:=b) (by simpa using e)
def planK (bs:List Int) (as:List Addr):List (Key×V):=(bs.zip as).map fun p=>(Sum.inl p.1,V.ref p.2)
theorem qFx {bs:List Int} {as:List Addr} (h:as.length=bs.length):(planK bs as).length=bs.length:=by unfold planK;rw [List.length_map,List.length_zip];omega
theorem qL2 {bs:List Int} {as:List Addr} {j:Nat} {k:Key} {v:V} (h:(planK bs as)[j]? = some (k,v)) : ∃b a,bs[j]? = some b/\as[j]? = some a/\k=Sum.inl b/\v=V.ref a:=by
 unfold planK at h
 rw [List.getElem?_map] at h
 cases e:(bs.zip as)[j]? with
 | none=>rw [e] at h;cases h
 | some p =>
  rw [e] at h
  obtain⟨e1,e2⟩:=List.getElem?_zip_eq_some.mp e
  have h:(Sum.inl p.1,V.ref p.2)=(k,v):=Option.some.inj h
  exact⟨p.1,p.2,e1,e2,(congrArg Prod.fst h).symm,(congrArg Prod.snd h).symm⟩
theorem qH0 : ∀ {bs:List Int} {as:List Addr},as.length=bs.length->(planK bs as).map (·.1)=bs.map Sum.inl
 | [],[],_=>rfl
 | [],_::_,h=>by cases h
 | _::_,[],h=>by cases h
 | b::bs,a::as,h=>by
  have:=qH0 (bs:=bs) (as:=as) (by simpa using h)
  unfold planK at this ⊢
  rw [List.zip_cons_cons,List.map_cons,List.map_cons,List.map_cons,this]
theorem qM9 {bs:List Int} {as:List Addr} {b:Int} {a:Addr} (h:as.length=bs.length) (hb:b∉bs):putK (planK bs as) (Sum.inl b) (V.ref a)=planK (bs ++ [b]) (as ++ [a]):=by
 unfold putK
 rw [if_neg]
 ·unfold planK
  rw [List.zip_append h.symm,List.map_append];rfl
 ·intro z
  obtain⟨p,hp,e⟩:=List.any_eq_true.mp z
  have e:p.1=Sum.inl b:=of_decide_eq_true e
  have:p.1∈(planK bs as).map (·.1):=List.mem_map.mpr ⟨p,hp,rfl⟩
  rw [qH0 h,e] at this
  obtain⟨c,hc,e2⟩:=List.mem_map.mp this
  have:c=b:=Sum.inl.inj e2
  exact hb (this▸hc)
theorem qFw : ∀ {bs:List Int} {as:List Addr} {j:Nat} {b:Int} {a:Addr},bs.Nodup->bs[j]? = some b->as[j]? = some a->valV (planK bs as) (Sum.inl b)=some (V.ref a)
 | [],_,_,_,_,_,e,_=>by simp at e
 | _::_,[],_,_,_,_,_,e=>by simp at e
 | c::bs,d::as,0,b,a,_,e1,e2=>by
  simp at e1 e2
  subst e1 e2
  simp [planK,valV]
 | c::bs,d::as,j+1,b,a,hn,e1,e2=>by
  have hn:=List.nodup_cons.mp hn
  have e1:bs[j]? = some b:=by simpa using e1
  have ne:c≠b:=fun z=>hn.1 (z▸List.mem_of_getElem? e1)
  have:=qFw hn.2 e1 (show as[j]? = some a by simpa using e2)
  unfold planK valV at this ⊢
  rw [List.zip_cons_cons,List.map_cons,List.find?_cons_of_neg]
  ·exact this
  ·simp [ne]
structure PlanAt (H:Hp) (d:Addr) (bs:List Int) (as:List Addr) (ls:List (List Int)):Prop where
 dict:H d=some (.dK (planK bs as))
 lists:ListsAt H as ls
 len:as.length=bs.length
 nd:as.Nodup
 nda:d∉as
theorem PlanAt.snoc {G G2:Hp} {d la:Addr} {bs:List Int} {as:List Addr} {ls:List (List Int)} {b:Int} {ns:List Int} (h:PlanAt G d bs as ls) (e:Ext [] G G2) (h0:G la=none) (h1:G2 la=some (.lst (ns.map V.int))) (hb:b∉bs) :
  PlanAt (upd G2 d (.dK (putK (planK bs as) (Sum.inl b) (.ref la)))) d (bs ++ [b]) (as ++ [la]) (ls ++ [ns]):=by
 have hla:la≠d:=fun z=>by rw [z,h.dict] at h0;cases h0
 have hin : ∀a∈as,∃o,G a=some o:=fun a ha=>by
  obtain⟨i,hi,e⟩:=List.getElem_of_mem ha
  obtain⟨_,_,z⟩:=h.lists.get (i:=i) (a:=a) (by rw [List.getElem?_eq_getElem hi,e])
  exact⟨_,z⟩
 refine⟨by rw [qA1,qM9 h.len hb],?_,by simp [h.len],?_,?_⟩
 ·refine ListsAt.snoc (h.lists.mono fun a ha o q => ?_) (by rw [qA4 hla];exact h1)
  rw [qA4 (show a≠d from fun z=>h.nda (z▸ha))]
  exact e _ _ (by simp) q
 ·refine List.nodup_append.mpr ⟨h.nd,by simp,fun a ha b hb z => ?_⟩
  have hb:b=la:=by simpa using hb
  obtain⟨o,ho⟩:=hin a ha
  rw [z,hb,h0] at ho;cases ho
 ·intro z
  rcases List.mem_append.mp z with z | z
  ·exact h.nda z
  ·exact hla (by simpa using z:d=la).symm
def kD:Key->PyData
 | .inl i =>.int i
 | .inr x =>.str x
mutual
def DenX (K:PySem.W.Frag) (G:Hp):PyData->V->Prop
 | .none,v=>v = .non
 | .bool b,v=>v = .bl b
 | .int i,v=>v = .int i
 | .str x,v=>v = .str x
 | .list ds,v => ∃a vs,v = .ref a/\SqL K G a vs/\DenXs K G ds vs
 | .tuple ds,v => ∃a vs,v = .ref a/\SqT K G a vs/\DenXs K G ds vs
 | .dict kvs,v => ∃a ps,v = .ref a/\Rd G a (.dK ps)/\DenXk K G kvs ps
def DenXs (K:PySem.W.Frag) (G:Hp):List PyData->List V->Prop
 | [],vs=>vs = []
 | d::ds,vs => ∃v r,vs=v::r/\DenX K G d v/\DenXs K G ds r
def DenXk (K:PySem.W.Frag) (G:Hp):List (PyData×PyData)->List (Key×V)->Prop
 | [],ps=>ps = []
 | (k,d)::r,ps => ∃kk v q,ps=(kk,v)::q/\k=kD kk/\DenX K G d v/\DenXk K G r q
end
mutual
theorem Den.x {K:PySem.W.Frag} {G:Hp} : ∀ {d:PyData} {v:V},Den K G d v->DenX K G d v
 | .none,_,e=>by simp only [Den] at e;simp only [DenX];exact e
 | .bool _,_,e=>by simp only [Den] at e;simp only [DenX];exact e
 | .int _,_,e=>by simp only [Den] at e;simp only [DenX];exact e
 | .str _,_,e=>by simp only [Den] at e;simp only [DenX];exact e
 | .list ds,_,e=>by
  simp only [Den] at e
  obtain⟨a,vs,e1,e2,e3⟩:=e
  simp only [DenX]
  exact⟨a,vs,e1,e2,DenL.x e3⟩
 | .tuple ds,_,e=>by
  simp only [Den] at e
  obtain⟨a,vs,e1,e2,e3⟩:=e
  simp only [DenX]
  exact⟨a,vs,e1,e2,DenL.x e3⟩
 | .dict _,_,e=>by simp only [Den] at e
theorem DenL.x {K:PySem.W.Frag} {G:Hp} : ∀ {ds:List PyData} {vs:List V},DenL K G ds vs->DenXs K G ds vs
 | [],_,e=>by simp only [DenL] at e;simp only [DenXs];exact e
 | d::ds,_,e=>by
  simp only [DenL] at e
  obtain⟨v,r,e1,e2,e3⟩:=e
  simp only [DenXs]
  exact⟨v,r,e1,Den.x e2,DenL.x e3⟩
end
theorem DenXs.nil {K:PySem.W.Frag} {G:Hp}:DenXs K G [] []:=by simp only [DenXs]
theorem DenXs.cons {K:PySem.W.Frag} {G:Hp} {d:PyData} {ds:List PyData} {v:V} {vs:List V} (h:DenX K G d v) (t:DenXs K G ds vs):DenXs K G (d::ds) (v::vs):=by simp only [DenXs];exact⟨v,vs,rfl,h,t⟩
theorem DenX.list {K:PySem.W.Frag} {G:Hp} {ds:List PyData} {a:Addr} {vs:List V} (h:SqL K G a vs) (t:DenXs K G ds vs):DenX K G (.list ds) (.ref a):=by simp only [DenX];exact⟨a,vs,rfl,h,t⟩
def qFy (bs:List Int) (ls:List (List Int)):PyData :=.dict ((bs.zip ls).map fun p=>(.int p.1,intsD p.2))
theorem qRn {K:PySem.W.Frag} {H:Hp} : ∀ {bs:List Int} {as:List Addr} {ls:List (List Int)},ListsAt H as ls->as.length=bs.length->DenXk K H ((bs.zip ls).map fun p=>(PyData.int p.1,intsD p.2)) (planK bs as)
 | [],[],_,_,_=>by simp only [List.zip_nil_left,List.map_nil,DenXk];rfl
 | [],_::_,_,_,h=>by cases h
 | _::_,[],_,_,h=>by cases h
 | b::bs,a::as,ls,h,hl=>by
  cases h with
  | @cons _ ns _ ls r t =>
   have ih:=qRn (K:=K) (bs:=bs) t (by simpa using hl)
   simp only [List.zip_cons_cons,List.map_cons,DenXk]
   exact⟨Sum.inl b,V.ref a,planK bs as,rfl,rfl,(Den.list (SqL.of r) (DenL.ofInts _)).x,ih⟩
theorem PlanAt.x {K:PySem.W.Frag} {H:Hp} {d:Addr} {bs:List Int} {as:List Addr} {ls:List (List Int)} (h:PlanAt H d bs as ls):DenX K H (qFy bs ls) (.ref d):=by
 unfold qFy
 simp only [DenX]
 exact⟨d,_,rfl,.inl h.dict,qRn h.lists h.len⟩
def RdX (P:Program) (w:World) (h:Heap) (u:Value) (d:PyData):Prop :=
 (∃as,Reads h u d as)/\(d.showable=true->d.shown.length<=sizeLine -> ∃bs,ReadAtMost h d.depth bs/\ReprK P w bs h d.depth u d.shown)
def RdXs (P:Program) (w:World) (h:Heap) (us:List Value) (ds:List PyData):Prop :=
 (∃as,ReadsAll h us ds as)/\(PyData.showableAll ds=true->(∀t∈PyData.shownAll ds,t.length<=sizeLine) -> ∃bs,ReadAtMost h (PyData.depthAll ds) bs/\ReprAllK P w bs h (PyData.depthAll ds) us (PyData.shownAll ds))
theorem RdX.of {P:Program} {w:World} {h:Heap} {u:Value} {d:PyData} {as:List Addr} (r:Reads h u d as) (hn:d.hasDict=false):RdX P w h u d :=
 ⟨⟨as,r⟩,fun hs hz=>ReprK.of_reads r hs (fun z=>by rw [hn] at z;cases z) hz⟩
theorem RdXs.nil {P:Program} {w:World} {h:Heap}:RdXs P w h [] []:=⟨⟨[],.nil⟩,fun _ _=>⟨[],(fun _ z=>nomatch z),by simp only [PyData.shownAll];exact .nil⟩⟩
theorem RdXs.cons {P:Program} {w:World} {h:Heap} {u:Value} {d:PyData} {us:List Value} {ds:List PyData} (x:RdX P w h u d) (t:RdXs P w h us ds):RdXs P w h (u::us) (d::ds):=by
 obtain⟨⟨as,ra⟩,x2⟩:=x
 obtain⟨⟨cs,rc⟩,t2⟩:=t
 refine⟨⟨_,.cons ra rc⟩,fun hs hz => ?_⟩
 have hs:(d.showable&&PyData.showableAll ds)=true:=by simpa only [PyData.showableAll] using hs
 rw [Bool.and_eq_true] at hs
 obtain⟨b1,m1,k1⟩:=x2 hs.1 (hz _ (by simp only [PyData.shownAll];exact List.mem_cons_self ..))
 obtain⟨b2,m2,k2⟩:=t2 hs.2 (fun t ht=>hz t (by simp only [PyData.shownAll];exact List.mem_cons_of_mem _ ht))
 have e1:d.depth<=PyData.depthAll (d::ds):=by simp only [PyData.depthAll];omega
 have e2:PyData.depthAll ds<=PyData.depthAll (d::ds):=by simp only [PyData.depthAll];omega
 refine⟨b1++b2,(m1.mono e1).append (m2.mono e2),?_⟩
 simp only [PyData.shownAll]
 exact .cons ((k1.more fun b hb=>List.mem_append_left _ hb).level_le e1) (k2.more_le (fun b hb=>List.mem_append_right _ hb) e2)
theorem RdX.list {P:Program} {w:World} {h:Heap} {a:Addr} {o:Obj} {us:Array Value} {n:Nat} {ds:List PyData} (h1:h.get? a=some o) (h2:o.cls = .type "list") (h3:o.data = .seq us n) (t:RdXs P w h us.toList ds):RdX P w h (.ref a) (.list ds):=by
 obtain⟨⟨cs,rc⟩,t2⟩:=t
 have r:Reads h (.ref a) (.list ds) (a::cs) :=.list h1 h2 h3 rc
 refine⟨⟨_,r⟩,fun hs hz => ?_⟩
 have hz:(listText (PyData.shownAll ds)).length<=sizeLine:=by simpa only [PyData.shown] using hz
 obtain⟨bs,hb,hk⟩:=t2 (by simpa [PyData.showable] using hs) fun t ht=>Nat.le_trans (listText_mem_le ht) hz
 have hna:=not_mem_of_deeper r (by simp only [PyData.depth];omega) hb
 refine⟨a::bs,ReadAtMost.cons r (by simp only [PyData.depth];omega) hb,?_⟩
 simp only [PyData.depth,PyData.shown]
 obtain⟨l⟩:=us
 cases l with
 | nil =>
  have rc:ReadsAll h [] ds cs:=rc
  cases rc
  simp only [PyData.shownAll,listText_nil]
  exact .listEmpty h1 h2 h3
 | cons x l=>exact .list h1 h2 h3 hna (by simpa using hk.length_eq) fun i y e=>hk.item i y (by simpa using e)
theorem RdX.tuple {P:Program} {w:World} {h:Heap} {a:Addr} {o:Obj} {us:Array Value} {n:Nat} {ds:List PyData} (h1:h.get? a=some o) (h2:o.cls = .type "tuple") (h3:o.data = .seq us n) (t:RdXs P w h us.toList ds):RdX P w h (.ref a) (.tuple ds):=by
 obtain⟨⟨cs,rc⟩,t2⟩:=t
 have r:Reads h (.ref a) (.tuple ds) cs :=.tuple h1 h2 h3 rc
 refine⟨⟨_,r⟩,fun hs hz => ?_⟩
 have hz:(tupleText (PyData.shownAll ds)).length<=sizeLine:=by simpa only [PyData.shown] using hz
 obtain⟨bs,hb,hk⟩:=t2 (by simpa [PyData.showable] using hs) fun t ht=>Nat.le_trans (tupleText_mem_le ht) hz
 have hna:=not_mem_of_deeper r (by simp only [PyData.depth];omega) hb
 refine⟨a::bs,ReadAtMost.cons r (by simp only [PyData.depth];omega) hb,?_⟩
 simp only [PyData.depth,PyData.shown]
 exact .tuple h1 h2 h3 hna hk
theorem RdX.dict {P:Program} {w:World} {h:Heap} {a:Addr} {o:Obj} {es:Array DictEntry} {n:Nat} {kvs:List (PyData×PyData)} (h1:h.get? a=some o) (h2:o.cls = .type "dict") (h3:o.data = .dict es n) (hsys:(a == sysModules)=false)
  (t1:RdXs P w h (es.toList.map (·.key)) (kvs.map (·.1))) (t2:RdXs P w h (es.toList.map (·.val)) (kvs.map (·.2))):RdX P w h (.ref a) (.dict kvs):=by
 obtain⟨⟨cs,rc⟩,t1⟩:=t1
 obtain⟨⟨ds,rd⟩,t2⟩:=t2
 have r:Reads h (.ref a) (.dict kvs) (a::cs++ds) :=.dict h1 h2 h3 rc rd
 refine⟨⟨_,r⟩,fun hs hz => ?_⟩
 have hz:(dictText (PyData.shownKv kvs)).length<=sizeLine:=by simpa only [PyData.shown] using hz
 obtain⟨s1,s2⟩:=PyData.showableKv_split kvs (by simpa [PyData.showable] using hs)
 have fits : ∀ {t:Str},(∃p∈PyData.shownKv kvs,t.length<=p.length)->t.length<=sizeLine:=fun {t} ⟨p,hp,hl⟩=>Nat.le_trans hl (Nat.le_trans (dictText_mem_le hp) hz)
 obtain⟨b1,m1,k1⟩:=t1 s1 fun t ht=>fits (PyData.shownKv_key_le kvs t ht)
 obtain⟨b2,m2,k2⟩:=t2 s2 fun t ht=>fits (PyData.shownKv_val_le kvs t ht)
 have l1:=PyData.depthAll_keys_le kvs
 have l2:=PyData.depthAll_vals_le kvs
 have hb:=(m1.mono l1).append (m2.mono l2)
 have hna:=not_mem_of_deeper r (by simp only [PyData.depth];omega) hb
 refine⟨a::(b1++b2),ReadAtMost.cons r (by simp only [PyData.depth];omega) hb,?_⟩
 simp only [PyData.depth,PyData.shown,PyData.shownKv_eq]
 exact .dict h1 h2 h3 hsys hna (ReprEntriesK.of_two _ _ _ (k1.more_le (fun b hb=>List.mem_append_left _ hb) l1) (k2.more_le (fun b hb=>List.mem_append_right _ hb) l2))
theorem RdX.key {P:Program} {w:World} {h:Heap} {k:Key} {u:Value} (e:(qB7 P w).is k u=true):RdX P w h u (kD k):=by
 rcases qAx e with ⟨i,t,rfl,z⟩ | ⟨y,t,rfl,z⟩
 ·rw [z];exact .of (.int i t) (by simp only [kD,PyData.hasDict])
 ·rw [z];exact .of (.str y t) (by simp only [kD,PyData.hasDict])
section
variable {X:Cx} {pins:List (Addr×Obj)} {σ : St} {H:Hp} {s:Shared}
mutual
theorem DenX.reads (I:Inv X pins σ H s) : ∀ {d:PyData} {v:V} {u:Value},DenX X.K H d v->RelV v u->RdX X.prog X.w s.heap u d
 | .none,_,_,e,r=>by simp only [DenX] at e;subst e;cases r;exact .of .none (by simp only [PyData.hasDict])
 | .bool b,_,_,e,r=>by simp only [DenX] at e;subst e;cases r;exact .of (.bool b) (by simp only [PyData.hasDict])
 | .int i,_,_,e,r=>by simp only [DenX] at e;subst e;obtain⟨t,rfl⟩:=r;exact .of (.int i t) (by simp only [PyData.hasDict])
 | .str x,_,_,e,r=>by simp only [DenX] at e;subst e;obtain⟨t,rfl⟩:=r;exact .of (.str x t) (by simp only [PyData.hasDict])
 | .list ds,_,_,e,r=>by
  simp only [DenX] at e
  obtain⟨a,vs,rfl,e2,e3⟩:=e
  cases r
  obtain⟨its,rv,⟨o,n,h1,h2,h3,h4⟩,_⟩:=I.list e2
  exact .list h1 h2 h4 (by simpa using DenXs.reads I e3 rv)
 | .tuple ds,_,_,e,r=>by
  simp only [DenX] at e
  obtain⟨a,vs,rfl,e2,e3⟩:=e
  cases r
  obtain⟨its,rv,⟨o,h1,h2,n,h4⟩,_⟩:=I.tuple e2
  exact .tuple h1 h2 h4 (by simpa using DenXs.reads I e3 rv)
 | .dict kvs,_,_,e,r=>by
  simp only [DenX] at e
  obtain⟨a,ps,rfl,e2,e3⟩:=e
  cases r
  obtain⟨z,hs,vs,rel,o,es,ep,ho,h2,h3,h4,h5,h6⟩:=qMq I.hok e2
  obtain⟨t1,t2⟩:=DenXk.reads I e3 rel h5
  exact .dict ho h2.1 h3 hs t1 t2
theorem DenXs.reads (I:Inv X pins σ H s) : ∀ {ds:List PyData} {vs:List V} {us:List Value},DenXs X.K H ds vs->Vals vs us->RdXs X.prog X.w s.heap us ds
 | [],_,_,e,r=>by simp only [DenXs] at e;subst e;cases r;exact .nil
 | d::ds,_,_,e,r=>by
  simp only [DenXs] at e
  obtain⟨v,vr,rfl,e2,e3⟩:=e
  cases r with
  | cons r1 r2=>exact .cons (DenX.reads I e2 r1) (DenXs.reads I e3 r2)
theorem DenXk.reads (I:Inv X pins σ H s) : ∀ {kvs:List (PyData×PyData)} {ps:List (Key×V)} {vs:List (Key×Value)} {es:List DictEntry},DenXk X.K H kvs ps->KV ps vs->Pairs (qB7 X.prog X.w) es vs->RdXs X.prog X.w s.heap (es.map (·.key)) (kvs.map (·.1))/\RdXs X.prog X.w s.heap (es.map (·.val)) (kvs.map (·.2))
 | [],_,_,_,e,r,q=>by
  simp only [DenXk] at e
  subst e
  cases r
  cases q
  exact⟨.nil,.nil⟩
 | (k,d)::kvs,_,_,_,e,r,q=>by
  simp only [DenXk] at e
  obtain⟨kk,v,ps,rfl,rfl,e2,e3⟩:=e
  cases r with
  | @cons _ b _ bs r1 r2 =>
   obtain⟨b1,b2⟩:=b
   obtain⟨r1,r1'⟩:=r1
   have r1:kk=b1:=r1
   subst r1
   cases q with
   | @cons en _ _ _ q1 q0 q2 =>
    obtain⟨t1,t2⟩:=DenXk.reads I e3 r2 q2
    have r1':RelV v b2:=r1'
    have q0:en.val=b2:=q0
    rw [<-q0] at r1'
    exact⟨.cons (.key q1) t1,.cons (DenX.reads I e2 r1') t2⟩
end
def qV2 (K:PySem.W.Frag):List V->Hp->VK->Prop:=fun xs H Q => ∃(a:Addr) (ds:List PyData),xs = [.ref a]/\DenX K H (.list ds) (.ref a)/\PyData.showable (.list ds)=true/\PyData.depth (.list ds)<=100/\(PyData.shown (.list ds)).length<=sizeLine/\Q (.str (PyData.shown (.list ds))) H
theorem qHd {k:Nat} (hr:Room k X.A):CallR X (.builtin "repr") (qV2 X.K):=by
 intro pins s σ H xs us Q I r h
 obtain⟨a,ds,rfl,hd,h1,h2,h3,q⟩:=h
 obtain⟨u,rfl,ru⟩:=vals1 r
 cases ru
 have hd:=hd
 simp only [DenX] at hd
 obtain⟨a',vs,ea,e2,e3⟩:=hd
 cases ea
 obtain⟨its,rv,⟨o,n,g1,g2,g3,g4⟩,_⟩:=I.list e2
 obtain⟨⟨cs,rc⟩,t2⟩:=DenXs.reads I e3 rv
 have hz:(listText (PyData.shownAll ds)).length<=sizeLine:=by simpa only [PyData.shown] using h3
 have hu:=hr.un
 obtain⟨bs,hb,hk⟩:=t2 (by simpa [PyData.showable] using h1) fun t ht=>Nat.le_trans (listText_mem_le ht) hz
 have r:Reads s.heap (.ref a) (.list ds) (a::cs) :=.list g1 g2 g4 (by simpa using rc)
 have hna:=not_mem_of_deeper r (by simp only [PyData.depth];omega) hb
 have hd2:PyData.depthAll ds+1<=100:=by simpa only [PyData.depth] using h2
 have fin : ∀(h':Heap) (u:Tok) (tk:Nat),(∀b o,s.heap.get? b=some o->h'.get? b=some o)->EP X pins σ Q (.str (PyData.shown (.list ds)) u) { s with heap:=h',toks:=tk }:=fun h' u tk kk=>⟨.str _,H,I.kept (t':=tk) kk,⟨_,rfl⟩,q⟩
 refine call_repr_slot (by omega) ⟨o,g1,g2⟩ F.slot_list_repr.toG ?_
 cases its with
 | nil =>
  cases rc
  refine call_list_repr_empty ⟨o,g1,g2⟩ g1 g4 ⟨_,_,rfl,?_⟩
  have:=fin s.heap
  simp only [PyData.shown,PyData.shownAll,listText_nil] at this
  exact this _ _ fun _ _ e=>e
 | cons x l =>
  refine call_list_reprK g1 g2 g4 hna (by simpa using hk.length_eq) (fun i y e=>hk.item i y (by simpa using e)) hr.gd (fun b _=>Clear.nil b) (show X.A.units+1+(PyData.depthAll ds+1)<cLine by omega) (fun _ _ e=>e) (fun h' u tk kk=>⟨_,_,rfl,?_⟩) hz
  have:=fin h' u tk kk
  simpa only [PyData.shown] using this
end
structure Fit (d:PyData) (W D:Nat):Prop where
 sh:d.showable=true
 lv:d.leavesShort 14=true
 we:d.weight<=W
 de:d.depth<=D
theorem Fit.mono {d:PyData} {W D W' D':Nat} (h:Fit d W D) (h1:W<=W') (h2:D<=D'):Fit d W' D':=⟨h.sh,h.lv,Nat.le_trans h.we h1,Nat.le_trans h.de h2⟩
theorem Fit.of {d:PyData} {n D:Nat} (h:tame d=true) (hc:cells d<=n) (hd:d.depth<=D):Fit d (46*n+45) D :=
 ⟨qFp d h,PyData.leavesShort_of_canLay0 14 d (qE3 d h) (qEj d h),Nat.le_trans (qDp d h) (by omega),hd⟩
def FitS (ds:List PyData) (W D:Nat):Prop:=PyData.showableAll ds=true/\PyData.leavesShortAll 14 ds=true/\PyData.weightAll ds<=W/\PyData.depthAll ds<=D
theorem FitS.nil (D:Nat):FitS [] 0 D:=⟨rfl,rfl,Nat.le_refl _,Nat.zero_le _⟩
theorem FitS.cons {d:PyData} {ds:List PyData} {W V D:Nat} (h:Fit d W D) (t:FitS ds V D):FitS (d::ds) (W+1+V) D:=by
 obtain⟨t1,t2,t3,t4⟩:=t
 have h3:=h.we
 have h4:=h.de
 refine⟨?_,?_,?_,?_⟩
 ·simp only [PyData.showableAll,h.sh,t1,Bool.and_self]
 ·simp only [PyData.leavesShortAll,h.lv,t2,Bool.and_self]
 ·simp only [PyData.weightAll];omega
 ·simp only [PyData.depthAll];omega
theorem FitS.list {ds:List PyData} {W D:Nat} (t:FitS ds W D):Fit (.list ds) W (D+1):=by
 obtain⟨t1,t2,t3,t4⟩:=t
 refine⟨?_,?_,?_,?_⟩
 ·simpa only [PyData.showable] using t1
 ·simpa only [PyData.leavesShort] using t2
 ·simpa only [PyData.weight] using t3
 ·simp only [PyData.depth];omega
theorem Fit.shown {d:PyData} {W D:Nat} (h:Fit d W D) (hW:W<=1000000) (hD:D<=100):d.showable=true/\d.depth<=100/\d.shown.length<=sizeLine:=by
 refine⟨h.sh,Nat.le_trans h.de hD,?_⟩
 have h1:=PyData.shown_le 14 (by decide) d h.lv
 have h2:=h.we
 have e:sizeLine=16777216:=by decide
 have h3:(14+2)*d.weight<=16*1000000:=Nat.mul_le_mul (by decide) (by omega)
 omega
def FitK (kvs:List (PyData×PyData)) (W D:Nat):Prop:=PyData.showableKv kvs=true/\PyData.leavesShortKv 14 kvs=true/\PyData.weightKv kvs<=W/\PyData.depthKv kvs<=D
theorem FitK.cons {k d:PyData} {kvs:List (PyData×PyData)} {U W V D:Nat} (hk:Fit k U D) (h:Fit d W D) (t:FitK kvs V D):FitK ((k,d)::kvs) (U+W+2+V) D:=by
 obtain⟨t1,t2,t3,t4⟩:=t
 have h3:=h.we
 have h4:=h.de
 have k3:=hk.we
 have k4:=hk.de
 refine⟨?_,?_,?_,?_⟩
 ·simp only [PyData.showableKv,h.sh,hk.sh,t1,Bool.and_self]
 ·simp only [PyData.leavesShortKv,h.lv,hk.lv,t2,Bool.and_self]
 ·simp only [PyData.weightKv];omega
 ·simp only [PyData.depthKv];omega
theorem FitK.map {α : Type} {g f : α -> PyData} {U W D:Nat} : ∀ {l:List α},(∀x∈l,Fit (g x) U D/\Fit (f x) W D)->FitK (l.map fun x=>(g x,f x)) ((U+W+2)*l.length) D
 | [],_=>⟨rfl,rfl,Nat.le_refl _,Nat.zero_le _⟩
 | x::r,h=>by
  obtain⟨h1,h2⟩:=h x (List.mem_cons_self ..)
  have t:=FitK.map (l:=r) fun y hy=>h y (List.mem_cons_of_mem _ hy)
  have e:(U+W+2)*(x::r).length=U+W+2+(U+W+2)*r.length:=by rw [List.length_cons,Nat.mul_add,Nat.mul_one,Nat.add_comm]
  rw [e]
  exact .cons h1 h2 t
theorem FitK.dict {kvs:List (PyData×PyData)} {W D:Nat} (t:FitK kvs W D):Fit (.dict kvs) W (D+1):=by
 obtain⟨t1,t2,t3,t4⟩:=t
 refine⟨?_,?_,?_,?_⟩
 ·simpa only [PyData.showable] using t1
 ·simpa only [PyData.leavesShort] using t2
 ·simpa only [PyData.weight] using t3
 ·simp only [PyData.depth];omega
theorem qTm {i:Int} (h1 : -(10^12)<=i) (h2:i<=10^12):Fit (.int i) 45 2:=(Fit.of (n:=0) (D:=2) (qFb h1 h2) (Nat.le_refl _) (by show 0<=2;omega)).mono (by omega) (by omega)
theorem qQc {bs:List Int} {ls:List (List Int)} (hb : ∀b∈bs,0<=b/\b<8) (hbl:bs.length<=8) (hl : ∀ns∈ls,(∀n∈ns,0<=n/\n<=100)/\ns.length<=16):Fit (qFy bs ls) 10000 3:=by
 have:=(FitK.map (l:=bs.zip ls) (g:=fun p =>.int p.1) (f:=fun p=>intsD p.2) (U:=45) (W:=46*16+45) (D:=2) fun p hp=>by
  have h1:=hb _ (List.of_mem_zip hp).1
  obtain⟨h2,h3⟩:=hl _ (List.of_mem_zip hp).2
  refine⟨qTm (by omega) (by omega),?_⟩
  obtain⟨t1,t2,t3⟩:=qEc (ns:=p.2) (fun n hn=>by have:=h2 n hn;omega) (by omega)
  refine Fit.of t1 ?_ ?_
  ·have d2:=qBi (l:=p.2) (f:=PyData.int) (n:=0) fun n hn=>Nat.le_refl _
   simp only [intsD,cells];omega
  ·have d3:=qBh (l:=p.2) (f:=PyData.int) (n:=0) fun n hn=>Nat.le_refl _
   show PyData.depthAll (p.2.map PyData.int)+1<=2
   omega).dict
 refine this.mono ?_ (by omega)
 have e:(bs.zip ls).length<=8:=by rw [List.length_zip];omega
 calc (45+(46*16+45)+2)*(bs.zip ls).length<=828*8:=Nat.mul_le_mul (by decide) e
  _<=10000:=by decide
section
variable {X:Cx} {elts:List Expr} {k:Nat} {tpos:Pos}
variable {X:Cx} {elt tg iter tg2 iter2:Expr} {ifs ifs2:List Expr} {scope:Scope} {own:List Str} {cap:List Nat} {wi wi2:TI} {g g2:TG} {tts tts2:List TT} {te:TE} {pos:Pos}
theorem qV5 {i:Nat} {x:Str} {px spos:Pos} (own:List Str) (cap:List Nat) (hc:X.calm=true) (S:CompScope X own cap scope) (hN:X.N.Nodup) (hix:X.N[i]? = some x) (hx:Loc X.env.scope x)
  (hi:PI X tg iter wi) (hg : ∀cl s H ex,PG (qAk X own cap scope cl s H ex) tg g)
  (ht : ∀cl s H ex,PTs (qAk X own cap scope cl s H ex) ifs tts) (hi2 : ∀cl s H ex,PI (qAk X own cap scope cl s H ex) tg2 iter2 wi2) (hg2 : ∀cl s H ex,PG (qAk X own cap scope cl s H ex) tg2 g2)
  (ht2 : ∀cl s H ex,PTs (qAk X own cap scope cl s H ex) ifs2 tts2) (he : ∀cl s H ex,PE (qAk X own cap scope cl s H ex) elt te)
  (hsw:swapsWith (.ListComp elt [⟨tg,iter,ifs,0⟩,⟨tg2,iter2,ifs2,0⟩] scope pos) (some (.Name x px)) spos.line X.env=pure true:=by rfl) (hs : ∀x,foldedSetIterable iter X.env x=pure x:=by intro _;rfl)
  (hs2 : ∀cl s H ex x,foldedSetIterable iter2 (qAk X own cap scope cl s H ex).env x=pure x:=by intros;rfl)
  (hf:X.fn x=true\/X.env.scope.names.lookup x=some .local:=by first | exact .inl rfl | exact .inr rfl | assumption) :
  PS X (.Assign [.Name x px] (.ListComp elt [⟨tg,iter,ifs,0⟩,⟨tg2,iter2,ifs2,0⟩] scope pos) spos) (tAsg (tComp own cap (.lst []) wi g tts fun l=>bNext wi2 g2 tts2 (eApp te l)) (gName i)):=by
 intro pins s σ H D I h
 rw [exec_Assign_Name_used _ _ _ _ hsw]
 refine wpAny_bind (wpAny_standAt (wpAny_bind ?_))
 show wpAny _ X.A (do let _ <-comprehension (.ListComp elt [⟨tg,iter,ifs,0⟩,⟨tg2,iter2,ifs2,0⟩] scope pos) scope X.env _ (newList []) false (eval iter X.env) (some (assign (.Name x px) X.env))) _ _ s
 refine wpAny_bind (thn (qLj (behOf:=qIa (.ListComp elt [⟨tg,iter,ifs,0⟩,⟨tg2,iter2,ifs2,0⟩] scope pos) iter2 1) hc S rfl hi qIf (fun _ _ _ _ _=>qI6) hg ht
  (fun cl s H ex l=>qSu rfl hc qI5 (hi2 cl s H ex) (hg2 cl s H ex) (ht2 cl s H ex) (qKc (he cl s H ex)) (hs2 cl s H ex)) hs hN hix hx hf pins s σ H D I h) fun _ s' hq => ?_)
 exact wpAny_pure (wpAny_pure hq)
end
theorem qPw {H:Hp} {a:Addr} {o:HO} (h:H a=some o):upd H a o=H:=by
 funext b
 by_cases z:b=a
 ·subst z;rw [qA1,h]
 ·rw [qA4 z]
section
variable {X:Cx} {tg:Expr}
def qRx (td:TE):TI:=fun σ H R=>td σ H fun x H1 => ∃d kvs,x = .ref d/\Rd H1 d (.dK kvs) /\ ∀o,R (Itd d o kvs) (upd H1 d (.frz o (.dK kvs)))
theorem qL3 {l:Expr} {tl:TE} (hl:PE X l tl):PI X tg l (qRx tl):=by
 intro pins s σ H R I h
 refine thn (hl pins s σ H _ I h) fun v s1 hq_ => ?_
 obtain⟨x,H1,I1,r1,q1⟩:=hq_
 obtain⟨d,kvs,e,hq,q⟩:=q1
 subst e
 cases r1
 obtain⟨o,z,hs,vs,rel,es,ep,ho,h2,h3,h4,I2⟩ : ∃o,kvs.length<=sizeLine/\(d == sysModules)=false /\ ∃vs,KV kvs vs /\ ∃es ep,s1.heap.get? d=some o/\o.ExactDict/\o.data = .dict es ep/\(es.toList.map fun e=>(e.key,e.val),0)=(es.toList.map fun e=>(e.key,e.val),0)/\Inv X pins σ (upd H1 d (.frz o (.dK kvs))) s1:=by
  rcases hq with hq | ⟨o,hq⟩
  ·obtain⟨z,hs,vs,rel,o,es,ep,ho,h2,h3,h4⟩:=qR7 I1.hok hq
   exact⟨o,z,hs,vs,rel,es,ep,ho,h2,h3,rfl,I1.freeze hq True.intro ho fun H'=>⟨z,hs,vs,rel,o,es,ep,ho,h2,h3,h4⟩⟩
  ·obtain⟨ho,z,hs,vs,rel,o',es,ep,ho',h2,h3,h4⟩:=(show ObjOk X.prog X.w H1 s1.heap d (.frz o (.dK kvs)) from I1.hok d _ hq)
   rw [ho] at ho'
   cases ho'
   exact⟨o,z,hs,vs,rel,es,ep,ho,h2,h3,rfl,by rw [qPw hq];exact I1⟩
 obtain⟨z',hs',vs',rel',dd⟩:=qOw I2.hok (qA1) h3
 refine wpAny_pyIter_dict hs' dd ?_
 refine⟨s1.heap.objs.size,[s1.heap.objs.size],_,_,_,rfl,I2.kept (t':=s1.toks) fun b ob e=>Heap.get?_push_of_some _ e,qN6 d _ o kvs h3,⟨_,Heap.get?_push_size _ rfl,rfl,by rw [rel'.length];rfl⟩,fun b hb => ?_,q o⟩
 have e:b=s1.heap.objs.size:=by simpa using hb
 subst e
 exact I2.fpOk (Nat.le_refl _) (I2.hok.fresh (Nat.le_refl _))
theorem qKz {te:TE} {σ : St} {H:Hp} {R:It->Hp->Prop} (h:te σ H fun x H1 => ∃d kvs,x = .ref d/\Rd H1 d (.dK kvs) /\ ∀o,R (Itd d o kvs) (upd H1 d (.frz o (.dK kvs)))):qRx te σ H R:=h
def sThaw (H0:Hp) (ts:TS):TS:=fun D σ H=>ts { D with nx:=fun σ1 H1 => ∃d o u,H1 d=some (.frz o u)/\(∀o u,H0 d≠some (.frz o u))/\D.nx σ1 (upd H1 d u) } σ H
theorem qO0 {st:Stmt} {ts:TS} (h:PS X st ts):PS X st (sThaw X.H₀ ts):=by
 intro pins s σ H D I q
 refine thn (h pins s σ H _ I q) fun f s' r => ?_
 cases f with
 | next =>
  obtain⟨σ',H',I',d,o,u,e1,e2,r⟩:=r
  exact⟨σ',_,I'.thaw e1 e2,r⟩
 | brk=>exact r
 | cont=>exact r
 | ret u=>exact r
theorem qNs {H0:Hp} {ts:TS} {D:Ends} {σ : St} {H:Hp} (h:ts { D with nx:=fun σ1 H1 => ∃d o u,H1 d=some (.frz o u)/\(∀o u,H0 d≠some (.frz o u))/\D.nx σ1 (upd H1 d u) } σ H):sThaw H0 ts D σ H:=h
end
theorem qMc {α β : Type} {R : α -> β -> Prop} {as:List α} {bs:List β} (h:Paired R as bs) : ∀ {i:Nat} {a : α},as[i]? = some a -> ∃b,bs[i]? = some b/\R a b:=by
 induction h with
 | nil=>intro i a e;simp at e
 | @cons a n as ns r _ ih =>
  intro i b e
  cases i with
  | zero=>simp at e;subst e;exact⟨n,rfl,r⟩
  | succ i=>simpa using ih (i:=i) (a:=b) (by simpa using e)
theorem Ext.dropAll {ts:List Addr} {H H1 H2:Hp} (a:Ext [] H H1) (b:Ext ts H1 H2) (h : ∀x∈ts,H x=Option.none):Ext [] H H2:=fun x o _ e=>b x o (fun z=>by rw [h x z] at e;cases e) (a x o (by simp) e)
def wordV (i j:Bool):V:=if i=j then .non else .str (wdS j)
def qHj (K:PySem.W.Frag):Sp:=fun vs H Q _ => ∃(p la:Addr) (b t:Int) (ns:List Int),vs = [.ref p,.ref la]/\SqT K H p [.int b,.int t]/\SqL K H la (ns.map V.int)/\Q (wordV (decide (b∈ns)) (decide (t∈ns))) H
def rowOf (f:Int->List Int) (w:Int×Int) (b:Int):Option K4:=if decide (w.1∈f b)=decide (w.2∈f b) then none else some (w,decide (w.2∈f b),b)
def rowsL (ways:List (Int×Int)) (bs:List Int) (f:Int->List Int):List K4:=ways.flatMap fun w=>bs.filterMap (rowOf f w)
def rowD (k:K4):PyData :=.tuple [pairD k.1,.str (wdS k.2.1),.int k.2.2]
def Tri (K:PySem.W.Frag) (f:Int->List Int) (G:Hp) (t:Addr) (p:(Int×Int)×Int):Prop := ∃wa,G t=some (.tup [.ref wa,wordV (decide (p.1.1∈f p.2)) (decide (p.1.2∈f p.2)),.int p.2])/\SqT K G wa [.int p.1.1,.int p.1.2]
def TriL (K:PySem.W.Frag) (f:Int->List Int) (G:Hp):List Addr->List ((Int×Int)×Int)->Prop:=Paired (Tri K f G)
theorem TriL.len {K:PySem.W.Frag} {f:Int->List Int} {G:Hp} {ts:List Addr} {ps:List ((Int×Int)×Int)} (h:TriL K f G ts ps):ts.length=ps.length:=Paired.length h
def Tups (G G':Hp):Prop := ∀b xs,Rd G b (.tup xs)->Rd G' b (.tup xs)
theorem Tups.sq {K:PySem.W.Frag} {G G':Hp} (h:Tups G G') {a:Addr} {xs:List V} (q:SqT K G a xs):SqT K G' a xs:=by
 rcases q with q | q
 ·exact .inl (h a xs q)
 ·exact .inr q
theorem Tups.trans {G G' G'':Hp} (h:Tups G G') (k:Tups G' G''):Tups G G'':=fun b xs q=>k b xs (h b xs q)
theorem Same.tups {G G':Hp} (h:Same G G'):Tups G G':=fun b xs q=>by
 rcases q with q | ⟨o,q⟩
 ·exact .inl (h _ _ q)
 ·exact .inr ⟨o,h _ _ q⟩
theorem Ext.tups {us:List Addr} {G G':Hp} (e:Ext us G G') (h : ∀u∈us,∀xs,¬Rd G u (.tup xs)):Tups G G':=fun b xs q=>by
 have hb:b∉us:=fun z=>h b z xs q
 rcases q with q | ⟨o,q⟩
 ·exact .inl (e _ _ hb q)
 ·exact .inr ⟨o,e _ _ hb q⟩
theorem Tri.mono {K:PySem.W.Frag} {f:Int->List Int} {G G':Hp} {t:Addr} {p:(Int×Int)×Int} (h:Tups G G') (k : ∀b xs,G b=some (.tup xs)->G' b=some (.tup xs)) (q:Tri K f G t p):Tri K f G' t p:=by
 obtain⟨wa,q1,q2⟩:=q
 exact⟨wa,k _ _ q1,h.sq q2⟩
theorem TriL.mono {K:PySem.W.Frag} {f:Int->List Int} {G G':Hp} {ts:List Addr} {ps:List ((Int×Int)×Int)} (q:TriL K f G ts ps) (h:Tups G G') (k : ∀b xs,G b=some (.tup xs)->G' b=some (.tup xs)):TriL K f G' ts ps:=Paired.mapP q fun _ _ x=>x.mono h k
theorem qGy (ways:List (Int×Int)) (bs:List Int) (f:Int->List Int):rowsL ways bs f=(ways.flatMap fun w=>bs.map fun b=>(w,b)).filterMap fun p=>rowOf f p.1 p.2:=by
 unfold rowsL
 induction ways with
 | nil=>rfl
 | cons w r ih=>rw [List.flatMap_cons,List.flatMap_cons,List.filterMap_append,ih,List.filterMap_map];rfl
theorem qOm {a b:K4} (h1:lt4 a b=false) (h2:lt4 b a=false):a=b:=by
 have h1:=of_decide_eq_false h1
 have h2:=of_decide_eq_false h2
 obtain⟨⟨p,q⟩,u,x⟩:=a
 obtain⟨⟨p',q'⟩,u',x'⟩:=b
 simp only at h1 h2
 have hw:wN u=wN u'/\p=p'/\q=q'/\x=x':=by omega
 obtain⟨e1,e2,e3,e4⟩:=hw
 have e0:u=u':=by revert e1;cases u <;> cases u' <;> decide
 subst e0 e2 e3 e4
 rfl
theorem qKv {ks ks' l:List K4} (h1:ks.Perm l) (h2:ks'.Perm l) (r1:ks.Pairwise fun a b=>lt4 b a=false) (r2:ks'.Pairwise fun a b=>lt4 b a=false):ks=ks' :=
 List.Perm.eq_of_pairwise (le:=fun a b=>lt4 b a=false) (fun a b _ _ g1 g2=>qOm g2 g1) r1 r2 (h1.trans h2.symm)
theorem RowsI.den {K:PySem.W.Frag} {H:Hp} : ∀ {vs:List V} {ks:List K4},RowsI K H vs ks->DenL K H (ks.map rowD) vs
 | _,_,.nil =>.nil
 | _,_,.cons ⟨a,wa,e,h1,h2⟩ r=>by
  subst e
  exact .cons (.tuple h1 (.cons (.tuple h2 (.cons .int (.cons .int .nil))) (.cons .str (.cons .int .nil)))) (RowsI.den r)
theorem qKp {K:PySem.W.Frag} {H:Hp} {vs:List V} {ks:List K4} (h:RowsI K H vs ks) {ps:List (V×K4)} (hp:ps.Perm (vs.zip ks)):RowsI K H (ps.map (·.1)) (ps.map (·.2))/\(ps.map (·.2)).Perm ks:=by
 have hz : ∀p∈vs.zip ks,∃a wa,p.1 = .ref a/\SqT K H a [.ref wa,.str (wdS p.2.2.1),.int p.2.2.2]/\SqT K H wa [.int p.2.1.1,.int p.2.1.2]:=by
  clear hp
  unfold RowsI at h
  induction h with
  | nil=>intro p hp;cases hp
  | cons r _ ih =>
   intro p hp
   rcases List.mem_cons.mp hp with z | z
   ·subst z;exact r
   ·exact ih p z
 refine⟨?_,?_⟩
 ·have : ∀p∈ps,∃a wa,p.1 = .ref a/\SqT K H a [.ref wa,.str (wdS p.2.2.1),.int p.2.2.2]/\SqT K H wa [.int p.2.1.1,.int p.2.1.2]:=fun p h=>hz p (hp.mem_iff.mp h)
  clear hp hz
  unfold RowsI
  induction ps with
  | nil=>exact .nil
  | cons p r ih=>exact .cons (this p (List.mem_cons_self ..)) (ih fun q hq=>this q (List.mem_cons_of_mem _ hq))
 ·have e:(vs.zip ks).map (·.2)=ks:=by rw [List.map_snd_zip];rw [h.len];exact Nat.le_refl _
  have:=hp.map (·.2)
  rw [e] at this
  exact this
def qM1 (K:PySem.W.Frag):Sp:=fun vs H Q _ => ∃(wa d:Addr) (wk:List Blk) (m works:Int) (bs:List Int) (as:List Addr) (f:Int->List Int),vs = [.ref wa,.ref d]/\Den K H (workD wk) (.ref wa)/\WorkOk m works wk/\m<=12/\PlanAt H d bs as (bs.map f)/\bs.Nodup/\bs.length<=8 /\
 ∀(l:Addr) (us:List V) (ks:List K4) (H':Hp),H l=none->Ext [] H H'->H' l=some (.lst us)->RowsI K H' us ks->ks.Perm (rowsL (qAj wk wk.length) bs f)->ks.Pairwise (fun a b=>lt4 b a=false)->Q (.ref l) H'
structure PlanF (ws:List (List Blk)) (n:Nat) (wk:List Blk) (bs:List Int) (f:Int->List Int):Prop where
 perm:bs.Perm (boxes wk)
 rise : ∀b∈bs,(f b).Pairwise (· < ·)
 rg : ∀b∈bs,∀y∈f b,0<=y/\y<(wk.length:Int)
 busy : ∀b∈bs,∀y,BusyP ws n wk b y->y∈f b
def qNe (K:PySem.W.Frag):Sp:=fun vs H Q _ => ∃(t wa:Addr) (k:Nat) (ws:List (List Blk)) (n:Nat) (wk:List Blk),vs = [.ref t,.ref wa,.int n]/\Tape H t k/\k+200<=2^40/\Den K H (qCn ws) (.ref wa)/\WsOk ws/\ws[n]? = some wk /\
 ∀(d:Addr) (bs:List Int) (as:List Addr) (f:Int->List Int) (H':Hp),H d=none->(∀a∈as,H a=none)->Tape H' t (k+200)->Ext [t] H H'->PlanAt H' d bs as (bs.map f)->PlanF ws n wk bs f->Q (.ref d) H'
def NoTup (v:HO):Prop := ∀xs,v ≠ .tup xs /\ ∀o,v ≠ .frz o (.tup xs)
theorem qTa (xs:List V):NoTup (.lst xs):=fun _=>⟨(fun z=>by cases z),fun _ z=>by cases z⟩
theorem qTc (kvs:List (Key×V)):NoTup (.dK kvs):=fun _=>⟨(fun z=>by cases z),fun _ z=>by cases z⟩
theorem qTb (o:Obj) (kvs:List (Key×V)):NoTup (.frz o (.dK kvs)):=fun _=>⟨(fun z=>by cases z),fun _ z=>by cases z⟩
theorem qRf {k:Nat} {A:Around} (hr:Room k A):A.units+2<cLine:=by have:=hr.un;omega
theorem qCx {α β : Type} (ws:List α) (bs:List β):(ws.flatMap fun w=>bs.map fun b=>(w,b)).length=ws.length*bs.length:=by
 induction ws with
 | nil=>simp
 | cons w r ih=>rw [List.flatMap_cons,List.length_append,ih,List.length_map,List.length_cons,Nat.add_mul,Nat.one_mul,Nat.add_comm]
theorem RowsI.mono {K:PySem.W.Frag} {G G':Hp} {vs:List V} {ks:List K4} (h:RowsI K G vs ks) (k:Tups G G'):RowsI K G' vs ks:=Paired.mapP h fun _ _ ⟨a,wa,e,h1,h2⟩=>⟨a,wa,e,k.sq h1,k.sq h2⟩
theorem Ext.melt {us:List Addr} {G G':Hp} {d:Addr} {u:HO} (hd:G d=some u) (e:Ext (d::us) G G'):Ext us G (upd G' d u):=fun b ob hb h=>by
 by_cases z:b=d
 ·subst z;rw [qA1];rw [hd] at h;exact h
 ·rw [qA4 z];exact e _ _ (by simpa using ⟨z,hb⟩) h
theorem Tups.melt {G:Hp} {d:Addr} {u v:HO} (hd:G d=some v) (hv:NoTup v:=by first | exact qTa _ | exact qTc _ | exact qTb _ _):Tups G (upd G d u):=fun b xs q=>by
 have ne:b≠d:=fun z=>by
  subst z
  rcases q with q | ⟨o,q⟩
  ·rw [hd] at q;exact (hv xs).1 (Option.some.inj q)
  ·rw [hd] at q;exact (hv xs).2 o (Option.some.inj q)
 rcases q with q | ⟨o,q⟩
 ·exact .inl (by rw [qA4 ne];exact q)
 ·exact .inr ⟨o,by rw [qA4 ne];exact q⟩
structure PlI (H:Hp) (t d lf:Addr) (ws:List (List Blk)) (n:Nat) (wk:List Blk) (ls rs bs:List Int) (as:List Addr) (f:Int->List Int) (k:Nat) (G:Hp):Prop where
 tape:Tape G t k
 ext:Ext [t] H G
 left:G lf=some (.lst (ls.map V.int))
 plan:PlanAt G d bs as (bs.map f)
 fd:H d=none
 fl:H lf=none
 fa : ∀a∈as,H a=none
 nl:lf∉as
 nd:lf≠d
 perm:(bs++rs).Perm (boxes wk)
 rise : ∀b∈bs,(f b).Pairwise (· < ·)
 rg : ∀b∈bs,∀y∈f b,0<=y/\y<(wk.length:Int)
 busy : ∀b∈bs,∀y,BusyP ws n wk b y->y∈f b
theorem PlanAt.keep {G G':Hp} {d:Addr} {bs:List Int} {as:List Addr} {ls:List (List Int)} (h:PlanAt G d bs as ls) (k : ∀a∈d::as,∀o,G a=some o->G' a=some o):PlanAt G' d bs as ls :=
 ⟨k d (List.mem_cons_self ..) _ h.dict,h.lists.mono fun a ha o=>k a (List.mem_cons_of_mem _ ha) o,h.len,h.nd,h.nda⟩
section
variable {H:Hp} {t d lf:Addr} {ws:List (List Blk)} {n:Nat} {wk:List Blk} {ls rs bs:List Int} {as:List Addr} {f:Int->List Int} {k k':Nat} {G G':Hp}
theorem PlI.keep (h:PlI H t d lf ws n wk ls rs bs as f k G) (ht : ∃o,H t=some o) (e:Ext [t] G G') (T:Tape G' t k'):PlI H t d lf ws n wk ls rs bs as f k' G':=by
 obtain⟨o,ht⟩:=ht
 have n1 : ∀a,H a=none->a≠t:=fun a ha z=>by rw [z,ht] at ha;cases ha
 refine⟨T,h.ext.trans e,e _ _ (by simpa using n1 _ h.fl) h.left,h.plan.keep fun a ha o q=>e _ _ ?_ q,h.fd,h.fl,h.fa,h.nl,h.nd,h.perm,h.rise,h.rg,h.busy⟩
 rcases List.mem_cons.mp ha with z | z
 ·subst z;simpa using n1 _ h.fd
 ·simpa using n1 _ (h.fa a z)
theorem PlI.grown (h:PlI H t d lf ws n wk ls rs bs as f k G) (ht : ∃o,H t=some o) (e:Ext [] G G'):PlI H t d lf ws n wk ls rs bs as f k G' :=
 h.keep ht (e.mono (by simp)) (h.tape.ext e (by simp))
theorem PlI.popped (h:PlI H t d lf ws n wk ls rs bs as f k G) (ht : ∃o,H t=some o) (ls':List Int):PlI H t d lf ws n wk ls' rs bs as f k (upd G lf (.lst (ls'.map V.int))):=by
 obtain⟨o,ht⟩:=ht
 have nt:t≠lf:=fun z=>by have:=h.fl;rw [<-z,ht] at this;cases this
 refine⟨?_,fun b u hb e => ?_,qA1,h.plan.keep fun a ha o q => ?_,h.fd,h.fl,h.fa,h.nl,h.nd,h.perm,h.rise,h.rg,h.busy⟩
 ·obtain⟨a,b,c,h1,h2⟩:=h.tape
  exact⟨a,b,c,by rw [qA4 nt];exact h1,h2⟩
 ·rw [qA4 (qA2 e h.fl)];exact h.ext b u hb e
 ·rw [qA4];exact q
  rcases List.mem_cons.mp ha with z | z
  ·rw [z];exact Ne.symm h.nd
  ·exact fun y=>h.nl (y▸z)
theorem PlI.put {m works x:Int} {ns:List Int} {la:Addr} {rs':List Int} (h:PlI H t d lf ws n wk ls rs bs as f k G) (ht : ∃o,H t=some o) (e:Ext [] G G') (h0:G la=none) (h1:G' la=some (.lst (ns.map V.int))) (hp:rs.Perm (x::rs')) (hx:x∉bs)
  (r1:ns.Pairwise (· < ·)) (r2 : ∀y∈ns,0<=y/\y<(wk.length:Int)) (r3 : ∀y,BusyP ws n wk x y->y∈ns) :
  PlI H t d lf ws n wk ls rs' (bs ++ [x]) (as ++ [la]) (fun y=>if y=x then ns else f y) k (upd G' d (.dK (putK (planK bs as) (Sum.inl x) (.ref la)))):=by
 have hs:=h.plan.snoc e h0 h1 hx
 have em:bs.map (fun y=>if y=x then ns else f y)=bs.map f:=List.map_congr_left fun b hb=>by
  show (if b=x then ns else f b)=f b
  exact if_neg fun (z:b=x)=>hx (z▸hb)
 obtain⟨o,ht'⟩:=id ht
 have ntd:t≠d:=fun z=>by have:=h.fd;rw [<-z,ht'] at this;cases this
 have hla:H la=none:=h.ext.none (by
  intro z
  have z:la=t:=by simpa using z
  obtain⟨a,b,c,q1,_⟩:=h.tape
  rw [z,q1] at h0;cases h0) h0
 have cs : ∀b∈bs ++ [x],(b∈bs/\b≠x)\/b=x:=fun b hb=>by
  rcases List.mem_append.mp hb with z | z
  ·exact .inl ⟨z,fun y=>hx (y▸z)⟩
  ·exact .inr (by simpa using z)
 refine⟨?_,fun b u hb q => ?_,?_,?_,h.fd,h.fl,fun a ha => ?_,?_,h.nd,?_,fun b hb => ?_,fun b hb => ?_,fun b hb => ?_⟩
 ·obtain⟨a,b,c,q1,q2⟩:=h.tape
  exact⟨a,b,c,by rw [qA4 ntd];exact e _ _ (by simp) q1,q2⟩
 ·rw [qA4 (qA2 q h.fd)]
  exact e _ _ (by simp) (h.ext b u hb q)
 ·rw [qA4 h.nd];exact e _ _ (by simp) h.left
 ·rw [List.map_append,em,List.map_singleton,if_pos rfl];exact hs
 ·rcases List.mem_append.mp ha with z | z
  ·exact h.fa a z
  ·rw [show a=la by simpa using z];exact hla
 ·intro z
  rcases List.mem_append.mp z with z | z
  ·exact h.nl z
  ·have z:lf=la:=by simpa using z
   rw [<-z,h.left] at h0;cases h0
 ·rw [List.append_assoc]
  exact (List.Perm.append_left bs hp.symm).trans h.perm
 ·rcases cs b hb with ⟨z1,z2⟩ | z
  ·simp only [if_neg z2];exact h.rise b z1
  ·simp only [if_pos z];exact r1
 ·rcases cs b hb with ⟨z1,z2⟩ | z
  ·simp only [if_neg z2];exact h.rg b z1
  ·simp only [if_pos z];exact r2
 ·rcases cs b hb with ⟨z1,z2⟩ | z
  ·simp only [if_neg z2];exact h.busy b z1
  ·simp only [if_pos z];rw [z];exact r3
end
def LpW (H:Hp) (t wa d lf:Addr) (ws:List (List Blk)) (n:Nat) (wk:List Blk) (k:Nat) (μ : Nat) (σ':St) (G:Hp):Prop := ∃(ls bs:List Int) (as:List Addr) (f:Int->List Int) (kk:Nat) (o5 o6 o7 o8:Option V),μ = ls.length /\ σ' = [some (.ref t),some (.ref wa),some (.int n),some (.ref d),some (.ref lf),o5,o6,o7,o8]/\kk+20*ls.length<=k+200/\PlI H t d lf ws n wk ls ls bs as f kk G
theorem qOz {d:Addr} {o:Obj} {kvs:List (Key×V)} {g:TG} {tb:TS} {D:Ends} {σ : St} {H:Hp} (Pv:Nat->St->Hp->Prop) (h0:Pv 0 σ H) (hl : ∀i σ H,i<=kvs.length->Pv i σ H->H d=some (.frz o (.dK kvs)))
  (hs : ∀i k v σ H,kvs[i]? = some (k,v)->Pv i σ H -> ∀(N B C:St->Hp->Prop) (R:VK),Nx N (Pv (i+1))->Nx C (Pv (i+1))->NxV R D.rt->g (kV k) σ H fun σ2 H2=>tb ⟨N,R,B,C⟩ σ2 H2) (hd : ∀ σ H,Pv kvs.length σ H->D.nx σ H) :
  ∃W:Nat->Nat->St->Hp->Prop,(∃m,W 0 m σ H) /\ ∀i m σ H,W i m σ H ->
   ((Itd d o kvs).stop i H/\D.nx σ H)\/((Itd d o kvs).go i H /\ ∃N:St->Hp->Prop,(∀ σ' H',N σ' H' -> ∃m',m'<m/\W (i+1) m' σ' H') /\ ∀x H',(Itd d o kvs).yld i H x H'->g x σ H' fun σ2 H2=>tb { D with nx:=N,ct:=N,bk:=D.nx } σ2 H2):=by
 refine⟨fun i m σ H=>m=kvs.length - i/\i<=kvs.length/\Pv i σ H,⟨kvs.length,by simp,Nat.zero_le _,h0⟩,?_⟩
 rintro i m σ H ⟨rfl,hi,p⟩
 have z:=hl i σ H hi p
 by_cases hlt:i<kvs.length
 ·refine .inr ⟨⟨z,hlt⟩,Pv (i+1),fun σ' H' p'=>⟨kvs.length - (i+1),by omega,rfl,hlt,p'⟩,fun x H' y => ?_⟩
  obtain⟨e,k,v,hk,hx⟩:=y
  subst e hx
  exact hs i k v σ _ hk p _ _ _ _ (fun _ _ h=>h) (fun _ _ h=>h) (fun _ _ h=>h)
 ·have e:i=kvs.length:=by omega
  subst e
  exact .inl ⟨⟨z,Nat.le_refl _⟩,hd σ H p⟩
theorem qM5 {ways:List (Int×Int)} {bs:List Int} {f:Int->List Int} {i:Nat} {wv:Int×Int} (h:ways[i]? = some wv):rowsL (ways.take (i+1)) bs f=rowsL (ways.take i) bs f++bs.filterMap (rowOf f wv):=by
 unfold rowsL
 rw [qB6 h,List.flatMap_append,List.flatMap_cons,List.flatMap_nil,List.append_nil]
theorem qIk (ways:List (Int×Int)) (bs:List Int) (f:Int->List Int):(rowsL ways bs f).length<=ways.length*bs.length:=by
 rw [qGy,<-qCx]
 exact List.length_filterMap_le _ _
theorem qIi {bs:List Int} {g:Int->Option K4} {j:Nat} {b:Int} (h:bs[j]? = some b):(bs.take (j+1)).filterMap g=(bs.take j).filterMap g++(g b).toList:=by
 rw [qB6 h,List.filterMap_append,List.filterMap_cons]
 cases g b <;> rfl
theorem SqL.keepN {K:PySem.W.Frag} {H H':Hp} {a:Addr} {xs:List V} {us:List Addr} (h:SqL K H a xs) (e:Ext us H H') (n:a∉us):SqL K H' a xs:=by
 rcases h with (z | ⟨o,z⟩) | z
 ·exact .inl (.inl (e _ _ n z))
 ·exact .inl (.inr ⟨o,e _ _ n z⟩)
 ·exact .inr z
theorem qUf {t u:TS} {D:Ends} {σ : St} {H:Hp} (h : ∀N:St->Hp->Prop,Nx N (u D)->t ⟨N,D.rt,D.bk,D.ct⟩ σ H):tSeq t u D σ H:=h _ fun _ _ h=>h
theorem qW4 {tt:TT} {A B:TS} {D:Ends} {σ : St} {H:Hp} (h : ∀A' B':St->Hp->Prop,Nx A' (A D)->Nx B' (B D)->tt σ H fun c H1=>if c=true then A' σ H1 else B' σ H1):tIfS tt A B D σ H:=h _ _ (fun _ _ h=>h) fun _ _ h=>h
section
variable {H:Hp} {d:Addr} {us us':List V}
variable {ds ds':List Deed}
end
theorem qM8 {ws:List (List Blk)} {n:Nat} {wk:List Blk} {bs:List Int} {f:Int->List Int} (h:PlanF ws n wk bs f) (hl:wk.length<=12) : ∀ns∈bs.map f,(∀y∈ns,0<=y/\y<=100)/\ns.length<=16:=by
 intro ns hns
 obtain⟨b,hb,rfl⟩:=List.mem_map.mp hns
 have hr:=h.rg b hb
 refine⟨fun y hy=>by have:=hr y hy;omega,?_⟩
 have:=qFf ((h.rise b hb).imp fun h=>by omega) ((h.rise b hb).imp fun h=>by omega) hr
 omega
theorem qGz {m works:Int} {ws:List (List Blk)} {n:Nat} {wk:List Blk} {bs:List Int} {f:Int->List Int} (h:PlanF ws n wk bs f) (hk:WorkOk m works wk):(∀b∈bs,0<=b/\b<8)/\bs.length<=8/\bs.Nodup:=by
 refine⟨fun b hb=>qLp hk (h.perm.mem_iff.mp hb),?_,h.perm.symm.nodup ((qEv wk).imp fun h=>by omega)⟩
 rw [h.perm.length_eq];exact qJq wk
theorem qQx {m works:Int} {ws:List (List Blk)} {n:Nat} {wk:List Blk} {bs:List Int} {f:Int->List Int} (h:PlanF ws n wk bs f) (hk:WorkOk m works wk) (hm:m<=12) (hw:works<=100) :
  PyData.showable (.list [workD wk,qFy bs (bs.map f)])=true/\PyData.depth (.list [workD wk,qFy bs (bs.map f)])<=100/\(PyData.shown (.list [workD wk,qFy bs (bs.map f)])).length<=sizeLine:=by
 obtain⟨t1,t2,t3⟩:=qN0 hm hw hk
 obtain⟨p1,p2,p3⟩:=qGz h hk
 have hl:=hk.len
 have f1:=(Fit.of (n:=5000) (D:=64) t1 t2 t3)
 have f2:=(qQc p1 p2 (qM8 h (by omega))).mono (Nat.le_refl _) (show 3<=64 by omega)
 exact ((FitS.cons f1 (FitS.cons f2 (FitS.nil 64))).list).shown (by omega) (by omega)
theorem qSh {ways:List (Int×Int)} {bs:List Int} {f:Int->List Int} {k:K4} (h:k∈rowsL ways bs f):k.1∈ways/\k.2.2∈bs/\k.2.1=decide (k.1.2∈f k.2.2):=by
 unfold rowsL at h
 obtain⟨w,hw,h⟩:=List.mem_flatMap.mp h
 obtain⟨b,hb,h⟩:=List.mem_filterMap.mp h
 unfold rowOf at h
 by_cases hc:decide (w.1∈f b)=decide (w.2∈f b)
 ·rw [if_pos hc] at h;cases h
 ·rw [if_neg hc] at h
  have h:=Option.some.inj h
  subst h
  exact⟨hw,hb,rfl⟩
def rowsD (ks:List K4):PyData :=.list (ks.map rowD)
theorem qKy {m works:Int} {wk:List Blk} {bs:List Int} {f:Int->List Int} {ks:List K4} (hm:m<=12) (hk:WorkOk m works wk) (hbl:bs.length<=8) (hp:ks.Perm (rowsL (qAj wk wk.length) bs f)):ks.length<=200:=by
 have hn2 : ∀b∈wk,b.ns.length<=2:=fun b hb=>(hk.blk b hb).ns.few
 have hwl:=hk.len
 have hwy:=qBq hn2 wk.length
 rw [hp.length_eq]
 refine Nat.le_trans (qIk _ _ _) ?_
 exact (Nat.mul_le_mul (show (qAj wk wk.length).length<=25 by omega) hbl)
theorem qNn {m works:Int} {wk:List Blk} {bs:List Int} {f:Int->List Int} {ks:List K4} (hm:m<=12) (hk:WorkOk m works wk) (hb : ∀b∈bs,0<=b/\b<8) (hbl:bs.length<=8) (hp:ks.Perm (rowsL (qAj wk wk.length) bs f)):tame (rowsD ks)=true/\cells (rowsD ks)<=5000/\(rowsD ks).depth<=64:=by
 obtain⟨w1,w2⟩:=qLv hm hk
 have hl:=qKy hm hk hbl hp
 have one : ∀k∈ks,tame (rowD k)=true/\cells (rowD k)<=5/\(rowD k).depth<=2:=fun k hk'=>by
  obtain⟨h1,h2,_⟩:=qSh (hp.mem_iff.mp hk')
  have h3:=w1 _ h1
  have h4:=hb _ h2
  have hw:tame (.str (wdS k.2.1))=true:=by cases k.2.1 <;> exact qBf (by decide +kernel)
  refine⟨?_,Nat.le_refl _,Nat.le_refl _⟩
  have i1:tame (.int k.1.1)=true:=qFb (by omega) (by omega)
  have i2:tame (.int k.1.2)=true:=qFb (by omega) (by omega)
  have i3:tame (.int k.2.2)=true:=qFb (by omega) (by omega)
  simp only [rowD,tame,qAt,Bool.and_true,Bool.and_eq_true] at hw i1 i2 i3 ⊢
  exact⟨⟨i1,i2⟩,hw,i3⟩
 have d1:=qC0 (l:=ks) (f:=rowD) fun k hk=>(one k hk).1
 have d2:=qBi (l:=ks) (f:=rowD) (n:=5) fun k hk=>(one k hk).2.1
 have d3:=qBh (l:=ks) (f:=rowD) (n:=2) fun k hk=>(one k hk).2.2
 refine⟨?_,?_,?_⟩
 ·simp only [rowsD,tame,d1]
 ·simp only [rowsD,cells];omega
 ·show PyData.depthAll (ks.map rowD)+1<=64
  omega
structure Fr where
 n:Nat
 w0:Int
 w1:Int
 pos:Int
 bx:List Int
 as:List (Int×Int)
structure Ms where
 held:List Int
 told:List Int
 flt:List (Int×Int)
 sv:Int
 bk:Int
 steps:Int
 taken:Int
 log:List (Int×Int×Int)
 st:List Fr
structure Gv where
 mean:Bool
 ws:List (List Blk)
 ch:List Int
 most:Int
section
variable {P:Program} {w:World}
variable {A:Around} {E:Value->Shared->Prop} {s:Shared}
end
structure RA where
 self:Addr
 dx:Addr
 wa:Addr
 ba:Addr
 ca:Addr
 ta:Addr
 fa:Addr
 ga:Addr
 C:Addr
 CC:Addr
end L2
local macro_rules | `(tactic| walk_at "q1") => `(tactic| first | refine L2.r_op ?_ | refine L2.qW9 ?_ | refine L2.qM7 ?_ | refine L2.qVx ?_ | refine L2.qNu ?_ | refine L2.qF1 ?_)
local macro_rules | `(tactic| walk_at "q2") => `(tactic| first | refine L2.qUe ?_ | refine L2.r_tB ?_ | refine L2.qVr ?_ | refine L2.qUn ?_ | refine L2.qQ6 ?_ | refine L2.qNv ?_ | refine L2.qVw ?_ | refine L2.qW2 ?_ | refine L2.qUs ?_ | refine L2.r_cb ?_ | refine L2.qW3 ?_ | refine L2.r_un ?_ | refine L2.r_u ?_ | refine L2.qUu ?_ | refine L2.r_or ?_ | refine L2.qW0 ?_ | refine L2.qVy ?_ | refine L2.r_c ?_ | refine L2.r_i0 ?_ | refine L2.qW8 ?_ | refine L2.qW7 ?_ | refine L2.qRl ?_ | refine L2.qNt ?_ | refine L2.qSj ?_ | refine L2.qSk ?_ | refine L2.qUl ?_ | refine L2.qUh ?_ | refine L2.qW5 ?_ | refine L2.qW6 ?_ | refine L2.qQ8 ?_ | refine L2.qUr ?_ | refine L2.qSn ?_ | refine L2.qUp ?_ | refine L2.qUt ?_ | refine L2.qUi ?_ | refine L2.qUw ?_ | refine L2.qUv ?_ | refine L2.qSl ?_ | refine L2.qUo ?_ | refine L2.r_sl ?_ | refine L2.qW1 ?_ | refine L2.qUj ?_ | refine L2.qNr (by with_unfolding_all rfl) ?_ | refine L2.qBt (by assumption) (by with_unfolding_all rfl) ?_ | refine L2.qDj (by assumption) (by with_unfolding_all rfl) ?_)
local macro_rules | `(tactic| walk_at "rd") => `(tactic| repeat (with_reducible first | refine L2.qUg ?_ | walk_at "q1" | refine L2.qEs (by assumption) ?_ | refine L2.qVn (by assumption) ?_ | refine L2.qWh ?_ | walk_at "q2"))
namespace Fs
open PySem L2
def top (i:Nat):Stmt:=PySem.Challenge.pw_fewsaves_k22_what_is_put_on_ways.main.body.getD i (.Pass ⟨0,0,0,0⟩)
abbrev sDraw:Stmt:=top 7
section
variable {P:Program} {w:World} {K:PySem.W.Frag} {mg:Str->Option Value} {base:Heap}
theorem scDraw:FnScope ["_law_tape_here","_law_many_here","_law_found","_law_once","_law_twice"] ["_law_tape_here","_law_many_here"] (qA8 sDraw):=⟨rfl,rfl,rfl,by decide +kernel,rfl,by decide +kernel,by decide +kernel⟩
theorem qT7 {f:Addr} {fd:FuncData} (F:Fun K "_law_draw" "_law_draw" sDraw f fd):FnOk P w K mg base CX0 1 f fd ["_law_tape_here","_law_many_here"] qDm:=by
 refine F.ok scDraw (fun vs H Q E h => ?_) (fun cdv A outer s H vs Q E hr h => ?_)
 ·obtain⟨t,k,n,rfl,_⟩:=h
  rfl
 ·obtain⟨t,k,n,rfl,⟨a,b,c,ht,ha,hb,hb2,hc,hc2⟩,hk,hn,hn2,q⟩:=h
  refine⟨_,qA7 (qDl (qAe qSy (qAu qAl (pv 0) qA6 (fun _ _=>rfl)) qA6 (qAm _))
    (qA7 (qAn (i:=2) scDraw.nd rfl (Or.inl rfl) (qAq qE7 (qAu qAl (pv 0) qA6 (fun _ _=>rfl)) (pv 1)))
    (qA7 (qIs (qAq qO9 (qAu qAl (pv 0) qA6 (fun _ _=>rfl)) (pv 1)) (qRp (pv 0) qA6 qKx))
    (qA9 (qAw (pv 2))))) qBv)
   (qA7 (qIs (qAq qBa (qAu qAl (pv 0) qA6 (fun _ _=>rfl)) qA6) (qRp (pv 0) qA6 qKx))
   (qA7 (qAn (i:=3) scDraw.nd rfl (Or.inl rfl) (qAq qE7 (qAq qIx (qAq qBa (qAu qAl (pv 0) qA6 (fun _ _=>rfl)) (qAq qIz qA6 (qAu qAl (pv 0) qA6 (fun _ _=>rfl)))) qA6) qA6))
   (qA7 (qAn (i:=4) scDraw.nd rfl (Or.inl rfl) (qAq qE7 (qAq qIz (qAq qBa (pv 3) (qAu qAl (pv 0) qA6 (fun _ _=>rfl))) (qAq qBa (qAq qBa (qAq qE7 (pv 3) qA6) qA6) (qAu qAl (pv 0) qA6 (fun _ _=>rfl)))) qA6))
   (qA9 (qAw (qAq qE7 (qAq qO9 (qAq qE7 (qAq qBa (qAq qIz (pv 4) qA6) (pv 3)) qA6) qA6) (pv 1))))))),?_⟩
  dsimp only [qBx]
  have hS:SqL K H t [.int a,.int b,.int c]:=SqL.of ht
  walk_at "rd"
  refine ite2 (fun g => ?_) (fun g => ?_)
  ·walk_at "rd"
   refine qFu hn ?_
   walk_at "rd"
   refine qUq hn (by omega) ?_
   walk_at "rd"
   refine qRk (n:=0) ht rfl ?_
   walk_at "rd"
   exact q _ _ (Int.emod_nonneg _ (by omega)) (Int.emod_lt_of_pos _ hn) ⟨a / n,b,c,qA1,Int.ediv_nonneg ha (by omega),hb,hb2,hc,by omega⟩ (.put (by simp)) (fun b hb=>qA4 hb)
  ·walk_at "rd"
   refine qRk (n:=2) ht rfl ?_
   have hS':SqL K (upd H t (.lst ([V.int a,V.int b,V.int c].set 2 (.int (c+1))))) t [.int a,.int b,.int (c+1)]:=SqL.of qA1
   walk_at "rd"
   refine qK9 (.inl ⟨by decide,by decide⟩) ?_
   walk_at "rd"
   refine qM6 (by decide) (by decide) (by omega) ?_
   walk_at "rd"
   refine qFu (by decide) ?_
   generalize ho:(b+39373*(c+1))^(5:Int).toNat%2147483647=o
   have ho1:0<=o:=by rw [<-ho];exact Int.emod_nonneg _ (by decide)
   have ho2:o<2147483647:=by rw [<-ho];exact Int.emod_lt_of_pos _ (by decide)
   walk_at "rd"
   refine qFu (by decide) ?_
   have hm1:0<=o%40009:=Int.emod_nonneg _ (by decide)
   have hm2:o%40009<40009:=Int.emod_lt_of_pos _ (by decide)
   walk_at "rd"
   refine qK9 (.inl ⟨by omega,by omega⟩) ?_
   walk_at "rd"
   refine qFu (by decide) ?_
   generalize hp:(o+(c+1))*(o%40009+7+(c+1))%2147483629=p2
   have hp1:0<=p2:=by rw [<-hp];exact Int.emod_nonneg _ (by decide)
   have hp2:p2<2147483629:=by rw [<-hp];exact Int.emod_lt_of_pos _ (by decide)
   walk_at "rd"
   refine qK9 (.inl ⟨by omega,by omega⟩) ?_
   walk_at "rd"
   refine qFu (by decide) ?_
   walk_at "rd"
   refine qUq (by decide) (by decide) ?_
   walk_at "rd"
   refine qFu hn ?_
   exact q _ _ (Int.emod_nonneg _ (by omega)) (Int.emod_lt_of_pos _ hn) ⟨a,b,c+1,qA1,ha,hb,hb2,by omega,by omega⟩ (.put (by simp)) (fun b hb=>qA4 hb)
end
section
variable {P:Program} {w:World} {K:PySem.W.Frag} {mg:Str->Option Value} {base:Heap}
abbrev sTape:Stmt:=top 6
abbrev qEm:Stmt:=top 9
abbrev sMany:Stmt:=top 12
theorem scTape:FnScope ["_law_script","_law_k","_law_cell"] ["_law_script","_law_k"] (qA8 sTape):=⟨rfl,rfl,rfl,by decide +kernel,rfl,by decide +kernel,by decide +kernel⟩
theorem qT1 {f:Addr} {fd:FuncData} (F:Fun K "_law_tape" "_law_tape" sTape f fd) (nlen:mg "len" = none) (nabs:mg "abs" = none) (nint:mg "int" = none):FnOk P w K mg base CX0 1 f fd ["_law_script","_law_k"] (qNc K):=by
 refine F.ok scTape (fun vs H Q E h => ?_) (fun cdv A outer s H vs Q E hr h => ?_)
 ·obtain⟨a,ns,k,rfl,_⟩:=h
  rfl
 ·obtain⟨a,ns,k,rfl,hS,hk,q⟩:=h
  refine⟨_,qA7 (qAn (i:=2) scTape.nd rfl (Or.inl rfl) (qC5 (qAe qO8 (pv 1) (qAc qAo (by rfl) nlen PySem.boot_len (qA0 (pv 0) qA3)) (qAm _)) (qAu qAl (pv 0) (pv 1) (fun _ _=>rfl)) qA6))
   (qA9 (qAw (qAs (qA0 (qAq qIz (qAc qLo (by rfl) nabs PyProof.Rows.boot_abs (qA0 (pv 2) qA3)) (qB0 qCc (by rfl) nint PyProof.Rows.boot_int (qA0 (qBe qWc (qAc qLo (by rfl) nabs PyProof.Rows.boot_abs (qA0 (pv 2) qA3)) (qAq qIx qA6 qA6) (qAm _)) qA3)))
    (qA0 (qAq qBa (qAq qBa (qAq qE7 (pv 2) qA6) (qAq qIz qA6 (pv 1))) qA6) (qA0 qA6 qA3)))))),?_⟩
  dsimp only [qBx]
  have key : ∀c:Int,0<=(if c<0 then -c else c):=fun c=>by split <;> omega
  walk_at "rd"
  refine⟨a,_,rfl,.inl hS,?_⟩
  walk_at "rd"
  by_cases g:(k:Int)<((ns.map V.int).length:Int)
  ·rw [decide_eq_true g]
   refine iteT ?_
   rw [List.length_map] at g
   have hg:k<ns.length:=by omega
   have hat:atI (ns.map V.int) (k:Int)=some (.int ns[k]):=by
    have:=qB4 (xs:=ns.map V.int) (j:=k) (by rw [List.getElem?_map,List.getElem?_eq_getElem hg];rfl)
    exact this
   walk_at "rd"
   refine qBt hS hat ?_
   generalize ns[k]=c
   walk_at "rd"
   refine⟨_,rfl,?_⟩
   walk_at "rd"
   refine⟨_,rfl,?_⟩
   walk_at "rd"
   refine qM6 (by decide) (by decide) (by decide) ?_
   walk_at "rd"
   refine .inr ⟨_,rfl,?_⟩
   refine qK9 (.inr ⟨by have:=bit01 (decide (10^Int.toNat 18<=if c<0 then -c else c));omega,by have:=bit01 (decide (10^Int.toNat 18<=if c<0 then -c else c));omega⟩) ?_
   walk_at "rd"
   refine qFu (by decide) ?_
   walk_at "rd"
   refine qK9 (.inl ⟨by decide,by decide⟩) ?_
   walk_at "rd"
   refine⟨len2 (by show 3<=1000;decide),fun t ht=>q t _ ht ⟨_,_,_,qA1,?_,?_,?_,by decide,by decide⟩ fun b o e => ?_⟩
   ·exact Int.mul_nonneg (key c) (bit01 _).1
   ·have:=Int.emod_nonneg c (show (2305843009213693951:Int)≠0 by decide)
    omega
   ·have:=Int.emod_lt_of_pos c (show (0:Int)<2305843009213693951 by decide)
    omega
   ·rw [qA4 (qA2 e ht)];exact e
  ·rw [decide_eq_false g]
   refine iteF ?_
   walk_at "rd"
   refine⟨_,rfl,?_⟩
   walk_at "rd"
   refine⟨_,rfl,?_⟩
   walk_at "rd"
   refine qM6 (by decide) (by decide) (by decide) ?_
   walk_at "rd"
   refine .inr ⟨_,rfl,?_⟩
   refine qK9 (.inr ⟨by have:=bit01 (decide (10^Int.toNat 18<=if 0<0 then -0 else 0));omega,by have:=bit01 (decide (10^Int.toNat 18<=if 0<0 then -0 else 0));omega⟩) ?_
   walk_at "rd"
   refine qFu (by decide) ?_
   walk_at "rd"
   refine qK9 (.inl ⟨by decide,by decide⟩) ?_
   walk_at "rd"
   refine⟨len2 (by show 3<=1000;decide),fun t ht=>q t _ ht ⟨_,_,_,qA1,?_,?_,?_,by decide,by decide⟩ fun b o e => ?_⟩
   ·exact Int.mul_nonneg (key 0) (bit01 _).1
   ·have:(0:Int)%2305843009213693951=0:=rfl
    omega
   ·have:(0:Int)%2305843009213693951=0:=rfl
    omega
   ·rw [qA4 (qA2 e ht)];exact e
theorem qU7:FnScope ["_law_tape_here"] ["_law_tape_here"] (qA8 sMany):=⟨rfl,rfl,rfl,by decide +kernel,rfl,by decide +kernel,by decide +kernel⟩
theorem qT4 {f:Addr} {fd:FuncData} (F:Fun K "_law_many" "_law_many" sMany f fd) (nint:mg "int" = none) (hD:Has P w K mg base "_law_draw" 1 ["_law_tape_here","_law_many_here"] qDm):FnOk P w K mg base CX0 2 f fd ["_law_tape_here"] qNf:=by
 refine F.ok qU7 (fun vs H Q E h => ?_) (fun cdv A outer s H vs Q E hr h => ?_)
 ·obtain⟨t,k,rfl,_⟩:=h
  rfl
 ·obtain⟨t,k,rfl,hT,hk,q⟩:=h
  refine⟨_,qA9 (qAw (qAu qAl (qAs (qA0 (qAq qBa qA6 (qAr hD hr (Nat.le_refl _) (qA0 (pv 0) (qA0 qA6 qA3)))) (qA0 (qAq qBa qA6 (qAr hD hr (Nat.le_refl _) (qA0 (pv 0) (qA0 qA6 qA3)))) qA3)))
   (qB0 qCc (by rfl) nint PyProof.Rows.boot_int (qA0 (qBe qC9 (qAr hD hr (Nat.le_refl _) (qA0 (pv 0) (qA0 qA6 qA3))) qA6 (qAm _)) qA3)) (fun _ _=>rfl))),?_⟩
  dsimp only [qBx]
  walk_at "rd"
  refine qB5 hT (by omega) (by decide) (by decide) fun r1 H1 a1 b1 T1 e1 _ => ?_
  walk_at "rd"
  refine qB5 T1 (by omega) (by decide) (by decide) fun r2 H2 a2 b2 T2 e2 _ => ?_
  walk_at "rd"
  refine⟨len2 (by show 2<=1000;decide),fun p hp => ?_⟩
  have np:p≠t:=T2.ne hp
  walk_at "rd"
  refine qB5 (T2.ext (.laid (ts :=[]) hp) (by simp)) (by omega) (by decide) (by decide) fun r3 H3 a3 b3 T3 e3 k3 => ?_
  walk_at "rd"
  refine qCu ?_
  walk_at "rd"
  refine .inr ⟨_,rfl,?_⟩
  have e4:Ext [t] H H3:=(e1.trans e2).trans ((Ext.laid hp).trans e3)
  have hL:SqL K H3 p [V.int (1+r1),V.int (7+r2)]:=SqL.of (by rw [k3 p np,qA1])
  cases c:decide (r3=0) with
  | true=>exact qBt hL rfl (q _ _ (by omega) (by omega) T3 e4)
  | false=>exact qBt hL rfl (q _ _ (by omega) (by omega) T3 e4)
theorem qQ2:FnScope ["_law_tape_here"] ["_law_tape_here"] (qA8 qEm):=⟨rfl,rfl,rfl,by decide +kernel,rfl,by decide +kernel,by decide +kernel⟩
theorem qOc {f:Addr} {fd:FuncData} (F:Fun K "_law_number" "_law_number" qEm f fd) (hD:Has P w K mg base "_law_draw" 1 ["_law_tape_here","_law_many_here"] qDm):FnOk P w K mg base CX0 2 f fd ["_law_tape_here"] qHl:=by
 refine F.ok qQ2 (fun vs H Q E h => ?_) (fun cdv A outer s H vs Q E hr h => ?_)
 ·obtain⟨t,k,rfl,_⟩:=h
  rfl
 ·obtain⟨t,k,rfl,hT,hk,q⟩:=h
  refine⟨_,qA9 (qAw (qAu qAl (qAs (qA0 qA6 (qA0 qA6 (qA0 (qSs qN3 qA6) (qA0 qA6 (qA0 (qAq qIx qA6 qA6) (qA0 (qAq qO7 qA6 (qAq qIx qA6 qA6))
   (qA0 (qAq qO7 (qAr hD hr (Nat.le_refl _) (qA0 (pv 0) (qA0 qA6 qA3))) qA6) (qA0 (qAr hD hr (Nat.le_refl _) (qA0 (pv 0) (qA0 (qAq qIx qA6 qA6) qA3))) qA3)))))))))
   (qAr hD hr (Nat.le_refl _) (qA0 (pv 0) (qA0 qA6 qA3))) (fun _ _=>rfl))),?_⟩
  dsimp only [qBx]
  walk_at "rd"
  refine qM6 (by decide) (by decide) (by decide) ?_
  walk_at "rd"
  refine qM6 (by decide) (by decide) (by decide) ?_
  walk_at "rd"
  refine qB5 hT (by omega) (by decide) (by decide) fun r1 H1 a1 b1 T1 e1 _ => ?_
  walk_at "rd"
  refine qM6 (by decide) (by decide) (by decide) ?_
  walk_at "rd"
  refine qB5 T1 (by omega) (by decide) (by decide) fun r2 H2 a2 b2 T2 e2 _ => ?_
  have b2':r2<1000000:=b2
  walk_at "rd"
  refine⟨len2 (by show 8<=1000;decide),fun p hp => ?_⟩
  have np:p≠t:=T2.ne hp
  walk_at "rd"
  refine qB5 (T2.ext (.laid (ts :=[]) hp) (by simp)) (by omega) (by decide) (by decide) fun r3 H3 a3 b3 T3 e3 k3 => ?_
  have e4:Ext [t] H H3:=(e1.trans e2).trans ((Ext.laid hp).trans e3)
  have hL:=SqL.of (K:=K) ((k3 p np).trans qA1)
  have e5:(10:Int)^(12:Int).toNat=1000000000000:=by decide
  have e6 : -((10:Int)^12) = -1000000000000:=by decide
  have e7:((10:Int)^12)=1000000000000:=by decide
  rw [e6,e7] at q
  obtain h | h | h | h | h | h | h | h:r3=0\/r3=1\/r3=2\/r3=3\/r3=4\/r3=5\/r3=6\/r3=7:=by omega
  all_goals
   subst h
   refine qBt hL rfl (q _ _ ?_ ?_ T3 e4)
  all_goals first | decide | omega
end
section
variable {P:Program} {w:World} {K:PySem.W.Frag} {mg:Str->Option Value} {base:Heap}
theorem qB2 {D:Ends} {σ : St} {H5:Hp} {l d p:Addr} {vs:List V} {kvs:List (Key×V)} {ns:List Int} (h2 : σ[2]? = some (some (.ref l))) (h3 : σ[3]? = some (some (.ref d))) (h7 : σ[7]? = some (some (.ref p))) (hl:H5 l=some (.lst vs)) (hd:H5 d=some (.dK kvs))
  (hp:H5 p=some (.lst (ns.map V.int))) (hz:vs.length<1000) (hz2:kvs.length<=900) (hn:ns.length<=2) (npl:p≠l) (q : ∀H6 kvs',H6 l=some (.lst (vs ++ [.ref p]))->H6 d=some (.dK kvs')->kvs'.length<=kvs.length+2->Ext [l,d] H5 H6->D.nx σ H6) :
  tSeq (tDrop (tBM K "list" qHq (tVar 2) (tCons (tVar 7) tNil))) (tDrop (tBM K "dict" qNx (tVar 3) (tCons (tComp ["_law_one"] [] (.lst []) (iList K (tVar 7)) (gName 0) [] (eApp (tTup (tCons (tVar 0) (tCons (tC (.bl true)) tNil))))) tNil))) D σ H5:=by
 have nld:l≠d:=qMg hl hd (by intro z;cases z)
 have npd:p≠d:=qMg hp hd (by intro z;cases z)
 refine qUg (qNu (qW8 (qNr h2 (qDi hl (qNv (qNr h7 (qQ6 (qDk hl (qAb (by omega)) ?_))))))))
 generalize hH6:upd H5 l (.lst (vs ++ [.ref p]))=H6
 have l6:H6 l=some (.lst (vs ++ [.ref p])):=by rw [<-hH6,qA1]
 have d6:H6 d=some (.dK kvs):=by rw [<-hH6,qA4 nld.symm];exact hd
 have p6:H6 p=some (.lst (ns.map V.int)):=by rw [<-hH6,qA4 npl];exact hp
 have e6:Ext [l,d] H5 H6:=by rw [<-hH6];exact .put (by simp)
 refine qNu (qW8 (qNr h3 (qVv d6 (qNv (qRl (qNt (qNr h7 ⟨p,rfl,⟨_,SqL.of p6⟩,fun l2 hl2 => ?_⟩)))))))
 have n2p:p≠l2:=qA2 p6 hl2
 refine qB3 (xs:=ns.map V.int) (fun j σ' H'=>(∃o,σ' = [o])/\Ext [l2] H6 H' /\ ∃items,H' l2=some (.lst items)/\PairsAt H' items ((ns.take j).map fun n=>((Sum.inl n:Key),V.bl true)))
  ⟨⟨none,rfl⟩,.laid hl2,[],qA1,.nil⟩ (fun j σ' H' _ ⟨_,e,_⟩=>SqL.of (e _ _ (by simpa using n2p) p6)) ?_ ?_
 ·rintro j x σ' H' R hx ⟨⟨o,rfl⟩,e,items,hi,pr⟩ hR
  obtain⟨n,hnj,rfl⟩ : ∃n,ns[j]? = some n/\x=V.int n:=by
   rw [List.getElem?_map] at hx
   cases z:ns[j]? with
   | none=>rw [z] at hx;cases hx
   | some n=>rw [z] at hx;exact⟨n,rfl,(Option.some.inj hx).symm⟩
  walk_at "rd"
  refine iteT ?_
  walk_at "rd"
  refine⟨len2 (by show 2<=1000;decide),fun p2 hp2 => ?_⟩
  have n22:l2≠p2:=qA2 hi hp2
  have hlen:items.length<=2:=by
   have:=Paired.length pr
   rw [List.length_map,List.length_take] at this
   omega
  refine⟨items,by rw [qA4 n22];exact hi,qAb (by omega),hR _ _ ⟨⟨_,rfl⟩,?_,items ++ [.ref p2],qA1,?_⟩⟩
  ·exact e.trans ((Ext.laid hp2).trans (.put (by simp)))
  ·have hj:(ns.take (j+1))=ns.take j ++ [n]:=by rw [List.take_add_one,hnj];rfl
   rw [hj,List.map_append]
   refine Paired.snoc (PairsAt.mono (fun b ys e => ?_) pr) ⟨p2,rfl,?_⟩
   ·rw [qA4 (qMg e hi (by intro z;cases z)),qA4 (qA2 e hp2)];exact e
   ·rw [qA4 n22.symm,qA1];rfl
 ·rintro σ' H' ⟨_,e,items,hi,pr⟩
  rw [List.length_map,List.take_length] at pr
  have n2d:d≠l2:=qA2 d6 hl2
  have n2l:l≠l2:=qA2 l6 hl2
  have hmore:=Paired.length pr
  rw [List.length_map] at hmore
  refine qQ6 ⟨d,l2,kvs,items,_,rfl,rfl,e _ _ (by simpa using n2d) d6,hi,pr,len2 (by rw [List.length_map];omega),?_⟩
  have hml:=qEa (ns.map fun n=>((Sum.inl n:Key),V.bl true)) kvs
  rw [List.length_map] at hml
  refine q _ _ (by rw [qA4 nld];exact e _ _ (by simpa using n2l) l6) qA1 (by omega) ?_
  exact e6.trans (((e.drop hl2).mono (by simp)).trans (.put (by simp)))
abbrev qGt:Stmt:=top 8
theorem scNexts:FnScope ["_law_tape_here","_law_many_here","_law_found","_law_led","_law_k","_law_way","_law_other","_law_some"] ["_law_tape_here","_law_many_here"] (qA8 qGt):=⟨rfl,rfl,rfl,by decide +kernel,rfl,by decide +kernel,by decide +kernel⟩
theorem qQj {f:Addr} {fd:FuncData} (F:Fun K "_law_nexts" "_law_nexts" qGt f fd) (nrange:mg "range" = none) (nmax:mg "max" = none) (hD:Has P w K mg base "_law_draw" 1 ["_law_tape_here","_law_many_here"] qDm):FnOk P w K mg base CX0 2 f fd ["_law_tape_here","_law_many_here"] (qK2 K):=by
 refine F.ok scNexts (fun vs H Q E h => ?_) (fun cdv A outer s H vs Q E hr h => ?_)
 ·obtain⟨t,k,m,rfl,_⟩:=h
  rfl
 ·obtain⟨t,k,m,rfl,hT,hk,hm1,hm2,q⟩:=h
  have hu:=qMo hr
  refine⟨_,qA7 (qIr (i:=2) (j:=3) rfl scNexts.nd rfl rfl (by decide) rfl rfl (qA0 (qAs qA3) (qA0 qL5 qA3)) rfl)
   (qA7 (qC3 PassesOwn.never rfl (qBk rfl nrange (qA0 (pv 1) qA3)) (qAa (i:=4) scNexts.nd rfl (Or.inl rfl))
    (qA7 (qAn (i:=5) scNexts.nd rfl (Or.inl rfl) (qAr hD hr (Nat.le_refl _) (qA0 (pv 0) (qA0 qA6 qA3))))
    (qA7 (qAn (i:=6) scNexts.nd rfl (Or.inl rfl) (qAq qBa qA6 (qAr hD hr (Nat.le_refl _) (qA0 (pv 0) (qA0 (qAc (qJn rfl) (by rfl) nmax PyProof.Rows.boot_max (qA0 qA6 (qA0 (qAq qO7 (pv 1) qA6) qA3))) qA3)))))
    (qA7 (qAn (i:=7) scNexts.nd rfl (Or.inl rfl) (qAu qAl (qAs (qA0 (qAs (qA0 (qAq qBa (pv 4) qA6) (qA0 (pv 6) qA3))) (qA0 (qAs (qA0 (pv 6) (qA0 (qAq qBa (pv 4) qA6) qA3))) qA3))) (qAq qE7 (pv 5) qA6) (fun _ _=>rfl)))
    (qA7 (qDl (qAe qC9 (qAq qBa (pv 4) qA6) (pv 1) (qAm _))
      (qA9 (qAn (i:=7) scNexts.nd rfl (Or.inl rfl) (qC5 (qFv (qAe qC9 (pv 5) qA6 (qAm _)) (qDs (qAe qSy (pv 1) qA6 (qAm _)))).pt (qAs (qA0 (pv 6) qA3)) (qAs qA3))))
      (qA9 (qDl (qFv (qRm (qV9 hu (qAq qBa (pv 4) qA6) (pv 3))) (qDs (qAe qO8 (pv 5) qA6 (qAm _)))).pt
       (qA9 (qAn (i:=7) scNexts.nd rfl (Or.inl rfl) (qC5 (qAe qC9 (pv 5) qA6 (qAm _)) (qAs (qA0 (pv 6) qA3)) (qAs qA3))))
       (qA9 (qDl (qSp (qAe qO8 (pv 5) qA6 (qAm _)) (qNy (qAe qC9 (pv 6) (qAq qBa (pv 4) qA6) (qAm _)))).pt
        (qA9 (qAn (i:=7) scNexts.nd rfl (Or.inl rfl) (qAs (qA0 (qAq qBa (pv 4) qA6) qA3)))) qBv)))))
    (qA7 (qBw (qE6 PySem.F.plainAttrs_list PySem.F.slot_list_append PySem.F.type_list_append qBg (pv 2) (qA0 (pv 7) qA3)))
    (qA9 (qBw (qE6 PySem.F.plainAttrs_dict PySem.F.slot_dict_update PySem.F.type_dict_update (qOh rfl) (pv 3)
     (qA0 (qDu ["_law_one"] [] rfl (.of rfl) (qBd (pv 7)) (fun _ _ _ _=>qAa (i:=0) (by show ((["_law_one"]:List Str)).Nodup;decide) rfl (Or.inl rfl)) (fun _ _ _ _ =>.nil) (fun _ _ _ _=>qB9 (qA0 (pv 0) (qA0 qHx qA3)))) qA3))))))))))
   (qA9 (qAw (pv 2)))),?_⟩
  dsimp only [qBx,qBp]
  walk_at "rd"
  refine⟨len2 (Nat.zero_le _),fun l hl => ?_⟩
  have nlt:l≠t:=hT.ne hl
  walk_at "rd"
  refine qSm fun d hd => ?_
  have nld:l≠d:=fun z=>by rw [<-z,qA1] at hd;cases hd
  rw [qA4 nld.symm] at hd
  have ndt:d≠t:=hT.ne hd
  walk_at "rd"
  refine⟨_,_,rfl,?_⟩
  walk_at "rd"
  refine⟨m,rfl,by omega,by omega,qCa (lo:=0) (n:=m.toNat) (fun i σ' H' => ∃(nx:List (List Int)) (vs:List V) (kvs:List (Key×V)) (o4 o5 o6 o7:Option V),σ' = [some (.ref t),some (.int m),some (.ref l),some (.ref d),o4,o5,o6,o7]/\nx.length=i/\(∀ns∈nx,NsOk m ns) /\
   Tape H' t (k+2*i)/\Ext [t] H H'/\H' l=some (.lst vs)/\DenL K (yo H [t,l,d] H') (nx.map intsD) vs/\H' d=some (.dK kvs)/\kvs.length<=2*i) ?_ ?_ ?_⟩
  ·refine⟨[],[],[],none,none,none,none,rfl,rfl,(fun _ h=>absurd h (by simp)),?_,?_,?_,.nil,qA1,Nat.le_refl _⟩
   ·exact (hT.ext (ts :=[]) ((Ext.laid hl).trans (.laid (by rw [qA4 nld.symm];exact hd))) (by simp)).mono (by omega)
   ·exact (Ext.laid hl).trans (.laid (by rw [qA4 nld.symm];exact hd))
   ·rw [qA4 nld,qA1]
  ·rintro i σ' H' hi ⟨nx,vs,kvs,o4,o5,o6,o7,rfl,hnl,hnx,hT',e',hl',hden,hd',hkl⟩ N_ B_ C_ R_ hN_ hC_ hR_
   have hvl:vs.length=i:=by rw [hden.len,List.length_map,hnl]
   walk_at "rd"
   refine qB5 hT' (by omega) (by decide) (by decide) fun r1 H1 a1 b1 T1 e1 k1 => ?_
   walk_at "rd"
   refine⟨_,_,rfl,?_⟩
   walk_at "rd"
   refine qB5 T1 (by omega) (by split <;> omega) (by split <;> omega) fun r2 H2 a2 b2 T2 e2 k2 => ?_
   have l2:H2 l=some (.lst vs):=by rw [k2 l nlt,k1 l nlt];exact hl'
   have d2:H2 d=some (.dK kvs):=by rw [k2 d ndt,k1 d ndt];exact hd'
   have den2:DenL K (yo H [t,l,d] H2) (nx.map intsD) vs:=hden.mono ((e1.trans e2).mono (by simp)).young
   walk_at "rd"
   refine⟨len2 (by show 2<=1000;decide),fun p1 hp1 => ?_⟩
   walk_at "rd"
   refine⟨len2 (by show 2<=1000;decide),fun p2 hp2 => ?_⟩
   walk_at "rd"
   refine⟨len2 (by show 2<=1000;decide),fun p3 hp3 => ?_⟩
   have n12:p1≠p2:=qA2 qA1 hp2
   have n23:p2≠p3:=qA2 qA1 hp3
   have n13:p1≠p3:=qA2 (by rw [qA4 n12,qA1]) hp3
   generalize hH5:upd (upd (upd H2 p1 (HO.lst [V.int (0 + ↑i+1),V.int (1+r2)])) p2 (HO.lst [V.int (1+r2),V.int (0 + ↑i+1)])) p3 (HO.lst [V.ref p1,V.ref p2])=H5
   have hp2':H2 p2=none:=by rw [qA4 n12.symm] at hp2;exact hp2
   have e5:Ext [] H2 H5:=by
    rw [<-hH5]
    exact (Ext.laid hp1).trans ((Ext.laid hp2).trans (.laid hp3))
   have q1:H5 p1=some (.lst ([0+(i:Int)+1,1+r2].map V.int)):=by rw [<-hH5,qA4 n13,qA4 n12,qA1];rfl
   have q2:H5 p2=some (.lst ([1+r2,0+(i:Int)+1].map V.int)):=by rw [<-hH5,qA4 n23,qA1];rfl
   have q3:SqL K H5 p3 [V.ref p1,V.ref p2]:=SqL.of (by rw [<-hH5,qA1])
   have fr : ∀p,H2 p=none->p≠t/\p≠l/\p≠d:=fun p hp=>⟨T2.ne hp,(qA2 l2 hp).symm,(qA2 d2 hp).symm⟩
   have fin : ∀(p:Addr) (ns:List Int) (H6:Hp),Ext [] H5 H6->H6 p=some (.lst (ns.map V.int))->H2 p=none->NsOk m ns -> ∀(H7:Hp) (kvs':List (Key×V)),H7 l=some (.lst (vs ++ [.ref p]))->H7 d=some (.dK kvs')->kvs'.length<=kvs.length+2->Ext [l,d] H6 H7 -> ∀o4 o5 o6 o7:Option V,
     ∃(nx:List (List Int)) (vs:List V) (kvs:List (Key×V)) (p4 p5 p6 p7:Option V),[some (V.ref t),some (.int m),some (.ref l),some (.ref d),o4,o5,o6,o7] = [some (.ref t),some (.int m),some (.ref l),some (.ref d),p4,p5,p6,p7]/\nx.length=i+1/\(∀ns∈nx,NsOk m ns) /\
      Tape H7 t (k+2*(i+1))/\Ext [t] H H7/\H7 l=some (.lst vs)/\DenL K (yo H [t,l,d] H7) (nx.map intsD) vs/\H7 d=some (.dK kvs)/\kvs.length<=2*(i+1):=by
    intro p ns H6 e6 hp hn hns H7 kvs' l7 d7 hk7 e7 o4 o5 o6 o7
    obtain⟨npt,npl,npd⟩:=fr p hn
    have e27:Ext [l,d] H2 H7:=((e5.trans e6).mono (by simp)).trans e7
    refine⟨nx ++ [ns],vs ++ [.ref p],kvs',o4,o5,o6,o7,rfl,by rw [List.length_append,hnl];rfl,fun z hz => ?_,?_,?_,l7,?_,d7,by omega⟩
    ·rcases List.mem_append.mp hz with y | y
     ·exact hnx z y
     ·rw [List.mem_singleton.mp y];exact hns
    ·exact (T2.ext e27 (by simp [nlt.symm,ndt.symm])).mono (by omega)
    ·have E7:Ext [l,d,t] H H7:=(e'.mono (by simp)).trans (((e1.trans e2).mono (by simp)).trans (e27.mono (by simp)))
     exact (E7.drop hl).drop hd
    ·rw [List.map_append]
     refine DenL.append (den2.mono (e27.mono (by simp)).young) (.cons (.list (SqL.of ?_) (DenL.ofInts ns)) .nil)
     rw [qAv ((e'.trans (e1.trans e2)).none (by simpa using npt) hn) (by simp [npt,npl,npd])]
     exact e7 _ _ (by simp [npl,npd]) hp
   have hr2:1+r2<=1\/1+r2<=m - 1:=by
    by_cases c:m - 1>1
    ·rw [if_pos c] at b2;omega
    ·rw [if_neg c] at b2;omega
   have l5:=e5 _ _ (by simp) l2
   have d5:=e5 _ _ (by simp) d2
   obtain⟨p0,ns0,h0,hp0,hn0,hat⟩ : ∃p0 ns0,H5 p0=some (.lst (ns0.map V.int))/\H2 p0=none/\(ns0 = [0+(i:Int)+1,1+r2]\/ns0 = [1+r2,0+(i:Int)+1])/\atI [V.ref p1,V.ref p2] (r1%2)=some (.ref p0):=by
    have hm:=Int.emod_two_eq r1
    rcases hm with c | c
    ·exact⟨p1,_,q1,hp1,.inl rfl,by rw [c];rfl⟩
    ·exact⟨p2,_,q2,hp2',.inr rfl,by rw [c];rfl⟩
   walk_at "rd"
   refine qFu (by decide) (qBt q3 hat ?_)
   walk_at "rd"
   refine qCu ?_
   walk_at "rd"
   have nsl : ∀ {ns},NsOk m ns->ns.length<=2:=by
    rintro ns (h | ⟨x,h,_⟩ | ⟨x,y,h,_⟩) <;> subst h <;> simp
   refine ite2 (fun g => ?_) (fun g => ?_)
   ·have g:=of_decide_eq_true g
    walk_at "rd"
    refine qCu ?_
    walk_at "rd"
    refine ite2 (fun g2 => ?_) (fun g2 => ?_)
    ·walk_at "rd"
     refine ite2 (fun g3 => ?_) (fun g3 => ?_)
     ·have g3:=of_decide_eq_true g3
      walk_at "rd"
      refine⟨len2 (by first | exact Nat.zero_le _ | (show 1<=1000;decide)),fun p hp => ?_⟩
      have hf:H2 p=none:=by
       cases z:H2 p with
       | none=>rfl
       | some o=>rw [e5 _ _ (by simp) z] at hp;cases hp
      have e6:Ext [] H5 (upd H5 p (.lst (([1+r2]:List Int).map V.int))) :=.laid hp
      have hns:NsOk m [1+r2]:=(.inr (.inl ⟨_,rfl,by omega,by omega⟩))
      obtain⟨_,npl,_⟩:=fr p hf
      refine qM7 ?_
      refine qB2 (l:=l) (d:=d) (p:=p) (ns :=[1+r2]) rfl rfl rfl (e6 _ _ (by simp) l5) (e6 _ _ (by simp) d5) qA1 (by omega) (by omega) (nsl hns) npl ?_
      exact fun H7 kvs' l7 d7 hk7 e7=>hN_ _ _ <| fin p [1+r2] _ e6 qA1 hf hns H7 kvs' l7 d7 hk7 e7 _ _ _ _
     ·walk_at "rd"
      refine⟨len2 (by first | exact Nat.zero_le _ | (show 1<=1000;decide)),fun p hp => ?_⟩
      have hf:H2 p=none:=by
       cases z:H2 p with
       | none=>rfl
       | some o=>rw [e5 _ _ (by simp) z] at hp;cases hp
      have e6:Ext [] H5 (upd H5 p (.lst (([]:List Int).map V.int))) :=.laid hp
      have hns:NsOk m []:=(.inl rfl)
      obtain⟨_,npl,_⟩:=fr p hf
      refine qM7 ?_
      refine qB2 (l:=l) (d:=d) (p:=p) (ns :=[]) rfl rfl rfl (e6 _ _ (by simp) l5) (e6 _ _ (by simp) d5) qA1 (by omega) (by omega) (nsl hns) npl ?_
      exact fun H7 kvs' l7 d7 hk7 e7=>hN_ _ _ <| fin p [] _ e6 qA1 hf hns H7 kvs' l7 d7 hk7 e7 _ _ _ _
    ·refine iteF ?_
     walk_at "rd"
     refine⟨len2 (by first | exact Nat.zero_le _ | (show 1<=1000;decide)),fun p hp => ?_⟩
     have hf:H2 p=none:=by
      cases z:H2 p with
      | none=>rfl
      | some o=>rw [e5 _ _ (by simp) z] at hp;cases hp
     have e6:Ext [] H5 (upd H5 p (.lst (([]:List Int).map V.int))) :=.laid hp
     have hns:NsOk m []:=(.inl rfl)
     obtain⟨_,npl,_⟩:=fr p hf
     refine qM7 ?_
     refine qB2 (l:=l) (d:=d) (p:=p) (ns :=[]) rfl rfl rfl (e6 _ _ (by simp) l5) (e6 _ _ (by simp) d5) qA1 (by omega) (by omega) (nsl hns) npl ?_
     exact fun H7 kvs' l7 d7 hk7 e7=>hN_ _ _ <| fin p [] _ e6 qA1 hf hns H7 kvs' l7 d7 hk7 e7 _ _ _ _
   ·have g : ¬(0+(i:Int)+1=m):=fun z=>g (decide_eq_true z)
    walk_at "rd"
    refine⟨d,_,rfl,DGet.k (k:=Sum.inl _) d5,?_⟩
    refine qVr ?_
    refine ite2 (fun g2 => ?_) (fun g2 => ?_)
    ·walk_at "rd"
     refine ite2 (fun g3 => ?_) (fun g3 => ?_)
     ·walk_at "rd"
      refine qCu ?_
      walk_at "rd"
      refine ite2 (fun g4 => ?_) (fun g4 => ?_)
      ·walk_at "rd"
       refine⟨len2 (by first | exact Nat.zero_le _ | (show 1<=1000;decide)),fun p hp => ?_⟩
       have hf:H2 p=none:=by
        cases z:H2 p with
        | none=>rfl
        | some o=>rw [e5 _ _ (by simp) z] at hp;cases hp
       have e6:Ext [] H5 (upd H5 p (.lst (([1+r2]:List Int).map V.int))) :=.laid hp
       have hns:NsOk m [1+r2]:=(.inr (.inl ⟨_,rfl,by omega,by omega⟩))
       obtain⟨_,npl,_⟩:=fr p hf
       refine qM7 ?_
       refine qB2 (l:=l) (d:=d) (p:=p) (ns :=[1+r2]) rfl rfl rfl (e6 _ _ (by simp) l5) (e6 _ _ (by simp) d5) qA1 (by omega) (by omega) (nsl hns) npl ?_
       exact fun H7 kvs' l7 d7 hk7 e7=>hN_ _ _ <| fin p [1+r2] _ e6 qA1 hf hns H7 kvs' l7 d7 hk7 e7 _ _ _ _
      ·walk_at "rd"
       refine⟨len2 (by first | exact Nat.zero_le _ | (show 1<=1000;decide)),fun p hp => ?_⟩
       have hf:H2 p=none:=by
        cases z:H2 p with
        | none=>rfl
        | some o=>rw [e5 _ _ (by simp) z] at hp;cases hp
       have e6:Ext [] H5 (upd H5 p (.lst (([]:List Int).map V.int))) :=.laid hp
       have hns:NsOk m []:=(.inl rfl)
       obtain⟨_,npl,_⟩:=fr p hf
       refine qM7 ?_
       refine qB2 (l:=l) (d:=d) (p:=p) (ns :=[]) rfl rfl rfl (e6 _ _ (by simp) l5) (e6 _ _ (by simp) d5) qA1 (by omega) (by omega) (nsl hns) npl ?_
       exact fun H7 kvs' l7 d7 hk7 e7=>hN_ _ _ <| fin p [] _ e6 qA1 hf hns H7 kvs' l7 d7 hk7 e7 _ _ _ _
     ·walk_at "rd"
      refine ite2 (fun g5 => ?_) (fun g5 => ?_)
      ·refine iteT ?_
       walk_at "rd"
       refine⟨len2 (by first | exact Nat.zero_le _ | (show 1<=1000;decide)),fun p hp => ?_⟩
       have hf:H2 p=none:=by
        cases z:H2 p with
        | none=>rfl
        | some o=>rw [e5 _ _ (by simp) z] at hp;cases hp
       have e6:Ext [] H5 (upd H5 p (.lst (([0+(i:Int)+1]:List Int).map V.int))) :=.laid hp
       have hns:NsOk m [0+(i:Int)+1]:=(.inr (.inl ⟨_,rfl,by omega,by omega⟩))
       obtain⟨_,npl,_⟩:=fr p hf
       refine qM7 ?_
       refine qB2 (l:=l) (d:=d) (p:=p) (ns :=[0+(i:Int)+1]) rfl rfl rfl (e6 _ _ (by simp) l5) (e6 _ _ (by simp) d5) qA1 (by omega) (by omega) (nsl hns) npl ?_
       exact fun H7 kvs' l7 d7 hk7 e7=>hN_ _ _ <| fin p [0+(i:Int)+1] _ e6 qA1 hf hns H7 kvs' l7 d7 hk7 e7 _ _ _ _
      ·walk_at "rd"
       refine qCu ?_
       walk_at "rd"
       refine ite2 (fun g6 => ?_) (fun g6 => ?_)
       ·walk_at "rd"
        refine⟨len2 (by first | exact Nat.zero_le _ | (show 1<=1000;decide)),fun p hp => ?_⟩
        have hf:H2 p=none:=by
         cases z:H2 p with
         | none=>rfl
         | some o=>rw [e5 _ _ (by simp) z] at hp;cases hp
        have e6:Ext [] H5 (upd H5 p (.lst (([0+(i:Int)+1]:List Int).map V.int))) :=.laid hp
        have hns:NsOk m [0+(i:Int)+1]:=(.inr (.inl ⟨_,rfl,by omega,by omega⟩))
        obtain⟨_,npl,_⟩:=fr p hf
        refine qM7 ?_
        refine qB2 (l:=l) (d:=d) (p:=p) (ns :=[0+(i:Int)+1]) rfl rfl rfl (e6 _ _ (by simp) l5) (e6 _ _ (by simp) d5) qA1 (by omega) (by omega) (nsl hns) npl ?_
        exact fun H7 kvs' l7 d7 hk7 e7=>hN_ _ _ <| fin p [0+(i:Int)+1] _ e6 qA1 hf hns H7 kvs' l7 d7 hk7 e7 _ _ _ _
       ·have g6 : ¬(1+r2=0+(i:Int)+1):=fun z=>g6 (decide_eq_true z)
        obtain⟨_,npl,_⟩:=fr p0 hp0
        have hns:NsOk m ns0:=by
         rcases hn0 with h | h
         ·exact .inr (.inr ⟨_,_,h,by omega,by omega,by omega,by omega,by omega⟩)
         ·exact .inr (.inr ⟨_,_,h,by omega,by omega,by omega,by omega,by omega⟩)
        refine qF1 ?_
        refine qB2 (l:=l) (d:=d) (p:=p0) (ns:=ns0) rfl rfl rfl l5 d5 h0 (by omega) (by omega) (nsl hns) npl ?_
        exact fun H7 kvs' l7 d7 hk7 e7=>hN_ _ _ <| fin p0 ns0 _ (fun _ _ _ h=>h) h0 hp0 hns H7 kvs' l7 d7 hk7 e7 _ _ _ _
    ·refine iteF ?_
     walk_at "rd"
     refine ite2 (fun g5 => ?_) (fun g5 => ?_)
     ·refine iteT ?_
      walk_at "rd"
      refine⟨len2 (by first | exact Nat.zero_le _ | (show 1<=1000;decide)),fun p hp => ?_⟩
      have hf:H2 p=none:=by
       cases z:H2 p with
       | none=>rfl
       | some o=>rw [e5 _ _ (by simp) z] at hp;cases hp
      have e6:Ext [] H5 (upd H5 p (.lst (([0+(i:Int)+1]:List Int).map V.int))) :=.laid hp
      have hns:NsOk m [0+(i:Int)+1]:=(.inr (.inl ⟨_,rfl,by omega,by omega⟩))
      obtain⟨_,npl,_⟩:=fr p hf
      refine qM7 ?_
      refine qB2 (l:=l) (d:=d) (p:=p) (ns :=[0+(i:Int)+1]) rfl rfl rfl (e6 _ _ (by simp) l5) (e6 _ _ (by simp) d5) qA1 (by omega) (by omega) (nsl hns) npl ?_
      exact fun H7 kvs' l7 d7 hk7 e7=>hN_ _ _ <| fin p [0+(i:Int)+1] _ e6 qA1 hf hns H7 kvs' l7 d7 hk7 e7 _ _ _ _
     ·walk_at "rd"
      refine qCu ?_
      walk_at "rd"
      refine ite2 (fun g6 => ?_) (fun g6 => ?_)
      ·walk_at "rd"
       refine⟨len2 (by first | exact Nat.zero_le _ | (show 1<=1000;decide)),fun p hp => ?_⟩
       have hf:H2 p=none:=by
        cases z:H2 p with
        | none=>rfl
        | some o=>rw [e5 _ _ (by simp) z] at hp;cases hp
       have e6:Ext [] H5 (upd H5 p (.lst (([0+(i:Int)+1]:List Int).map V.int))) :=.laid hp
       have hns:NsOk m [0+(i:Int)+1]:=(.inr (.inl ⟨_,rfl,by omega,by omega⟩))
       obtain⟨_,npl,_⟩:=fr p hf
       refine qM7 ?_
       refine qB2 (l:=l) (d:=d) (p:=p) (ns :=[0+(i:Int)+1]) rfl rfl rfl (e6 _ _ (by simp) l5) (e6 _ _ (by simp) d5) qA1 (by omega) (by omega) (nsl hns) npl ?_
       exact fun H7 kvs' l7 d7 hk7 e7=>hN_ _ _ <| fin p [0+(i:Int)+1] _ e6 qA1 hf hns H7 kvs' l7 d7 hk7 e7 _ _ _ _
      ·have g6 : ¬(1+r2=0+(i:Int)+1):=fun z=>g6 (decide_eq_true z)
       obtain⟨_,npl,_⟩:=fr p0 hp0
       have hns:NsOk m ns0:=by
        rcases hn0 with h | h
        ·exact .inr (.inr ⟨_,_,h,by omega,by omega,by omega,by omega,by omega⟩)
        ·exact .inr (.inr ⟨_,_,h,by omega,by omega,by omega,by omega,by omega⟩)
       refine qF1 ?_
       refine qB2 (l:=l) (d:=d) (p:=p0) (ns:=ns0) rfl rfl rfl l5 d5 h0 (by omega) (by omega) (nsl hns) npl ?_
       exact fun H7 kvs' l7 d7 hk7 e7=>hN_ _ _ <| fin p0 ns0 _ (fun _ _ _ h=>h) h0 hp0 hns H7 kvs' l7 d7 hk7 e7 _ _ _ _
  ·rintro σ' H' ⟨nx,vs,kvs,o4,o5,o6,o7,rfl,hnl,hnx,hT',e',hl',hden,hd',hkl⟩
   walk_at "rd"
   refine q l nx H' hl (hT'.mono (by omega)) e' ⟨by omega,hnx⟩ (.list (SqL.of ?_) (hden.mono (qHf (by simp))))
   rw [qAv hl (by simpa using nlt)];exact hl'
end
section
variable {P:Program} {w:World} {K:PySem.W.Frag} {mg:Str->Option Value} {base:Heap}
abbrev qGx:Stmt:=top 10
theorem scDeeds:FnScope ["_law_tape_here","_law_most","_law_boxes_here","_law_first","_law_works_here","_law_found","_law_turn","_law_way","_law_n","_law_box","_law_other","_law_called"] ["_law_tape_here","_law_most","_law_boxes_here","_law_first","_law_works_here"] (qA8 qGx):=⟨rfl,rfl,rfl,by decide +kernel,rfl,by decide +kernel,by decide +kernel⟩
theorem qQn {f:Addr} {fd:FuncData} (F:Fun K "_law_deeds" "_law_deeds" qGx f fd) (nrange:mg "range" = none) (nint:mg "int" = none) (nlen:mg "len" = none) (hD:Has P w K mg base "_law_draw" 1 ["_law_tape_here","_law_many_here"] qDm) (hN:Has P w K mg base "_law_number" 2 ["_law_tape_here"] qHl) :
  FnOk P w K mg base CX0 3 f fd ["_law_tape_here","_law_most","_law_boxes_here","_law_first","_law_works_here"] (qFd K):=by
 refine F.ok scDeeds (fun vs H Q E h => ?_) (fun cdv A outer s H vs Q E hr h => ?_)
 ·obtain⟨t,b,k,most,first,works,bs,rfl,_⟩:=h
  rfl
 ·obtain⟨t,b,k,most,first,works,bs,rfl,hT,hk,hm1,hm2,hf1,hf2,hw1,hw2,hb,nbt,hB,q⟩:=h
  refine⟨_,qA7 (qAn (i:=5) scDeeds.nd rfl (Or.inl rfl) (qAs qA3))
   (qA7 (qC3 PassesOwn.never rfl (qBk rfl nrange (qA0 (qAr hD hr (by decide) (qA0 (pv 0) (qA0 (qAq qBa qA6 (qAu qAl (qAs (qA0 (pv 1) (qA0 qA6 qA3))) (qB0 qCc (by rfl) nint PyProof.Rows.boot_int (qA0 (qBe qC9 (qAr hD hr (by decide) (qA0 (pv 0) (qA0 qA6 qA3))) qA6 (qAm _)) qA3)) (fun _ _=>rfl))) qA3))) qA3)) (qAa (i:=6) scDeeds.nd rfl (Or.inl rfl))
    (qA7 (qIr (i:=7) (j:=8) rfl scDeeds.nd rfl rfl (by decide) rfl rfl (qA0 (qAr hD hr (by decide) (qA0 (pv 0) (qA0 qA6 qA3))) (qA0 (qAr hN hr (by decide) (qA0 (pv 0) qA3)) qA3)) rfl)
    (qA7 (qAn (i:=9) scDeeds.nd rfl (Or.inl rfl) (qAu qAl (pv 2) (qAr hD hr (by decide) (qA0 (pv 0) (qA0 (qAc qAo (by rfl) nlen PySem.boot_len (qA0 (pv 2) qA3)) qA3))) (fun _ _=>rfl)))
    (qA7 (qAn (i:=10) scDeeds.nd rfl (Or.inl rfl) (qAu qAl (pv 2) (qAr hD hr (by decide) (qA0 (pv 0) (qA0 (qAc qAo (by rfl) nlen PySem.boot_len (qA0 (pv 2) qA3)) qA3))) (fun _ _=>rfl)))
    (qA7 (qAn (i:=11) scDeeds.nd rfl (Or.inl rfl) (qAu qAl (qAs (qA0 (qAq qBa (qAq qBa (pv 3) qA6) (qAr hD hr (by decide) (qA0 (pv 0) (qA0 qA6 qA3)))) (qA0 (qAr hD hr (by decide) (qA0 (pv 0) (qA0 (pv 4) qA3))) qA3))) (qB0 qCc (by rfl) nint PyProof.Rows.boot_int (qA0 (qBe qC9 (qAr hD hr (by decide) (qA0 (pv 0) (qA0 qA6 qA3))) qA6 (qAm _)) qA3)) (fun _ _=>rfl)))
    (qA9 (qDl (qFv (qAe qC9 (pv 7) qA6 (qAm _)) (qDs (qAe qO8 (pv 11) (pv 4) (qAm _)))).pt
     (qA9 (qBw (qE6 PySem.F.plainAttrs_list PySem.F.slot_list_append PySem.F.type_list_append qBg (pv 5) (qA0 (qB9 (qA0 qBl (qA0 (pv 11) qA3))) qA3))))
     (qA9 (qBw (qE6 PySem.F.plainAttrs_list PySem.F.slot_list_append PySem.F.type_list_append qBg (pv 5) (qA0 (qAu qAl (qAs (qA0 (qB9 (qA0 qBl (qA0 (pv 9) (qA0 (pv 8) qA3)))) (qA0 (qB9 (qA0 qBl (qA0 (pv 9) (qA0 (pv 10) qA3)))) (qA0 (qB9 (qA0 qBl (qA0 (pv 9) qA3))) qA3)))) (qAq qE7 (pv 7) qA6) (fun _ _=>rfl)) qA3)))))))))))
   (qA9 (qAw (pv 5)))),?_⟩
  dsimp only [qBx,qBp]
  walk_at "rd"
  refine⟨len2 (Nat.zero_le _),fun l hl => ?_⟩
  have nlt:l≠t:=hT.ne hl
  have nlb:l≠b:=(qA2 hb hl).symm
  have T0:Tape (upd H l (.lst [])) t k:=hT.ext (ts :=[]) (.laid hl) (by simp)
  walk_at "rd"
  refine⟨len2 (by show 2<=1000;decide),fun p hp => ?_⟩
  have npt:p≠t:=T0.ne hp
  have npl:p≠l:=fun z=>by rw [z,qA1] at hp;cases hp
  walk_at "rd"
  refine qB5 (T0.ext (ts :=[]) (.laid hp) (by simp)) (by omega) (by decide) (by decide) fun r1 H1 a1 b1 T1 e1 k1 => ?_
  walk_at "rd"
  refine qCu ?_
  walk_at "rd"
  refine .inr ⟨_,rfl,?_⟩
  have hpL:SqL K H1 p [V.int most,V.int 12]:=SqL.of (by rw [k1 p npt,qA1])
  obtain⟨mo,hmo,mo0,mo1⟩ : ∃mo:Int,atI [V.int most,V.int 12] (if decide (r1=0)=true then 1 else 0)=some (.int mo)/\0<=mo/\mo<=12:=by
   cases decide (r1=0)
   ·exact⟨most,rfl,hm1,hm2⟩
   ·exact⟨12,rfl,by decide,by decide⟩
  refine qBt hpL hmo ?_
  walk_at "rd"
  refine qB5 T1 (by omega) (by omega) (by omega) fun r2 H2 a2 b2 T2 e2 k2 => ?_
  have l2:H2 l=some (.lst []):=by rw [k2 l nlt,k1 l nlt,qA4 npl.symm,qA1]
  have E2:Ext [t] H H2:=(Ext.laid hl).trans ((Ext.laid hp).trans (e1.trans e2))
  walk_at "rd"
  refine⟨r2,rfl,by omega,by omega,qCa (lo:=0) (n:=r2.toNat) (fun i σ' H' => ∃(ds:List Deed) (vs:List V) (o6 o7 o8 o9 o10 o11:Option V),σ' = [some (.ref t),some (.int most),some (.ref b),some (.int first),some (.int works),some (.ref l),o6,o7,o8,o9,o10,o11]/\ds.length=i/\(∀d∈ds,qGj works d) /\
   Tape H' t (k+2+10*i)/\Ext [t] H H'/\H' l=some (.lst vs)/\DenEL (yo H [t,l] H') (ds.map deedD) vs) ?_ ?_ ?_⟩
  ·exact⟨[],[],none,none,none,none,none,none,rfl,rfl,(fun _ h=>absurd h (by simp)),T2.mono (by omega),E2,l2,.nil⟩
  ·rintro i σ' H' hi ⟨ds,vs,o6,o7,o8,o9,o10,o11,rfl,hdl,hds,hT',e',hl',hden⟩ N_ B_ C_ R_ hN_ hC_ hR_
   have hvl:vs.length=i:=by rw [hden.len,List.length_map,hdl]
   walk_at "rd"
   refine qB5 hT' (by omega) (by decide) (by decide) fun r3 H3 a3 b3 T3 e3 _ => ?_
   walk_at "rd"
   refine qUm T3 (by omega) fun n H4 n0 n1 T4 e4 => ?_
   walk_at "rd"
   refine⟨_,_,rfl,?_⟩
   have E4:Ext [t] H' H4:=e3.trans e4
   have hbt:b ∉ [t]:=by simpa using nbt
   have hltn:l ∉ [t]:=by simpa using nlt
   walk_at "rd"
   refine⟨b,_,rfl,.inl (SqL.of (E4 _ _ hbt (e' _ _ hbt hb))),?_⟩
   rw [List.length_map]
   walk_at "rd"
   refine qB5 T4 (by omega) (by have:=hB.one;omega) (by have:=hB.few;omega) fun r5 H5 a5 b5 T5 e5 _ => ?_
   have E5:Ext [t] H' H5:=E4.trans e5
   obtain⟨bx,hbx,ebx⟩:=qIc (ns:=bs) a5 b5
   refine qBt (SqL.of (E5 _ _ hbt (e' _ _ hbt hb))) ebx ?_
   walk_at "rd"
   refine⟨b,_,rfl,.inl (SqL.of (E5 _ _ hbt (e' _ _ hbt hb))),?_⟩
   rw [List.length_map]
   walk_at "rd"
   refine qB5 T5 (by omega) (by have:=hB.one;omega) (by have:=hB.few;omega) fun r6 H6 a6 b6 T6 e6 _ => ?_
   have E6:Ext [t] H' H6:=E5.trans e6
   obtain⟨ox,hox,eox⟩:=qIc (ns:=bs) a6 b6
   refine qBt (SqL.of (E6 _ _ hbt (e' _ _ hbt hb))) eox ?_
   walk_at "rd"
   refine qB5 T6 (by omega) (by decide) (by decide) fun r7 H7 a7 b7 T7 e7 _ => ?_
   walk_at "rd"
   refine qB5 T7 (by omega) (by omega) (by omega) fun r8 H8 a8 b8 T8 e8 _ => ?_
   walk_at "rd"
   refine⟨len2 (by show 2<=1000;decide),fun p1 hp1 => ?_⟩
   have np1:p1≠t:=T8.ne hp1
   walk_at "rd"
   refine qB5 (T8.ext (ts :=[]) (.laid hp1) (by simp)) (by omega) (by decide) (by decide) fun r9 H9 a9 b9 T9 e9 k9 => ?_
   walk_at "rd"
   refine qCu ?_
   walk_at "rd"
   refine .inr ⟨_,rfl,?_⟩
   have E9:Ext [t] H' H9:=(E6.trans (e7.trans e8)).trans ((Ext.laid hp1).trans e9)
   have hL9:SqL K H9 p1 [V.int (first+1+r7),V.int r8]:=SqL.of (by rw [k9 p1 np1,qA1])
   obtain⟨ca,hca,ca0⟩ : ∃ca:Int,atI [V.int (first+1+r7),V.int r8] (if decide (r9=0)=true then 1 else 0)=some (.int ca)/\0<=ca:=by
    cases decide (r9=0)
    ·exact⟨_,rfl,by omega⟩
    ·exact⟨_,rfl,by omega⟩
   refine qBt hL9 hca ?_
   have l9:H9 l=some (.lst vs):=E9 _ _ hltn hl'
   have fin : ∀(d:Deed) (H6:Hp) (p:Addr),qGj works d->Ext [] H9 H6->p≠t->p≠l->DenE (yo H [t,l] H6) (deedD d) (.ref p) -> ∀o6 o7 o8 o9 o10 o11:Option V,∃(ds:List Deed) (vs':List V) (p6 p7 p8 p9 p10 p11:Option V),[some (V.ref t),some (.int most),some (.ref b),some (.int first),some (.int works),some (.ref l),o6,o7,o8,o9,o10,o11] = [some (V.ref t),some (.int most),some (.ref b),some (.int first),some (.int works),some (.ref l),p6,p7,p8,p9,p10,p11]/\ds.length=i+1/\(∀d∈ds,qGj works d) /\
     Tape (upd H6 l (.lst (vs ++ [.ref p]))) t (k+2+10*(i+1))/\Ext [t] H (upd H6 l (.lst (vs ++ [.ref p])))/\(upd H6 l (.lst (vs ++ [.ref p]))) l=some (.lst vs')/\DenEL (yo H [t,l] (upd H6 l (.lst (vs ++ [.ref p])))) (ds.map deedD) vs':=by
    intro d H6 p hd e6 npt npl hden6 o6 o7 o8 o9 o10 o11
    have E10:Ext [l,t] H9 (upd H6 l (.lst (vs ++ [.ref p]))):=(e6.mono (by simp)).trans (.put (by simp))
    have E11:Ext [l,t] H' (upd H6 l (.lst (vs ++ [.ref p]))):=(E9.mono (by simp)).trans E10
    refine⟨ds ++ [d],vs ++ [.ref p],o6,o7,o8,o9,o10,o11,rfl,by rw [List.length_append,hdl];rfl,fun z hz => ?_,?_,?_,qA1,?_⟩
    ·rcases List.mem_append.mp hz with y | y
     ·exact hds z y
     ·rw [List.mem_singleton.mp y];exact hd
    ·exact ((T9.ext e6 (by simp)).ext (ts :=[l]) (.put (by simp)) (by simpa using nlt.symm)).mono (by omega)
    ·exact ((e'.mono (by simp)).trans E11).drop hl
    ·rw [List.map_append]
     exact DenEL.append (hden.mono (E11.mono (by simp)).young) (.cons (hden6.mono (Ext.put (by simp)).young) .nil)
   have sz:vs.length<sizeLine:=qAb (by omega)
   walk_at "rd"
   refine qCu ?_
   walk_at "rd"
   refine ite2 (fun g => ?_) (fun g => ?_)
   ·walk_at "rd"
    refine ite2 (fun g2 => ?_) (fun g2 => ?_)
    ·have g2:=of_decide_eq_true g2
     walk_at "rd"
     refine qDi l9 ?_
     walk_at "rd"
     refine⟨len2 (by show 2<=1000;decide),fun p hp => ?_⟩
     have npt:=T9.ne hp
     have hfresh:=hp
     have npl:p≠l:=(qA2 l9 hp).symm
     walk_at "rd"
     refine qDk (by rw [qA4 npl.symm];exact l9) sz ?_
     refine L2.qEs hN_ ?_
     refine fin (.call ca) _ p ⟨ca0,g2⟩ (.laid hp) npt npl (.tuple ?_ (.cons .str (.cons .int .nil))) _ _ _ _ _ _
     rw [qAv ((e'.trans E9).none (by simpa using npt) hfresh) (by simp [npt,npl]),qA1]
    ·walk_at "rd"
     refine qDi l9 ?_
     walk_at "rd"
     refine⟨len2 (by show 3<=1000;decide),fun s1 hs1 => ?_⟩
     walk_at "rd"
     refine⟨len2 (by show 3<=1000;decide),fun s2 hs2 => ?_⟩
     walk_at "rd"
     refine⟨len2 (by show 2<=1000;decide),fun s3 hs3 => ?_⟩
     walk_at "rd"
     refine⟨len2 (by show 3<=1000;decide),fun s4 hs4 => ?_⟩
     have e12:s1≠s2:=qA2 qA1 hs2
     have e13:s1≠s3:=qA2 (by rw [qA4 e12,qA1]) hs3
     have e23:s2≠s3:=qA2 qA1 hs3
     have e14:s1≠s4:=qA2 (by rw [qA4 e13,qA4 e12,qA1]) hs4
     have e24:s2≠s4:=qA2 (by rw [qA4 e23,qA1]) hs4
     have e34:s3≠s4:=qA2 qA1 hs4
     have f2:H9 s2=none:=by rw [qA4 e12.symm] at hs2;exact hs2
     have f3:H9 s3=none:=by rw [qA4 e23.symm,qA4 e13.symm] at hs3;exact hs3
     have E0:=(Ext.laid (ts :=[]) (o :=.tup [V.str "set",.int bx,.int n]) hs1).trans ((Ext.laid (o :=.tup [V.str "add",.int bx,.int ox]) hs2).trans ((Ext.laid (o :=.tup [V.str "tell",.int bx]) hs3).trans (Ext.laid (o :=.lst [V.ref s1,.ref s2,.ref s3]) hs4)))
     have l10:=E0 _ _ (by simp) l9
     have hbx':=hB.all _ hbx
     have hox':=hB.all _ hox
     walk_at "rd"
     refine qFu (by decide) ?_
     have h3:r3%3=0\/r3%3=1\/r3%3=2:=by omega
     have q4:SqL K (upd (upd (upd (upd H9 s1 (.tup [V.str "set",.int bx,.int n])) s2 (.tup [V.str "add",.int bx,.int ox])) s3 (.tup [V.str "tell",.int bx])) s4 (.lst [V.ref s1,.ref s2,.ref s3])) s4 [V.ref s1,.ref s2,.ref s3]:=SqL.of qA1
     rcases h3 with h | h | h
     ·refine qBt (v:=V.ref s1) q4 (by rw [h];rfl) ?_
      walk_at "rd"
      have npt:=T9.ne hs1
      have hfresh:=hs1
      have npl:s1≠l:=(qA2 l9 hs1).symm
      refine qDk l10 sz ?_
      refine L2.qEs hN_ ?_
      refine fin (.set bx n) _ s1 ⟨hbx'.1,hbx'.2,n0,n1⟩ E0 npt npl (.tuple ?_ (.cons .str (.cons .int (.cons .int .nil)))) _ _ _ _ _ _
      rw [qAv ((e'.trans E9).none (by simpa using npt) hfresh) (by simp [npt,npl]),qA4 e14,qA4 e13,qA4 e12,qA1]
     ·refine qBt (v:=V.ref s2) q4 (by rw [h];rfl) ?_
      walk_at "rd"
      have npt:=T9.ne f2
      have hfresh:=f2
      have npl:s2≠l:=(qA2 l9 f2).symm
      refine qDk l10 sz ?_
      refine L2.qEs hN_ ?_
      refine fin (.add bx ox) _ s2 ⟨hbx'.1,hbx'.2,hox'.1,hox'.2⟩ E0 npt npl (.tuple ?_ (.cons .str (.cons .int (.cons .int .nil)))) _ _ _ _ _ _
      rw [qAv ((e'.trans E9).none (by simpa using npt) hfresh) (by simp [npt,npl]),qA4 e24,qA4 e23,qA1]
     ·refine qBt (v:=V.ref s3) q4 (by rw [h];rfl) ?_
      walk_at "rd"
      have npt:=T9.ne f3
      have hfresh:=f3
      have npl:s3≠l:=(qA2 l9 f3).symm
      refine qDk l10 sz ?_
      refine L2.qEs hN_ ?_
      refine fin (.tell bx) _ s3 ⟨hbx'.1,hbx'.2⟩ E0 npt npl (.tuple ?_ (.cons .str (.cons .int .nil))) _ _ _ _ _ _
      rw [qAv ((e'.trans E9).none (by simpa using npt) hfresh) (by simp [npt,npl]),qA4 e34,qA1]
   ·refine iteF ?_
    walk_at "rd"
    refine qDi l9 ?_
    walk_at "rd"
    refine⟨len2 (by show 3<=1000;decide),fun s1 hs1 => ?_⟩
    walk_at "rd"
    refine⟨len2 (by show 3<=1000;decide),fun s2 hs2 => ?_⟩
    walk_at "rd"
    refine⟨len2 (by show 2<=1000;decide),fun s3 hs3 => ?_⟩
    walk_at "rd"
    refine⟨len2 (by show 3<=1000;decide),fun s4 hs4 => ?_⟩
    have e12:s1≠s2:=qA2 qA1 hs2
    have e13:s1≠s3:=qA2 (by rw [qA4 e12,qA1]) hs3
    have e23:s2≠s3:=qA2 qA1 hs3
    have e14:s1≠s4:=qA2 (by rw [qA4 e13,qA4 e12,qA1]) hs4
    have e24:s2≠s4:=qA2 (by rw [qA4 e23,qA1]) hs4
    have e34:s3≠s4:=qA2 qA1 hs4
    have f2:H9 s2=none:=by rw [qA4 e12.symm] at hs2;exact hs2
    have f3:H9 s3=none:=by rw [qA4 e23.symm,qA4 e13.symm] at hs3;exact hs3
    have E0:=(Ext.laid (ts :=[]) (o :=.tup [V.str "set",.int bx,.int n]) hs1).trans ((Ext.laid (o :=.tup [V.str "add",.int bx,.int ox]) hs2).trans ((Ext.laid (o :=.tup [V.str "tell",.int bx]) hs3).trans (Ext.laid (o :=.lst [V.ref s1,.ref s2,.ref s3]) hs4)))
    have l10:=E0 _ _ (by simp) l9
    have hbx':=hB.all _ hbx
    have hox':=hB.all _ hox
    walk_at "rd"
    refine qFu (by decide) ?_
    have h3:r3%3=0\/r3%3=1\/r3%3=2:=by omega
    have q4:SqL K (upd (upd (upd (upd H9 s1 (.tup [V.str "set",.int bx,.int n])) s2 (.tup [V.str "add",.int bx,.int ox])) s3 (.tup [V.str "tell",.int bx])) s4 (.lst [V.ref s1,.ref s2,.ref s3])) s4 [V.ref s1,.ref s2,.ref s3]:=SqL.of qA1
    rcases h3 with h | h | h
    ·refine qBt (v:=V.ref s1) q4 (by rw [h];rfl) ?_
     walk_at "rd"
     have npt:=T9.ne hs1
     have hfresh:=hs1
     have npl:s1≠l:=(qA2 l9 hs1).symm
     refine qDk l10 sz ?_
     refine L2.qEs hN_ ?_
     refine fin (.set bx n) _ s1 ⟨hbx'.1,hbx'.2,n0,n1⟩ E0 npt npl (.tuple ?_ (.cons .str (.cons .int (.cons .int .nil)))) _ _ _ _ _ _
     rw [qAv ((e'.trans E9).none (by simpa using npt) hfresh) (by simp [npt,npl]),qA4 e14,qA4 e13,qA4 e12,qA1]
    ·refine qBt (v:=V.ref s2) q4 (by rw [h];rfl) ?_
     walk_at "rd"
     have npt:=T9.ne f2
     have hfresh:=f2
     have npl:s2≠l:=(qA2 l9 f2).symm
     refine qDk l10 sz ?_
     refine L2.qEs hN_ ?_
     refine fin (.add bx ox) _ s2 ⟨hbx'.1,hbx'.2,hox'.1,hox'.2⟩ E0 npt npl (.tuple ?_ (.cons .str (.cons .int (.cons .int .nil)))) _ _ _ _ _ _
     rw [qAv ((e'.trans E9).none (by simpa using npt) hfresh) (by simp [npt,npl]),qA4 e24,qA4 e23,qA1]
    ·refine qBt (v:=V.ref s3) q4 (by rw [h];rfl) ?_
     walk_at "rd"
     have npt:=T9.ne f3
     have hfresh:=f3
     have npl:s3≠l:=(qA2 l9 f3).symm
     refine qDk l10 sz ?_
     refine L2.qEs hN_ ?_
     refine fin (.tell bx) _ s3 ⟨hbx'.1,hbx'.2⟩ E0 npt npl (.tuple ?_ (.cons .str (.cons .int .nil))) _ _ _ _ _ _
     rw [qAv ((e'.trans E9).none (by simpa using npt) hfresh) (by simp [npt,npl]),qA4 e34,qA1]
  ·rintro σ' H' ⟨ds,vs,o6,o7,o8,o9,o10,o11,rfl,hdl,hds,hT',e',hl',hden⟩
   walk_at "rd"
   refine q l ds H' hl (hT'.mono (by omega)) e' hds (by omega) (.list ?_ (hden.mono (qHf (by simp))))
   rw [qAv hl (by simpa using nlt)];exact hl'
end
section
variable {P:Program} {w:World} {K:PySem.W.Frag} {mg:Str->Option Value} {base:Heap}
abbrev sWork:Stmt:=top 11
theorem scWork:FnScope ["_law_tape_here","_law_many_here","_law_most","_law_first","_law_works_here","_law_left","_law_size_here","_law_boxes_here","_law_found","_law_there","_law_end"] ["_law_tape_here","_law_many_here","_law_most","_law_first","_law_works_here"] (qA8 sWork):=⟨rfl,rfl,rfl,by decide +kernel,rfl,by decide +kernel,by decide +kernel⟩
theorem qSz {f:Addr} {fd:FuncData} (F:Fun K "_law_work" "_law_work" sWork f fd) (nrange:mg "range" = none) (nlist:mg "list" = none) (nlen:mg "len" = none) (hD:Has P w K mg base "_law_draw" 1 ["_law_tape_here","_law_many_here"] qDm)
  (hX:Has P w K mg base "_law_nexts" 2 ["_law_tape_here","_law_many_here"] (qK2 K)) (hE:Has P w K mg base "_law_deeds" 3 ["_law_tape_here","_law_most","_law_boxes_here","_law_first","_law_works_here"] (qFd K)) :
  FnOk P w K mg base CX0 4 f fd ["_law_tape_here","_law_many_here","_law_most","_law_first","_law_works_here"] (qK0 K):=by
 refine F.ok scWork (fun vs H Q E h => ?_) (fun cdv A outer s H vs Q E hr h => ?_)
 ·obtain⟨t,k,m,most,first,works,rfl,_⟩:=h
  rfl
 ·obtain⟨t,k,m,most,first,works,rfl,hT,hk,m1,m2,hm1,hm2,hf1,hf2,hw1,hw2,q⟩:=h
  refine⟨_,qA7 (qAn (i:=5) scWork.nd rfl (Or.inr rfl) (qB0 (qI7 hr.hd) (by rfl) nlist PyProof.Rows.boot_list (qA0 (qB0 qKm (by rfl) nrange PyProof.Rows.boot_range (qA0 qA6 qA3)) qA3)))
   (qA7 (qAn (i:=6) scWork.nd rfl (Or.inl rfl) (qAq qBa qA6 (qAr hD hr (by decide) (qA0 (pv 0) (qA0 (qAu qAl (qAs (qA0 qA6 (qA0 qA6 (qA0 qA6 qA3)))) (qAr hD hr (by decide) (qA0 (pv 0) (qA0 qA6 qA3))) (fun _ _=>rfl)) qA3)))))
   (qA7 (qSq (i:=7) ["_law_k"] [5,0] rfl (.of rfl) scWork.nd rfl (Or.inl rfl) (qBk rfl nrange (qA0 (pv 6) qA3)) (fun _ _ _ _=>qAa (i:=0) (by show ((["_law_k","_law_left","_law_tape_here"]:List Str)).Nodup;decide) rfl (Or.inl rfl)) (fun _ _ _ _ =>.nil)
     (fun _ _ _ _=>qV7 K rfl PySem.F.plainAttrs_list PySem.F.slot_list_pop PySem.F.type_list_pop qL9 (pv 1) (qA0 (qAr hD hr (by decide) (qA0 (pv 2) (qA0 (qAc (qLe K rfl) (by rfl) nlen PySem.boot_len (qA0 (pv 1) qA3)) qA3))) qA3)))
   (qA7 (qAn (i:=8) scWork.nd rfl (Or.inl rfl) (qAs qA3))
   (qA7 (qC3 PassesOwn.never rfl (qBd (qAr hX hr (by decide) (qA0 (pv 0) (qA0 (pv 1) qA3)))) (qAa (i:=9) scWork.nd rfl (Or.inl rfl))
    (qA7 (qAn (i:=10) scWork.nd rfl (Or.inl rfl) (qC5 (qAe (qRr hr) (pv 9) (qAs qA3) (qAm _)) (qB9 (qA0 qBl qA3)) (qC5 (qAe qC9 (qAc qAo (by rfl) nlen PySem.boot_len (qA0 (pv 9) qA3)) qA6 (qAm _))
      (qB9 (qA0 qBl (qA0 (qAu qAl (pv 9) qA6 (fun _ _=>rfl)) qA3))) (qB9 (qA0 qBl (qA0 (qAu qAl (pv 9) qA6 (fun _ _=>rfl)) (qA0 (qAu qAl (pv 9) qA6 (fun _ _=>rfl)) qA3)))))))
    (qA9 (qBw (qE6 PySem.F.plainAttrs_list PySem.F.slot_list_append PySem.F.type_list_append qBg (pv 8) (qA0 (qB9 (qA0 (qAr hE hr (by decide) (qA0 (pv 0) (qA0 (pv 2) (qA0 (pv 7) (qA0 (pv 3) (qA0 (pv 4) qA3)))))) (qA0 (pv 10) qA3))) qA3))))))
   (qA9 (qAw (pv 8))))))),?_⟩
  dsimp only [qBx,qBp]
  walk_at "rd"
  refine⟨8,rfl,fun pr hpr => ?_⟩
  walk_at "rd"
  refine⟨pr,8,rfl,qA1,by decide,fun lf hlf => ?_⟩
  have nrl:pr≠lf:=qA2 qA1 hlf
  have hlf0:H lf=none:=by rw [qA4 nrl.symm] at hlf;exact hlf
  have nlt:lf≠t:=hT.ne hlf0
  have EG:=(Ext.laid (ts :=[]) (o :=.rng 0 8) hpr).trans (.laid (o :=.lst (([0,1,2,3,4,5,6,7]:List Int).map V.int)) hlf)
  generalize hG:upd (upd H pr (.rng 0 8)) lf (.lst (([0,1,2,3,4,5,6,7]:List Int).map V.int))=G at EG
  have hG':upd (upd H pr (.rng 0 8)) lf (.lst ((List.range 8).map fun (i:Nat)=>V.int (i:Int)))=G:=hG
  have lG:G lf=some (.lst (([0,1,2,3,4,5,6,7]:List Int).map V.int)):=by rw [<-hG,qA1]
  have TG:=hT.ext EG (by simp)
  first | rw [hG'] | erw [hG']
  clear hG hG'
  walk_at "rd"
  refine⟨len2 (by show 3<=1000;decide),fun p hp => ?_⟩
  have npt:p≠t:=TG.ne hp
  have npl:p≠lf:=(qA2 lG hp).symm
  walk_at "rd"
  refine qB5 (TG.ext (ts :=[]) (.laid hp) (by simp)) (by omega) (by decide) (by decide) fun r1 H1 a1 b1 T1 e1 k1 => ?_
  have hpL:SqL K H1 p (([3,3,8]:List Int).map V.int):=SqL.of (by rw [k1 p npt,qA1];rfl)
  obtain⟨n8,hn8,en8⟩:=qIc (ns :=[3,3,8]) a1 b1
  have hn8':3<=n8/\n8<=8:=by
   simp only [List.mem_cons,List.not_mem_nil,or_false] at hn8
   omega
  refine qBt hpL en8 ?_
  walk_at "rd"
  refine qB5 T1 (by omega) (by omega) (by omega) fun r2 H2 a2 b2 T2 e2 k2 => ?_
  have l2:H2 lf=some (.lst (([0,1,2,3,4,5,6,7]:List Int).map V.int)):=by rw [k2 lf nlt,k1 lf nlt,qA4 npl.symm];exact lG
  have E2:Ext [t] H H2:=(EG.mono (by simp)).trans ((Ext.laid hp).trans (e1.trans e2))
  walk_at "rd"
  refine⟨1+r2,rfl,by omega,by omega,fun bx hbx => ?_⟩
  have nbt:bx≠t:=T2.ne hbx
  have nbl:bx≠lf:=(qA2 l2 hbx).symm
  refine qDb (lo:=0) (n:=(1+r2).toNat) (fun i σ' H' => ∃(o:Option V) (left bs:List Int),σ' = [o,some (.ref lf),some (.ref t)]/\left.length+i=8/\bs.length=i/\(∀b∈left,0<=b/\b<8)/\(∀b∈bs,0<=b/\b<8)/\H' lf=some (.lst (left.map V.int))/\H' bx=some (.lst (bs.map V.int))/\Tape H' t (k+2+i)/\Ext [t] H H') ?_ ?_ ?_
  ·refine⟨none,[0,1,2,3,4,5,6,7],[],rfl,rfl,rfl,by decide,(fun _ h=>absurd h (by simp)),?_,qA1,?_,E2.trans (.laid hbx)⟩
   ·rw [qA4 nbl.symm];exact l2
   ·exact T2.ext (ts :=[]) (.laid hbx) (by simp)
  ·rintro i σ' H' R hi ⟨o,left,bs,rfl,hll,hbl,hleft,hbs,hL,hBx,T',E'⟩ hR
   walk_at "rd"
   refine iteT ?_
   walk_at "rd"
   refine qDi hL ?_
   walk_at "rd"
   refine⟨lf,_,rfl,.inl (SqL.of hL),?_⟩
   rw [List.length_map]
   walk_at "rd"
   refine qB5 T' (by omega) (by omega) (by omega) fun r3 H3 a3 b3 T3 e3 k3 => ?_
   have l3:H3 lf=some (.lst (left.map V.int)):=by rw [k3 lf nlt];exact hL
   have b3x:H3 bx=some (.lst (bs.map V.int)):=by rw [k3 bx nbt];exact hBx
   obtain⟨j,rfl⟩:=Int.eq_ofNat_of_zero_le a3
   have hj:j<left.length:=by omega
   walk_at "rd"
   refine⟨lf,left.map V.int,(j:Int),j,V.int left[j],rfl,rfl,l3,by omega,by omega,?_,by rw [List.getElem?_map,List.getElem?_eq_getElem hj];rfl,?_⟩
   ·rw [List.length_map]
    exact qRi hj
   ·refine⟨bs.map V.int,by rw [qA4 nbl];exact b3x,qAb (by rw [List.length_map];omega),hR _ _ ?_⟩
    have hmem:left[j]∈left:=List.getElem_mem hj
    refine⟨_,left.eraseIdx j,bs ++ [left[j]],rfl,?_,?_,fun b hb=>hleft b (List.mem_of_mem_eraseIdx hb),fun b hb => ?_,?_,?_,?_,?_⟩
    ·rw [List.length_eraseIdx,if_pos hj];omega
    ·rw [List.length_append,hbl];rfl
    ·rcases List.mem_append.mp hb with y | y
     ·exact hbs b y
     ·rw [List.mem_singleton.mp y];exact hleft _ hmem
    ·rw [qA4 nbl.symm,qA1,qG4]
    ·rw [qA1,List.map_append];rfl
    ·exact ((T3.ext (ts :=[lf]) (.put (by simp)) (by simpa using nlt.symm)).ext (ts :=[bx]) (.put (by simp)) (by simpa using nbt.symm)).mono (by omega)
    ·have hbx0:H bx=none:=by
      cases z:H bx with
      | none=>rfl
      | some o=>rw [E2 _ _ (by simpa using nbt) z] at hbx;cases hbx
     have E4:Ext [lf,bx,t] H (upd (upd H3 lf (.lst ((left.map V.int).eraseIdx j))) bx (.lst (bs.map V.int ++ [V.int left[j]]))):=(E'.mono (by simp)).trans ((e3.mono (by simp)).trans ((Ext.put (by simp)).trans (.put (by simp))))
     exact (E4.drop hlf0).drop hbx0
  ·rintro σ' H3 ⟨o,left,bs,rfl,hll,hbl,hleft,hbs,hL,hBx,T3,E3⟩
   have hB:BsOk bs:=⟨by omega,by omega,hbs⟩
   walk_at "rd"
   refine⟨len2 (Nat.zero_le _),fun l hl => ?_⟩
   have nlT:l≠t:=T3.ne hl
   have nlb:l≠bx:=(qA2 hBx hl).symm
   have hlH:H l=none:=E3.none (by simpa using nlT) hl
   walk_at "rd"
   refine⟨t,_,m,rfl,T3.ext (ts :=[]) (.laid hl) (by simp),by omega,m1,m2,fun nl nx H4 hnl T4 e4 hNx hDn => ?_⟩
   obtain⟨a,vs,ea,hSq,hDL⟩:=hDn.ofList
   cases ea
   have nnl:nl≠l:=(qA2 qA1 hnl).symm
   have hlen:=hDL.len
   rw [List.length_map] at hlen
   have hnm:(nx.length:Int)=m:=hNx.1
   have l4:H4 l=some (.lst []):=e4 _ _ (by simpa using nlT) qA1
   have E4:Ext [t] H H4:=E3.trans ((Ext.laid hl).trans e4)
   have apart:Same (yo (upd H3 l (.lst [])) [t] H4) (yo (upd H3 l (.lst [])) [l,t] H4):=qKq (H0:=H) (by simp [qA1])
   have hSq4:=Same.seq apart hSq
   have hDL4:=hDL.mono apart
   have bx4:H4 bx=some (.lst (bs.map V.int)):=e4 _ _ (by simpa using nbt) (by rw [qA4 nlb.symm];exact hBx)
   refine⟨nl,rfl,⟨vs,yo_same.seq hSq4⟩,qCy (xs:=vs) (fun i σ' H' => ∃(wk:List Blk) (ws:List V) (o9 o10:Option V),σ' = [some (.ref t),some (.int m),some (.int most),some (.int first),some (.int works),some (.ref lf),some (.int (1+r2)),some (.ref bx),some (.ref l),o9,o10]/\wk.length=i /\
    (∀b∈wk,BlkOk m works b/\b.ds.length<=12)/\Tape H' t (k+45+140*i)/\Ext [l,t] H4 H'/\H' l=some (.lst ws)/\DenEL (yo H [l,t] H') (wk.map blkD) ws) ?_ ?_ ?_ ?_⟩
   ·exact⟨[],[],none,none,rfl,rfl,(fun _ h=>absurd h (by simp)),T4.mono (by omega),.refl _ _,l4,.nil⟩
   ·rintro i σ' H' hi ⟨wk,ws,o9,o10,rfl,hwl,hwk,T',e',hl',hden⟩
    exact yo_same.seq (Same.seq e'.young hSq4)
   ·rintro i x σ' H' hx ⟨wk,ws,o9,o10,rfl,hwl,hwk,T',e',hl',hden⟩ N_ B_ C_ R_ hN_ hC_ hR_
    obtain⟨dd,hdd,hDx⟩:=hDL4.get hx
    have hi:i<vs.length:=(List.getElem?_eq_some_iff.mp hx).1
    obtain⟨ns,hns,rfl⟩ : ∃ns,nx[i]? = some ns/\dd=intsD ns:=by
     rw [List.getElem?_map] at hdd
     cases z:nx[i]? with
     | none=>rw [z] at hdd;cases hdd
     | some n=>rw [z] at hdd;exact⟨n,rfl,(Option.some.inj hdd).symm⟩
    have hok:NsOk m ns:=hNx.2 ns (List.mem_of_getElem? hns)
    obtain⟨c,zs,rfl,hc,hcs⟩:=hDx.ofList
    have hzs:=hcs.ints
    subst hzs
    have hwl':ws.length=i:=by rw [hden.len,List.length_map,hwl]
    have hc':SqL K H' c (ns.map V.int):=yo_same.seq (Same.seq e'.young hc)
    have tail : ∀(en:Addr) (H6:Hp),Ext [] H' H6->H' en=none->DenE (yo H [l,t] H6) (endD ns) (.ref en) -> ∀D:Ends,(∀(H7:Hp) (o9 o10:Option V),(∃(wk:List Blk) (ws:List V) (p9 p10:Option V),[some (V.ref t),some (.int m),some (.int most),some (.int first),some (.int works),some (.ref lf),some (.int (1+r2)),some (.ref bx),some (.ref l),o9,o10] = [some (.ref t),some (.int m),some (.int most),some (.int first),some (.int works),some (.ref lf),some (.int (1+r2)),some (.ref bx),some (.ref l),p9,p10]/\wk.length=i+1 /\
      (∀b∈wk,BlkOk m works b/\b.ds.length<=12)/\Tape H7 t (k+45+140*(i+1))/\Ext [l,t] H4 H7/\H7 l=some (.lst ws)/\DenEL (yo H [l,t] H7) (wk.map blkD) ws)->D.nx [some (V.ref t),some (.int m),some (.int most),some (.int first),some (.int works),some (.ref lf),some (.int (1+r2)),some (.ref bx),some (.ref l),o9,o10] H7) ->
      tDrop (tBM K "list" qHq (tVar 8) (tCons (tTup (tCons (tCall (qFd K) [] E0 (tCons (tVar 0) (tCons (tVar 2) (tCons (tVar 7) (tCons (tVar 3) (tCons (tVar 4) tNil)))))) (tCons (tVar 10) tNil))) tNil)) D [some (V.ref t),some (.int m),some (.int most),some (.int first),some (.int works),some (.ref lf),some (.int (1+r2)),some (.ref bx),some (.ref l),some (.ref c),some (.ref en)] H6:=by
     intro en H6 e6 hen hDe D hD
     have l6:=e6 _ _ (by simp) hl'
     walk_at "rd"
     refine qDi l6 ?_
     walk_at "rd"
     refine⟨t,bx,_,most,first,works,bs,rfl,T'.ext e6 (by simp),by omega,hm1,hm2,hf1,hf2,hw1,hw2,e6 _ _ (by simp) (e' _ _ (by simp [nbt,nlb.symm]) bx4),nbt,hB,fun dl ds H7 hdl T7 e7 hds hdf hDd => ?_⟩
     have l7:=e7 _ _ (by simpa using nlT) l6
     have ndl:dl≠l:=(qA2 l6 hdl).symm
     have EH:Ext [l,t] H H6:=(E4.mono (by simp)).trans (e'.trans (e6.mono (by simp)))
     have hDd':DenE (yo H [l,t] H7) (.list (ds.map deedD)) (.ref dl):=(hDd.mono (qKq (H0:=H) (us :=[l,t]) (by simp [l6]))).mono (qPs EH (by simp))
     walk_at "rd"
     refine⟨len2 (by show 2<=1000;decide),fun p hp => ?_⟩
     have npl:p≠l:=(qA2 l7 hp).symm
     have npt:p≠t:=T7.ne hp
     walk_at "rd"
     refine qDk (by rw [qA4 npl.symm];exact l7) (qAb (by omega)) ?_
     refine hD _ _ _ ⟨wk ++ [⟨ds,ns⟩],ws ++ [.ref p],_,_,rfl,by rw [List.length_append,hwl];rfl,fun b hb => ?_,?_,?_,qA1,?_⟩
     ·rcases List.mem_append.mp hb with y | y
      ·exact hwk b y
      ·rw [List.mem_singleton.mp y];exact⟨⟨hok,hds,Nat.le_trans hdf (by decide)⟩,hdf⟩
     ·exact ((T7.ext (ts :=[]) (.laid hp) (by simp)).ext (ts :=[l]) (.put (by simp)) (by simpa using nlT.symm)).mono (by omega)
     ·exact e'.trans ((e6.mono (by simp)).trans ((e7.mono (by simp)).trans ((Ext.laid hp).trans (.put (by simp)))))
     ·have E7:Ext [l,t] H7 (upd (upd H7 p (.tup [.ref dl,.ref en])) l (.lst (ws ++ [.ref p]))):=(Ext.laid hp).trans (.put (by simp))
      have E67:Ext [l,t] H6 (upd (upd H7 p (.tup [.ref dl,.ref en])) l (.lst (ws ++ [.ref p]))):=(e7.mono (by simp)).trans E7
      rw [List.map_append]
      refine DenEL.append (hden.mono ((e6.mono (by simp)).trans E67).young) (.cons (.tuple ?_ (.cons (hDd'.mono E7.young) (.cons (hDe.mono E67.young) .nil))) .nil)
      rw [qAv ((EH.trans (e7.mono (by simp))).none (by simp [npl,npt]) hp) (by simp [npl,npt]),qA4 npl,qA1]
    have nT : ∀ {en:Addr},H' en=none->en≠t/\en≠l/\H en=none:=fun {en} h=>by
     have a1:=T'.ne h
     have a2:=(qA2 hl' h).symm
     exact⟨a1,a2,((E4.mono (us :=[l,t]) (by simp)).trans e').none (by simp [a1,a2]) h⟩
    walk_at "rd"
    refine⟨len2 (Nat.zero_le _),fun e0 he0 => ?_⟩
    have E0:Ext [] H' (upd H' e0 (.lst [])) :=.laid he0
    have hc0:SqL K (upd H' e0 (.lst [])) c (ns.map V.int):=Same.seq (fun b o h=>E0 b o (by simp) h) hc'
    rcases hok with h | ⟨x,h,_⟩ | ⟨x,y,h,_⟩
    ·subst h
     refine⟨intsD [],.list [],.list hc0 (DenL.ofInts []),.list (SqL.of qA1) .nil,rfl,rfl,?_⟩
     walk_at "rd"
     refine iteT ?_
     walk_at "rd"
     refine⟨len2 (by show 1<=1000;decide),fun en hen => ?_⟩
     have hen':=E0.none (by simp) hen
     obtain⟨z1,z2,z3⟩:=nT hen'
     refine qM7 (tail en _ (E0.trans (.laid hen)) hen' (.tuple ?_ (.cons .str .nil)) _ fun H7 o9 o10 h=>hN_ _ _ h)
     rw [qAv z3 (by simp [z1,z2]),qA1]
    ·subst h
     refine⟨intsD [x],.list [],.list hc0 (DenL.ofInts [x]),.list (SqL.of qA1) .nil,rfl,rfl,?_⟩
     walk_at "rd"
     refine iteF ?_
     walk_at "rd"
     refine⟨c,_,rfl,.inl hc0,?_⟩
     walk_at "rd"
     refine qCu ?_
     walk_at "rd"
     refine iteT ?_
     walk_at "rd"
     refine⟨len2 (by show 2<=1000;decide),fun en hen => ?_⟩
     have hen':=E0.none (by simp) hen
     obtain⟨z1,z2,z3⟩:=nT hen'
     refine qM7 (tail en _ (E0.trans (.laid hen)) hen' (.tuple ?_ (.cons .str (.cons .int .nil))) _ fun H7 o9 o10 h=>hN_ _ _ h)
     rw [qAv z3 (by simp [z1,z2]),qA1]
    ·subst h
     refine⟨intsD [x,y],.list [],.list hc0 (DenL.ofInts [x,y]),.list (SqL.of qA1) .nil,rfl,rfl,?_⟩
     walk_at "rd"
     refine iteF ?_
     walk_at "rd"
     refine⟨c,_,rfl,.inl hc0,?_⟩
     walk_at "rd"
     refine qCu ?_
     walk_at "rd"
     refine iteF ?_
     walk_at "rd"
     refine⟨len2 (by show 3<=1000;decide),fun en hen => ?_⟩
     have hen':=E0.none (by simp) hen
     obtain⟨z1,z2,z3⟩:=nT hen'
     refine qM7 (tail en _ (E0.trans (.laid hen)) hen' (.tuple ?_ (.cons .str (.cons .int (.cons .int .nil)))) _ fun H7 o9 o10 h=>hN_ _ _ h)
     rw [qAv z3 (by simp [z1,z2]),qA1]
   ·rintro σ' H' ⟨wk,ws,o9,o10,rfl,hwl,hwk,T',e',hl',hden⟩
    walk_at "rd"
    have EH:Ext [l,t] H H':=(E4.mono (by simp)).trans e'
    exact q l wk ws H' hlH nlT (T'.mono (by omega)) (EH.drop hlH) ⟨by omega,fun b hb=>(hwk b hb).1⟩ (fun b hb=>(hwk b hb).2) hl' hden
end
section
variable {P:Program} {w:World} {K:PySem.W.Frag} {mg:Str->Option Value} {base:Heap}
abbrev sSize:Stmt:=top 13
theorem qU6:FnScope ["_law_works_here"] ["_law_works_here"] (qA8 sSize):=⟨rfl,rfl,rfl,by decide +kernel,rfl,by decide +kernel,by decide +kernel⟩
theorem qT3 {f:Addr} {fd:FuncData} (F:Fun K "_law_size" "_law_size" sSize f fd) (nsum:mg "sum" = none) (nlen:mg "len" = none):FnOk P w K mg base CX0 1 f fd ["_law_works_here"] (qNd K):=by
 have nd2:((["_law_deeds_here","_law_end"]:List Str)).Nodup:=by decide
 refine F.ok qU6 (fun vs H Q E h => ?_) (fun cdv A outer s H vs Q E hr h => ?_)
 ·obtain⟨wa,ws,rfl,_⟩:=h
  rfl
 ·obtain⟨wa,ws,rfl,hW,hl25,hl12,q⟩:=h
  refine⟨_,qA9 (qAw (qAc (qJl hr.hd) (by rfl) nsum PyProof.Rows.boot_sum (qA0 (qDu ["_law_work_here"] [] rfl (.of rfl) (qBd (pv 0)) (fun _ _ _ _=>qAa (i:=0) (by show ((["_law_work_here"]:List Str)).Nodup;decide) rfl (Or.inl rfl)) (fun _ _ _ _ =>.nil)
   (fun _ _ _ _=>qAc (sumK K rfl hr.hd) (by rfl) nsum PyProof.Rows.boot_sum (qA0 (qDu ["_law_deeds_here","_law_end"] [] rfl (.of rfl) (qHu K rfl (pv 0)) (fun _ _ _ _=>qHv (n:=2) K rfl rfl (qAp (qAa (i:=0) nd2 rfl (Or.inl rfl)) (qAp (qAa (i:=1) nd2 rfl (Or.inl rfl)) qC1))) (fun _ _ _ _ =>.nil) (fun _ _ _ _=>qAc (qLe K rfl) (by rfl) nlen PySem.boot_len (qA0 (pv 0) qA3))) qA3))) qA3))),?_⟩
  dsimp only [qBx,qBp]
  obtain⟨wa',vs,ea,hSq,hDL⟩:=hW.ofList
  cases ea
  have hvl:vs.length=ws.length:=by rw [hDL.len,List.length_map]
  walk_at "rd"
  refine⟨wa,rfl,⟨vs,hSq⟩,fun l hl => ?_⟩
  refine qB3 (xs:=vs) (fun i σ' G => ∃(o0:Option V) (ns:List Int),σ' = [o0]/\Ext [l] H G/\G l=some (.lst (ns.map V.int))/\ns.length=i) ?_ ?_ ?_ ?_
  ·exact⟨none,[],rfl,.laid hl,qA1,rfl⟩
  ·rintro i σ' G hi ⟨o0,ns,rfl,eG,hlG,hn⟩
   exact (eG.drop hl).toSame.seq hSq
  ·rintro i v σ' G R hv ⟨o0,ns,rfl,eG,hlG,hn⟩ hR
   obtain⟨dd,hdd,hDv⟩:=hDL.get hv
   obtain⟨wk,hwk,rfl⟩:=qBc hdd
   have hil:i<ws.length:=(List.getElem?_eq_some_iff.mp hwk).1
   obtain⟨wb,bs,rfl,hbs,hdbs⟩:=hDv.ofList
   have hbl:bs.length=wk.length:=by rw [hdbs.len,List.length_map]
   have h12:=hl12 wk (List.mem_of_getElem? hwk)
   have EG:=eG.drop hl
   walk_at "rd"
   refine iteT ?_
   walk_at "rd"
   refine⟨wb,rfl,⟨bs,EG.toSame.seq hbs⟩,fun l2 hl2 => ?_⟩
   have nl2:l≠l2:=qA2 hlG hl2
   refine qB3 (xs:=bs) (fun j σ' G2 => ∃(o0 o1:Option V) (ms:List Int),σ' = [o0,o1]/\Ext [l2] G G2/\G2 l2=some (.lst (ms.map V.int))/\ms.length=j) ?_ ?_ ?_ ?_
   ·exact⟨none,none,[],rfl,.laid hl2,qA1,rfl⟩
   ·rintro j σ' G2 hj ⟨o0,o1,ms,rfl,e2,hl22,hm⟩
    exact (e2.drop hl2).toSame.seq (EG.toSame.seq hbs)
   ·rintro j v σ' G2 R hv ⟨o0,o1,ms,rfl,e2,hl22,hm⟩ hR
    obtain⟨dd,hdd,hDv⟩:=hdbs.get hv
    obtain⟨b,hb,rfl⟩:=qBc hdd
    have hjl:j<wk.length:=(List.getElem?_eq_some_iff.mp hb).1
    obtain⟨c,cs,rfl,hc,hcs⟩:=hDv.ofTuple
    obtain⟨vd,q1,rfl,hd1,hr1⟩:=hcs.ofCons
    obtain⟨ve,q2,rfl,hd2,hr2⟩:=hr1.ofCons
    have hr2:=hr2.ofNil
    subst hr2
    obtain⟨dl,dvs,rfl,hdl,hdvs⟩:=hd1.ofList
    have E2:=EG.trans (e2.drop hl2)
    refine qCt (E2.toSame.seqT hc) rfl ?_
    walk_at "rd"
    refine iteT ?_
    walk_at "rd"
    refine⟨dl,dvs,rfl,.inl (E2.toSame.seq hdl),?_⟩
    refine⟨_,hl22,qAb (by rw [List.length_map];omega),hR _ _ ⟨_,_,ms ++ [(dvs.length:Int)],rfl,e2.trans (.put (by simp)),?_,by simp [hm]⟩⟩
    rw [qA1,List.map_append];rfl
   ·rintro σ' G2 ⟨o0,o1,ms,rfl,e2,hl22,hm⟩
    walk_at "rd"
    refine⟨l2,ms,rfl,SqL.of hl22,?_⟩
    have E2:=e2.drop hl2
    refine⟨_,E2 _ _ (by simp) hlG,qAb (by rw [List.length_map];omega),hR _ _ ⟨_,ns ++ [ms.sum],rfl,(eG.trans (E2.mono (by simp))).trans (.put (by simp)),?_,by simp [hn]⟩⟩
    rw [qA1,List.map_append];rfl
  ·rintro σ' G ⟨o0,ns,rfl,eG,hlG,hn⟩
   walk_at "rd"
   refine⟨l,ns,rfl,SqL.of hlG,?_⟩
   exact q _ G (eG.drop hl)
end
section
variable {P:Program} {w:World} {K:PySem.W.Frag} {mg:Str->Option Value} {base:Heap}
abbrev sSlim:Stmt:=top 14
theorem qU5:FnScope ["_law_works_here"] ["_law_works_here"] (qA8 sSlim):=⟨rfl,rfl,rfl,by decide +kernel,rfl,by decide +kernel,by decide +kernel⟩
theorem qJf (xs:List V) (n:Nat):cutV xs none (some (n:Int))=xs.take n:=by
 unfold cutV
 rw [HT.sIx_none,HT.sIx_nat,List.drop_zero,Nat.sub_zero]
 by_cases h:n<=xs.length
 ·rw [Nat.min_eq_left h]
 ·rw [Nat.min_eq_right (by omega),List.take_of_length_le (Nat.le_refl _),List.take_of_length_le (by omega)]
theorem qR9 (xs:List V) (n:Nat):cutV xs (some (n:Int)) none=xs.drop n:=by
 unfold cutV
 rw [HT.sIx_none,HT.sIx_nat]
 by_cases h:n<=xs.length
 ·rw [Nat.min_eq_left h,List.take_of_length_le (by rw [List.length_drop];omega)]
 ·rw [Nat.min_eq_right (by omega),Nat.sub_self,List.take_zero,List.drop_of_length_le (by omega)]
theorem dtake {G:Hp} : ∀ {ds:List PyData} {vs:List V} (n:Nat),DenEL G ds vs->DenEL G (ds.take n) (vs.take n)
 | [],vs,n,h=>by have:=h.ofNil;subst this;simpa using DenEL.nil
 | d::ds,vs,0,h=>by simpa using DenEL.nil
 | d::ds,vs,n+1,h=>by
  obtain⟨v,r,rfl,h1,h2⟩:=h.ofCons
  exact .cons h1 (dtake n h2)
theorem ddrop {G:Hp} : ∀ {ds:List PyData} {vs:List V} (n:Nat),DenEL G ds vs->DenEL G (ds.drop n) (vs.drop n)
 | [],vs,n,h=>by have:=h.ofNil;subst this;simpa using DenEL.nil
 | d::ds,vs,0,h=>h
 | d::ds,vs,n+1,h=>by
  obtain⟨v,r,rfl,h1,h2⟩:=h.ofCons
  exact ddrop n h2
theorem qT2 {f:Addr} {fd:FuncData} (F:Fun K "_law_slim" "_law_slim" sSlim f fd) (hSz:Has P w K mg base "_law_size" 1 ["_law_works_here"] (qNd K)):FnOk P w K mg base CX0 2 f fd ["_law_works_here"] (qK1 K):=by
 have nd2:((["_law_deeds_here","_law_end"]:List Str)).Nodup:=by decide
 refine F.ok qU5 (fun vs H Q E h => ?_) (fun cdv A outer s H vs Q E hr h => ?_)
 ·obtain⟨wa,ws,rfl,_⟩:=h
  rfl
 ·obtain⟨wa,ws,rfl,hW,hok,q⟩:=h
  refine⟨_,qA7 (qDl (qAe qWb (qAr hSz hr (by decide) (qA0 (pv 0) qA3)) qA6 (qAm _)) (qA9 (qAw (pv 0))) qBv)
   (qA9 (qAw (qAq qG0 (qC4 qK6 (pv 0) qCw (qCv qA6)) (qDu ["_law_work_here"] [] rfl (.of rfl) (qBd (qC4 qK6 (pv 0) (qCv qA6) qCw)) (fun _ _ _ _=>qAa (i:=0) (by show ((["_law_work_here"]:List Str)).Nodup;decide) rfl (Or.inl rfl)) (fun _ _ _ _ =>.nil)
    (fun _ _ _ _=>qDu ["_law_deeds_here","_law_end"] [] rfl (.of rfl) (qHu K rfl (pv 0)) (fun _ _ _ _=>qHv (n:=2) K rfl rfl (qAp (qAa (i:=0) nd2 rfl (Or.inl rfl)) (qAp (qAa (i:=1) nd2 rfl (Or.inl rfl)) qC1))) (fun _ _ _ _ =>.nil) (fun _ _ _ _=>qB9 (qA0 (qC4 (qQ1 K rfl) (pv 0) qCw (qCv qA6)) (qA0 (pv 1) qA3)))))))),?_⟩
  dsimp only [qBx,qBp]
  obtain⟨wa',vs,ea,hSq,hDL⟩:=hW.ofList
  cases ea
  have hvl:vs.length=ws.length:=by rw [hDL.len,List.length_map]
  have hfew:=hok.few
  walk_at "rd"
  refine⟨wa,ws,rfl,hW.den,hok.few,fun w hw=>by obtain⟨m,h1,h2,h3⟩:=hok.all w hw;have:=h3.len;omega,fun r H1 e1 => ?_⟩
  walk_at "rd"
  refine ite2 (fun _ => ?_) (fun _ => ?_)
  ·walk_at "rd"
   exact q wa ws H1 e1 (hW.mono e1.toSame) hok rfl
  ·walk_at "rd"
   refine⟨1,rfl,?_⟩
   refine⟨wa,vs,rfl,e1.toSame.seq hSq,fun l1 hl1 => ?_⟩
   rw [show (1:Int)=((1:Nat):Int) from rfl,qJf]
   have e2:Ext [] H1 (upd H1 l1 (.lst (vs.take 1))) :=.laid hl1
   have hl12:upd H1 l1 (.lst (vs.take 1)) l1=some (.lst (vs.take 1)):=qA1
   generalize upd H1 l1 (.lst (vs.take 1))=H2 at e2 hl12 ⊢
   walk_at "rd"
   refine⟨1,rfl,?_⟩
   walk_at "rd"
   refine⟨wa,vs,rfl,(e1.trans e2).toSame.seq hSq,fun l2 hl2 => ?_⟩
   rw [show (1:Int)=((1:Nat):Int) from rfl,qR9]
   have e3:Ext [] H2 (upd H2 l2 (.lst (vs.drop 1))) :=.laid hl2
   have hl23:upd H2 l2 (.lst (vs.drop 1)) l2=some (.lst (vs.drop 1)):=qA1
   generalize upd H2 l2 (.lst (vs.drop 1))=H3 at e3 hl23 ⊢
   have E3:=e1.trans (e2.trans e3)
   have hD3:DenEL H ((ws.drop 1).map workD) (vs.drop 1):=by rw [List.map_drop];exact ddrop 1 hDL
   have hdl:(vs.drop 1).length=(ws.drop 1).length:=by rw [List.length_drop,List.length_drop,hvl]
   refine⟨l2,rfl,⟨_,SqL.of hl23⟩,fun l hl => ?_⟩
   have nl2:l2≠l:=qA2 hl23 hl
   refine qB3 (xs:=vs.drop 1) (fun i σ' G => ∃(o0:Option V) (us:List V),σ' = [o0]/\Ext [l] H3 G/\G l=some (.lst us)/\DenEL (wo [l] G) (((ws.drop 1).take i).map fun w=>workD (w.map slimB)) us) ?_ ?_ ?_ ?_
   ·exact⟨none,[],rfl,.laid hl,qA1,.nil⟩
   ·rintro i σ' G hi ⟨o0,us,rfl,eG,hlG,hus⟩
    exact SqL.of (eG _ _ (by simpa using nl2) hl23)
   ·rintro i v σ' G R hv ⟨o0,us,rfl,eG,hlG,hus⟩ hR
    obtain⟨dd,hdd,hDv⟩:=hD3.get hv
    obtain⟨wk,hwk,rfl⟩:=qBc hdd
    have hil:i<(ws.drop 1).length:=(List.getElem?_eq_some_iff.mp hwk).1
    rw [List.length_drop] at hil
    obtain⟨wb,bs,rfl,hbs,hdbs⟩:=hDv.ofList
    have hbl:bs.length=wk.length:=by rw [hdbs.len,List.length_map]
    obtain⟨m,hm1,hm2,hWk⟩:=hok.all wk (List.mem_of_mem_drop (List.mem_of_getElem? hwk))
    have hwm:=hWk.len
    have EG:=eG.drop hl
    have EHG:=E3.trans EG
    have hul:us.length=i:=by rw [hus.len,List.length_map,List.length_take,List.length_drop];omega
    walk_at "rd"
    refine iteT ?_
    walk_at "rd"
    refine⟨wb,rfl,⟨bs,EHG.toSame.seq hbs⟩,fun le hle => ?_⟩
    have nle:l≠le:=qA2 hlG hle
    refine qB3 (xs:=bs) (fun j σ' G2 => ∃(o0 o1:Option V) (ts:List V),σ' = [o0,o1]/\Ext [le] G G2/\G2 le=some (.lst ts)/\DenEL (wo [l,le] G2) ((wk.take j).map fun b=>blkD (slimB b)) ts) ?_ ?_ ?_ ?_
    ·exact⟨none,none,[],rfl,.laid hle,qA1,.nil⟩
    ·rintro j σ' G2 hj ⟨o0,o1,ts,rfl,e4,hle4,hts⟩
     exact (e4.drop hle).toSame.seq (EHG.toSame.seq hbs)
    ·rintro j v σ' G2 R hv ⟨o0,o1,ts,rfl,e4,hle4,hts⟩ hR
     obtain⟨dd,hdd,hDv⟩:=hdbs.get hv
     obtain⟨b,hb,rfl⟩:=qBc hdd
     have hjl:j<wk.length:=(List.getElem?_eq_some_iff.mp hb).1
     obtain⟨c,cs,rfl,hc,hcs⟩:=hDv.ofTuple
     obtain⟨vd,q1,rfl,hd1,hr1⟩:=hcs.ofCons
     obtain⟨ve,q2,rfl,hd2,hr2⟩:=hr1.ofCons
     have hr2:=hr2.ofNil
     subst hr2
     obtain⟨dl,dvs,rfl,hdl,hdvs⟩:=hd1.ofList
     have E4:=EHG.trans (e4.drop hle)
     have htl:ts.length=j:=by rw [hts.len,List.length_map,List.length_take];omega
     refine qCt (E4.toSame.seqT hc) rfl ?_
     walk_at "rd"
     refine iteT ?_
     walk_at "rd"
     refine⟨2,rfl,?_⟩
     refine⟨dl,dvs,rfl,E4.toSame.seq hdl,fun l5 hl5 => ?_⟩
     rw [show (2:Int)=((2:Nat):Int) from rfl,qJf]
     have hl4:G2 l=some (.lst us):=e4 _ _ (by simpa using nle) hlG
     have n5:l5≠l:=(qA2 hl4 hl5).symm
     have n5e:l5≠le:=(qA2 hle4 hl5).symm
     walk_at "rd"
     refine⟨len2 (by show 2<=1000;decide),fun p5 hp5 => ?_⟩
     have n55:l5≠p5:=qA2 qA1 hp5
     have np5l:p5≠l:=(qA2 (o :=.lst us) (by rw [qA4 n5.symm];exact hl4) hp5).symm
     have np5e:p5≠le:=(qA2 (o :=.lst ts) (by rw [qA4 n5e.symm];exact hle4) hp5).symm
     have e5:Ext [] G2 (upd (upd G2 l5 (.lst (dvs.take 2))) p5 (.tup [.ref l5,ve])):=(Ext.laid hl5).trans (.laid hp5)
     refine⟨ts,e5 _ _ (by simp) hle4,qAb (by omega),hR _ _ ⟨_,_,ts ++ [.ref p5],rfl,e4.trans ((e5.mono (by simp)).trans (.put (by simp))),qA1,?_⟩⟩
     rw [qB6 hb,List.map_append]
     have eF:Ext [l,le] G2 (upd (upd (upd G2 l5 (.lst (dvs.take 2))) p5 (.tup [.ref l5,ve])) le (.lst (ts ++ [.ref p5]))):=(e5.mono (by simp)).trans (.put (by simp))
     have old:Same H (wo [l,le] (upd (upd (upd G2 l5 (.lst (dvs.take 2))) p5 (.tup [.ref l5,ve])) le (.lst (ts ++ [.ref p5])))):=fun a o z=>by
      have ha1:a≠l:=fun y=>by rw [y] at z;have:=E3 _ _ (by simp) z;rw [hl] at this;cases this
      have ha2:a≠le:=fun y=>by rw [y] at z;have:=EHG _ _ (by simp) z;rw [hle] at this;cases this
      rw [qCo (by simp [ha1,ha2])]
      exact eF _ _ (by simp [ha1,ha2]) (E4 _ _ (by simp) z)
     refine DenEL.append (hts.mono eF.same) (.cons (.tuple (vs :=[.ref l5,ve]) ?_ (.cons (.list (vs:=dvs.take 2) ?_ ?_) (.cons (hd2.mono old) .nil))) .nil)
     ·rw [qCo (by simp [np5l,np5e]),qA4 np5e,qA1]
     ·rw [qCo (by simp [n5,n5e]),qA4 n5e,qA4 n55,qA1]
     ·show DenEL _ ((b.ds.take 2).map deedD) _
      rw [List.map_take]
      exact dtake 2 (hdvs.mono old)
    ·rintro σ' G2 ⟨o0,o1,ts,rfl,e4,hle4,hts⟩
     rw [hbl,List.take_length] at hts
     have E4:=e4.drop hle
     have hl4:=E4 _ _ (by simp) hlG
     refine⟨us,hl4,qAb (by omega),hR _ _ ⟨_,us ++ [.ref le],rfl,(eG.trans (E4.mono (by simp))).trans (.put (by simp)),qA1,?_⟩⟩
     have hs:Same (wo [l] G2) (wo [l] (upd G2 l (.lst (us ++ [.ref le])))):=(Ext.put (ts :=[l]) (by simp)).same
     rw [qB6 hwk,List.map_append]
     refine DenEL.append ((hus.mono (E4.mono (us :=[l]) (by simp)).same).mono hs) (.cons (.list (vs:=ts) ?_ ?_) .nil)
     ·rw [qCo (by simpa using nle.symm),qA4 nle.symm];exact hle4
     ·rw [List.map_map]
      exact (hts.mono (qSf (by intro z hz;simp at hz;simp [hz]))).mono hs
   ·rintro σ' G ⟨o0,us,rfl,eG,hlG,hus⟩
    rw [hdl,List.take_length] at hus
    have EG:=eG.drop hl
    have hul:us.length=(ws.drop 1).length:=by rw [hus.len,List.length_map]
    rw [List.length_drop] at hul
    refine⟨l1,l,vs.take 1,us,rfl,rfl,(e3.trans EG) _ _ (by simp) hl12,hlG,len2 (by rw [List.length_take];omega),fun lr hlr => ?_⟩
    have EF:Ext [] H (upd G lr (.lst (vs.take 1++us))):=(E3.trans EG).trans (.laid hlr)
    refine q lr (qGp ws) _ EF (.list qA1 ?_) (qSa hok) (qFe ws)
    unfold qGp
    rw [List.map_append,List.map_take,List.map_map]
    exact DenEL.append ((dtake 1 hDL).mono EF.toSame) ((hus.mono (qJx _ _)).mono (Ext.laid (ts :=[]) hlr).toSame)
end
section
variable {P:Program} {w:World} {K:PySem.W.Frag} {mg:Str->Option Value} {base:Heap}
abbrev qGr:Stmt:=top 15
theorem scWorks:FnScope ["_law_tape_here","_law_most","_law_works_here","_law_found","_law_first","_law_many_here"] ["_law_tape_here","_law_most"] (qA8 qGr):=⟨rfl,rfl,rfl,by decide +kernel,rfl,by decide +kernel,by decide +kernel⟩
theorem qQh {f:Addr} {fd:FuncData} (F:Fun K "_law_works" "_law_works" qGr f fd) (nrange:mg "range" = none) (nint:mg "int" = none) (hD:Has P w K mg base "_law_draw" 1 ["_law_tape_here","_law_many_here"] qDm)
  (hM:Has P w K mg base "_law_many" 2 ["_law_tape_here"] qNf) (hW:Has P w K mg base "_law_work" 4 ["_law_tape_here","_law_many_here","_law_most","_law_first","_law_works_here"] (qK0 K)) (hS:Has P w K mg base "_law_slim" 2 ["_law_works_here"] (qK1 K)) :
  FnOk P w K mg base CX0 5 f fd ["_law_tape_here","_law_most"] (qHi K):=by
 refine F.ok scWorks (fun vs H Q E h => ?_) (fun cdv A outer s H vs Q E hr h => ?_)
 ·obtain⟨t,k,most,rfl,_⟩:=h
  rfl
 ·obtain⟨t,k,most,rfl,hT,hk,hm1,hm2,q⟩:=h
  refine⟨_,qA7 (qAn (i:=2) scWorks.nd rfl (Or.inl rfl) (qAu qAl (qAs (qA0 (qAq qBa qA6 (qAr hD hr (by decide) (qA0 (pv 0) (qA0 qA6 qA3)))) (qA0 (qAq qBa qA6 (qAr hD hr (by decide) (qA0 (pv 0) (qA0 qA6 qA3)))) qA3)))
    (qB0 qCc (by rfl) nint PyProof.Rows.boot_int (qA0 (qBe qC9 (qAr hD hr (by decide) (qA0 (pv 0) (qA0 qA6 qA3))) qA6 (qAm _)) qA3)) (fun _ _=>rfl)))
   (qA7 (qAn (i:=3) scWorks.nd rfl (Or.inl rfl) (qAs qA3))
   (qA7 (qC3 PassesOwn.never rfl (qBk rfl nrange (qA0 (pv 2) qA3)) (qAa (i:=4) scWorks.nd rfl (Or.inl rfl))
    (qA7 (qAn (i:=5) scWorks.nd rfl (Or.inl rfl) (qC5 (qAe qO8 (pv 2) qA6 (qAm _)) (qAr hM hr (by decide) (qA0 (pv 0) qA3)) (qAq qBa qA6 (qAr hD hr (by decide) (qA0 (pv 0) (qA0 qA6 qA3))))))
    (qA9 (qBw (qE6 PySem.F.plainAttrs_list PySem.F.slot_list_append PySem.F.type_list_append qBg (pv 3) (qA0 (qAr hW hr (by decide) (qA0 (pv 0) (qA0 (pv 5) (qA0 (pv 1) (qA0 (pv 4) (qA0 (pv 2) qA3)))))) qA3))))))
   (qA9 (qAw (qAr hS hr (by decide) (qA0 (pv 3) qA3)))))),?_⟩
  dsimp only [qBx]
  walk_at "rd"
  refine qB5 hT (by omega) (by decide) (by decide) fun r1 H1 a1 b1 T1 e1 _ => ?_
  walk_at "rd"
  refine qB5 T1 (by omega) (by decide) (by decide) fun r2 H2 a2 b2 T2 e2 _ => ?_
  walk_at "rd"
  refine⟨len2 (by show 2<=1000;decide),fun p hp => ?_⟩
  have np:p≠t:=T2.ne hp
  walk_at "rd"
  refine qB5 (T2.ext (.laid (ts :=[]) hp) (by simp)) (by omega) (by decide) (by decide) fun r3 H3 a3 b3 T3 e3 k3 => ?_
  walk_at "rd"
  refine qCu ?_
  walk_at "rd"
  refine .inr ⟨_,rfl,?_⟩
  have e4:Ext [t] H H3:=(e1.trans e2).trans ((Ext.laid hp).trans e3)
  have hL:SqL K H3 p [V.int (1+r1),V.int (5+r2)]:=SqL.of (by rw [k3 p np,qA1])
  obtain⟨n,hn1,hn2,en⟩ : ∃n:Int,1<=n/\n<=10/\atI [V.int (1+r1),V.int (5+r2)] (if decide (r3=0)=true then (1:Int) else 0)=some (.int n):=by
   cases c:decide (r3=0) with
   | true=>exact⟨5+r2,by omega,by omega,rfl⟩
   | false=>exact⟨1+r1,by omega,by omega,rfl⟩
  refine qBt hL en ?_
  clear en hL k3 e3 hp np
  walk_at "rd"
  refine⟨len2 (Nat.zero_le _),fun l hl => ?_⟩
  have nlt:l≠t:=T3.ne hl
  have hlH:H l=none:=e4.none (by simpa using nlt) hl
  walk_at "rd"
  refine⟨n,rfl,by omega,by omega,qCa (lo:=0) (n:=n.toNat) (fun i σ' H' => ∃(as:List Addr) (ws:List (List Blk)) (o4 o5:Option V),σ' = [some (.ref t),some (.int most),some (.int n),some (.ref l),o4,o5]/\as.length=i/\(∀w∈ws,∃m:Int,1<=m/\m<=12/\WorkOk m n w)/\(∀w∈ws,∀b∈w,b.ds.length<=12) /\
   l∉as/\(∀a∈as,H a=none/\a≠t)/\as.Nodup/\Tape H' t (k+3+2003*i)/\Ext [l,t] H3 H'/\H' l=some (.lst (as.map V.ref))/\WorksE (yo H (l::t::as) H') H' as ws) ?_ ?_ ?_⟩
  ·exact⟨[],[],_,_,rfl,rfl,by simp,by simp,by simp,by simp,.nil,T3.ext (ts :=[]) (.laid hl) (by simp),.laid hl,qA1,.nil⟩
  ·rintro i σ' H' hi ⟨as,ws,o4,o5,rfl,hal,hws,hfew,hla,has,hnd,T',e',hl',hA⟩ N_ B_ C_ R_ hN_ hC_ hR_
   have hin:i<10:=by omega
   have EH:Ext [l,t] H H':=(e4.mono (by simp)).trans e'
   walk_at "rd"
   have fin : ∀(m:Int) (H5 H6:Hp) (a:Addr) (w1:List Blk) (bs:List V),1<=m->m<=12->Ext [t] H' H5->H5 a=none->a≠t->Tape H6 t (k+3+2003*(i+1))->Ext [t] H5 H6->WorkOk m n w1->(∀b∈w1,b.ds.length<=12)->H6 a=some (.lst bs)->DenEL (yo H5 [a,t] H6) (w1.map blkD) bs -> ∀o4 o5:Option V,
     H6 l=some (.lst (as.map V.ref)) /\ ∃(as':List Addr) (ws':List (List Blk)) (o4' o5':Option V),[some (V.ref t),some (.int most),some (.int n),some (.ref l),o4,o5] = [some (V.ref t),some (.int most),some (.int n),some (.ref l),o4',o5']/\as'.length=i+1/\(∀w∈ws',∃m:Int,1<=m/\m<=12/\WorkOk m n w)/\(∀w∈ws',∀b∈w,b.ds.length<=12) /\
     l∉as'/\(∀a∈as',H a=none/\a≠t)/\as'.Nodup/\Tape (upd H6 l (.lst (as.map V.ref ++ [V.ref a]))) t (k+3+2003*(i+1))/\Ext [l,t] H3 (upd H6 l (.lst (as.map V.ref ++ [V.ref a])))/\(upd H6 l (.lst (as.map V.ref ++ [V.ref a]))) l=some (.lst (as'.map V.ref))/\WorksE (yo H (l::t::as') (upd H6 l (.lst (as.map V.ref ++ [V.ref a])))) (upd H6 l (.lst (as.map V.ref ++ [V.ref a]))) as' ws':=by
    intro m H5 H6 a w1 bs hm1 hm2 e5 ha nat T6 e6 hw1 hf1 hba hden o4 o5
    have l5:H5 l=some (.lst (as.map V.ref)):=e5 _ _ (by simpa using nlt) hl'
    have l6:H6 l=some (.lst (as.map V.ref)):=e6 _ _ (by simpa using nlt) l5
    have nal:a≠l:=(qA2 l5 ha).symm
    have haH':H' a=none:=e5.none (by simpa using nat) ha
    have haH:H a=none:=EH.none (by simp [nal,nat]) haH'
    have naas:a∉as:=fun hm=>by
     obtain⟨j,hj,e⟩:=List.getElem_of_mem hm
     obtain⟨_,bs',_,hb',_⟩:=hA.get (i:=j) (a:=a) (by rw [List.getElem?_eq_getElem hj,e])
     rw [haH'] at hb';cases hb'
    have E6:Ext [l,t] H' (upd H6 l (.lst (as.map V.ref ++ [V.ref a]))):=(e5.mono (by simp)).trans ((e6.mono (by simp)).trans (.put (by simp)))
    refine⟨l6,as ++ [a],ws ++ [w1],o4,o5,rfl,by rw [List.length_append,hal];rfl,?_,?_,by simp [hla,nal.symm],?_,?_,?_,e'.trans E6,by rw [qA1,List.map_append];rfl,?_⟩
    ·intro w hw
     rcases List.mem_append.mp hw with z | z
     ·exact hws w z
     ·rw [List.mem_singleton.mp z];exact⟨m,hm1,hm2,hw1⟩
    ·intro w hw
     rcases List.mem_append.mp hw with z | z
     ·exact hfew w z
     ·rw [List.mem_singleton.mp z];exact hf1
    ·intro b hb
     rcases List.mem_append.mp hb with z | z
     ·exact has b z
     ·rw [List.mem_singleton.mp z];exact⟨haH,nat⟩
    ·exact List.nodup_append.mpr ⟨hnd,by simp,by intro x hx y hy;simp at hy;subst hy;intro e;subst e;exact naas hx⟩
    ·exact T6.ext (ts :=[l]) (.put (by simp)) (by simpa using nlt.symm)
    ·have key:Same (yo H (l::t::as) H') (yo H (l::t::(as ++ [a])) (upd H6 l (.lst (as.map V.ref ++ [V.ref a])))):=fun b o e=>by
      obtain⟨h1,h2,h3⟩:=qCd e
      have nb:b≠a:=fun z=>by rw [z,haH'] at h3;cases h3
      have h2':b ∉ [l,t]:=fun z=>h2 (by rcases List.mem_cons.mp z with z | z <;> simp_all)
      rw [qAv h1 (fun z=>h2 (by
       rcases List.mem_cons.mp z with z | z
       ·simp [z]
       ·rcases List.mem_cons.mp z with z | z
        ·simp [z]
        ·rcases List.mem_append.mp z with z | z
         ·simp [z]
         ·exact absurd (by simpa using z) nb))]
      exact E6 _ _ h2' h3
     refine (hA.mono key fun b hb o e => ?_).snoc (bs:=bs) ?_ (hden.mono fun b o e => ?_)
     ·have nbl:b≠l:=fun z=>hla (z▸hb)
      exact E6 _ _ (by simp [nbl,(has b hb).2]) e
     ·rw [qA4 nal];exact hba
     ·obtain⟨h1,h2,h3⟩:=qCd e
      have nbl:b≠l:=fun z=>by rw [z,l5] at h1;cases h1
      have nbt:b≠t:=fun z=>h2 (by simp [z])
      have nba:b≠a:=fun z=>h2 (by simp [z])
      have h1':H' b=none:=e5.none (by simpa using nbt) h1
      rw [qAv (EH.none (by simp [nbl,nbt]) h1') (by
       intro z
       rcases List.mem_cons.mp z with z | z
       ·exact nbl z
       ·rcases List.mem_cons.mp z with z | z
        ·exact nbt z
        ·rcases List.mem_append.mp z with z | z
         ·obtain⟨j,hj,e⟩:=List.getElem_of_mem z
          obtain⟨_,bs',_,hb',_⟩:=hA.get (i:=j) (a:=b) (by rw [List.getElem?_eq_getElem hj,e])
          rw [h1'] at hb';cases hb'
         ·exact nba (by simpa using z)),qA4 nbl]
      exact h3
   refine ite2 (fun hn5 => ?_) (fun hn5 => ?_)
   ·walk_at "rd"
    refine qUm T' (by omega) fun m H5 hm1' hm2' T5 e5 => ?_
    walk_at "rd"
    refine qDi (e5 _ _ (by simpa using nlt) hl') ?_
    walk_at "rd"
    refine⟨t,_,m,most,_,n,rfl,T5,by omega,hm1',hm2',hm1,hm2,by omega,by omega,by omega,by omega,fun a w1 bs H6 ha nat T6 e6 hw1 hf1 hba hden => ?_⟩
    obtain⟨l6,post⟩:=fin m H5 H6 a w1 bs hm1' hm2' e5 ha nat (T6.mono (by omega)) e6 hw1 hf1 hba hden _ _
    walk_at "rd"
    exact qDk l6 (qAb (by rw [List.length_map];omega)) (hN_ _ _ post)
   ·walk_at "rd"
    refine qB5 T' (by omega) (by decide) (by decide) fun r H5 hm1' hm2' T5 e5 _ => ?_
    walk_at "rd"
    refine qDi (e5 _ _ (by simpa using nlt) hl') ?_
    walk_at "rd"
    refine⟨t,_,1+r,most,_,n,rfl,T5,by omega,by omega,by omega,hm1,hm2,by omega,by omega,by omega,by omega,fun a w1 bs H6 ha nat T6 e6 hw1 hf1 hba hden => ?_⟩
    obtain⟨l6,post⟩:=fin (1+r) H5 H6 a w1 bs (by omega) (by omega) e5 ha nat (T6.mono (by omega)) e6 hw1 hf1 hba hden _ _
    walk_at "rd"
    exact qDk l6 (qAb (by rw [List.length_map];omega)) (hN_ _ _ post)
  ·rintro σ' H' ⟨as,ws,o4,o5,rfl,hal,hws,hfew,hla,has,hnd,T',e',hl',hA⟩
   walk_at "rd"
   have hwl:=hA.len
   refine⟨l,ws,rfl,.list hl' (qLu hA yo_same),⟨by rw [show ((ws.length:Nat):Int)=n by omega];exact hws,by omega,by omega⟩,fun l2 ws2 H4 e6 dW hok2 _ => ?_⟩
   walk_at "rd"
   exact q l2 ws2 H4 (T'.ext (ts :=[]) e6 (by simp) |>.mono (by omega)) (((e4.mono (by simp)).trans e' |>.drop hlH).trans (e6.mono (by simp))) dW hok2
end
section
variable {P:Program} {w:World} {K:PySem.W.Frag} {mg:Str->Option Value} {base:Heap}
theorem qNw {ta tb:TE} {σ : St} {H:Hp} {Q:VK} (h:ta σ H fun x H1 => ∃c,x = .bl c/\if c=true then tb σ H1 Q else Q (.bl false) H1):tAndV ta tb σ H Q:=h
theorem qVz {ta tb:TE} {σ : St} {H:Hp} {Q:VK} (h:ta σ H fun x H1 => ∃c,x = .bl c/\if c=true then Q (.bl true) H1 else tb σ H1 Q):tOrV ta tb σ H Q:=h
theorem qGa {K:PySem.W.Frag} {H:Hp} {d:Deed} {v:V} (h:Den K H (deedD d) v) : ∃p,v = .ref p/\SqT K H p (V.str (dword d)::(dargs d).map V.int):=by
 rw [qTr] at h
 obtain⟨p,ps,rfl,hp,hps⟩:=h.ofTuple
 obtain⟨v1,q1,rfl,hv1,hq1⟩:=hps.ofCons
 have z1:=hv1.ofStr
 have z2:=hq1.ints
 subst z1 z2
 exact⟨p,rfl,hp⟩
theorem qLs (d:Deed):atI (V.str (dword d)::(dargs d).map V.int) ((1:Nat):Int)=some (V.int (darg d)):=by
 obtain⟨r,hr⟩:=qMr d
 rw [hr]
 exact qB4 rfl
theorem qR5 {m:Int} {ns:List Int} (h:NsOk m ns) : ∃wd:Str,endD ns = .tuple (.str wd::ns.map .int)/\True:=by
 rcases h with z | ⟨x,z,_⟩ | ⟨x,y,z,_⟩ <;> subst z
 ·exact⟨_,rfl,True.intro⟩
 ·exact⟨_,rfl,True.intro⟩
 ·exact⟨_,rfl,True.intro⟩
theorem qQg {H:Hp} {wa:Addr} {ws:List (List Blk)} {n a:Nat} {b:Blk} (hW:Den K H (qCn ws) (.ref wa)) (hb:blkAt ws ((n:Int),(a:Int))=some b) :
  ∃(vs bs:List V) (wb pb:Addr) (dl:Addr) (dvs:List V) (ve:V),SqL K H wa vs/\atI vs (n:Int)=some (.ref wb)/\SqL K H wb bs/\atI bs (a:Int)=some (.ref pb)/\SqT K H pb [.ref dl,ve]/\SqL K H dl dvs/\DenL K H (b.ds.map deedD) dvs/\Den K H (endD b.ns) ve:=by
 rw [qD0] at hb
 cases hw:ws[n]? with
 | none=>rw [hw] at hb;cases hb
 | some w1 =>
  rw [hw] at hb
  have hb:w1[a]? = some b:=hb
  obtain⟨wa',vs,ea,hvs,hdvs⟩:=hW.ofList
  cases ea
  obtain⟨v1,hv1,hd1⟩:=hdvs.get' (i:=n) (d:=workD w1) (by rw [List.getElem?_map,hw];rfl)
  obtain⟨wb,bs,rfl,hbs,hdbs⟩:=hd1.ofList
  obtain⟨v2,hv2,hd2⟩:=hdbs.get' (i:=a) (d:=blkD b) (by rw [List.getElem?_map,hb];rfl)
  obtain⟨pb,cs,rfl,hc,hcs⟩:=hd2.ofTuple
  obtain⟨vd,q1,rfl,hdd,hr1⟩:=hcs.ofCons
  obtain⟨ve,q2,rfl,hde,hr2⟩:=hr1.ofCons
  have hr2:=hr2.ofNil
  subst hr2
  obtain⟨dl,dvs,rfl,hdl,hdd2⟩:=hdd.ofList
  exact⟨vs,bs,wb,pb,dl,dvs,ve,hvs,qB4 hv1,hbs,qB4 hv2,hc,hdl,hdd2,hde⟩
theorem anyK (K:PySem.W.Frag) {X:Cx} (h:X.K=K) (hh:X.A.handled=none):CallR X (.builtin "any") (rAnyB K):=h▸qPl hh
end
section
variable {P:Program} {w:World} {K:PySem.W.Frag} {mg:Str->Option Value} {base:Heap}
abbrev qEn:Stmt:=top 18
theorem qQ3:FnScope ["_law_deed","_law_box"] ["_law_deed","_law_box"] (qA8 qEn):=⟨rfl,rfl,rfl,by decide +kernel,rfl,by decide +kernel,by decide +kernel⟩
def isAdd:Deed->Bool
 | .add _ _=>true
 | _=>false
def qOt:Deed->Bool
 | .tell _=>true
 | _=>false
theorem qPu (d:Deed):decide (dword d = "add")=isAdd d:=by
 cases d with
 | add _ _=>exact decide_eq_true rfl
 | set _ _=>exact decide_eq_false (show ¬("set" : Str) = "add" by decide)
 | call _=>exact decide_eq_false (show ¬("call" : Str) = "add" by decide)
 | tell _=>exact decide_eq_false (show ¬("tell" : Str) = "add" by decide)
 | save _=>exact decide_eq_false (show ¬("save" : Str) = "add" by decide)
 | back _=>exact decide_eq_false (show ¬("back" : Str) = "add" by decide)
theorem qN1 (d:Deed):decide (dword d = "tell")=qOt d:=by
 cases d with
 | tell _=>exact decide_eq_true rfl
 | set _ _=>exact decide_eq_false (show ¬("set" : Str) = "tell" by decide)
 | call _=>exact decide_eq_false (show ¬("call" : Str) = "tell" by decide)
 | add _ _=>exact decide_eq_false (show ¬("add" : Str) = "tell" by decide)
 | save _=>exact decide_eq_false (show ¬("save" : Str) = "tell" by decide)
 | back _=>exact decide_eq_false (show ¬("back" : Str) = "tell" by decide)
theorem qRw (x:Int) (d:Deed):rdB x d=(isAdd d&&decide (x∈dargs d)||(qOt d&&decide (darg d=x))):=by
 cases d with
 | tell b =>
  show (true&&decide (x ∈ [b]))=(false&&_||(true&&decide (b=x)))
  rw [Bool.true_and,Bool.false_and,Bool.false_or,Bool.true_and]
  have:(x ∈ [b])↔b=x:=by simp [eq_comm]
  simp only [this]
 | add b o=>show (true&&_)=(true&&_||(false&&_));simp [dargs]
 | set b o=>rfl
 | call b=>rfl
 | save b=>rfl
 | back b=>rfl
theorem qOd {f:Addr} {fd:FuncData} (F:Fun K "_law_reads" "_law_reads" qEn f fd):FnOk P w K mg base CX0 1 f fd ["_law_deed","_law_box"] (qK4 rdB K):=by
 refine F.ok qQ3 (fun vs H Q E h => ?_) (fun cdv A outer s H vs Q E hr h => ?_)
 ·obtain⟨v,d,x,rfl,_⟩:=h
  rfl
 ·obtain⟨v,d,x,rfl,hd,q⟩:=h
  refine⟨_,qA9 (qAw (qWa (qO5 (qBe qC9 (qAu qC6 (pv 0) qA6 (fun _ _=>rfl)) qBl (qAm _)) (qL4 (qBe qE8 (pv 1) (qC4 qKw (pv 0) (qCv qA6) qCw) rfl)))
   (qL4 (qO5 (qBe qC9 (qAu qC6 (pv 0) qA6 (fun _ _=>rfl)) qBl (qAm _)) (qL4 (qBe qC9 (qAu qC6 (pv 0) qA6 (fun _ _=>rfl)) (pv 1) (qAm _))))))),?_⟩
  dsimp only [qBx]
  obtain⟨p,rfl,hp⟩:=qGa hd
  have tail : ∀H',Ext [] H H'->(isAdd d&&decide (x∈dargs d))=false -> ∀Q':VK,(∀H',Ext [] H H'->Q' (.bl (rdB x d)) H')->tAndV (tOp rEq (tOp (rIxT K) (tVar 0) (tC (V.int 0))) (tC (V.str "tell"))) (tOp rEq (tOp (rIxT K) (tVar 0) (tC (V.int 1))) (tVar 1)) [some (.ref p),some (.int x)] H' Q':=by
   intro H' e' hno Q' hQ
   have hp':=e'.toSame.seqT hp
   refine qNw ?_
   walk_at "rd"
   refine qDj hp' (show atI _ ((0:Nat):Int)=some (V.str (dword d)) from qB4 rfl) ?_
   walk_at "rd"
   refine qQ7 ?_
   rw [qN1]
   refine⟨_,rfl,?_⟩
   have hq:=hQ H' e'
   rw [qRw,hno,Bool.false_or] at hq
   cases hw:qOt d with
   | true =>
    rw [hw] at hq
    refine iteT ?_
    walk_at "rd"
    refine qDj hp' (qLs d) ?_
    walk_at "rd"
    exact qCu hq
   | false =>
    rw [hw] at hq
    exact iteF hq
  walk_at "rd"
  refine qVz (qNw ?_)
  walk_at "rd"
  refine qDj hp (show atI _ ((0:Nat):Int)=some (V.str (dword d)) from qB4 rfl) ?_
  walk_at "rd"
  refine qQ7 ?_
  rw [qPu]
  refine⟨_,rfl,?_⟩
  cases hw:isAdd d with
  | true =>
   refine iteT ?_
   walk_at "rd"
   refine⟨1,rfl,?_⟩
   walk_at "rd"
   refine⟨p,_,rfl,hp,?_,fun p2 hp2 => ?_⟩
   ·intro h
    have:=h.1
    revert this
    have hn:(V.str (dword d)::(dargs d).map V.int).length=(dargs d).length+1:=by simp
    have:=(qPd d).1
    rw [hn]
    unfold HT.sIx
    simp
    try omega
   rw [cut1]
   refine⟨p2,(dargs d).map V.int,rfl,.inr (SqT.of qA1),rfl,qBn _,?_⟩
   rw [if_neg Bool.false_ne_true,qBz]
   refine⟨_,rfl,?_⟩
   cases hx:decide (x∈dargs d) with
   | true =>
    refine iteT ?_
    have hq:=q _ (Ext.laid (o :=.tup ((dargs d).map V.int)) hp2)
    rw [qRw,hw,hx] at hq
    exact hq
   | false =>
    refine iteF ?_
    exact tail _ (.laid hp2) (by rw [hx,Bool.and_false]) _ q
  | false =>
   refine iteF ?_
   refine⟨_,rfl,iteF ?_⟩
   exact tail H (.refl _ _) (by rw [hw];rfl) _ q
end
section
variable {P:Program} {w:World} {K:PySem.W.Frag} {mg:Str->Option Value} {base:Heap}
structure GoI (H:Hp) (d du:Addr) (ws:List (List Blk)) (x:Int) (p0:Pl) (ks due:List Pl) (H':Hp):Prop where
 ext:Ext [] H H'
 hd:H' d=some (.dT (trueD ks))
 hdu : ∃vs,H' du=some (.lst vs)/\PlsAt H' vs due
 nod:ks.Nodup
 rk : ∀y∈ks,RT (metOf ws x) p0 y
 rd : ∀y∈due,RT (metOf ws x) p0 y
 clo : ∀k∈ks,qIn ws x k=false /\ ∀c∈metOf ws x k,c∈ks\/c∈due
 one:p0∈ks\/p0∈due
 fewd:due.length<=1+22*ks.length
theorem GoI.end_ {H H':Hp} {d du:Addr} {ws:List (List Blk)} {x:Int} {p0:Pl} {ks:List Pl} (h:GoI H d du ws x p0 ks [] H'):askB ws x p0=false:=by
 have key : ∀y,RT (metOf ws x) p0 y->y∈ks:=by
  intro y r
  induction r with
  | refl=>exact h.one.elim id fun z=>absurd z (by simp)
  | step _ hc ih=>exact ((h.clo _ ih).2 _ hc).elim id fun z=>absurd z (by simp)
 rw [Bool.eq_false_iff]
 intro hb
 obtain⟨q,r,hq⟩:=askB_iff.mp hb
 rw [(h.clo q (key q r)).1] at hq
 cases hq
abbrev qD5:Stmt:=top 20
theorem scIsAsked:FnScope ["_law_works_here","_law_number_here","_law_block","_law_box","_law_met","_law_waiting","_law_place","_law_deeds_here","_law_end","_law_open_yet","_law_deed"] ["_law_works_here","_law_number_here","_law_block","_law_box"] (qA8 qD5):=⟨rfl,rfl,rfl,by decide +kernel,rfl,by decide +kernel,by decide +kernel⟩
def GoW (H:Hp) (wa d du:Addr) (ws:List (List Blk)) (x:Int) (n b:Nat) (μ : Nat) (σ':St) (H':Hp):Prop := ∃(ks due:List Pl) (o6 o7 o8 o9 o10:Option V),μ = ((places ws).length - ks.length)*24+due.length /\
 σ' = [some (.ref wa),some (.int n),some (.int b),some (.int x),some (.ref d),some (.ref du),o6,o7,o8,o9,o10]/\GoI H d du ws x ((n:Int),(b:Int)) ks due H'
theorem qMe {f:Addr} {fd:FuncData} (F:Fun K "_law_is_asked" "_law_is_asked" qD5 f fd) (hRd:Has P w K mg base "_law_reads" 1 ["_law_deed","_law_box"] (qK4 rdB K)):FnOk P w K mg base CX0 2 f fd ["_law_works_here","_law_number_here","_law_block","_law_box"] (qFq K):=by
 refine F.ok scIsAsked (fun vs H Q E h => ?_) (fun cdv A outer s H vs Q E hr h => ?_)
 ·obtain⟨wa,ws,n,b,x,rfl,_⟩:=h
  rfl
 ·obtain⟨wa,ws,n,b,x,rfl,hW,hok,hpl,q⟩:=h
  have hu:=qMo hr
  refine⟨_,qA7 (qIr (i:=4) (j:=5) rfl scIsAsked.nd rfl rfl (by decide) rfl rfl (qA0 qQe (qA0 (qAs (qA0 (qB9 (qA0 (pv 1) (qA0 (pv 2) qA3))) qA3)) qA3)) rfl)
   (qA7 (qL1 PassesOwn.never (qAe (qL6 hr) (pv 5) (qAs qA3) (qAm _))
    (qA7 (qAn (i:=6) scIsAsked.nd rfl (Or.inr rfl) (qV8 PySem.F.plainAttrs_list PySem.F.slot_list_pop PySem.F.type_list_pop qVd (pv 5)))
    (qA9 (qDl (qRm (qO6 hu (pv 6) (pv 4)))
     (qA7 (qO1 hu (pv 4) (pv 6) qHx rfl)
     (qA7 (qIs (qAu qAl (qAu qAl (pv 0) (qAu qC6 (pv 6) qA6 (fun _ _=>rfl)) (fun _ _=>rfl)) (qAu qC6 (pv 6) qA6 (fun _ _=>rfl)) (fun _ _=>rfl)) (qF2 (n:=2) rfl (qAp (qAa (i:=7) scIsAsked.nd rfl (Or.inl rfl)) (qAp (qAa (i:=8) scIsAsked.nd rfl (Or.inl rfl)) qC1))))
     (qA7 (qAn (i:=9) scIsAsked.nd rfl (Or.inl rfl) qHx)
     (qA7 (qC3 PassesOwn.never rfl (qBd (pv 7)) (qAa (i:=10) scIsAsked.nd rfl (Or.inl rfl))
      (qA7 (qDl (qFv (qC8 K rfl (pv 9) (fun _=>rfl)) (qDs (qC8 K rfl (qAr hRd hr (by decide) (qA0 (pv 10) (qA0 (pv 3) qA3))) (fun _=>rfl)))).pt (qA9 (qAw qHx)) qBv)
      (qA7 (qDl (qFv (qC8 K rfl (pv 9) (fun _=>rfl)) (qDs (qAe qC9 (qAu qC6 (pv 10) qA6 (fun _ _=>rfl)) qBl (qAm _)))).pt (qA9 (qBw (qE6 PySem.F.plainAttrs_list PySem.F.slot_list_append PySem.F.type_list_append qBg (pv 5) (qA0 (qB9 (qA0 (qAu qC6 (pv 10) qA6 (fun _ _=>rfl)) (qA0 qA6 qA3))) qA3)))) qBv)
      (qA9 (qDl (qFv (qAe qE8 (qAu qC6 (pv 10) qA6 (fun _ _=>rfl)) (qB9 (qA0 qBl (qA0 qBl qA3))) rfl) (qDs (qAe qC9 (qAu qC6 (pv 10) qA6 (fun _ _=>rfl)) (pv 3) (qAm _)))).pt (qA9 (qAn (i:=9) scIsAsked.nd rfl (Or.inl rfl) qHx)) qBv)))))
     (qA9 (qDl (qC8 K rfl (pv 9) (fun _=>rfl)) (qA9 (qBw (qE6 PySem.F.plainAttrs_list PySem.F.slot_list_extend PySem.F.type_list_extend qJ2 (pv 5) (qA0 (qDu ["_law_to"] [6] rfl (.of rfl) (qRo (qC4 qKw (pv 8) (qCv qA6) qCw)) (fun _ _ _ _=>qAa (i:=0) (by show ((["_law_to","_law_place"]:List Str)).Nodup;decide) rfl (Or.inl rfl)) (fun _ _ _ _ =>.nil) (fun _ _ _ _=>qB9 (qA0 (qAu (qG6 K rfl) (pv 1) qA6 (fun _ _=>rfl)) (qA0 (pv 0) qA3)))) qA3)))) qBv))))))
     qBv))))
   (qA9 (qAw qHx))),?_⟩
  dsimp only [qBx,qBp]
  walk_at "rd"
  refine (show ∀p,_=none->_ from fun d hd => ?_)
  walk_at "rd"
  refine⟨len2 (by show 2<=1000;decide),fun p hp => ?_⟩
  walk_at "rd"
  refine⟨len2 (by show 1<=1000;decide),fun du hdu => ?_⟩
  have e0:Ext [] H (upd H d (.dT [])) :=.laid hd
  have E1:Ext [] H (upd (upd (upd H d (.dT [])) p (.tup [.int n,.int b])) du (.lst [.ref p])):=e0.trans ((Ext.laid hp).trans (.laid hdu))
  have npd:p≠du:=qA2 qA1 hdu
  have hduH:H du=none:=(e0.trans (.laid hp)).none (by simp) hdu
  have ndp:d≠p:=qA2 qA1 hp
  have ndu:d≠du:=qA2 (o :=.dT []) (by rw [qA4 ndp,qA1]) hdu
  refine⟨_,_,rfl,?_⟩
  have pfew:=qMa hok
  have st0:GoI H d du ws x ((n:Int),(b:Int)) [] [((n:Int),(b:Int))] (upd (upd (upd H d (.dT [])) p (.tup [.int n,.int b])) du (.lst [.ref p])):=by
   refine⟨E1,by rw [qA4 ndu,qA4 ndp,qA1];rfl,⟨[.ref p],qA1,.one (by rw [qA4 npd,qA1])⟩,List.nodup_nil,(fun _ h=>absurd h (by simp)),fun y hy=>by rw [List.mem_singleton.mp hy];exact .refl,(fun _ h=>absurd h (by simp)),.inr (List.mem_singleton.mpr rfl),by simp⟩
  generalize upd (upd (upd H d (.dT [])) p (.tup [.int n,.int b])) du (.lst [.ref p])=H1 at st0 ⊢
  walk_at "rd"
  refine⟨GoW H wa d du ws x n b,⟨_,[],_,_,_,_,_,_,rfl,rfl,st0⟩,?_⟩
  rintro μ σ' H' ⟨ks,due,o6,o7,o8,o9,o10,rfl,rfl,I⟩
  obtain⟨dvs,hdu',hdp⟩:=I.hdu
  walk_at "rd"
  refine⟨len2 (Nat.zero_le _),fun en0 hen0 => ?_⟩
  have e2:Ext [] H' (upd H' en0 (.lst [])) :=.laid hen0
  have hdu2:=e2 _ _ (by simp) hdu'
  have hdp2:=hdp.mono e2.tk
  have hd2:=e2 _ _ (by simp) I.hd
  have ext2:=I.ext.trans e2
  refine⟨qFz due,.list [],.list (SqL.of hdu2) hdp2.den,.list (SqL.of qA1) .nil,qIu due,rfl,?_⟩
  rw [if_pos rfl,qI2]
  generalize upd H' en0 (.lst [])=H2 at e2 hdu2 hdp2 hd2 ext2 ⊢
  walk_at "rd"
  rcases List.eq_nil_or_concat due with h | ⟨init,y,h⟩
  ·subst h
   rw [decide_eq_true rfl]
   refine iteF ?_
   walk_at "rd"
   have hq:=q H2 ext2
   rw [I.end_] at hq
   exact hq
  ·have h:due=init ++ [y]:=by rw [h,List.concat_eq_append]
   rw [decide_eq_false (by rw [h];simp)]
   rw [h] at hdp2
   obtain⟨wvs,v,rfl,hws,vb,rfl,hvb⟩:=hdp2.last
   refine iteT ⟨fun σ' H' => ∃m',m'<((places ws).length - ks.length)*24+due.length/\GoW H wa d du ws x n b m' σ' H',fun _ _ h=>h,?_⟩
   have hyr:=I.rd y (by rw [h];simp)
   have hcU : ∀p∈places ws,∀q∈metOf ws x p,q∈places ws:=fun p _ q hq=>qOi hok hq
   have hyU:=hyr.within hcU hpl
   have hksU : ∀z∈ks,z∈places ws:=fun z hz=>(I.rk z hz).within hcU hpl
   have hkl:=qHy I.nod hksU
   have hdl:due.length=init.length+1:=by rw [h];simp
   have hfd:=I.fewd
   have hwl:=hws.len
   walk_at "rd"
   refine qDi hdu2 ?_
   refine⟨du,wvs ++ [V.ref vb],.ref vb,rfl,rfl,hdu2,by simp,?_⟩
   rw [List.dropLast_concat]
   have d3:upd H2 du (.lst wvs) d=some (.dT (trueD ks)):=by rw [qA4 ndu];exact hd2
   have e3:Ext [] H (upd H2 du (.lst wvs)):=((ext2.mono (us :=[du]) (by simp)).trans (.put (by simp))).drop hduH
   have u3:upd H2 du (.lst wvs) du=some (.lst wvs):=qA1
   have tk3:TK H2 (upd H2 du (.lst wvs)) :=.put (by intro ys z;rw [hdu2] at z;cases z)
   have hws3:=hws.mono tk3
   have hvb3:=tk3 _ _ hvb
   generalize upd H2 du (.lst wvs)=H3 at d3 e3 u3 tk3 hws3 hvb3 ⊢
   walk_at "rd"
   refine⟨d,_,rfl,DGet.t (k:=plK y) d3 hvb3,?_⟩
   rw [qJy]
   by_cases hy:y∈ks
   ·rw [if_pos hy]
    refine qVr (iteF ?_)
    walk_at "rd"
    refine⟨_,by rw [hdl];exact Nat.lt_succ_self _,ks,init,_,_,_,_,_,rfl,rfl,e3,d3,⟨wvs,u3,hws3⟩,I.nod,I.rk,fun z hz=>I.rd z (by rw [h];exact List.mem_append_left _ hz),fun k hk=>⟨(I.clo k hk).1,fun c hc' => ?_⟩,?_,by omega⟩
    ·rcases (I.clo k hk).2 c hc' with z | z
     ·exact .inl z
     ·rw [h] at z
      rcases List.mem_append.mp z with z | z
      ·exact .inr z
      ·rw [List.mem_singleton.mp z];exact .inl hy
    ·rcases I.one with z | z
     ·exact .inl z
     ·rw [h] at z
      rcases List.mem_append.mp z with z | z
      ·exact .inr z
      ·rw [List.mem_singleton.mp z];exact .inl hy
   ·rw [if_neg hy]
    refine qVr (iteT ?_)
    walk_at "rd"
    refine⟨d,_,rfl,DPut.t (k:=plK y) d3 hvb3 (qU4 (by unfold trueD;rw [List.length_map];omega)),?_⟩
    have hput:putK (trueD ks) (plK y) (V.bl true)=trueD (ks ++ [y]):=by
     rw [qQa _ (by rw [qJy,if_neg hy])];unfold trueD;rw [List.map_append];rfl
    rw [hput]
    have d4:upd H3 d (.dT (trueD (ks ++ [y]))) d=some (.dT (trueD (ks ++ [y]))):=qA1
    have e4:Ext [] H (upd H3 d (.dT (trueD (ks ++ [y])))):=((e3.mono (us :=[d]) (by simp)).trans (.put (by simp))).drop hd
    have u4:upd H3 d (.dT (trueD (ks ++ [y]))) du=some (.lst wvs):=by rw [qA4 ndu.symm];exact u3
    have tk4:TK H3 (upd H3 d (.dT (trueD (ks ++ [y])))) :=.put (by intro ys z;rw [d3] at z;cases z)
    have hws4:=hws3.mono tk4
    have hvb4:=tk4 _ _ hvb3
    generalize upd H3 d (.dT (trueD (ks ++ [y])))=H4 at d4 e4 u4 tk4 hws4 hvb4 ⊢
    have hnod:(ks ++ [y]).Nodup:=by
     rw [List.nodup_append]
     refine⟨I.nod,by simp,fun z hz z' hz' => ?_⟩
     rw [List.mem_singleton.mp hz']
     rintro rfl
     exact hy hz
    have hkl2:=qHy (l2:=places ws) hnod fun z hz=>by
     rcases List.mem_append.mp hz with t | t
     ·exact hksU z t
     ·rw [List.mem_singleton.mp t];exact hyU
    rw [List.length_append,List.length_singleton] at hkl2
    obtain⟨bk,hbk⟩:=mem_places.mp hyU
    obtain⟨yn,ya,w1,hy2,hw1,hb1⟩:=qEw hbk
    subst hy2
    obtain⟨m,n',w1',hp1,hw1',hm,hm1,hm2,hbok⟩:=hok.blk hbk
    obtain⟨wv,bs,wb,pb,dl,ds,ve,s1,s2,s3,s4,s5,s6,s7,s8⟩:=qQg hW hbk
    have hra:qIn ws x ((yn:Int),(ya:Int))=readB x bk:=by unfold qIn;rw [hbk]
    have hmet:metOf ws x ((yn:Int),(ya:Int))=metB x yn bk:=by unfold metOf;rw [hbk]
    have hml:=qTh hok x ((yn:Int),(ya:Int))
    have hdsl:ds.length=bk.ds.length:=by rw [s7.len,List.length_map]
    have hds14:=hbok.few
    walk_at "rd"
    refine qDj (SqT.of hvb4) (show atI _ ((0:Nat):Int)=some (V.int yn) from qB4 rfl) ?_
    refine qBt (e4.toSame.seq s1) s2 ?_
    walk_at "rd"
    refine qDj (SqT.of hvb4) (show atI _ ((1:Nat):Int)=some (V.int ya) from qB4 rfl) ?_
    refine qBt (e4.toSame.seq s3) s4 ?_
    refine qCt (e4.toSame.seqT s5) rfl ?_
    walk_at "rd"
    refine⟨dl,rfl,⟨_,e4.toSame.seq s6⟩,qCy (xs:=ds) (fun j σ' G => ∃(cvs:List V) (o10:Option V),σ' = [some (.ref wa),some (.int n),some (.int b),some (.int x),some (.ref d),some (.ref du),some (.ref vb),some (.ref dl),some ve,some (.bl (!wrote x (bk.ds.take j))),o10]/\Ext [] H G/\G d=some (.dT (trueD (ks ++ [((yn:Int),(ya:Int))])))/\G du=some (.lst cvs) /\
     PlsAt G cvs (init++(((till x (bk.ds.take j)).filterMap qEg).map fun c=>(c,0)))/\G vb=some (.tup [.int yn,.int ya])/\(till x (bk.ds.take j)).any (rdB x)=false) ?_ ?_ ?_ ?_⟩
    ·refine⟨wvs,_,rfl,e4,d4,u4,?_,hvb4,rfl⟩
     simpa [till] using hws4
    ·rintro j σ' G hj ⟨cvs,o10,rfl,eG,hdG,huG,hcp,hvG,hno⟩
     exact eG.toSame.seq s6
    ·rintro j v σ' G hv ⟨cvs,o10,rfl,eG,hdG,huG,hcp,hvG,hno⟩ N_ B_ C_ R_ hN_ hC_ hR_
     obtain⟨dd,hdd,hDv⟩:=s7.get hv
     obtain⟨de,hde,rfl⟩:=qBc hdd
     have hjl:j<bk.ds.length:=(List.getElem?_eq_some_iff.mp hde).1
     obtain⟨pd,rfl,hpd⟩:=qGa hDv
     have hcl:=hcp.len
     have hfl:=List.length_filterMap_le qEg (till x (bk.ds.take j))
     have htl:=qFa x (bk.ds.take j)
     rw [List.length_take] at htl
     rw [List.length_append,List.length_map] at hcl
     have htk:bk.ds.take (j+1)=bk.ds.take j ++ [de]:=qB6 hde
     have third : ∀(G5:Hp) (fl:Bool) (D:Ends),Ext [] H G5->(∀G6,Ext [] G5 G6->D.nx [some (V.ref wa),some (.int n),some (.int b),some (.int x),some (.ref d),some (.ref du),some (.ref vb),some (.ref dl),some ve,some (.bl (fl && !wrB x de)),some (.ref pd)] G6) ->
       tIfS (tAnd (tTest (tOp (rIn K false) (tOp (rIxT K) (tVar 10) (tC (V.int 0))) (tTup (tCons (tC (V.str "set")) (tCons (tC (V.str "add")) tNil))))) (tTest (tOp rEq (tOp (rIxT K) (tVar 10) (tC (V.int 1))) (tVar 3)))) (tAsg (tC (V.bl false)) (gName 9)) tNext D [some (V.ref wa),some (.int n),some (.int b),some (.int x),some (.ref d),some (.ref du),some (.ref vb),some (.ref dl),some ve,some (.bl fl),some (.ref pd)] G5:=by
      intro G5 fl D e5 hD
      have hp5:=e5.toSame.seqT hpd
      with_reducible refine L2.qWh ?_
      with_reducible refine L2.qUu ?_
      walk_at "rd"
      refine qDj hp5 (show atI _ ((0:Nat):Int)=some (V.str (dword de)) from qB4 rfl) ?_
      walk_at "rd"
      refine⟨len2 (by show 2<=1000;decide),fun pt hpt => ?_⟩
      have e6:Ext [] G5 (upd G5 pt (.tup [.str "set",.str "add"])) :=.laid hpt
      refine⟨pt,[V.str "set",.str "add"],rfl,.inr (SqT.of qA1),rfl,rfl,?_⟩
      rw [if_neg Bool.false_ne_true,qP8]
      refine⟨_,rfl,?_⟩
      have hq:=hD _ e6
      have hp6:=e6.toSame.seqT hp5
      generalize upd G5 pt (.tup [.str "set",.str "add"])=G6 at e6 hq hp6 ⊢
      unfold wrB at hq
      cases hw:(wr de).isSome with
      | true =>
       rw [hw] at hq
       refine iteT ?_
       walk_at "rd"
       refine qDj hp6 (qLs de) ?_
       walk_at "rd"
       refine qCu ?_
       refine⟨_,rfl,?_⟩
       cases hx:decide (darg de=x) with
       | true =>
        rw [hx] at hq
        refine iteT ?_
        walk_at "rd"
        simpa using hq
       | false =>
        rw [hx] at hq
        refine iteF ?_
        with_reducible refine L2.qF1 ?_
        simpa using hq
      | false =>
       rw [hw] at hq
       refine iteF (iteF ?_)
       with_reducible refine L2.qF1 ?_
       simpa using hq
     cases hwt:wrote x (bk.ds.take j) with
     | true =>
      have hw1:wrote x (bk.ds.take (j+1))=true:=by rw [htk,qD3,hwt];rfl
      have ht1:till x (bk.ds.take (j+1))=till x (bk.ds.take j):=by rw [htk,qCf hwt]
      walk_at "rd"
      refine⟨false,rfl,iteF (iteF ?_)⟩
      walk_at "rd"
      refine⟨false,rfl,iteF (iteF ?_)⟩
      with_reducible refine L2.qF1 ?_
      refine third G false _ eG fun G6 e6=>hN_ _ _ ⟨cvs,some (.ref pd),?_,eG.trans e6,e6 _ _ (by simp) hdG,e6 _ _ (by simp) huG,?_,e6 _ _ (by simp) hvG,?_⟩
      ·rw [hw1];rfl
      ·rw [ht1];exact hcp.mono e6.tk
      ·rw [ht1];exact hno
     | false =>
      have hw1:wrote x (bk.ds.take (j+1))=wrB x de:=by rw [htk,qD3,hwt];rfl
      have ht1:till x (bk.ds.take (j+1))=till x (bk.ds.take j) ++ [de]:=by rw [htk,qCg hwt]
      walk_at "rd"
      refine⟨true,rfl,iteT ?_⟩
      walk_at "rd"
      refine⟨.ref pd,de,x,rfl,hDv.mono eG.toSame,fun G2 eG2 => ?_⟩
      refine⟨rdB x de,rfl,?_⟩
      cases hrd:rdB x de with
      | true =>
       refine iteT ?_
       walk_at "rd"
       have hask:askB ws x ((n:Int),(b:Int))=true:=askB_iff.mpr ⟨_,hyr,by rw [hra];unfold readB;exact List.any_eq_true.mpr ⟨de,qPx hwt hde,hrd⟩⟩
       have hq:=q G2 (eG.trans eG2)
       rw [hask] at hq
       exact hq
      | false =>
       refine iteF ?_
       have E2:=eG.trans eG2
       have hd2':=eG2 _ _ (by simp) hdG
       have hu2':=eG2 _ _ (by simp) huG
       have hcp2:=hcp.mono eG2.tk
       have hv2':=eG2 _ _ (by simp) hvG
       have hpd2:=E2.toSame.seqT hpd
       have hno1:(till x (bk.ds.take (j+1))).any (rdB x)=false:=by rw [ht1,List.any_append,hno];simp [hrd]
       walk_at "rd"
       refine⟨true,rfl,iteT ?_⟩
       walk_at "rd"
       refine qDj hpd2 (show atI _ ((0:Nat):Int)=some (V.str (dword de)) from qB4 rfl) ?_
       walk_at "rd"
       refine qQ7 ?_
       rw [qP9]
       walk_at "rd"
       cases hcl2:qLh de with
       | true =>
        refine iteT ?_
        walk_at "rd"
        refine qDi hu2' ?_
        walk_at "rd"
        refine qDj hpd2 (qLs de) ?_
        walk_at "rd"
        refine⟨len2 (by show 2<=1000;decide),fun p2 hp2 => ?_⟩
        have np2:p2≠du:=(qA2 hu2' hp2).symm
        with_reducible refine L2.qQ6 ?_
        refine qDk (xs:=cvs) (by rw [qA4 np2.symm];exact hu2') (by rw [sizeLine_eq];omega) ?_
        have tk:TK G2 (upd (upd G2 p2 (.tup [.int (darg de),.int 0])) du (.lst (cvs ++ [.ref p2]))):=(Ext.laid hp2).tk.trans (.put (by intro ys z;rw [qA4 np2.symm,hu2'] at z;cases z))
        have ndd:d≠p2:=qA2 hd2' hp2
        have E5:Ext [] H (upd (upd G2 p2 (.tup [.int (darg de),.int 0])) du (.lst (cvs ++ [.ref p2]))):=((E2.mono (us :=[du]) (by simp)).trans ((Ext.laid hp2).trans (.put (by simp)))).drop hduH
        refine third _ true _ E5 fun G6 e6=>hN_ _ _ ⟨cvs ++ [.ref p2],some (.ref pd),?_,E5.trans e6,e6 _ _ (by simp) (by rw [qA4 ndu,qA4 ndd];exact hd2'),e6 _ _ (by simp) qA1,?_,e6.tk _ _ (tk _ _ hv2'),hno1⟩
        ·rw [hw1];rfl
        ·rw [ht1,List.filterMap_append,List.map_append,<-List.append_assoc,List.filterMap_cons,qTv de hcl2]
         exact ((hcp2.mono tk).append (.one (p:=(darg de,0)) (by rw [qA4 np2,qA1]))).mono e6.tk
       | false =>
        refine iteF ?_
        with_reducible refine L2.qF1 ?_
        have hn:qEg de=none:=by
         unfold qLh at hcl2
         cases z:qEg de with
         | none=>rfl
         | some y=>rw [z] at hcl2;cases hcl2
        refine third _ true _ E2 fun G6 e6=>hN_ _ _ ⟨cvs,some (.ref pd),?_,E2.trans e6,e6 _ _ (by simp) hd2',e6 _ _ (by simp) hu2',?_,e6 _ _ (by simp) hv2',hno1⟩
        ·rw [hw1];rfl
        ·rw [ht1,List.filterMap_append,List.filterMap_cons,hn,List.filterMap_nil,List.append_nil]
         exact hcp2.mono e6.tk
    ·rintro σ' G ⟨cvs,o10,rfl,eG,hdG,huG,hcp,hvG,hno⟩
     rw [hdsl,List.take_length] at hcp hno ⊢
     have hnr:qIn ws x ((yn:Int),(ya:Int))=false:=by rw [hra];exact hno
     have hcl:=hcp.len
     have hfl:=List.length_filterMap_le qEg (till x bk.ds)
     have htl:=qFa x bk.ds
     rw [List.length_append,List.length_map] at hcl
     have fin : ∀(G6:Hp) (cvs6:List V),Ext [] H G6->G6 d=some (.dT (trueD (ks ++ [((yn:Int),(ya:Int))])))->G6 du=some (.lst cvs6)->PlsAt G6 cvs6 (init++metOf ws x ((yn:Int),(ya:Int))) -> ∀o6 o7 o8 o9 o10:Option V,
       ∃m',m'<((places ws).length - ks.length)*24+due.length/\GoW H wa d du ws x n b m' [some (.ref wa),some (.int n),some (.int b),some (.int x),some (.ref d),some (.ref du),o6,o7,o8,o9,o10] G6:=by
      intro G6 cvs6 e6 hd6 hu6 hp6 o6 o7 o8 o9 o10
      refine⟨_,?_,ks ++ [((yn:Int),(ya:Int))],init++metOf ws x ((yn:Int),(ya:Int)),o6,o7,o8,o9,o10,rfl,rfl,e6,hd6,⟨cvs6,hu6,hp6⟩,hnod,?_,?_,?_,?_,?_⟩
      ·rw [List.length_append,List.length_append,List.length_singleton];omega
      ·intro z hz
       rcases List.mem_append.mp hz with t | t
       ·exact I.rk z t
       ·rw [List.mem_singleton.mp t];exact hyr
      ·intro z hz
       rcases List.mem_append.mp hz with t | t
       ·exact I.rd z (by rw [h];exact List.mem_append_left _ t)
       ·exact .step hyr t
      ·intro k hk
       rcases List.mem_append.mp hk with t | t
       ·refine⟨(I.clo k t).1,fun c hc' => ?_⟩
        rcases (I.clo k t).2 c hc' with r | r
        ·exact .inl (List.mem_append_left _ r)
        ·rw [h] at r
         rcases List.mem_append.mp r with r | r
         ·exact .inr (List.mem_append_left _ r)
         ·exact .inl (List.mem_append_right _ r)
       ·rw [List.mem_singleton.mp t]
        exact⟨hnr,fun c hc' =>.inr (List.mem_append_right _ hc')⟩
      ·rcases I.one with r | r
       ·exact .inl (List.mem_append_left _ r)
       ·rw [h] at r
        rcases List.mem_append.mp r with r | r
        ·exact .inr (List.mem_append_left _ r)
        ·exact .inl (List.mem_append_right _ r)
      ·rw [List.length_append,List.length_append,List.length_singleton];omega
     walk_at "rd"
     cases hwt:wrote x bk.ds with
     | true =>
      refine⟨false,rfl,iteF ?_⟩
      with_reducible refine L2.qF1 ?_
      refine fin G cvs eG hdG huG ?_ _ _ _ _ _
      rw [hmet]
      unfold metB qGe
      rw [hwt,if_pos rfl,List.append_nil]
      exact hcp
     | false =>
      refine⟨true,rfl,iteT ?_⟩
      walk_at "rd"
      refine qDi huG ?_
      walk_at "rd"
      obtain⟨wd,hwd,_⟩:=qR5 hbok.ns
      rw [hwd] at s8
      obtain⟨en,es',rfl,hen,hes⟩:=s8.ofTuple
      obtain⟨v3,r3,rfl,hd3',hr3⟩:=hes.ofCons
      have ee3:=hd3'.ofStr
      subst ee3
      have ee4:=hr3.ints
      subst ee4
      have hnf:=hbok.ns.few
      refine⟨1,rfl,?_⟩
      walk_at "rd"
      refine⟨en,_,rfl,eG.toSame.seqT hen,?_,fun pp hpp => ?_⟩
      ·intro hh
       have:=hh.1
       revert this
       have hn:(V.str wd::bk.ns.map V.int).length=bk.ns.length+1:=by simp
       rw [hn]
       unfold HT.sIx
       simp
       try omega
      rw [cut1]
      have e5:Ext [] G (upd G pp (.tup (bk.ns.map V.int))) :=.laid hpp
      have hu5:=e5 _ _ (by simp) huG
      have hd5:=e5 _ _ (by simp) hdG
      have hv5:=e5 _ _ (by simp) hvG
      have hcp5:=hcp.mono e5.tk
      have hpp5:upd G pp (.tup (bk.ns.map V.int)) pp=some (.tup (bk.ns.map V.int)):=qA1
      generalize upd G pp (.tup (bk.ns.map V.int))=G5 at e5 hu5 hd5 hv5 hcp5 hpp5 ⊢
      refine⟨pp,rfl,⟨_,SqT.of hpp5⟩,fun le hle => ?_⟩
      have npl:pp≠le:=qA2 hpp5 hle
      have nvl:vb≠le:=qA2 hv5 hle
      refine qLb (xs:=bk.ns.map V.int) (fun j σ' G6 => ∃(o0:Option V) (ts:List V),σ' = [o0,some (.ref vb)]/\Ext [le] G5 G6/\G6 le=some (.lst ts)/\PlsAt G6 ts ((bk.ns.take j).map fun t=>((yn:Int),t))) ?_ ?_ ?_ ?_
      ·exact⟨none,[],rfl,.laid hle,qA1,.nil⟩
      ·rintro j σ' G6 hj ⟨o0,ts,rfl,e6,hle6,hts⟩
       exact SqT.of (e6 _ _ (by simpa using npl) hpp5)
      ·rintro j yy σ' G6 R hyy ⟨o0,ts,rfl,e6,hle6,hts⟩ hR
       obtain⟨t,ht,rfl⟩:=qBc hyy
       have hj:j<bk.ns.length:=(List.getElem?_eq_some_iff.mp ht).1
       have htl:=hts.len
       rw [List.length_map,List.length_take] at htl
       walk_at "rd"
       refine iteT ?_
       walk_at "rd"
       refine qDj (SqT.of (e6 _ _ (by simpa using nvl) hv5)) (show atI _ ((0:Nat):Int)=some (V.int yn) from qB4 rfl) ?_
       walk_at "rd"
       refine⟨len2 (by show 2<=1000;decide),fun p2 hp2 => ?_⟩
       have np2:p2≠le:=(qA2 hle6 hp2).symm
       have tk:TK G6 (upd (upd G6 p2 (.tup [.int yn,.int t])) le (.lst (ts ++ [.ref p2]))):=(Ext.laid hp2).tk.trans (.put (by intro ys z;rw [qA4 np2.symm,hle6] at z;cases z))
       refine⟨ts,by rw [qA4 np2.symm];exact hle6,qAb (by omega),hR _ _ ⟨_,ts ++ [.ref p2],rfl,e6.trans ((Ext.laid hp2).trans (.put (by simp))),qA1,?_⟩⟩
       rw [qB6 ht,List.map_append]
       exact (hts.mono tk).append (.one (by rw [qA4 np2,qA1]))
      ·rintro σ' G6 ⟨o0,ts,rfl,e6,hle6,hts⟩
       rw [List.length_map,List.take_length] at hts
       have htl:=hts.len
       rw [List.length_map] at htl
       have E6:=e6.drop hle
       have hu6:=E6 _ _ (by simp) hu5
       have hd6:=E6 _ _ (by simp) hd5
       walk_at "rd"
       refine⟨du,le,cvs,ts,rfl,rfl,hu6,hle6,by rw [sizeLine_eq];omega,?_⟩
       have tk:TK G6 (upd G6 du (.lst (cvs++ts))) :=.put (by intro ys z;rw [hu6] at z;cases z)
       refine fin _ (cvs++ts) (((((eG.trans e5).trans E6).mono (us :=[du]) (by simp)).trans (.put (by simp))).drop hduH) (by rw [qA4 ndu];exact hd6) qA1 ?_ _ _ _ _ _
       rw [hmet]
       unfold metB qGe
       rw [hwt,if_neg Bool.false_ne_true,<-List.append_assoc]
       exact ((hcp5.mono E6.tk).append hts).mono tk
end
section
variable {P:Program} {w:World} {K:PySem.W.Frag} {mg:Str->Option Value} {base:Heap}
def NsAt (l:Addr) (H:Hp):List V->List (List Int)->Prop:=Paired fun v ns => ∃b,v = .ref b/\b≠l/\H b=some (.lst (ns.map V.int))
def qK3 (K:PySem.W.Frag):Sp:=fun vs H Q _ => ∃(a:Addr) (w:List Blk),vs = [.ref a]/\Den K H (workD w) (.ref a)/\(∀b∈w,b.ns.length<=2)/\w.length<=12 /\
 ∀(l:Addr) (us:List V) (H':Hp),H l=none->Ext [] H H'->H' l=some (.lst us)->NsAt l H' us (w.map Blk.ns)->Q (.ref l) H'
theorem NsAt.mono {l:Addr} {H H':Hp} {us:List V} {ns:List (List Int)} (h:NsAt l H us ns) (e:Ext [l] H H'):NsAt l H' us ns:=Paired.mapP h fun _ _ ⟨b,h1,h2,h3⟩=>⟨b,h1,h2,e _ _ (by simpa using h2) h3⟩
theorem NsAt.len {l:Addr} {H:Hp} {us:List V} {ns:List (List Int)} (h:NsAt l H us ns):us.length=ns.length:=Paired.length h
theorem NsAt.get {l:Addr} {H:Hp} : ∀ {us:List V} {wk:List Blk},NsAt l H us (wk.map Blk.ns) -> ∀ {x:Int},0<=x->x<wk.length -> ∃c,atI us x=some (.ref c)/\H c=some (.lst ((nxt wk x).map V.int)):=by
 have key : ∀ {us:List V} {wk:List Blk} {i:Nat} {b:Blk},NsAt l H us (wk.map Blk.ns)->wk[i]? = some b -> ∃c,us[i]? = some (.ref c)/\H c=some (.lst (b.ns.map V.int)):=by
  intro us wk
  induction wk generalizing us with
  | nil=>intro i b _ h;simp at h
  | cons b0 r ih =>
   intro i b h hb
   cases h with
   | cons a t =>
    obtain⟨c,rfl,_,hc⟩:=a
    cases i with
    | zero=>simp at hb;subst hb;exact⟨c,rfl,hc⟩
    | succ i =>
     obtain⟨c',h1,h2⟩:=ih t (by simpa using hb)
     exact⟨c',by simpa using h1,h2⟩
 intro us wk h x h0 h1
 obtain⟨i,rfl⟩:=Int.eq_ofNat_of_zero_le h0
 have hi:i<wk.length:=by omega
 obtain⟨c,h2,h3⟩:=key h (List.getElem?_eq_getElem hi)
 exact⟨c,qB4 h2,by rw [qT9 (List.getElem?_eq_getElem hi)];exact h3⟩
abbrev sEnds:Stmt:=top 16
theorem qU8:FnScope ["_law_work_here"] ["_law_work_here"] (qA8 sEnds):=⟨rfl,rfl,rfl,by decide +kernel,rfl,by decide +kernel,by decide +kernel⟩
theorem qT6 {f:Addr} {fd:FuncData} (F:Fun K "_law_ends" "_law_ends" sEnds f fd) (nlist:mg "list" = none):FnOk P w K mg base CX0 1 f fd ["_law_work_here"] (qK3 K):=by
 refine F.ok qU8 (fun vs H Q E h => ?_) (fun cdv A outer s H vs Q E hr h => ?_)
 ·obtain⟨a,w,rfl,_⟩:=h
  rfl
 ·obtain⟨a,wk,rfl,hW,hns,hwl,q⟩:=h
  have nd2:((["_law_deeds_here","_law_end"]:List Str)).Nodup:=by decide
  refine⟨_,qA9 (qAw (qDu ["_law_deeds_here","_law_end"] [] rfl (.of rfl) (qBd (pv 0)) (fun _ _ _ _=>qHv (n:=2) K rfl rfl (qAp (qAa (i:=0) nd2 rfl (Or.inl rfl)) (qAp (qAa (i:=1) nd2 rfl (Or.inl rfl)) qC1))) (fun _ _ _ _ =>.nil)
   (fun _ _ _ _=>qB0 (qLc K rfl) (by rfl) nlist PyProof.Rows.boot_list (qA0 (qC4 (qNi K rfl) (pv 1) (qCv qA6) qCw) qA3)))),?_⟩
  dsimp only [qBx,qBp]
  obtain⟨a',vs,ea,hSq,hDL⟩:=hW.ofList
  cases ea
  have hvl:vs.length=wk.length:=by rw [hDL.len,List.length_map]
  walk_at "rd"
  refine⟨a,rfl,⟨vs,hSq⟩,fun l hl => ?_⟩
  refine qB3 (xs:=vs) (fun i σ' H' => ∃(ws:List V) (o0 o1:Option V),σ' = [o0,o1]/\Ext [l] H H'/\H' l=some (.lst ws)/\NsAt l H' ws ((wk.take i).map Blk.ns)) ?_ ?_ ?_ ?_
  ·exact⟨[],none,none,rfl,.laid hl,qA1,.nil⟩
  ·rintro i σ' H' hi ⟨ws,o0,o1,rfl,e',hl',hden⟩
   exact (e'.drop hl).toSame.seq hSq
  ·rintro i x σ' H' R hx ⟨ws,o0,o1,rfl,e',hl',hden⟩ hR
   have es:Same H H':=(e'.drop hl).toSame
   obtain⟨dd,hdd,hDx⟩:=hDL.get hx
   obtain⟨b,hb,rfl⟩ : ∃b,wk[i]? = some b/\dd=blkD b:=by
    rw [List.getElem?_map] at hdd
    cases z:wk[i]? with
    | none=>rw [z] at hdd;cases hdd
    | some n=>rw [z] at hdd;exact⟨n,rfl,(Option.some.inj hdd).symm⟩
   have hi:i<wk.length:=(List.getElem?_eq_some_iff.mp hb).1
   have hb2:=hns b (List.mem_of_getElem? hb)
   obtain⟨c,us,rfl,hc,hcs⟩:=hDx.ofTuple
   obtain⟨v1,r1,rfl,hd1,hr1⟩:=hcs.ofCons
   obtain⟨v2,r2,rfl,hd2,hr2⟩:=hr1.ofCons
   have hr2:=hr2.ofNil
   subst hr2
   obtain⟨wd,hwd⟩:=qP3 hb2
   rw [hwd] at hd2
   obtain⟨en,es',rfl,hen,hes⟩:=hd2.ofTuple
   obtain⟨v3,r3,rfl,hd3,hr3⟩:=hes.ofCons
   have e3:=hd3.ofStr
   subst e3
   have e4:=hr3.ints
   subst e4
   refine qCt (es.seqT hc) rfl ?_
   walk_at "rd"
   refine iteT ?_
   walk_at "rd"
   refine⟨1,rfl,?_⟩
   walk_at "rd"
   refine⟨en,_,rfl,es.seqT hen,?_,fun p hp => ?_⟩
   ·intro h
    have:=h.1
    revert this
    have hn:(V.str wd::b.ns.map V.int).length=b.ns.length+1:=by simp
    rw [hn]
    unfold HT.sIx
    simp
    try omega
   have hcut:cutV (V.str wd::b.ns.map V.int) (some 1) none=b.ns.map V.int:=by
    match hh:b.ns,hb2 with
    | [],_=>rfl
    | [x],_=>rfl
    | [x,y],_=>rfl
   rw [hcut]
   have npl:p≠l:=(qA2 hl' hp).symm
   walk_at "rd"
   refine⟨p,_,rfl,.inr (SqT.of qA1),fun l2 hl2 => ?_⟩
   have l':upd H' p (.tup (b.ns.map V.int)) l=some (.lst ws):=by rw [qA4 npl.symm];exact hl'
   have n2:l2≠l:=(qA2 l' hl2).symm
   have hwsl:ws.length=i:=by rw [hden.len,List.length_map,List.length_take];omega
   refine⟨ws,by rw [qA4 n2.symm];exact l',qAb (by omega),hR _ _ ⟨ws ++ [.ref l2],_,_,rfl,?_,qA1,?_⟩⟩
   ·exact e'.trans ((Ext.laid hp).trans ((Ext.laid hl2).trans (.put (by simp))))
   ·have ht:wk.take (i+1)=wk.take i ++ [b]:=by rw [List.take_add_one,hb];rfl
    have E2:Ext [l] H' (upd (upd (upd H' p (.tup (b.ns.map V.int))) l2 (.lst (b.ns.map V.int))) l (.lst (ws ++ [.ref l2]))):=(Ext.laid hp).trans ((Ext.laid hl2).trans (.put (by simp)))
    rw [ht,List.map_append]
    exact Paired.snoc (hden.mono E2) ⟨l2,rfl,n2,by rw [qA4 n2,qA1]⟩
  ·rintro σ' H' ⟨ws,o0,o1,rfl,e',hl',hden⟩
   rw [hvl,List.take_length] at hden
   exact q l ws H' hl (e'.drop hl) hl' hden
end
section
variable {P:Program} {w:World} {K:PySem.W.Frag} {mg:Str->Option Value} {base:Heap}
abbrev qD4:Stmt:=top 19
theorem inK (K:PySem.W.Frag) {X:Cx} (h:X.K=K):OpR X (compareOp .In) (rIn K false):=h▸qE8
theorem qNm:FnScope ["_law_work_here","_law_box"] ["_law_work_here","_law_box"] (qA8 qD4):=⟨rfl,rfl,rfl,by decide +kernel,rfl,by decide +kernel,by decide +kernel⟩
theorem qMd {f:Addr} {fd:FuncData} (F:Fun K "_law_writes" "_law_writes" qD4 f fd) (nrange:mg "range" = none) (nlen:mg "len" = none) (nany:mg "any" = none):FnOk P w K mg base CX0 1 f fd ["_law_work_here","_law_box"] (qCs K):=by
 have nd3:((["_law_b","_law_box","_law_work_here"]:List Str)).Nodup:=by decide
 refine F.ok qNm (fun vs H Q E h => ?_) (fun cdv A outer s H vs Q E hr h => ?_)
 ·obtain⟨wa,wk,m,works,x,rfl,_⟩:=h
  rfl
 ·obtain⟨wa,wk,m,works,x,rfl,hW,hOk,hm,q⟩:=h
  refine⟨_,qA9 (qAw (qDu ["_law_b"] [1,0] rfl (.of rfl) (qBk rfl nrange (qA0 (qAc qAo (by rfl) nlen PySem.boot_len (qA0 (pv 0) qA3)) qA3)) (fun _ _ _ _=>qAa (i:=0) nd3 rfl (Or.inl rfl))
   (fun _ _ _ _ =>.cons (qC8 K rfl (qAc (anyK K rfl hr.hd) (by rfl) nany PyProof.Rows.boot_any (qA0 (qDu ["_law_one"] [1] rfl (.of rfl) (qHu K rfl (qAu (qG6 K rfl) (qAu (qQz K rfl) (pv 2) (pv 0) (fun _ _=>rfl)) qA6 (fun _ _=>rfl))) (fun _ _ _ _=>qAa (i:=0) (by show ((["_law_one","_law_box"]:List Str)).Nodup;decide) rfl (Or.inl rfl)) (fun _ _ _ _ =>.nil)
    (fun _ _ _ _=>qO5 (qBe (inK K rfl) (qAu (qG6 K rfl) (pv 0) qA6 (fun _ _=>rfl)) (qB9 (qA0 qBl (qA0 qBl qA3))) rfl) (qL4 (qBe qC9 (qAu (qG6 K rfl) (pv 0) qA6 (fun _ _=>rfl)) (pv 1) (qAm _))))) qA3)) (fun _=>rfl)) .nil) (fun _ _ _ _=>pv 0))),?_⟩
  dsimp only [qBx,qBp]
  obtain⟨a',vs,ea,hSq,hDL⟩:=hW.ofList
  cases ea
  have hvl:vs.length=wk.length:=by rw [hDL.len,List.length_map]
  have hwm:=hOk.len
  walk_at "rd"
  refine⟨wa,_,rfl,.inl hSq,?_⟩
  walk_at "rd"
  refine⟨_,rfl,by omega,by omega,fun l hl => ?_⟩
  refine qDb (lo:=0) (n:=(vs.length:Int).toNat) (fun i σ' H' => ∃(o0:Option V),σ' = [o0,some (.int x),some (.ref wa)]/\Ext [l] H H'/\H' l=some (.lst ((wrTo wk x i).map V.int))) ?_ ?_ ?_
  ·exact⟨none,rfl,.laid hl,qA1⟩
  ·rintro i σ' H1 R hi ⟨o0,rfl,e1,hl1⟩ hR
   have hi:i<wk.length:=by omega
   obtain⟨b,hb⟩ : ∃b,wk[i]? = some b:=⟨wk[i],List.getElem?_eq_getElem hi⟩
   have es:Same H H1:=(e1.drop hl).toSame
   obtain⟨y,hy,hDx⟩:=hDL.get' (i:=i) (d:=blkD b) (by rw [List.getElem?_map,hb];rfl)
   obtain⟨c,us,rfl,hc,hcs⟩:=hDx.ofTuple
   obtain⟨v1,r1,rfl,hd1,hr1⟩:=hcs.ofCons
   obtain⟨v2,r2,rfl,hd2,hr2⟩:=hr1.ofCons
   have hr2:=hr2.ofNil
   subst hr2
   obtain⟨dl,dvs,rfl,hdl,hdvs⟩:=hd1.ofList
   have hbok:=hOk.blk b (List.mem_of_getElem? hb)
   walk_at "rd"
   refine qBt (es.seq hSq) (show atI vs (0+(i:Int))=some (.ref c) by rw [Int.zero_add];exact qB4 hy) ?_
   walk_at "rd"
   refine qDj (es.seqT hc) (show atI _ ((0:Nat):Int)=some (V.ref dl) from qB4 rfl) ?_
   walk_at "rd"
   refine⟨dl,rfl,⟨dvs,es.seq hdl⟩,fun lc hlc => ?_⟩
   have nlc:l≠lc:=qA2 hl1 hlc
   refine qB3 (xs:=dvs) (fun j σ' G2 => ∃(o0:Option V),σ' = [o0,some (.int x)]/\Ext [lc] H1 G2/\G2 lc=some (.lst (((b.ds.take j).map (wrB x)).map V.bl))) ?_ ?_ ?_ ?_
   ·exact⟨none,rfl,.laid hlc,qA1⟩
   ·rintro j σ' G2 hj ⟨o0,rfl,e2,hlc2⟩
    exact (e2.drop hlc).toSame.seq (es.seq hdl)
   ·rintro j y σ' G2 R2 hy ⟨o0,rfl,e2,hlc2⟩ hR2
    obtain⟨dd,hdd,hDy⟩:=hdvs.get hy
    obtain⟨d,hd,rfl⟩:=qBc hdd
    obtain⟨p,rfl,hp0⟩:=qGa hDy
    have hp:=(e2.drop hlc).toSame.seqT (es.seqT hp0)
    have hjl:j<b.ds.length:=(List.getElem?_eq_some_iff.mp hd).1
    walk_at "rd"
    refine iteT ?_
    walk_at "rd"
    refine qNw ?_
    walk_at "rd"
    refine qDj hp (show atI _ ((0:Nat):Int)=some (V.str (dword d)) from qB4 rfl) ?_
    walk_at "rd"
    refine⟨len2 (by show 2<=1000;decide),fun pt hpt => ?_⟩
    have e6:Ext [] G2 (upd G2 pt (.tup [.str "set",.str "add"])) :=.laid hpt
    refine⟨pt,[V.str "set",.str "add"],rfl,.inr (SqT.of qA1),rfl,rfl,?_⟩
    rw [if_neg Bool.false_ne_true,qP8]
    refine⟨_,rfl,?_⟩
    have hp6:=e6.toSame.seqT hp
    generalize upd G2 pt (.tup [.str "set",.str "add"])=G6 at e6 hp6 ⊢
    have fin : ∃xs:List V,G6 lc=some (.lst xs)/\xs.length<sizeLine/\R2 [some (.ref p),some (.int x)] (upd G6 lc (.lst (xs ++ [.bl (wrB x d)]))):=by
     refine⟨_,e6 _ _ (by simp) hlc2,qAb (by rw [List.length_map,List.length_map,List.length_take];have:=hbok.few;omega),hR2 _ _ ⟨_,rfl,e2.trans ((e6.mono (by simp)).trans (.put (by simp))),?_⟩⟩
     rw [qA1,qB6 hd,List.map_append,List.map_append];rfl
    unfold wrB at fin
    cases hw:(wr d).isSome with
    | true =>
     rw [hw] at fin
     refine iteT ?_
     walk_at "rd"
     refine qDj hp6 (qLs d) ?_
     walk_at "rd"
     refine qCu ?_
     exact fin
    | false =>
     rw [hw] at fin
     exact iteF fin
   ·rintro σ' G2 ⟨o0,rfl,e2,hlc2⟩
    have hdvl:dvs.length=b.ds.length:=by rw [hdvs.len,List.length_map]
    rw [hdvl,List.take_length] at hlc2
    walk_at "rd"
    refine⟨lc,b.ds.map (wrB x),rfl,SqL.of hlc2,?_⟩
    refine⟨wrote x b.ds,?_,?_⟩
    ·have e:(b.ds.map (wrB x)).any id=wrote x b.ds:=by unfold wrote;rw [List.any_map];rfl
     rw [e];rfl
    have E2:Ext [] H1 G2:=e2.drop hlc
    have hl2:=E2 _ _ (by simp) hl1
    have hs:=qMy wk x i
    have hll:=qE1 wk x i
    rw [qTn hb] at hs
    cases hw:wrote x b.ds with
    | true =>
     rw [hw,if_pos rfl] at hs
     refine iteT (iteT ?_)
     walk_at "rd"
     refine⟨_,hl2,qAb (by rw [List.length_map];omega),hR _ _ ⟨_,rfl,(e1.trans (E2.mono (by simp))).trans (.put (by simp)),?_⟩⟩
     rw [qA1,hs,List.map_append,Int.zero_add];rfl
    | false =>
     rw [hw,if_neg Bool.false_ne_true] at hs
     refine iteF (iteF (hR _ _ ⟨_,rfl,e1.trans (E2.mono (by simp)),?_⟩))
     rw [hs];exact hl2
  ·rintro σ' H' ⟨o0,rfl,e',hl'⟩
   rw [Int.toNat_natCast,hvl] at hl'
   exact q l H' hl (e'.drop hl) hl'
end
section
variable {P:Program} {w:World} {K:PySem.W.Frag} {mg:Str->Option Value} {base:Heap}
abbrev qEp:Stmt:=top 21
theorem scBehind:FnScope ["_law_work_here","_law_box","_law_found","_law_nexts_here","_law_block","_law_turn"] ["_law_work_here","_law_box"] (qA8 qEp):=⟨rfl,rfl,rfl,by decide +kernel,rfl,by decide +kernel,by decide +kernel⟩
theorem qOf {f:Addr} {fd:FuncData} (F:Fun K "_law_behind" "_law_behind" qEp f fd) (nrange:mg "range" = none) (nlen:mg "len" = none) (nlist:mg "list" = none) (nset:mg "set" = none) (nsort:mg "sorted" = none)
  (hEn:Has P w K mg base "_law_ends" 1 ["_law_work_here"] (qK3 K)) (hLw:Has P w K mg base "_law_writes" 1 ["_law_work_here","_law_box"] (qCs K)):FnOk P w K mg base CX0 2 f fd ["_law_work_here","_law_box"] (qHn K):=by
 refine F.ok scBehind (fun vs H Q E h => ?_) (fun cdv A outer s H vs Q E hr h => ?_)
 ·obtain⟨wa,wk,m,works,x,rfl,_⟩:=h
  rfl
 ·obtain⟨wa,wk,m,works,x,rfl,hW,hOk,hm,q⟩:=h
  refine⟨_,qA7 (qIs (qB9 (qA0 (qAs qA3) (qA0 (qAr hEn hr (by decide) (qA0 (pv 0) qA3)) qA3))) (qF2 (n:=2) rfl (qAp (qAa (i:=2) scBehind.nd rfl (Or.inr rfl)) (qAp (qAa (i:=3) scBehind.nd rfl (Or.inl rfl)) qC1))))
   (qA7 (qC3 PassesOwn.never rfl (qBd (qAr hLw hr (by decide) (qA0 (pv 0) (qA0 (pv 1) qA3)))) (qAa (i:=4) scBehind.nd rfl (Or.inl rfl))
    (qA9 (qAn (i:=2) scBehind.nd rfl (Or.inr rfl) (qAq qG0 (pv 2) (qAu qAl (pv 3) (pv 4) (fun _ _=>rfl))))))
   (qA7 (qC3 PassesOwn.never rfl (qBk rfl nrange (qA0 (qAc qAo (by rfl) nlen PySem.boot_len (qA0 (pv 0) qA3)) qA3)) (qAa (i:=5) scBehind.nd rfl (Or.inl rfl))
    (qA9 (qC3 PassesOwn.never rfl (qBd (qB0 qF5 (by rfl) nlist PyProof.Rows.boot_list (qA0 (pv 2) qA3))) (qAa (i:=4) scBehind.nd rfl (Or.inl rfl))
     (qA9 (qAn (i:=2) scBehind.nd rfl (Or.inr rfl) (qAq qG0 (pv 2) (qDu ["_law_to"] [2] rfl (.of rfl) (qBd (qAu qAl (pv 3) (pv 4) (fun _ _=>rfl))) (fun _ _ _ _=>qAa (i:=0) (by show ((["_law_to","_law_found"]:List Str)).Nodup;decide) rfl (Or.inl rfl)) (fun _ _ _ _ =>.cons (qAe (qVc K rfl) (pv 0) (pv 1) rfl) .nil) (fun _ _ _ _=>pv 0))))))))
   (qA9 (qAw (qAc (qEu hr.hd) (by rfl) nsort PyProof.Rows.boot_sorted (qA0 (qB0 (qGf hr.hd) (by rfl) nset PyProof.Rows.boot_set (qA0 (pv 2) qA3)) qA3)))))),?_⟩
  dsimp only [qBx,qBp]
  obtain⟨a',vs,ea,hSq,hDL⟩:=hW.ofList
  cases ea
  have hvl:vs.length=wk.length:=by rw [hDL.len,List.length_map]
  have hwm:=hOk.len
  have few : ∀y,(nxt wk y).length<=2:=fun y=>(qH3 hOk y).few
  have hss:(qBr wk x).length<=24:=by
   have h1:=qI1 (nxt wk) few (wrTo wk x wk.length)
   have h2:=qE1 wk x wk.length
   unfold qBr;omega
  have hrg : ∀y,(∃s∈qBr wk x,Reach (nxt wk) s y)->0<=y/\y<(wk.length:Int):=by
   rintro y ⟨s,hs,r⟩
   obtain⟨z,_,hz⟩:=List.mem_flatMap.mp hs
   have h1:=(qH3 hOk z).range s hz
   have:=r.range hOk ⟨by omega,h1.2⟩
   omega
  walk_at "rd"
  refine⟨len2 (Nat.zero_le _),fun p1 hp1 => ?_⟩
  have e0:Ext [] H (upd H p1 (.lst [])) :=.laid hp1
  have hp10:upd H p1 (.lst []) p1=some (.lst []):=qA1
  generalize upd H p1 (.lst [])=H0 at e0 hp10 ⊢
  walk_at "rd"
  refine⟨wa,wk,rfl,hW.mono e0.toSame,fun b hb=>(hOk.blk b hb).ns.few,by omega,fun n us H1 hn e1 hn1 hN1 => ?_⟩
  walk_at "rd"
  refine⟨len2 (by show 2<=1000;decide),fun p3 hp3 => ?_⟩
  have e2:Ext [] H1 (upd H1 p3 (.tup [.ref p1,.ref n])) :=.laid hp3
  have hp32:SqT K (upd H1 p3 (.tup [.ref p1,.ref n])) p3 [.ref p1,.ref n]:=SqT.of qA1
  generalize upd H1 p3 (.tup [.ref p1,.ref n])=H2 at e2 hp32 ⊢
  refine qCt hp32 rfl ?_
  have hn2:=e2 _ _ (by simp) hn1
  have hN2:NsAt n H2 us (wk.map Blk.ns):=hN1.mono (e2.mono (by simp))
  have E2:Ext [] H H2:=e0.trans (e1.trans e2)
  have hp12:=(e1.trans e2) _ _ (by simp) hp10
  walk_at "rd"
  refine⟨wa,wk,m,works,x,rfl,hW.mono E2.toSame,hOk,hm,fun lw H3 hlw e3 hlw3 => ?_⟩
  walk_at "rd"
  have hwl:=qE1 wk x wk.length
  refine⟨lw,rfl,⟨_,SqL.of hlw3⟩,qCy (xs:=(wrTo wk x wk.length).map V.int) (fun i σ' G => ∃(pf:Addr) (o4 o5:Option V),σ' = [some (.ref wa),some (.int x),some (.ref pf),some (.ref n),o4,o5]/\Ext [] H3 G/\G pf=some (.lst ((((wrTo wk x wk.length).take i).flatMap (nxt wk)).map V.int))) ?_ ?_ ?_ ?_⟩
  ·exact⟨p1,_,_,rfl,.refl _ _,e3 _ _ (by simp) hp12⟩
  ·rintro i σ' G hi ⟨pf,o4,o5,rfl,eG,hpf⟩
   exact SqL.of (eG _ _ (by simp) hlw3)
  ·rintro i v σ' G hv ⟨pf,o4,o5,rfl,eG,hpf⟩ N_ B_ C_ R_ hN_ hC_ hR_
   obtain⟨y,hy,rfl⟩:=qBc hv
   obtain⟨k,rfl,hk,hkw⟩:=mem_wrTo.mp (List.mem_of_getElem? hy)
   have EG:=e3.trans eG
   obtain⟨c,hat,hc⟩:=(hN2.mono (EG.mono (by simp))).get (x:=(k:Int)) (by omega) (by omega)
   have hll:=qI1 (nxt wk) few ((wrTo wk x wk.length).take i)
   have hn2':=few (k:Int)
   rw [List.length_take] at hll
   walk_at "rd"
   refine qBt (SqL.of (EG _ _ (by simp) hn2)) hat ?_
   refine⟨pf,c,_,_,rfl,rfl,hpf,hc,len2 (by rw [List.length_map,List.length_map];omega),fun f1 hf1 => ?_⟩
   walk_at "rd"
   refine⟨f1,_,_,rfl,eG.trans (.laid hf1),?_⟩
   rw [qA1,qB6 hy,List.flatMap_append,List.map_append]
   simp
  ·rintro σ' G ⟨pf,o4,o5,rfl,eG,hpf⟩
   rw [List.length_map,List.take_length] at hpf
   have EG:=e3.trans eG
   have hpf:G pf=some (.lst ((qBr wk x).map V.int)):=hpf
   walk_at "rd"
   refine⟨wa,vs,rfl,.inl ((E2.trans EG).toSame.seq hSq),?_⟩
   rw [hvl]
   walk_at "rd"
   refine⟨_,rfl,by omega,by omega,qCa (lo:=0) (n:=(wk.length:Int).toNat) (fun t σ' G1 => ∃(pf:Addr) (Fs:List Int) (o4 o5:Option V),σ' = [some (.ref wa),some (.int x),some (.ref pf),some (.ref n),o4,o5]/\Ext [] G G1/\G1 pf=some (.lst (Fs.map V.int))/\BehI (nxt wk) (qBr wk x) wk.length Fs/\Lays (nxt wk) (qBr wk x) t Fs) ?_ ?_ ?_⟩
   ·exact⟨pf,_,_,_,rfl,.refl _ _,hpf,.start _ _ _,.zero fun _ h=>h⟩
   ·rintro t σ' G1 ht ⟨pf,Fs,o4,o5,rfl,e4,hpf1,hI,hL⟩ N_ B_ C_ R_ hN_ hC_ hR_
    walk_at "rd"
    refine⟨pf,_,rfl,.inl (SqL.of hpf1),fun ls hls => ?_⟩
    have e5:Ext [] G1 (upd G1 ls (.lst (Fs.map V.int))) :=.laid hls
    have hls2:upd G1 ls (.lst (Fs.map V.int)) ls=some (.lst (Fs.map V.int)):=qA1
    have hpf2:=e5 _ _ (by simp) hpf1
    generalize upd G1 ls (.lst (Fs.map V.int))=G2 at e5 hls2 hpf2 ⊢
    refine⟨ls,rfl,⟨_,SqL.of hls2⟩,qCy (xs:=Fs.map V.int) (fun i σ' G3 => ∃(pf:Addr) (Fs':List Int) (o4:Option V),σ' = [some (.ref wa),some (.int x),some (.ref pf),some (.ref n),o4,some (.int (0+t))]/\Ext [] G2 G3/\G3 pf=some (.lst (Fs'.map V.int))/\BehI (nxt wk) (qBr wk x) wk.length Fs'/\(∀y∈Fs,y∈Fs') /\ ∀b∈Fs.take i,∀c∈nxt wk b,c∈Fs') ?_ ?_ ?_ ?_⟩
    ·exact⟨pf,Fs,_,rfl,.refl _ _,hpf2,hI,fun _ h=>h,fun b hb=>absurd hb (by simp)⟩
    ·rintro i σ' G3 hi ⟨pf,Fs',o4,rfl,e6,hpf3,hI3,hsub,hcl⟩
     exact SqL.of (e6 _ _ (by simp) hls2)
    ·rintro i v σ' G3 hv ⟨pf,Fs',o4,rfl,e6,hpf3,hI3,hsub,hcl⟩ N_ B_ C_ R_ hN_ hC_ hR_
     obtain⟨y,hy,rfl⟩:=qBc hv
     have hyF:=List.mem_of_getElem? hy
     obtain⟨y0,y1⟩:=hrg y (hI.rk y hyF)
     have E3:=EG.trans (e4.trans (e5.trans e6))
     obtain⟨c,hat,hc⟩:=(hN2.mono (E3.mono (by simp))).get (x:=y) y0 y1
     have hFl:=hI3.len
     have hcn:=qJk (fun x=>decide (x∈Fs')) wk.length
     have hf:=few y
     walk_at "rd"
     refine qBt (SqL.of (E3 _ _ (by simp) hn2)) hat ?_
     refine⟨c,rfl,⟨_,SqL.of hc⟩,fun lc hlc => ?_⟩
     refine qB3 (xs:=(nxt wk y).map V.int) (fun k σ' H3 => ∃(o0:Option V),σ' = [o0,some (.ref pf)]/\Ext [lc] G3 H3/\H3 lc=some (.lst ((((nxt wk y).take k).filter fun x => !decide (x∈Fs')).map V.int))) ?_ ?_ ?_ ?_
     ·exact⟨none,rfl,.laid hlc,qA1⟩
     ·rintro k σ' H3 hk ⟨o0,rfl,e7,h3⟩
      exact SqL.of ((e7.drop hlc) _ _ (by simp) hc)
     ·rintro k v σ' H3 R hv ⟨o0,rfl,e7,h3⟩ hR
      obtain⟨z,hz,rfl⟩:=qBc hv
      have hk:k<(nxt wk y).length:=(List.getElem?_eq_some_iff.mp hz).1
      walk_at "rd"
      refine qUk (SqL.of ((e7.drop hlc) _ _ (by simp) hpf3)) ?_
      walk_at "rd"
      by_cases g2:z∈Fs'
      ·rw [decide_eq_true g2]
       refine iteF (iteF (hR _ _ ⟨_,rfl,e7,?_⟩))
       rw [qB6 hz,List.filter_append]
       simpa [g2] using h3
      ·rw [decide_eq_false g2]
       refine iteT (iteT ?_)
       walk_at "rd"
       have hl3:((((nxt wk y).take k).filter fun x => !decide (x∈Fs')).map V.int).length<=2:=by
        rw [List.length_map]
        refine Nat.le_trans (List.length_filter_le _ _) ?_
        rw [List.length_take];omega
       refine⟨_,h3,qAb (by omega),hR _ _ ⟨_,rfl,e7.trans (.put (by simp)),?_⟩⟩
       rw [qB6 hz,List.filter_append,qA1]
       simp [g2]
     ·rintro σ' H3 ⟨o0,rfl,e7,h3⟩
      rw [List.length_map,List.take_length] at h3
      have e7':=e7.drop hlc
      have hfl:=List.length_filter_le (fun x => !decide (x∈Fs')) (nxt wk y)
      refine⟨pf,lc,_,_,rfl,rfl,e7' _ _ (by simp) hpf3,h3,len2 (by rw [List.length_map,List.length_map];omega),fun f1 hf1 => ?_⟩
      walk_at "rd"
      refine⟨f1,grow (nxt wk) Fs' y,_,rfl,e6.trans (e7'.trans (.laid hf1)),?_,hI3.grow (hsub y hyF) few hrg,fun z hz=>mem_grow.mpr (.inl (hsub z hz)),fun b hb c hc => ?_⟩
      ·rw [qA1];unfold grow;rw [List.map_append]
      ·rw [qB6 hy] at hb
       rcases List.mem_append.mp hb with z | z
       ·exact mem_grow.mpr (.inl (hcl b z c hc))
       ·rw [List.mem_singleton.mp z] at hc
        exact mem_grow.mpr (.inr hc)
    ·rintro σ' G3 ⟨pf,Fs',o4,rfl,e6,hpf3,hI3,hsub,hcl⟩
     rw [List.length_map,List.take_length] at hcl
     walk_at "rd"
     exact⟨pf,Fs',_,_,rfl,e4.trans (e5.trans e6),hpf3,hI3,hL.succ hsub hcl⟩
   ·rintro σ' G1 ⟨pf,Fs,o4,o5,rfl,e4,hpf1,hI,hL⟩
    rw [Int.toNat_natCast] at hL
    have hFl:=hI.len
    have hcn:=qJk (fun x=>decide (x∈Fs)) wk.length
    have hal:=qDh Fs
    walk_at "rd"
    refine⟨pf,Fs,rfl,SqL.of hpf1,by omega,fun ls hls => ?_⟩
    walk_at "rd"
    refine⟨ls,qBj Fs,rfl,qA1,by omega,fun lx ns hlx hp hso => ?_⟩
    have EF:Ext [] H (upd G1 ls (setO w (qBj Fs))):=(E2.trans (EG.trans e4)).trans (.laid hls)
    exact q lx ns _ (EF.none (by simp) hlx) (EF.trans (.laid hlx)) qA1 hso (hp.symm.nodup (qD2 Fs)) fun y=>by rw [hp.mem_iff,qEr,hL.all hI hrg]
end
section
variable {P:Program} {w:World} {K:PySem.W.Frag} {mg:Str->Option Value} {base:Heap}
abbrev qGv:Stmt:=top 22
theorem scLBusy:FnScope ["_law_works_here","_law_number_here","_law_box","_law_work_here","_law_both"] ["_law_works_here","_law_number_here","_law_box"] (qA8 qGv):=⟨rfl,rfl,rfl,by decide +kernel,rfl,by decide +kernel,by decide +kernel⟩
theorem qQl {f:Addr} {fd:FuncData} (F:Fun K "_law_busy" "_law_busy" qGv f fd) (nsort:mg "sorted" = none) (nset:mg "set" = none) (hB:Has P w K mg base "_law_behind" 2 ["_law_work_here","_law_box"] (qHn K)) (hA:Has P w K mg base "_law_is_asked" 2 ["_law_works_here","_law_number_here","_law_block","_law_box"] (qFq K)) (hWr:Has P w K mg base "_law_writes" 1 ["_law_work_here","_law_box"] (qCs K)) :
  FnOk P w K mg base CX0 3 f fd ["_law_works_here","_law_number_here","_law_box"] (qNh K):=by
 refine F.ok scLBusy (fun vs H Q E h => ?_) (fun cdv A outer s H vs Q E hr h => ?_)
 ·obtain⟨wa,ws,n,wk,x,rfl,_⟩:=h
  rfl
 ·obtain⟨wa,ws,n,wk,x,rfl,hW,hok,hwk,q⟩:=h
  refine⟨_,qA7 (qAn (i:=3) scLBusy.nd rfl (Or.inl rfl) (qAu qAl (pv 0) (pv 1) (fun _ _=>rfl)))
   (qA7 (qSq (i:=4) ["_law_b"] [0,1,2] rfl (.of rfl) scLBusy.nd rfl (Or.inl rfl) (qBd (qAr hB hr (by decide) (qA0 (pv 3) (qA0 (pv 2) qA3)))) (fun _ _ _ _=>qAa (i:=0) (by show ((["_law_b","_law_works_here","_law_number_here","_law_box"]:List Str)).Nodup;decide) rfl (Or.inl rfl)) (fun _ _ _ _ =>.cons (qC8 K rfl (qAr hA hr (by decide) (qA0 (pv 1) (qA0 (pv 2) (qA0 (pv 0) (qA0 (pv 3) qA3))))) (fun _=>rfl)) .nil) (fun _ _ _ _=>pv 0))
   (qA9 (qAw (qAc (qEu hr.hd) (by rfl) nsort PyProof.Rows.boot_sorted (qA0 (qB0 (qGf hr.hd) (by rfl) nset PyProof.Rows.boot_set (qA0 (qAq qG0 (qAr hWr hr (by decide) (qA0 (pv 3) (qA0 (pv 2) qA3))) (pv 4)) qA3)) qA3))))),?_⟩
  dsimp only [qBx,qBp,qMf,qTx]
  obtain⟨a',vs,ea,hSq,hDL⟩:=hW.ofList
  cases ea
  obtain⟨vw,hvw,hDw⟩:=hDL.get' (i:=n) (d:=workD wk) (by rw [List.getElem?_map,hwk];rfl)
  obtain⟨wb,bs,rfl,hbs,hdbs⟩:=hDw.ofList
  obtain⟨m,hm1,hm2,hWk⟩:=hok.all wk (List.mem_of_getElem? hwk)
  have hwm:=hWk.len
  have hDw:Den K H (workD wk) (.ref wb) :=.list hbs hdbs
  walk_at "rd"
  refine qBt hSq (qB4 hvw) ?_
  walk_at "rd"
  refine⟨wb,wk,m,_,x,rfl,hDw,hWk,hm2,fun lr ns H2 hlr e2 hlr2 hp hd hy => ?_⟩
  have hrg : ∀y∈ns,0<=y/\y<m:=fun y hy'=>qEx hWk ((hy y).mp hy')
  have hnl:=qFf hp hd hrg
  walk_at "rd"
  refine⟨lr,rfl,⟨_,SqL.of hlr2⟩,fun lc hlc => ?_⟩
  have dW2:=hW.mono e2.toSame
  refine qB3 (xs:=ns.map V.int) (fun j σ' G => ∃(o0:Option V),σ' = [o0,some (.ref wa),some (.int n),some (.int x)]/\Ext [lc] H2 G/\G lc=some (.lst (((ns.take j).filter fun y=>decide (y∈waitTo ws x n wk.length)).map V.int))) ?_ ?_ ?_ ?_
  ·exact⟨none,rfl,.laid hlc,qA1⟩
  ·rintro j σ' G hj ⟨o0,rfl,e3,hlc3⟩
   exact SqL.of (e3 _ _ (by simpa using qA2 hlr2 hlc) hlr2)
  ·rintro j v σ' G R hv ⟨o0,rfl,e3,hlc3⟩ hR
   obtain⟨y,hy',rfl⟩:=qBc hv
   have hjl:j<ns.length:=(List.getElem?_eq_some_iff.mp hy').1
   have htk:ns.take (j+1)=ns.take j ++ [y]:=by rw [List.take_add_one,hy'];rfl
   have hfl:=List.length_filter_le (fun y=>decide (y∈waitTo ws x n wk.length)) (ns.take j)
   rw [List.length_take] at hfl
   obtain⟨y0,y1⟩:=hrg y (List.mem_of_getElem? hy')
   obtain⟨b,rfl⟩ : ∃b:Nat,y=(b:Int):=⟨y.toNat,by omega⟩
   have hbl:b<wk.length:=by omega
   have hpl:((n:Int),(b:Int))∈places ws:=by
    refine mem_places.mpr ?_
    rw [qD0,hwk]
    exact⟨_,List.getElem?_eq_getElem hbl⟩
   have hiff:((b:Int)∈waitTo ws x n wk.length)↔askB ws x ((n:Int),(b:Int))=true:=by
    rw [qMk]
    constructor
    ·rintro⟨a,ha,_,h⟩
     rw [show b=a by omega];exact h
    ·exact fun h=>⟨b,rfl,hbl,h⟩
   walk_at "rd"
   refine⟨wa,ws,n,b,x,rfl,dW2.mono (e3.drop hlc).toSame,hok,hpl,fun G6 e6 => ?_⟩
   have hlc6:=e6 _ _ (by simp) hlc3
   refine⟨askB ws x ((n:Int),(b:Int)),rfl,?_⟩
   cases hask:askB ws x ((n:Int),(b:Int)) with
   | true =>
    have hc:=hiff.mpr hask
    refine iteT (iteT ?_)
    walk_at "rd"
    refine⟨_,hlc6,qAb (by rw [List.length_map];omega),hR _ _ ⟨_,rfl,(e3.trans (e6.mono (by simp))).trans (.put (by simp)),?_⟩⟩
    rw [qA1,htk,List.filter_append,List.filter_cons,decide_eq_true hc,if_pos rfl,List.filter_nil,List.map_append];rfl
   | false =>
    have hc : ¬(b:Int)∈waitTo ws x n wk.length:=fun z=>by rw [hiff.mp z] at hask;cases hask
    refine iteF (iteF (hR _ _ ⟨_,rfl,e3.trans (e6.mono (by simp)),?_⟩))
    rw [hlc6,htk,List.filter_append,List.filter_cons,decide_eq_false hc,if_neg Bool.false_ne_true,List.filter_nil,List.append_nil]
  ·rintro σ' G ⟨o0,rfl,e3,hlc3⟩
   rw [List.length_map,List.take_length] at hlc3
   generalize hF:ns.filter (fun y=>decide (y∈waitTo ws x n wk.length))=F at hlc3
   have hFm : ∀y,y∈F↔y∈ns/\y∈waitTo ws x n wk.length:=fun y=>by rw [<-hF,List.mem_filter,decide_eq_true_eq]
   have hFl:F.length<=ns.length:=by rw [<-hF];exact List.length_filter_le _ _
   have E3:Ext [] H2 G:=e3.drop hlc
   have hwl:=qE1 wk x wk.length
   walk_at "rd"
   refine⟨wb,wk,m,_,x,rfl,hDw.mono (e2.trans E3).toSame,hWk,hm2,fun lw H4 hlw e4 hlw4 => ?_⟩
   walk_at "rd"
   refine⟨lw,lc,_,_,rfl,rfl,hlw4,e4 _ _ (by simp) hlc3,len2 (by rw [List.length_map,List.length_map];omega),fun f1 hf1 => ?_⟩
   rw [<-List.map_append]
   have X5:Ext [] H4 (upd H4 f1 (.lst ((wrTo wk x wk.length++F).map V.int))) :=.laid hf1
   have hf15:(upd H4 f1 (.lst ((wrTo wk x wk.length++F).map V.int))) f1=some (.lst ((wrTo wk x wk.length++F).map V.int)):=qA1
   generalize upd H4 f1 (.lst ((wrTo wk x wk.length++F).map V.int))=H5 at X5 hf15 ⊢
   walk_at "rd"
   have hal:=qDh (wrTo wk x wk.length++F)
   rw [List.length_append] at hal
   refine⟨f1,_,rfl,SqL.of hf15,by rw [List.length_append];omega,fun s1 hs1 => ?_⟩
   walk_at "rd"
   refine⟨s1,_,rfl,qA1,by omega,fun lx nx hlx hpx hso => ?_⟩
   have EF:Ext [] H (upd H5 s1 (setO w (qBj (wrTo wk x wk.length++F)))):=(e2.trans (E3.trans (e4.trans X5))).trans (.laid hs1)
   refine q lx nx _ (EF.none (by simp) hlx) (EF.trans (.laid hlx)) qA1 hso (hpx.symm.nodup (qD2 _)) fun y => ?_
   rw [hpx.mem_iff,qEr,List.mem_append,hFm,hy]
   rfl
end
section
variable {P:Program} {w:World} {K:PySem.W.Frag} {mg:Str->Option Value} {base:Heap}
abbrev qEo:Stmt:=top 23
theorem qQ4:FnScope ["_law_work_here"] ["_law_work_here"] (qA8 qEo):=⟨rfl,rfl,rfl,by decide +kernel,rfl,by decide +kernel,by decide +kernel⟩
theorem qOe {f:Addr} {fd:FuncData} (F:Fun K "_law_boxes" "_law_boxes" qEo f fd) (nrange:mg "range" = none) (hWr:Has P w K mg base "_law_writes" 1 ["_law_work_here","_law_box"] (qCs K)) :
  FnOk P w K mg base CX0 2 f fd ["_law_work_here"] (qHm K):=by
 refine F.ok qQ4 (fun vs H Q E h => ?_) (fun cdv A outer s H vs Q E hr h => ?_)
 ·obtain⟨wa,wk,m,works,rfl,_⟩:=h
  rfl
 ·obtain⟨wa,wk,m,works,rfl,hW,hOk,hm,q⟩:=h
  refine⟨_,qA9 (qAw (qDu ["_law_box"] [0] rfl (.of rfl) (qBk rfl nrange (qA0 qA6 qA3)) (fun _ _ _ _=>qAa (i:=0) (by show ((["_law_box","_law_work_here"]:List Str)).Nodup;decide) rfl (Or.inl rfl)) (fun _ _ _ _ =>.cons (qAe (neDK K rfl hr) (qAr hWr hr (by decide) (qA0 (pv 1) (qA0 (pv 0) qA3))) (qAs qA3) (qAm _)) .nil) (fun _ _ _ _=>pv 0))),?_⟩
  try dsimp only [qBx,qBp,qMf,qTx]
  have hwm:=hOk.len
  walk_at "rd"
  refine⟨8,rfl,by decide,by decide,fun lc hlc => ?_⟩
  refine qDb (lo:=0) (n:=(8:Int).toNat) (fun j σ' G => ∃(o0:Option V),σ' = [o0,some (.ref wa)]/\Ext [lc] H G/\G lc=some (.lst ((boxTo wk j).map V.int))) ?_ ?_ ?_
  ·exact⟨none,rfl,.laid hlc,qA1⟩
  ·rintro j σ' G R hj ⟨o0,rfl,e3,hlc3⟩ hR
   have hj8:j<8:=hj
   have hbl:=qPm wk j
   walk_at "rd"
   refine⟨wa,wk,m,works,(j:Int),by show [V.ref wa,V.int (0+(j:Int))] = [V.ref wa,V.int (j:Int)];rw [Int.zero_add],hW.mono (e3.drop hlc).toSame,hOk,hm,fun lw G4 hlw e4 hlw4 => ?_⟩
   walk_at "rd"
   refine⟨len2 (Nat.zero_le _),fun le hle => ?_⟩
   have X5:Ext [] G4 (upd G4 le (.lst [])) :=.laid hle
   have hle5:(upd G4 le (.lst [])) le=some (.lst []):=qA1
   generalize upd G4 le (.lst [])=G5 at X5 hle5 ⊢
   have hwl:=qE1 wk (j:Int) wk.length
   obtain⟨t1,t2,t3⟩:=qEc (ns:=wrTo wk (j:Int) wk.length) (fun n hn=>by have:=qGm hOk hn;omega) (by omega)
   have tS:=qCh t1 t3 ⟨_,rfl⟩
   obtain⟨z1,z2,z3⟩:=qEc (ns :=[]) (fun n hn=>by cases hn) (by decide)
   have zS:=qCh z1 z3 ⟨_,rfl⟩
   refine⟨intsD (wrTo wk (j:Int) wk.length),intsD [],.list (SqL.of (X5 _ _ (by simp) hlw4)) (DenL.ofInts _),.list (SqL.of hle5) (DenL.ofInts _),tS,zS,?_⟩
   rw [if_pos rfl]
   have hev:PyData.eqv (intsD (wrTo wk (j:Int) wk.length)) (intsD [])=decide (wrTo wk (j:Int) wk.length = []):=by
    cases wrTo wk (j:Int) wk.length with
    | nil=>rfl
    | cons a r=>simp [intsD,PyData.eqv,PyData.eqvAll]
   rw [hev]
   walk_at "rd"
   have hlc5:=(e4.trans X5) _ _ (by simp) hlc3
   by_cases hc:wrTo wk (j:Int) wk.length = []
   ·rw [decide_eq_true hc]
    refine iteF (iteF (hR _ _ ⟨_,rfl,e3.trans ((e4.trans X5).mono (by simp)),?_⟩))
    rw [hlc5,qHe,if_pos hc]
   ·rw [decide_eq_false hc]
    refine iteT (iteT ?_)
    walk_at "rd"
    refine⟨_,hlc5,qAb (by rw [List.length_map];omega),hR _ _ ⟨_,rfl,(e3.trans ((e4.trans X5).mono (by simp))).trans (.put (by simp)),?_⟩⟩
    rw [qA1,qHe,if_neg hc,List.map_append,Int.zero_add];rfl
  ·rintro σ' G ⟨o0,rfl,e3,hlc3⟩
   exact q lc G hlc (e3.drop hlc) hlc3
end
section
variable {P:Program} {w:World} {K:PySem.W.Frag} {mg:Str->Option Value} {base:Heap}
abbrev qGw:Stmt:=top 16
theorem qSe:FnScope ["_law_work_here"] ["_law_work_here"] (qA8 qGw):=⟨rfl,rfl,rfl,by decide +kernel,rfl,by decide +kernel,by decide +kernel⟩
theorem qQm {f:Addr} {fd:FuncData} (F:Fun K "_law_ends" "_law_ends" qGw f fd) (nlist:mg "list" = none):FnOk P w K mg base CX0 1 f fd ["_law_work_here"] (qNg K):=by
 refine F.ok qSe (fun vs H Q E h => ?_) (fun cdv A outer s H vs Q E hr h => ?_)
 ·obtain⟨a,w,rfl,_⟩:=h
  rfl
 ·obtain⟨a,wk,rfl,hW,hns,hwl,q⟩:=h
  have nd2:((["_law_deeds_here","_law_end"]:List Str)).Nodup:=by decide
  refine⟨_,qA9 (qAw (qDu ["_law_deeds_here","_law_end"] [] rfl (.of rfl) (qBd (pv 0)) (fun _ _ _ _=>qHv (n:=2) K rfl rfl (qAp (qAa (i:=0) nd2 rfl (Or.inl rfl)) (qAp (qAa (i:=1) nd2 rfl (Or.inl rfl)) qC1))) (fun _ _ _ _ =>.nil)
   (fun _ _ _ _=>qB0 (qLc K rfl) (by rfl) nlist PyProof.Rows.boot_list (qA0 (qC4 (qNi K rfl) (pv 1) (qCv qA6) qCw) qA3)))),?_⟩
  dsimp only [qBx,qBp]
  obtain⟨a',vs,ea,hSq,hDL⟩:=hW.ofList
  cases ea
  have hvl:vs.length=wk.length:=by rw [hDL.len,List.length_map]
  walk_at "rd"
  refine⟨a,rfl,⟨vs,hSq⟩,fun l hl => ?_⟩
  refine qB3 (xs:=vs) (fun i σ' H' => ∃(ws:List V) (o0 o1:Option V),σ' = [o0,o1]/\Ext [l] H H'/\H' l=some (.lst ws)/\DenL K (yo H [l] H') ((wk.take i).map fun b=>intsD b.ns) ws) ?_ ?_ ?_ ?_
  ·exact⟨[],none,none,rfl,.laid hl,qA1,.nil⟩
  ·rintro i σ' H' hi ⟨ws,o0,o1,rfl,e',hl',hden⟩
   exact (e'.drop hl).toSame.seq hSq
  ·rintro i x σ' H' R hx ⟨ws,o0,o1,rfl,e',hl',hden⟩ hR
   have es:Same H H':=(e'.drop hl).toSame
   obtain⟨dd,hdd,hDx⟩:=hDL.get hx
   obtain⟨b,hb,rfl⟩ : ∃b,wk[i]? = some b/\dd=blkD b:=by
    rw [List.getElem?_map] at hdd
    cases z:wk[i]? with
    | none=>rw [z] at hdd;cases hdd
    | some n=>rw [z] at hdd;exact⟨n,rfl,(Option.some.inj hdd).symm⟩
   have hi:i<wk.length:=(List.getElem?_eq_some_iff.mp hb).1
   have hb2:=hns b (List.mem_of_getElem? hb)
   obtain⟨c,us,rfl,hc,hcs⟩:=hDx.ofTuple
   obtain⟨v1,r1,rfl,hd1,hr1⟩:=hcs.ofCons
   obtain⟨v2,r2,rfl,hd2,hr2⟩:=hr1.ofCons
   have hr2:=hr2.ofNil
   subst hr2
   obtain⟨wd,hwd⟩:=qP3 hb2
   rw [hwd] at hd2
   obtain⟨en,es',rfl,hen,hes⟩:=hd2.ofTuple
   obtain⟨v3,r3,rfl,hd3,hr3⟩:=hes.ofCons
   have e3:=hd3.ofStr
   subst e3
   have e4:=hr3.ints
   subst e4
   refine qCt (es.seqT hc) rfl ?_
   walk_at "rd"
   refine iteT ?_
   walk_at "rd"
   refine⟨1,rfl,?_⟩
   walk_at "rd"
   refine⟨en,_,rfl,es.seqT hen,?_,fun p hp => ?_⟩
   ·intro h
    have:=h.1
    revert this
    have hn:(V.str wd::b.ns.map V.int).length=b.ns.length+1:=by simp
    rw [hn]
    unfold HT.sIx
    simp
    try omega
   have hcut:cutV (V.str wd::b.ns.map V.int) (some 1) none=b.ns.map V.int:=by
    match hh:b.ns,hb2 with
    | [],_=>rfl
    | [x],_=>rfl
    | [x,y],_=>rfl
   rw [hcut]
   have npl:p≠l:=(qA2 hl' hp).symm
   walk_at "rd"
   refine⟨p,_,rfl,.inr (SqT.of qA1),fun l2 hl2 => ?_⟩
   have l':upd H' p (.tup (b.ns.map V.int)) l=some (.lst ws):=by rw [qA4 npl.symm];exact hl'
   have n2:l2≠l:=(qA2 l' hl2).symm
   have hwsl:ws.length=i:=by rw [hden.len,List.length_map,List.length_take];omega
   refine⟨ws,by rw [qA4 n2.symm];exact l',qAb (by omega),hR _ _ ⟨ws ++ [.ref l2],_,_,rfl,?_,qA1,?_⟩⟩
   ·exact e'.trans ((Ext.laid hp).trans ((Ext.laid hl2).trans (.put (by simp))))
   ·have ht:wk.take (i+1)=wk.take i ++ [b]:=by rw [List.take_add_one,hb];rfl
    have E2:Ext [l] H' (upd (upd (upd H' p (.tup (b.ns.map V.int))) l2 (.lst (b.ns.map V.int))) l (.lst (ws ++ [.ref l2]))):=(Ext.laid hp).trans ((Ext.laid hl2).trans (.put (by simp)))
    rw [ht,List.map_append]
    refine DenL.append (hden.mono E2.young) (.cons (.list (SqL.of ?_) (DenL.ofInts b.ns)) .nil)
    rw [qAv ((e'.trans (.laid hp)).none (by simpa using n2) hl2) (by simpa using n2),qA4 n2,qA1]
  ·rintro σ' H' ⟨ws,o0,o1,rfl,e',hl',hden⟩
   rw [hvl,List.take_length] at hden
   refine q l H' hl (e'.drop hl) (.list (SqL.of ?_) (hden.mono (qHf (by simp))))
   rw [qAv hl (by simp)];exact hl'
end
section
variable {P:Program} {w:World} {K:PySem.W.Frag} {mg:Str->Option Value} {base:Heap}
abbrev sWays:Stmt:=top 17
theorem scWays:FnScope ["_law_work_here","_law_found","_law_block","_law_there"] ["_law_work_here"] (qA8 sWays):=⟨rfl,rfl,rfl,by decide +kernel,rfl,by decide +kernel,by decide +kernel⟩
theorem qT0 {f:Addr} {fd:FuncData} (F:Fun K "_law_ways" "_law_ways" sWays f fd) (nenum:mg "enumerate" = none) (nlen:mg "len" = none) (nint:mg "int" = none) (nsort:mg "sorted" = none)
  (hE:Has P w K mg base "_law_ends" 1 ["_law_work_here"] (qNg K)):FnOk P w K mg base CX0 2 f fd ["_law_work_here"] (qNb K):=by
 refine F.ok scWays (fun vs H Q E h => ?_) (fun cdv A outer s H vs Q E hr h => ?_)
 ·obtain⟨a,w,m,works,rfl,_⟩:=h
  rfl
 ·obtain⟨a,wk,m,works,rfl,hW,hOk,hm,q⟩:=h
  refine⟨_,qA7 (qAn (i:=1) scWays.nd rfl (Or.inl rfl) (qAs (qA0 (qB9 (qA0 (qSs qN3 qA6) (qA0 qA6 qA3))) qA3)))
   (qA7 (qC3 PassesOwn.never rfl (qKb rfl nenum (qA0 (qAr hE hr (by decide) (qA0 (pv 0) qA3)) qA3)) (qF2 (n:=2) rfl (qAp (qAa (i:=2) scWays.nd rfl (Or.inr rfl)) (qAp (qAa (i:=3) scWays.nd rfl (Or.inl rfl)) qC1)))
    (qA9 (qAn (i:=1) scWays.nd rfl (Or.inl rfl) (qAq qG0 (qAq qG0 (pv 1)
     (qDu ["_law_to"] [2] rfl (.of rfl) (qBd (qAc qMu (by rfl) nsort PyProof.Rows.boot_sorted (qA0 (pv 3) qA3))) (fun _ _ _ _=>qAa (i:=0) (by show ((["_law_to","_law_block"]:List Str)).Nodup;decide) rfl (Or.inl rfl)) (fun _ _ _ _ =>.nil) (fun _ _ _ _=>qB9 (qA0 (pv 1) (qA0 (pv 0) qA3)))))
     (qAq qVa (qAs (qA0 (qB9 (qA0 (pv 2) (qA0 (qAc qAo (by rfl) nlen PySem.boot_len (qA0 (pv 0) qA3)) qA3))) qA3)) (qB0 qCc (by rfl) nint PyProof.Rows.boot_int (qA0 (qBe (qRr hr) (pv 3) (qAs qA3) (qAm _)) qA3)))))))
   (qA9 (qAw (pv 1)))),?_⟩
  dsimp only [qBx,qBp]
  obtain⟨a',vs,ea,hSq,hDL⟩:=hW.ofList
  cases ea
  have hvl:vs.length=wk.length:=by rw [hDL.len,List.length_map]
  have hwm:=hOk.len
  have hns : ∀b∈wk,b.ns.length<=2:=fun b hb=>(hOk.blk b hb).ns.few
  walk_at "rd"
  refine⟨len2 (by show 2<=1000;decide),fun p0 hp0 => ?_⟩
  walk_at "rd"
  refine⟨len2 (by show 1<=1000;decide),fun l0 hl0 => ?_⟩
  have E0:=(Ext.laid (ts :=[]) (o :=.tup [V.int (-1),.int 0]) hp0).trans (.laid (o :=.lst [V.ref p0]) hl0)
  have n0:p0≠l0:=qA2 qA1 hl0
  walk_at "rd"
  refine⟨a,wk,rfl,hW.mono E0.toSame,hns,by omega,fun le H1 hle e1 hDe => ?_⟩
  obtain⟨le',us,ea,hSe,hDu⟩:=hDe.ofList
  cases ea
  have hul:us.length=wk.length:=by rw [hDu.len,List.length_map]
  refine⟨le,rfl,⟨us,yo_same.seq hSe⟩,qI0 (xs:=us) (fun i σ' H' => ∃(fl:Addr) (fs:List V) (o2 o3:Option V),σ' = [some (.ref a),some (.ref fl),o2,o3]/\Ext [] H1 H'/\H fl=none/\H' fl=some (.lst fs)/\DenL K (yo H [] H') ((qAj wk i).map pairD) fs) ?_ ?_ ?_ ?_⟩
  ·refine⟨l0,[.ref p0],none,none,rfl,.refl _ _,by rw [qA4 n0.symm] at hl0;exact hl0,e1 _ _ (by simp) qA1,.cons (.tuple (SqT.of ?_) (.cons .int (.cons .int .nil))) .nil⟩
   rw [qAv hp0 (by simp)]
   exact e1 _ _ (by simp) (by rw [qA4 n0,qA1])
  ·rintro i σ' H' hi ⟨fl,fs,o2,o3,rfl,e',hfl0,hfl,hden⟩
   exact e'.toSame.seq (yo_same.seq hSe)
  ·rintro i x σ' H' pt hx ⟨fl,fs,o2,o3,rfl,e',hfl0,hfl,hden⟩ hpt
   obtain⟨dd,hdd,hDx⟩:=hDu.get hx
   obtain⟨b,hb,rfl⟩ : ∃b,wk[i]? = some b/\dd=intsD b.ns:=by
    rw [List.getElem?_map] at hdd
    cases z:wk[i]? with
    | none=>rw [z] at hdd;cases hdd
    | some n=>rw [z] at hdd;exact⟨n,rfl,(Option.some.inj hdd).symm⟩
   have hi:i<wk.length:=(List.getElem?_eq_some_iff.mp hb).1
   have hok:=(hOk.blk b (List.mem_of_getElem? hb)).ns
   obtain⟨c,zs,rfl,hc,hcs⟩:=hDx.ofList
   have hzs:=hcs.ints
   subst hzs
   have e2:Ext [] H1 (upd H' pt (.tup [.int i,.ref c])):=e'.trans (.laid hpt)
   have EH:Ext [] H (upd H' pt (.tup [.int i,.ref c])):=E0.trans (e1.trans e2)
   have den2:=hden.mono (Ext.young (H0:=H) (Ext.laid (ts :=[]) (o :=.tup [.int i,.ref c]) hpt))
   have hfl2:=Ext.laid (ts :=[]) (o :=.tup [.int i,.ref c]) hpt _ _ (by simp) hfl
   generalize hH2:upd H' pt (.tup [.int i,.ref c])=H2 at *
   have hptT:SqT K H2 pt [.int i,.ref c]:=SqT.of (by rw [<-hH2,qA1])
   have hc2:SqL K H2 c (b.ns.map V.int):=e2.toSame.seq (yo_same.seq hc)
   refine qCt hptT rfl ?_
   walk_at "rd"
   refine⟨c,b.ns,rfl,hc2,by have:=hok.few;omega,fun ls ns' hls hpm hsd => ?_⟩
   have hsr:=qU3 hok hpm hsd
   subst hsr
   refine⟨ls,rfl,⟨_,SqL.of qA1⟩,fun lc hlc => ?_⟩
   have nsc:ls≠lc:=qA2 qA1 hlc
   generalize hH3:upd H2 ls (.lst ((srt b.ns).map V.int))=H3 at *
   have e3:Ext [] H2 H3:=by rw [<-hH3];exact .laid hls
   have h3s:H3 ls=some (.lst ((srt b.ns).map V.int)):=by rw [<-hH3,qA1]
   have hsl:(srt b.ns).length<=2:=by rw [qNa];exact hok.few
   have hlcH:H lc=none:=(EH.trans e3).none (by simp) hlc
   refine qB3 (xs:=(srt b.ns).map V.int) (fun j σ' H' => ∃(o0:Option V) (ws:List V),σ' = [o0,some (.int i)]/\Ext [lc] H3 H'/\H' lc=some (.lst ws)/\DenL K (yo H [lc] H') (((srt b.ns).take j).map fun x=>pairD ((i:Int),x)) ws) ?_ ?_ ?_ ?_
   ·exact⟨none,[],rfl,.laid hlc,qA1,.nil⟩
   ·rintro j σ' H' hj ⟨o0,ws,rfl,e4,hws,hden4⟩
    exact SqL.of (e4 _ _ (by simpa using nsc) h3s)
   ·rintro j x σ' H' R hx ⟨o0,ws,rfl,e4,hws,hden4⟩ hR
    obtain⟨y,hy,rfl⟩ : ∃y,(srt b.ns)[j]? = some y/\x=V.int y:=by
     rw [List.getElem?_map] at hx
     cases z:(srt b.ns)[j]? with
     | none=>rw [z] at hx;cases hx
     | some n=>rw [z] at hx;exact⟨n,rfl,(Option.some.inj hx).symm⟩
    have hj:j<(srt b.ns).length:=(List.getElem?_eq_some_iff.mp hy).1
    walk_at "rd"
    refine iteT ?_
    walk_at "rd"
    refine⟨len2 (by show 2<=1000;decide),fun p hp => ?_⟩
    have npl:p≠lc:=(qA2 hws hp).symm
    have hwl:ws.length=j:=by rw [hden4.len,List.length_map,List.length_take];omega
    refine⟨ws,by rw [qA4 npl.symm];exact hws,qAb (by omega),hR _ _ ⟨_,ws ++ [.ref p],rfl,?_,qA1,?_⟩⟩
    ·exact e4.trans ((Ext.laid hp).trans (.put (by simp)))
    ·have ht:(srt b.ns).take (j+1)=(srt b.ns).take j ++ [y]:=by rw [List.take_add_one,hy];rfl
     rw [ht,List.map_append]
     refine DenL.append (hden4.mono ((Ext.laid hp).trans (.put (by simp))).young) (.cons (.tuple (SqT.of ?_) (.cons .int (.cons .int .nil))) .nil)
     rw [qAv (((EH.trans e3).mono (us :=[lc]) (by simp)).trans e4 |>.none (by simpa using npl) hp) (by simpa using npl),qA4 npl,qA1]
   ·rintro σ' H4 ⟨o0,ws,rfl,e4,hws,hden4⟩
    rw [List.length_map,List.take_length] at hden4
    have e24:Ext [] H2 H4:=(e3.trans (e4.drop hlc))
    have hfl4:=e24 _ _ (by simp) hfl2
    have hfsl:fs.length<=1+2*i:=by rw [den2.len,List.length_map];exact qBq hns i
    have hwsl:ws.length<=2:=by rw [hden4.len,List.length_map];exact hsl
    refine⟨fl,lc,fs,ws,rfl,rfl,hfl4,hws,len2 (by omega),fun f1 hf1 => ?_⟩
    have e5:Ext [] H2 (upd H4 f1 (.lst (fs++ws))):=e24.trans (.laid hf1)
    have den5:DenL K (yo H [] (upd H4 f1 (.lst (fs++ws)))) ((qAj wk i).map pairD++(srt b.ns).map (fun x=>pairD ((i:Int),x))) (fs++ws) :=
     DenL.append (den2.mono e5.young) ((hden4.mono (qHf (by simp))).mono (Ext.laid hf1).young)
    have h5:upd H4 f1 (.lst (fs++ws)) f1=some (.lst (fs++ws)):=qA1
    generalize upd H4 f1 (.lst (fs++ws))=H5 at *
    walk_at "rd"
    refine⟨a,vs,rfl,.inl ((EH.trans e5).toSame.seq hSq),?_⟩
    rw [hvl]
    walk_at "rd"
    refine⟨len2 (by show 2<=1000;decide),fun pm hpm => ?_⟩
    walk_at "rd"
    refine⟨len2 (by show 1<=1000;decide),fun lm hlm => ?_⟩
    have e6:Ext [] H5 (upd (upd H5 pm (.tup [.int i,.int wk.length])) lm (.lst [.ref pm])):=(Ext.laid hpm).trans (.laid hlm)
    have npm:pm≠lm:=qA2 qA1 hlm
    have h6:upd (upd H5 pm (.tup [.int i,.int wk.length])) lm (.lst [.ref pm]) lm=some (.lst [.ref pm]):=qA1
    have hpm6:SqT K (yo H [] (upd (upd H5 pm (.tup [.int i,.int wk.length])) lm (.lst [.ref pm]))) pm [.int i,.int wk.length]:=SqT.of (by
     rw [qAv ((EH.trans e5).none (by simp) hpm) (by simp),qA4 npm,qA1])
    generalize upd (upd H5 pm (.tup [.int i,.int wk.length])) lm (.lst [.ref pm])=H6 at *
    walk_at "rd"
    refine⟨len2 (Nat.zero_le _),fun e0 he0 => ?_⟩
    have e7:Ext [] H6 (upd H6 e0 (.lst [])) :=.laid he0
    refine⟨intsD b.ns,.list [],.list ((e5.trans (e6.trans e7)).toSame.seq hc2) (DenL.ofInts b.ns),.list (SqL.of qA1) .nil,qNj hok,rfl,?_⟩
    rw [qF4]
    have h7:=e7 _ _ (by simp) h6
    have hpm7:=e7.young.seqT hpm6
    have f7:=(e6.trans e7) _ _ (by simp) h5
    have den7:=den5.mono (e6.trans e7).young
    have e57:=e6.trans e7
    generalize upd H6 e0 (.lst [])=H7 at *
    walk_at "rd"
    refine .inr ⟨_,rfl,?_⟩
    have hwt:(qAj wk (i+1)).map pairD=(qAj wk i).map pairD++(srt b.ns).map (fun x=>pairD ((i:Int),x))++(if b.ns = [] then [pairD ((i:Int),(wk.length:Int))] else []):=by
     show (qAj wk i++outs wk.length i ((wk[i]?.map Blk.ns).getD [])).map pairD=_
     rw [hb]
     show (qAj wk i++outs wk.length i b.ns).map pairD=_
     unfold outs
     rw [List.map_append,List.map_append,List.map_map,List.append_assoc]
     congr 2
     split <;> rfl
    have key : ∀(rs:List V),DenL K (yo H [] H7) (if b.ns = [] then [pairD ((i:Int),(wk.length:Int))] else []) rs->rs.length<=1 -> ∀lr,H7 lr=none -> ∀f2,upd H7 lr (.lst rs) f2=none ->
      DenL K (yo H [] (upd (upd H7 lr (.lst rs)) f2 (.lst (fs++ws++rs)))) ((qAj wk (i+1)).map pairD) (fs++ws++rs):=by
     intro rs hrs hrl lr hlr f2 hf2
     rw [hwt]
     exact DenL.append (den7.mono ((Ext.laid hlr).trans (.laid hf2)).young) (hrs.mono ((Ext.laid hlr).trans (.laid hf2)).young)
    have fin : ∀(k:Int) (rs:List V),(k=0\/k=1)->(List.replicate k.toNat [V.ref pm]).flatten=rs->DenL K (yo H [] H7) (if b.ns = [] then [pairD ((i:Int),(wk.length:Int))] else []) rs -> ∀Q:VK,(∀f2 H8,Ext [] H2 H8->H f2=none->H8 f2=some (.lst (fs++ws++rs))->DenL K (yo H [] H8) ((qAj wk (i+1)).map pairD) (fs++ws++rs)->Q (.ref f2) H8) ->
      rRep (.ref lm) (.int k) H7 (fun y H2=>rCat (.ref f1) y H2 Q):=by
     intro k rs hk hrs hden Q hQ
     have hrl:rs.length<=1:=by rw [<-hrs];rcases hk with h | h <;> subst h <;> first | exact Nat.zero_le _ | exact Nat.le_refl _
     refine⟨lm,k,[.ref pm],rfl,rfl,h7,by omega,by omega,len2 (by rcases hk with h | h <;> subst h <;> first | (show 1*0<=1000;decide) | (show 1*1<=1000;decide)),fun lr hlr => ?_⟩
     rw [hrs]
     refine⟨f1,lr,fs++ws,rs,rfl,rfl,Ext.laid (ts :=[]) hlr _ _ (by simp) f7,qA1,len2 (by rw [List.length_append];omega),fun f2 hf2 => ?_⟩
     refine hQ f2 _ (e5.trans (e57.trans ((Ext.laid hlr).trans (.laid hf2)))) ?_ qA1 (key rs hden hrl lr hlr f2 hf2)
     exact (EH.trans (e5.trans (e57.trans (.laid hlr)))).none (by simp) hf2
    by_cases hb0:b.ns = []
    ·rw [decide_eq_true hb0]
     rw [if_pos hb0] at fin
     refine fin 1 [.ref pm] (.inr rfl) rfl (.cons (.tuple hpm7 (.cons .int (.cons .int .nil))) .nil) _ fun f2 H8 e8 h0 h8 d8 => ?_
     exact⟨f2,_,_,_,rfl,e2.trans e8,h0,h8,d8⟩
    ·rw [decide_eq_false hb0]
     rw [if_neg hb0] at fin
     refine fin 0 [] (.inl rfl) rfl .nil _ fun f2 H8 e8 h0 h8 d8 => ?_
     exact⟨f2,_,_,_,rfl,e2.trans e8,h0,h8,d8⟩
  ·rintro σ' H' ⟨fl,fs,o2,o3,rfl,e',hfl0,hfl,hden⟩
   rw [hul] at hden
   walk_at "rd"
   refine q fl H' hfl0 (E0.trans (e1.trans e')) (.list (SqL.of ?_) hden)
   rw [qAv hfl0 (by simp)];exact hfl
end
section
variable {P:Program} {w:World} {K:PySem.W.Frag} {mg:Str->Option Value} {base:Heap}
theorem qR3 {m:Int} {ns:List Int} (h:NsOk m ns) : ∃wd:Str,endD ns = .tuple (.str wd::ns.map .int)/\(wd = "out" ↔ ns = []):=by
 rcases h with z | ⟨x,z,_⟩ | ⟨x,y,z,_⟩ <;> subst z
 ·exact⟨_,rfl,by simp⟩
 ·exact⟨"go",rfl,by simp;decide⟩
 ·exact⟨"fork",rfl,by simp;decide⟩
abbrev qEl:Stmt:=top 1
theorem scWaysOf:FnScope ["work","ways","at","deeds","end"] ["work"] (qA8 qEl):=⟨rfl,rfl,rfl,by decide +kernel,rfl,by decide +kernel,by decide +kernel⟩
theorem qOb {f:Addr} {fd:FuncData} (F:Fun K "ways_of" "ways_of" qEl f fd) (nenum:mg "enumerate" = none) (nlen:mg "len" = none) (nsort:mg "sorted" = none) :
  FnOk P w K mg base CX0 1 f fd ["work"] (qHk K):=by
 refine F.ok scWaysOf (fun vs H Q E h => ?_) (fun cdv A outer s H vs Q E hr h => ?_)
 ·obtain⟨a,w,m,works,rfl,_⟩:=h
  rfl
 ·obtain⟨a,wk,m,works,rfl,hW,hOk,hm,q⟩:=h
  refine⟨_,qA7 (qAn (i:=1) scWaysOf.nd rfl (Or.inl rfl) (qAs (qA0 (qB9 (qA0 (qSs qN3 qA6) (qA0 qA6 qA3))) qA3)))
   (qA7 (qC3 PassesOwn.never rfl (qKb rfl nenum (qA0 (pv 0) qA3)) (qF2 (n:=2) rfl (qAp (qAa (i:=2) scWaysOf.nd rfl (Or.inr rfl)) (qAp (qF2 (n:=2) rfl (qAp (qAa (i:=3) scWaysOf.nd rfl (Or.inl rfl)) (qAp (qAa (i:=4) scWaysOf.nd rfl (Or.inl rfl)) qC1))) qC1)))
    (qA9 (qDl (qAe qC9 (qAu qC6 (pv 4) qA6 (fun _ _=>rfl)) qBl (qAm _))
     (qA9 (qBw (qE6 PySem.F.plainAttrs_list PySem.F.slot_list_append PySem.F.type_list_append qBg (pv 1) (qA0 (qB9 (qA0 (pv 2) (qA0 (qAc qAo (by rfl) nlen PySem.boot_len (qA0 (pv 0) qA3)) qA3))) qA3))))
     (qA9 (qBw (qE6 PySem.F.plainAttrs_list PySem.F.slot_list_extend PySem.F.type_list_extend qJ2 (pv 1) (qA0
      (qDu ["to"] [2] rfl (.of rfl) (qRo (qC4 qKw (pv 4) (qCv qA6) qCw)) (fun _ _ _ _=>qAa (i:=0) (by show ((["to","at"]:List Str)).Nodup;decide) rfl (Or.inl rfl)) (fun _ _ _ _ =>.nil) (fun _ _ _ _=>qB9 (qA0 (pv 1) (qA0 (pv 0) qA3)))) qA3)))))))
   (qA9 (qAw (qAc qMt (by rfl) nsort PyProof.Rows.boot_sorted (qA0 (pv 1) qA3))))),?_⟩
  dsimp only [qBx,qBp]
  obtain⟨a',vs,ea,hSq,hDL⟩:=hW.ofList
  cases ea
  have hvl:vs.length=wk.length:=by rw [hDL.len,List.length_map]
  have hwm:=hOk.len
  walk_at "rd"
  refine⟨len2 (by show 2<=1000;decide),fun p0 hp0 => ?_⟩
  walk_at "rd"
  refine⟨len2 (by show 1<=1000;decide),fun l0 hl0 => ?_⟩
  have E0:=(Ext.laid (ts :=[]) (o :=.tup [V.int (-1),.int 0]) hp0).trans (.laid (o :=.lst [V.ref p0]) hl0)
  have n0:p0≠l0:=qA2 qA1 hl0
  have hl00:H l0=none:=by rw [qA4 n0.symm] at hl0;exact hl0
  have d0:DenL K (yo H [l0] (upd (upd H p0 (.tup [V.int (-1),.int 0])) l0 (.lst [V.ref p0]))) ((rawTo wk 0).map pairD) [V.ref p0]:=by
   refine .cons (.tuple (SqT.of ?_) (.cons .int (.cons .int .nil))) .nil
   rw [qAv hp0 (by simpa using n0),qA4 n0,qA1]
  have l1:upd (upd H p0 (.tup [V.int (-1),.int 0])) l0 (.lst [V.ref p0]) l0=some (.lst [V.ref p0]):=qA1
  generalize upd (upd H p0 (.tup [V.int (-1),.int 0])) l0 (.lst [V.ref p0])=H1 at E0 d0 l1 ⊢
  walk_at "rd"
  refine⟨a,rfl,⟨vs,E0.toSame.seq hSq⟩,qI0 (xs:=vs) (fun i σ' H' => ∃(us:List V) (o2 o3 o4:Option V),σ' = [some (.ref a),some (.ref l0),o2,o3,o4]/\Ext [l0] H1 H'/\H' l0=some (.lst us)/\DenL K (yo H [l0] H') ((rawTo wk i).map pairD) us) ?_ ?_ ?_ ?_⟩
  ·exact⟨_,_,_,_,rfl,.refl _ _,l1,d0⟩
  ·rintro i σ' H' hi ⟨us,o2,o3,o4,rfl,e',hl',hden⟩
   exact (((E0.mono (us :=[l0]) (by simp)).trans e').drop hl00).toSame.seq hSq
  ·rintro i x σ' H' pt hx ⟨us,o2,o3,o4,rfl,e',hl',hden⟩ hpt
   have EH:Ext [] H H':=((E0.mono (us :=[l0]) (by simp)).trans e').drop hl00
   obtain⟨dd,hdd,hDx⟩:=hDL.get hx
   obtain⟨b,hb,rfl⟩:=qBc hdd
   have hi:i<wk.length:=(List.getElem?_eq_some_iff.mp hb).1
   have hok:=(hOk.blk b (List.mem_of_getElem? hb)).ns
   obtain⟨c,cs,rfl,hc,hcs⟩:=hDx.ofTuple
   obtain⟨vd,r1,rfl,hd1,hr1⟩:=hcs.ofCons
   obtain⟨ve,r2,rfl,hd2,hr2⟩:=hr1.ofCons
   have hr2:=hr2.ofNil
   subst hr2
   obtain⟨wd,hwd,hout⟩:=qR3 hok
   rw [hwd] at hd2
   obtain⟨en,es',rfl,hen,hes⟩:=hd2.ofTuple
   obtain⟨v3,r3,rfl,hd3,hr3⟩:=hes.ofCons
   have e3:=hd3.ofStr
   subst e3
   have e4:=hr3.ints
   subst e4
   have hul:=hden.len
   rw [List.length_map] at hul
   have hrl:=qIo hOk i
   have e2:Ext [] H' (upd H' pt (.tup [.int i,.ref c])) :=.laid hpt
   have hl2:=e2 _ _ (by simp) hl'
   have den2:=hden.mono (e2.mono (us :=[l0]) (by simp)).young
   have EH2:Ext [] H (upd H' pt (.tup [.int i,.ref c])):=EH.trans e2
   have hptT:SqT K (upd H' pt (.tup [.int i,.ref c])) pt [.int i,.ref c]:=SqT.of qA1
   generalize upd H' pt (.tup [.int i,.ref c])=H2 at e2 hl2 den2 EH2 hptT ⊢
   have eL : ∀ {G:Hp},Ext [l0] H2 G->Ext [l0] H1 G:=fun {G} z=>e'.trans ((e2.mono (by simp)).trans z)
   refine qCt hptT rfl ?_
   walk_at "rd"
   refine qCt (EH2.toSame.seqT hc) rfl ?_
   walk_at "rd"
   refine qDj (EH2.toSame.seqT hen) (show atI (V.str wd::b.ns.map V.int) ((0:Nat):Int)=some (V.str wd) from qB4 rfl) ?_
   walk_at "rd"
   refine qQ7 ?_
   walk_at "rd"
   have hraw:rawTo wk (i+1)=rawTo wk i++qF0 wk.length i b.ns:=by
    show rawTo wk i++qF0 wk.length i ((wk[i]?.map Blk.ns).getD [])=_
    rw [hb];rfl
   by_cases hns:b.ns = []
   ·rw [decide_eq_true (hout.mpr hns)]
    refine iteT ?_
    walk_at "rd"
    refine qDi hl2 ?_
    walk_at "rd"
    refine⟨a,vs,rfl,.inl (EH2.toSame.seq hSq),?_⟩
    rw [hvl]
    walk_at "rd"
    refine⟨len2 (by show 2<=1000;decide),fun p hp => ?_⟩
    have npl:p≠l0:=(qA2 hl2 hp).symm
    walk_at "rd"
    refine qDk (by rw [qA4 npl.symm];exact hl2) (qAb (by omega)) ?_
    have eF:Ext [l0] H2 (upd (upd H2 p (.tup [.int i,.int wk.length])) l0 (.lst (us ++ [V.ref p]))):=(Ext.laid hp).trans (.put (by simp))
    refine⟨us ++ [V.ref p],_,_,_,rfl,eL eF,qA1,?_⟩
    rw [hraw,List.map_append]
    unfold qF0
    rw [if_pos hns]
    refine DenL.append (den2.mono eF.young) (.cons (.tuple (SqT.of ?_) (.cons .int (.cons .int .nil))) .nil)
    rw [qAv (EH2.none (by simp) hp) (by simpa using npl),qA4 npl,qA1]
   ·rw [decide_eq_false (fun z=>hns (hout.mp z))]
    refine iteF ?_
    walk_at "rd"
    refine qDi hl2 ?_
    walk_at "rd"
    refine⟨1,rfl,?_⟩
    walk_at "rd"
    refine⟨en,_,rfl,EH2.toSame.seqT hen,?_,fun p hp => ?_⟩
    ·intro h
     have:=h.1
     revert this
     have hn:(V.str wd::b.ns.map V.int).length=b.ns.length+1:=by simp
     rw [hn]
     unfold HT.sIx
     simp
     try omega
    rw [cut1]
    have npl:p≠l0:=(qA2 hl2 hp).symm
    have e3:Ext [] H2 (upd H2 p (.tup (b.ns.map V.int))) :=.laid hp
    have hl3:=e3 _ _ (by simp) hl2
    have den3:=den2.mono (e3.mono (us :=[l0]) (by simp)).young
    have EH3:=EH2.trans e3
    have hp3:upd H2 p (.tup (b.ns.map V.int)) p=some (.tup (b.ns.map V.int)):=qA1
    generalize upd H2 p (.tup (b.ns.map V.int))=H3 at e3 hl3 den3 EH3 hp3 ⊢
    refine⟨p,rfl,⟨_,SqT.of hp3⟩,fun lc hlc => ?_⟩
    have nlc:lc≠l0:=(qA2 hl3 hlc).symm
    have npc:p≠lc:=qA2 hp3 hlc
    have hlcH:H lc=none:=EH3.none (by simp) hlc
    have hnf:=hok.few
    refine qLb (xs:=b.ns.map V.int) (fun j σ' G => ∃(o0:Option V) (ws:List V),σ' = [o0,some (.int i)]/\Ext [lc] H3 G/\G lc=some (.lst ws)/\DenL K (yo H [lc,l0] G) ((b.ns.take j).map fun x=>pairD ((i:Int),x)) ws) ?_ ?_ ?_ ?_
    ·exact⟨none,[],rfl,.laid hlc,qA1,.nil⟩
    ·rintro j σ' G hj ⟨o0,ws,rfl,eG,hws,hdG⟩
     exact SqT.of (eG _ _ (by simpa using npc) hp3)
    ·rintro j x σ' G R hx ⟨o0,ws,rfl,eG,hws,hdG⟩ hR
     obtain⟨y,hy,rfl⟩:=qBc hx
     have hj:j<b.ns.length:=(List.getElem?_eq_some_iff.mp hy).1
     walk_at "rd"
     refine iteT ?_
     walk_at "rd"
     refine⟨len2 (by show 2<=1000;decide),fun p2 hp2 => ?_⟩
     have np2:p2≠lc:=(qA2 hws hp2).symm
     have lG:G l0=some (.lst us):=eG _ _ (by simpa using nlc.symm) hl3
     have np20:p2≠l0:=(qA2 lG hp2).symm
     have hwl:ws.length=j:=by rw [hdG.len,List.length_map,List.length_take];omega
     refine⟨ws,by rw [qA4 np2.symm];exact hws,qAb (by omega),hR _ _ ⟨_,ws ++ [.ref p2],rfl,eG.trans ((Ext.laid hp2).trans (.put (by simp))),qA1,?_⟩⟩
     rw [qB6 hy,List.map_append]
     refine DenL.append (hdG.mono (((Ext.laid hp2).trans (.put (by simp)):Ext [lc,l0] G _)).young) (.cons (.tuple (SqT.of ?_) (.cons .int (.cons .int .nil))) .nil)
     rw [qAv (((EH3.mono (us :=[lc]) (by simp)).trans eG).none (by simpa using np2) hp2) (by simp [np2,np20]),qA4 np2,qA1]
    ·rintro σ' G ⟨o0,ws,rfl,eG,hws,hdG⟩
     rw [List.length_map,List.take_length] at hdG
     have lG:G l0=some (.lst us):=eG _ _ (by simpa using nlc.symm) hl3
     have hwl:ws.length=b.ns.length:=by rw [hdG.len,List.length_map]
     walk_at "rd"
     refine⟨l0,lc,us,ws,rfl,rfl,lG,hws,len2 (by omega),?_⟩
     have e3G:Ext [l0] H3 G:=(eG.drop hlc).mono (by simp)
     have eF:Ext [l0] H2 (upd G l0 (.lst (us++ws))):=(e3.mono (by simp)).trans (e3G.trans (.put (by simp)))
     refine⟨us++ws,_,_,_,rfl,eL eF,qA1,?_⟩
     rw [hraw,List.map_append]
     unfold qF0
     rw [if_neg hns,List.map_map]
     refine DenL.append (den2.mono eF.young) (hdG.mono fun c oc hc => ?_)
     obtain⟨z1,z2,z3⟩:=qCd hc
     have nc:c≠l0:=fun z=>z2 (by simp [z])
     rw [qAv z1 (by simpa using nc),qA4 nc]
     exact z3
  ·rintro σ' H' ⟨us,o2,o3,o4,rfl,e',hl',hden⟩
   have EH:Ext [] H H':=((E0.mono (us :=[l0]) (by simp)).trans e').drop hl00
   rw [hvl] at hden
   have hrl:=qIo hOk wk.length
   walk_at "rd"
   refine⟨l0,us,(rawTo wk wk.length).map tOf,rfl,SqL.of hl',qN7 yo_same hden,fun t ht => ?_,by rw [List.length_map];omega,fun l res hl hperm hsort => ?_⟩
   ·obtain⟨p,_,rfl⟩:=List.mem_map.mp ht
    exact fun z=>nomatch z
   ·have hnl:l≠l0:=(qA2 hl' hl).symm
    have hlH:H l=none:=EH.none (by simp) hl
    have den3:DenL K (yo H [l] (upd H' l (.lst (res.map (·.1))))) ((rawTo wk wk.length).map pairD) us:=by
     refine (hden.mono ?_).mono (Ext.young (H0:=H) (Ext.put (ts :=[l]) (t:=l) (o :=.lst (res.map (·.1))) (by simp)))
     intro b ob hb
     obtain⟨z1,z2,z3⟩:=qCd hb
     rw [qAv z1 (by simpa using qA2 z3 hl)];exact z3
    obtain⟨ps',h1,h2,h3⟩:=qIh den3 (qK8 hOk) hperm hsort
    have he:ps'=qAj wk wk.length:=qIm h2 (qFm hOk) fun p=>by rw [h3,(qD7 hOk _).mem_iff]
    rw [he] at h1
    exact q l _ _ hlH (EH.trans (.laid hl)) qA1 h1
end
end Fs
local macro_rules | `(tactic| walk_at "re") => `(tactic| repeat (with_reducible first | (refine L2.qUf ?_; intro NN_ hNN_) | walk_at "q1" | refine L2.qEs (by assumption) ?_ | refine L2.qVn (by assumption) ?_ | (refine L2.qW4 ?_; intro NA_ NB_ hNA_ hNB_) | walk_at "q2"))
namespace Fs
open PySem L2
section
variable {P:Program} {w:World} {K:PySem.W.Frag} {mg:Str->Option Value} {base:Heap}
abbrev qEk:Stmt:=top 3
theorem scWordOn:FnScope ["way","inside","begin","to"] ["way","inside"] (qA8 qEk):=⟨rfl,rfl,rfl,by decide +kernel,rfl,by decide +kernel,by decide +kernel⟩
theorem qOa {f:Addr} {fd:FuncData} (F:Fun K "word_on" "word_on" qEk f fd):FnOk P w K mg base CX0 1 f fd ["way","inside"] (qHj K):=by
 refine F.ok scWordOn (fun vs H Q E h => ?_) (fun cdv A outer s H vs Q E hr h => ?_)
 ·obtain⟨p,la,b,t,ns,rfl,_⟩:=h
  rfl
 ·obtain⟨p,la,b,t,ns,rfl,hp,hl,q⟩:=h
  refine⟨_,(qA7 (qIs (pv 0) (qF2 (n:=2) rfl (qAp (qAa (i:=2) scWordOn.nd rfl (Or.inl rfl)) (qAp (qAa (i:=3) scWordOn.nd rfl (Or.inl rfl)) qC1))))
   (qA7 (qDl (qAe qC9 (qBe (inK K rfl) (pv 2) (pv 1) rfl) (qBe (inK K rfl) (pv 3) (pv 1) rfl) (qAm _)) (qA9 (qAw qRq)) qBv)
   (qA9 (qAw (qC5 (qAe (inK K rfl) (pv 3) (pv 1) rfl) qBl qBl))))),?_⟩
  dsimp only [qBx,qBp,qGc]
  walk_at "re"
  refine qCt hp rfl ?_
  walk_at "re"
  refine⟨la,_,rfl,.inl hl,rfl,qBn _,?_⟩
  rw [if_neg Bool.false_ne_true,qBz]
  walk_at "re"
  refine⟨la,_,rfl,.inl hl,rfl,qBn _,?_⟩
  rw [if_neg Bool.false_ne_true,qBz]
  refine⟨rfl,_,rfl,?_⟩
  by_cases hc:decide (b∈ns)=decide (t∈ns)
  ·rw [decide_eq_true (show V.bl (decide (b∈ns))=V.bl (decide (t∈ns)) by rw [hc]),if_pos rfl]
   have e:wordV (decide (b∈ns)) (decide (t∈ns)) = .non:=if_pos hc
   rw [e] at q
   walk_at "re"
   exact q
  ·rw [decide_eq_false (show ¬V.bl (decide (b∈ns))=V.bl (decide (t∈ns)) from fun z=>hc (V.bl.inj z)),if_neg Bool.false_ne_true]
   have e:wordV (decide (b∈ns)) (decide (t∈ns)) = .str (wdS (decide (t∈ns))):=if_neg hc
   rw [e] at q
   walk_at "re"
   refine⟨la,_,rfl,.inl hl,rfl,qBn _,?_⟩
   rw [if_neg Bool.false_ne_true,qBz]
   refine⟨_,rfl,?_⟩
   cases hd:decide (t∈ns) with
   | true =>
    rw [hd] at q
    exact q
   | false =>
    rw [hd] at q
    exact q
end
section
variable {P:Program} {w:World} {K:PySem.W.Frag} {mg:Str->Option Value} {base:Heap}
abbrev qGs:Stmt:=top 4
theorem scPutOn:FnScope ["work","plan","words"] ["work","plan"] (qA8 qGs):=⟨rfl,rfl,rfl,by decide +kernel,rfl,by decide +kernel,by decide +kernel⟩
theorem qQi {f:Addr} {fd:FuncData} (F:Fun K "put_on" "put_on" qGs f fd) (nsorted:mg "sorted" = none) (hWy:Has P w K mg base "ways_of" 1 ["work"] (qHk K)) (hWo:Has P w K mg base "word_on" 1 ["way","inside"] (qHj K)):FnOk P w K mg base CX0 2 f fd ["work","plan"] (qM1 K):=by
 refine F.ok scPutOn (fun vs H Q E h => ?_) (fun cdv A outer s H vs Q E hr h => ?_)
 ·obtain⟨wa,d,wk,m,works,bs,as,f,rfl,_⟩:=h
  rfl
 ·obtain⟨wa,d,wk,m,works,bs,as,f,rfl,hW,hOk,hm,hP,hbn,hbl,q⟩:=h
  have hu:=qMo hr
  refine⟨_,(qA7 (qO0 (qV5 (i:=2) ["way","box"] [1] rfl (.of rfl) scPutOn.nd rfl (Or.inl rfl) (qBd (qAr hWy hr (by decide) (qA0 (pv 0) qA3))) (fun _ _ _ _=>(qAa (i:=0) (by show (((["way","box","plan"]:List Str))).Nodup;decide) rfl (Or.inl rfl))) (fun _ _ _ _ =>.nil) (fun _ _ _ _=>(qL3 (pv 2))) (fun _ _ _ _=>(qAa (i:=1) (by show (((["way","box","plan"]:List Str))).Nodup;decide) rfl (Or.inl rfl))) (fun _ _ _ _ =>.nil) (fun _ _ _ _=>(qB9 (qA0 (pv 0) (qA0 (qAr hWo hr (by decide) (qA0 (pv 0) (qA0 (qHw hu (pv 2) (pv 1) (fun _ _=>rfl)) qA3))) (qA0 (pv 1) qA3)))))))
   (qA9 (qAw (qAc (qHc (qRf hr)) (by rfl) nsorted PyProof.Rows.boot_sorted (qA0 (qDu ["row"] [] rfl (.of rfl) (qBd (pv 2)) (fun _ _ _ _=>(qAa (i:=0) (by show (((["row"]:List Str))).Nodup;decide) rfl (Or.inl rfl))) (fun _ _ _ _ =>.cons (qAe qSw (qAu (qG6 K rfl) (pv 0) qA6 (fun _ _=>rfl)) qRq (qAm _)) .nil) (fun _ _ _ _=>(pv 0))) qA3))))),?_⟩
  dsimp only [qBx,qBp,qGc,qMf,qTx]
  have hwl:=hOk.len
  have hn2 : ∀b∈wk,b.ns.length<=2:=fun b hb=>(hOk.blk b hb).ns.few
  have hwy:=qBq hn2 wk.length
  have nfz : ∀o u,H d≠some (.frz o u):=fun o u z=>by rw [hP.dict] at z;cases z
  walk_at "re"
  refine qNs ?_
  walk_at "re"
  refine⟨wa,wk,m,works,rfl,hW,hOk,hm,fun lw us H1 hlw e1 hlw1 hus => ?_⟩
  have hd1:=e1 _ _ (by simp) hP.dict
  have dU:DenL K H1 ((qAj wk wk.length).map pairD) us:=hus.mono yo_same
  have hul:=dU.len
  rw [List.length_map] at hul
  refine⟨lw,rfl,⟨_,SqL.of hlw1⟩,fun lc hlc => ?_⟩
  have ndl:d≠lc:=qA2 hd1 hlc
  have nlw:lw≠lc:=qA2 hlw1 hlc
  have nwd:lw≠d:=fun z=>by rw [z,hP.dict] at hlw;cases hlw
  have hA1 : ∀(j:Nat) (a:Addr) (b:Int),as[j]? = some a->bs[j]? = some b->H1 a=some (.lst ((f b).map V.int))/\a≠d:=fun j a b h1 h2=>by
   obtain⟨ns,h3,h4⟩:=hP.lists.get h1
   rw [List.getElem?_map,h2] at h3
   have h3:f b=ns:=Option.some.inj h3
   rw [h3]
   exact⟨e1 _ _ (by simp) h4,fun z=>hP.nda (z▸List.mem_of_getElem? h1)⟩
  generalize hkv:planK bs as=kv at hd1
  refine qB3 (xs:=us) (fun i σ' G => ∃(o0 o1:Option V) (ts:List Addr),σ' = [o0,o1,some (.ref d)]/\Ext [d,lc] H1 G/\((i=0/\G d=some (.dK kv)) \/ ∃o,G d=some (.frz o (.dK kv)))/\G lc=some (.lst (ts.map V.ref))/\TriL K f G ts (((qAj wk wk.length).take i).flatMap fun w=>bs.map fun b=>(w,b))) ?_ ?_ ?_ ?_
  ·exact⟨none,none,[],rfl,.laid hlc,.inl ⟨rfl,by rw [qA4 ndl];exact hd1⟩,qA1,.nil⟩
  ·rintro i σ' G hi ⟨o0,o1,ts,rfl,e2,hdG,hlG,hT⟩
   exact SqL.of (e2 _ _ (by simpa using ⟨nwd,nlw⟩) hlw1)
  ·rintro i x σ' G R hx ⟨o0,o1,ts,rfl,e2,hdG,hlG,hT⟩ hR
   obtain⟨dd,hdd,hDx⟩:=dU.get hx
   obtain⟨wv,hwv,rfl⟩:=qBc hdd
   have hil:i<(qAj wk wk.length).length:=(List.getElem?_eq_some_iff.mp hwv).1
   obtain⟨p,ps,rfl,hp1,hps⟩:=hDx.ofTuple
   obtain⟨v1,q1,rfl,hv1,hq1⟩:=hps.ofCons
   obtain⟨v2,q2,rfl,hv2,hq2⟩:=hq1.ofCons
   have z1:=hv1.ofInt
   have z2:=hv2.ofInt
   have z3:=hq2.ofNil
   subst z1 z2 z3
   have hT0:Tups H1 G:=e2.tups fun u hu xs q=>by
    rcases List.mem_cons.mp hu with z | z
    ·subst z;rcases q with q | ⟨o,q⟩ <;> rw [hd1] at q <;> cases q
    ·have z:u=lc:=by simpa using z
     subst z;rcases q with q | ⟨o,q⟩ <;> rw [hlc] at q <;> cases q
   have hpG:=hT0.sq hp1
   have hRd:Rd G d (.dK kv):=by
    rcases hdG with ⟨_,z⟩ | ⟨o,z⟩
    ·exact .inl z
    ·exact .inr ⟨o,z⟩
   walk_at "re"
   refine iteT ?_
   unfold bNext
   refine qKz ?_
   walk_at "re"
   refine⟨d,kv,rfl,hRd,fun o => ?_⟩
   have hT1:Tups G (upd G d (.frz o (.dK kv))):=by
    rcases hdG with ⟨_,z⟩ | ⟨o',z⟩
    ·exact Tups.melt z
    ·exact Tups.melt z
   have hk1 : ∀b xs,G b=some (.tup xs)->(upd G d (.frz o (.dK kv))) b=some (.tup xs):=fun b xs z=>by
    rw [qA4];exact z
    rintro rfl
    rcases hdG with ⟨_,y⟩ | ⟨o',y⟩ <;> rw [y] at z <;> cases z
   have hT':=hT.mono hT1 hk1
   have hpG':=hT1.sq hpG
   have e2':Ext [d,lc] H1 (upd G d (.frz o (.dK kv))):=e2.trans (.put (by simp))
   have hdG':(upd G d (.frz o (.dK kv))) d=some (.frz o (.dK kv)):=qA1
   have hlG':(upd G d (.frz o (.dK kv))) lc=some (.lst (ts.map V.ref)):=by rw [qA4 (Ne.symm ndl)];exact hlG
   clear hk1 hT1 hT hpG hlG hRd hdG hT0 e2
   generalize upd G d (.frz o (.dK kv))=G' at hT' hpG' e2' hdG' hlG' ⊢
   have htl:=hT'.len
   rw [qCx,List.length_take] at htl
   have hb1:min i (qAj wk wk.length).length*bs.length<=25*8:=Nat.mul_le_mul (by omega) hbl
   refine qOn (fun j σ' G2 => ∃(o1:Option V) (ts:List Addr),σ' = [some (.ref p),o1,some (.ref d)]/\Ext [lc] G' G2/\G2 lc=some (.lst (ts.map V.ref))/\TriL K f G2 ts ((((qAj wk wk.length).take i).flatMap fun w=>bs.map fun b=>(w,b))++(bs.take j).map fun b=>(wv,b))) ?_ ?_ ?_ ?_
   ·exact⟨_,ts,rfl,.refl _ _,hlG',by rw [List.take_zero,List.map_nil,List.append_nil];exact hT'⟩
   ·rintro j σ' G2 hj ⟨o1,ts,rfl,e3,hl3,hT3⟩
    exact e3 _ _ (by simpa using ndl) hdG'
   ·rintro j k v σ' G2 R2 hv ⟨o1,ts2,rfl,e3,hl3,hT3⟩ hR2
    rw [<-hkv] at hv
    obtain⟨b,a,hb,ha,rfl,rfl⟩:=qL2 hv
    obtain⟨ha1,nad⟩:=hA1 j a b ha hb
    have nal:a≠lc:=qA2 ha1 hlc
    have ha2:=e3 _ _ (by simpa using nal) (e2' _ _ (by simpa using ⟨nad,nal⟩) ha1)
    have hd2:=e3 _ _ (by simpa using ndl) hdG'
    have hT2:Tups G' G2:=e3.tups fun u hu xs q=>by
     have z:u=lc:=by simpa using hu
     subst z;rcases q with q | ⟨o,q⟩ <;> rw [hlG'] at q <;> cases q
    have ht3:=hT3.len
    rw [List.length_append,qCx,List.length_take,List.length_map,List.length_take] at ht3
    walk_at "re"
    refine iteT ?_
    walk_at "re"
    refine⟨d,.ref a,rfl,.inl ⟨kv,Sum.inl b,.inr ⟨o,hd2⟩,rfl,by rw [<-hkv];exact (qFw hbn hb ha).symm⟩,?_⟩
    refine⟨p,a,wv.1,wv.2,f b,rfl,hT2.sq hpG',SqL.of ha2,?_⟩
    walk_at "re"
    refine⟨len2 (by simp),fun tp htp => ?_⟩
    have ntl:tp≠lc:=fun z=>by rw [z,hl3] at htp;cases htp
    refine⟨_,by rw [qA4 (Ne.symm ntl)];exact hl3,qAb (by rw [List.length_map];omega),hR2 _ _ ⟨_,ts2 ++ [tp],rfl,(e3.trans (.laid htp)).trans (.put (by simp)),by rw [qA1,List.map_append];rfl,?_⟩⟩
    have t1:bs.take (j+1)=bs.take j ++ [b]:=by rw [List.take_add_one,hb];rfl
    rw [t1,List.map_append,<-List.append_assoc]
    have eT:Tups G2 (upd (upd G2 tp (.tup [.ref p,wordV (decide (wv.1∈f b)) (decide (wv.2∈f b)),.int b])) lc (.lst (ts2.map V.ref ++ [V.ref tp]))):=((Ext.laid (ts :=[]) htp).toSame.tups).trans (Tups.melt (by rw [qA4 (Ne.symm ntl)];exact hl3))
    refine Paired.snoc (hT3.mono eT fun c xs z => ?_) ⟨p,?_,(hT2.trans eT).sq hpG'⟩
    ·rw [qA4 (fun y=>by rw [y,hl3] at z;cases z),qA4 (fun y=>by rw [y,htp] at z;cases z)];exact z
    ·rw [qA4 ntl,qA1];rfl
   ·rintro σ' G2 ⟨o1,ts2,rfl,e3,hl3,hT3⟩
    have hkl:kv.length=bs.length:=by rw [<-hkv];exact qFx hP.len
    rw [hkl,List.take_length] at hT3
    refine hR _ _ ⟨_,_,ts2,rfl,e2'.trans (e3.mono (by simp)),.inr ⟨o,e3 _ _ (by simpa using ndl) hdG'⟩,hl3,?_⟩
    rw [qB6 hwv,List.flatMap_append,List.flatMap_cons,List.flatMap_nil,List.append_nil]
    exact hT3
  ·rintro σ' G ⟨o0,o1,ts,rfl,e2,hdG,hlG,hT⟩
   rw [show us.length=(qAj wk wk.length).length from hul,List.take_length] at hT
   obtain⟨o,hdG⟩ : ∃o,G d=some (.frz o (.dK kv)):=by
    rcases hdG with ⟨z,_⟩ | z
    ·rw [hul,qE2] at z;cases z
    ·exact z
   have htl:=hT.len
   rw [qCx] at htl
   have hb1:(qAj wk wk.length).length*bs.length<=25*8:=Nat.mul_le_mul (by omega) hbl
   have e3:=e2.melt hd1
   have hlG':(upd G d (.dK kv)) lc=some (.lst (ts.map V.ref)):=by rw [qA4 (Ne.symm ndl)];exact hlG
   have hT':TriL K f (upd G d (.dK kv)) ts ((qAj wk wk.length).flatMap fun w=>bs.map fun b=>(w,b)):=hT.mono (Tups.melt hdG) fun b xs z=>by
    rw [qA4 (fun y=>by rw [y,hdG] at z;cases z)];exact z
   refine⟨d,o,_,hdG,nfz,?_⟩
   clear hT hlG
   generalize upd G d (.dK kv)=G' at e3 hlG' hT' ⊢
   have eG:=e1.trans (e3.drop hlc)
   clear e3 hdG e2
   walk_at "re"
   refine⟨lc,rfl,⟨_,SqL.of hlG'⟩,fun l2 hl2 => ?_⟩
   refine qB3 (xs:=ts.map V.ref) (fun i σ' G2 => ∃(o0:Option V) (rs:List Addr),σ' = [o0]/\Ext [l2] G' G2/\G2 l2=some (.lst (rs.map V.ref))/\rs.length<=i/\RowsI K G2 (rs.map V.ref) ((((qAj wk wk.length).flatMap fun w=>bs.map fun b=>(w,b)).take i).filterMap fun p=>rowOf f p.1 p.2)) ?_ ?_ ?_ ?_
   ·exact⟨none,[],rfl,.laid hl2,qA1,Nat.zero_le _,.nil⟩
   ·rintro i σ' G2 hi ⟨o0,rs,rfl,e4,hl4,hrl,hI⟩
    exact SqL.of (e4 _ _ (by simpa using qA2 hlG' hl2) hlG')
   ·rintro i x σ' G2 R hx ⟨o0,rs,rfl,e4,hl4,hrl,hI⟩ hR
    obtain⟨t,ht,rfl⟩:=qBc hx
    have hil:i<ts.length:=(List.getElem?_eq_some_iff.mp ht).1
    obtain⟨p,hp,wa',hq1,hq2⟩:=qMc hT' ht
    have eS:=(e4.drop hl2).toSame
    have hq1':=eS _ _ hq1
    have hq2':=eS.tups.sq hq2
    have htk:=qB6 hp
    walk_at "re"
    refine qDj (SqT.of hq1') rfl ?_
    refine⟨rfl,_,rfl,?_⟩
    have fin : ∀ {r:Option K4},rowOf f p.1 p.2=r->(((qAj wk wk.length).flatMap fun w=>bs.map fun b=>(w,b)).take (i+1)).filterMap (fun p=>rowOf f p.1 p.2)=(((qAj wk wk.length).flatMap fun w=>bs.map fun b=>(w,b)).take i).filterMap (fun p=>rowOf f p.1 p.2)++r.toList:=fun {r} hr=>by
     rw [htk,List.filterMap_append,List.filterMap_cons,hr]
     cases r <;> rfl
    by_cases hc:decide (p.1.1∈f p.2)=decide (p.1.2∈f p.2)
    ·have e0:wordV (decide (p.1.1∈f p.2)) (decide (p.1.2∈f p.2)) = .non:=if_pos hc
     rw [e0,decide_eq_true rfl]
     refine hR _ _ ⟨_,rs,rfl,e4,hl4,by omega,?_⟩
     rw [fin (r:=none) (if_pos hc)]
     exact List.append_nil _▸hI
    ·have e0:wordV (decide (p.1.1∈f p.2)) (decide (p.1.2∈f p.2)) = .str (wdS (decide (p.1.2∈f p.2))):=if_neg hc
     rw [e0] at hq1' ⊢
     rw [decide_eq_false (by simp)]
     refine iteT (iteT ?_)
     walk_at "re"
     refine⟨_,hl4,qAb (by rw [List.length_map];omega),hR _ _ ⟨_,rs ++ [t],rfl,e4.trans (.put (by simp)),by rw [qA1,List.map_append];rfl,by rw [List.length_append,List.length_singleton];omega,?_⟩⟩
     rw [fin (r:=some (p.1,decide (p.1.2∈f p.2),p.2)) (if_neg hc),List.map_append]
     have eT:Tups G2 (upd G2 l2 (.lst (rs.map V.ref ++ [V.ref t]))):=Tups.melt hl4
     exact Paired.snoc (hI.mono eT) ⟨t,wa',rfl,eT.sq (SqT.of hq1'),eT.sq hq2'⟩
   ·rintro σ' G2 ⟨o0,rs,rfl,e4,hl4,hrl,hI⟩
    rw [List.length_map,htl,<-qCx,List.take_length,<-qGy] at hI
    walk_at "re"
    refine⟨l2,_,_,rfl,SqL.of hl4,hI,fun l ps hl hpm hpw => ?_⟩
    have eF:Ext [] G' G2:=e4.drop hl2
    have eA:=eG.trans eF
    obtain⟨z1,z2⟩:=qKp hI hpm
    have eL:Ext [] G2 (upd G2 l (.lst (ps.map (·.1)))) :=.laid hl
    exact q l _ _ _ (eA.none (by simp) hl) (eA.trans eL) qA1 (z1.mono eL.toSame.tups) z2 hpw
end
section
variable {P:Program} {w:World} {K:PySem.W.Frag} {mg:Str->Option Value} {base:Heap}
abbrev qGu:Stmt:=top 24
theorem scLPlan:FnScope ["_law_tape_here","_law_works_here","_law_number_here","_law_found","_law_left","_law_box","_law_way","_law_some","_law_more"] ["_law_tape_here","_law_works_here","_law_number_here"] (qA8 qGu):=⟨rfl,rfl,rfl,by decide +kernel,rfl,by decide +kernel,by decide +kernel⟩
theorem qQk {f:Addr} {fd:FuncData} (F:Fun K "_law_plan" "_law_plan" qGu f fd) (nrange:mg "range" = none) (nlen:mg "len" = none) (nset:mg "set" = none) (nsorted:mg "sorted" = none) (hD:Has P w K mg base "_law_draw" 1 ["_law_tape_here","_law_many_here"] qDm) (hX:Has P w K mg base "_law_boxes" 2 ["_law_work_here"] (qHm K)) (hB:Has P w K mg base "_law_busy" 3 ["_law_works_here","_law_number_here","_law_box"] (qNh K)):FnOk P w K mg base CX0 4 f fd ["_law_tape_here","_law_works_here","_law_number_here"] (qNe K):=by
 refine F.ok scLPlan (fun vs H Q E h => ?_) (fun cdv A outer s H vs Q E hr h => ?_)
 ·obtain⟨t,wa,k,ws,n,wk,rfl,_⟩:=h
  rfl
 ·obtain⟨t,wa,k,ws,n,wk,rfl,hTp,hk,hW,hok,hwk,q⟩:=h
  have hu:=qMo hr
  refine⟨_,(qA7 (qIr (i:=3) (j:=4) rfl scLPlan.nd rfl rfl (by decide) rfl rfl (qA0 qL5 (qA0 (qAr hX hr (by decide) (qA0 (qAu qAl (pv 1) (pv 2) (fun _ _=>rfl)) qA3)) qA3)) rfl)
   (qA7 (qL1 PassesOwn.never (qAe (qL6 hr) (pv 4) (qAs qA3) (qAm _))
   (qA7 (qAn (i:=5) scLPlan.nd rfl (Or.inl rfl) (qE6 PySem.F.plainAttrs_list PySem.F.slot_list_pop PySem.F.type_list_pop qL9 (pv 4) (qA0 (qAr hD hr (by decide) (qA0 (pv 0) (qA0 (qAc qAo (by rfl) nlen PySem.boot_len (qA0 (pv 4) qA3)) qA3))) qA3)))
   (qA7 (qAn (i:=6) scLPlan.nd rfl (Or.inr rfl) (qAr hD hr (by decide) (qA0 (pv 0) (qA0 qA6 qA3))))
   (qA7 (qAn (i:=7) scLPlan.nd rfl (Or.inl rfl) (qAr hB hr (by decide) (qA0 (pv 1) (qA0 (pv 2) (qA0 (pv 5) qA3)))))
   (qA7 (qSq (i:=8) ["_law_b"] [0,6] rfl (.of rfl) scLPlan.nd rfl (Or.inl rfl) (qBk rfl nrange (qA0 (qAc qAo (by rfl) nlen PySem.boot_len (qA0 (qAu qAl (pv 1) (pv 2) (fun _ _=>rfl)) qA3)) qA3)) (fun _ _ _ _=>(qAa (i:=0) (by show (((["_law_b","_law_tape_here","_law_way"]:List Str))).Nodup;decide) rfl (Or.inl rfl))) (fun _ _ _ _ =>.cons (PW.pt (qSp (qAe qC9 (pv 2) qA6 (qAm _)) (qNy (PW.pt (qFv (qAe qSy (pv 2) qA6 (qAm _)) (qDs (qAe qC9 (qAr hD hr (by decide) (qA0 (pv 1) (qA0 qA6 qA3))) qA6 (qAm _)))))))) .nil) (fun _ _ _ _=>(pv 0)))
   (qA9 (qO1 hu (pv 3) (pv 5) (qAc (qEu hr.hd) (by rfl) nsorted PyProof.Rows.boot_sorted (qA0 (qB0 (qGf hr.hd) (by rfl) nset PyProof.Rows.boot_set (qA0 (qAq qG0 (pv 7) (pv 8)) qA3)) qA3)) rfl)))))))
   (qA9 (qAw (pv 3))))),?_⟩
  dsimp only [qBx,qBp,qGc,qMf,qTx]
  obtain⟨m,hm1,hm2,hWk⟩:=hok.all wk (List.mem_of_getElem? hwk)
  have hwm:=hWk.len
  have hbx:=qJq wk
  obtain⟨ta,tb,tc,htp,htp2⟩:=id hTp
  have hW0:=Den.off htp (qJ0 ws) hW
  have dW : ∀ {G:Hp},Ext [t] H G->Den K G (qCn ws) (.ref wa):=fun {G} e=>(hW0.mono e.same).mono (qJx _ _)
  have hex : ∃o,H t=some o:=⟨_,htp⟩
  walk_at "re"
  refine (show ∀p,_=none->_ from fun d hd => ?_)
  have ed:Ext [] H (upd H d (.dK [])) :=.laid hd
  have hdd:(upd H d (.dK [])) d=some (.dK []):=qA1
  generalize upd H d (.dK [])=H1 at ed hdd ⊢
  have dW1:=dW (ed.mono (us :=[t]) (by simp))
  obtain⟨a',vs,ea,hSq,hDL⟩:=dW1.ofList
  cases ea
  obtain⟨vw,hvw,hDw⟩:=hDL.get' (i:=n) (d:=workD wk) (by rw [List.getElem?_map,hwk];rfl)
  have hDw0:=hDw
  obtain⟨wb,ub,rfl,hSw,hDw'⟩:=hDw.ofList
  walk_at "re"
  refine qBt hSq (qB4 hvw) ?_
  walk_at "re"
  refine⟨wb,wk,m,ws.length,rfl,hDw0,hWk,hm2,fun lf H2 hlf e2 hlf2 => ?_⟩
  rw [qKn hWk] at hlf2
  refine⟨_,_,rfl,?_⟩
  have E2:=ed.trans e2
  have st0:PlI H t d lf ws n wk (boxes wk) (boxes wk) [] [] (fun _ =>[]) k H2:=⟨hTp.ext E2 (by simp),E2.mono (by simp),hlf2,⟨e2 _ _ (by simp) hdd,.nil,rfl,.nil,by simp⟩,hd,ed.none (by simp) hlf,by simp,by simp,(fun z=>by rw [z,hdd] at hlf;cases hlf),.refl _,by simp,by simp,by simp⟩
  clear hlf2 hDw' hSw hDw0 hDL hSq hvw dW1 hdd
  walk_at "re"
  refine⟨LpW H t wa d lf ws n wk k,⟨_,_,_,_,_,_,_,_,_,_,rfl,rfl,by omega,st0⟩,?_⟩
  rintro μ σ' G ⟨ls,bs,as,f,kk,o5,o6,o7,o8,rfl,rfl,hkk,I⟩
  walk_at "re"
  refine⟨len2 (Nat.zero_le _),fun en0 hen0 => ?_⟩
  have e3:Ext [] G (upd G en0 (.lst [])) :=.laid hen0
  have I3:=I.grown hex e3
  have hlm:=I.perm.length_eq
  rw [List.length_append] at hlm
  have hlr : ∀b∈ls,0<=b/\b<8:=fun b hb=>qLp hWk (I.perm.mem_iff.mp (List.mem_append_right _ hb))
  have hnd:(bs++ls).Nodup:=I.perm.symm.nodup ((qEv wk).imp fun h=>by omega)
  obtain⟨t1,t2,t3⟩:=qEc (ns:=ls) (fun n hn=>by have:=hlr n hn;omega) (by omega)
  refine⟨intsD ls,.list [],.list (SqL.of I3.left) (DenL.ofInts _),.list (SqL.of qA1) .nil,qCh t1 t3 ⟨_,rfl⟩,rfl,?_⟩
  rw [if_pos rfl,qF4]
  generalize upd G en0 (.lst [])=G1 at e3 I3 ⊢
  clear e3 I hen0
  walk_at "re"
  by_cases hz:ls = []
  ·subst hz
   rw [decide_eq_true rfl]
   refine iteF ?_
   walk_at "re"
   have hp:=I3.perm
   rw [List.append_nil] at hp
   refine q d bs as f G1 I3.fd I3.fa (I3.tape.mono (by omega)) I3.ext I3.plan ⟨hp,I3.rise,I3.rg,I3.busy⟩
  ·rw [decide_eq_false hz]
   have hl1:1<=ls.length:=by
    cases ls with
    | nil=>exact absurd rfl hz
    | cons x r=>simp
   refine iteT ⟨fun σ' H' => ∃m',m'<ls.length/\LpW H t wa d lf ws n wk k m' σ' H',fun _ _ h=>h,?_⟩
   walk_at "re"
   refine qDi I3.left ?_
   walk_at "re"
   refine⟨lf,_,rfl,.inl (SqL.of I3.left),?_⟩
   rw [List.length_map]
   walk_at "re"
   refine qB5 I3.tape (by omega) (by omega) (by omega) fun r4 G4 a4 b4 T4 e4 k4 => ?_
   have I4:=I3.keep hex e4 T4
   obtain⟨j,rfl⟩:=Int.eq_ofNat_of_zero_le a4
   have hj:j<ls.length:=by omega
   clear e4 k4 T4 I3
   walk_at "re"
   refine⟨lf,ls.map V.int,(j:Int),j,V.int ls[j],rfl,rfl,I4.left,by omega,by omega,?_,by rw [List.getElem?_map,List.getElem?_eq_getElem hj];rfl,?_⟩
   ·rw [List.length_map];exact qRi hj
   have hpm:=qDe hj
   have hel:(ls.eraseIdx j).length=ls.length - 1:=by rw [List.length_eraseIdx,if_pos hj]
   have hxm:ls[j]∈ls:=List.getElem_mem hj
   have hxr:=hlr _ hxm
   have hxb:ls[j]∉bs:=fun z=>(List.nodup_append.mp hnd).2.2 _ z _ hxm rfl
   have I5:=I4.popped hex (ls.eraseIdx j)
   rw [<-qG4]
   generalize upd G4 lf (.lst ((ls.eraseIdx j).map V.int))=G5 at I5 ⊢
   generalize ls[j]=x at hpm hxm hxr hxb ⊢
   clear I4
   walk_at "re"
   refine qB5 I5.tape (by omega) (by decide) (by decide) fun way G6 a6 b6 T6 e6 k6 => ?_
   have I6:=I5.keep hex e6 T6
   clear I5 e6 k6 T6
   walk_at "re"
   refine⟨wa,ws,n,wk,x,rfl,dW I6.ext,hok,hwk,fun lb nb G7 hlb e7 hlb7 hp7 hd7 hy7 => ?_⟩
   have I7:=I6.grown hex e7
   have nlt:lb≠t:=I6.tape.ne hlb
   have hnb : ∀y∈nb,0<=y/\y<(wk.length:Int):=fun y hy=>by have:=qMv hWk ((hy7 y).mp hy);omega
   have hnbl:=qFf hp7 hd7 hnb
   clear I6 e7 hlb
   have dW7:=dW I7.ext
   obtain⟨a',vs,ea,hSq,hDL⟩:=dW7.ofList
   cases ea
   obtain⟨vw,hvw,hDw⟩:=hDL.get' (i:=n) (d:=workD wk) (by rw [List.getElem?_map,hwk];rfl)
   obtain⟨wb,ub,rfl,hSw,hDw'⟩:=hDw.ofList
   have hul:ub.length=wk.length:=by rw [hDw'.len,List.length_map]
   walk_at "re"
   refine qBt hSq (qB4 hvw) ?_
   walk_at "re"
   refine⟨wb,ub,rfl,.inl hSw,?_⟩
   rw [hul]
   refine⟨_,rfl,by omega,by omega,fun lc hlc => ?_⟩
   rw [show ((wk.length:Nat):Int).toNat=wk.length by omega]
   clear hSw hSq hDw hDw' hDL hvw dW7
   have nct:t≠lc:=fun z=>by obtain⟨_,_,_,q1,_⟩:=I7.tape;rw [z,hlc] at q1;cases q1
   refine qDb (lo:=0) (n:=wk.length) (fun i σ' G8 => ∃(o0:Option V) (ms:List Int) (k8:Nat),σ' = [o0,some (.ref t),some (.int way)]/\Ext [lc,t] G7 G8/\G8 lc=some (.lst (ms.map V.int))/\ms.length<=i/\(∀y∈ms,0<=y/\y<(i:Int))/\Tape G8 t k8/\k8<=kk+2+i) ?_ ?_ ?_
   ·refine⟨none,[],_,rfl,(Ext.laid hlc),qA1,Nat.le_refl _,by simp,I7.tape.ext (ts :=[]) (.laid hlc) (by simp),by omega⟩
   ·rintro i σ' G8 R hi ⟨o0,ms,k8,rfl,e8,hl8,hml,hmr,T8,hk8⟩ hR
    have yes : ∀ {G9:Hp} {k9:Nat},Ext [lc,t] G7 G9->G9 lc=some (.lst (ms.map V.int))->Tape G9 t k9->k9<=k8+1->eApp (tVar 0) lc [some (.int (0+(i:Int))),some (.ref t),some (.int way)] G9 R:=fun {G9 k9} e9 hl9 T9 hk9=>by
     walk_at "re"
     refine⟨_,hl9,qAb (by rw [List.length_map];omega),hR _ _ ⟨_,ms ++ [0+(i:Int)],k9,rfl,e9.trans (.put (by simp)),by rw [qA1,List.map_append];rfl,by rw [List.length_append,List.length_singleton];omega,fun y hy => ?_,T9.ext (ts :=[lc]) (.put (by simp)) (by simpa using nct),by omega⟩⟩
     rcases List.mem_append.mp hy with z | z
     ·have:=hmr y z;omega
     ·have z:y=0+(i:Int):=by simpa using z
      omega
    have no : ∀ {G9:Hp} {k9:Nat},Ext [lc,t] G7 G9->G9 lc=some (.lst (ms.map V.int))->Tape G9 t k9->k9<=k8+1->R [some (.int (0+(i:Int))),some (.ref t),some (.int way)] G9:=fun {G9 k9} e9 hl9 T9 hk9 =>
     hR _ _ ⟨_,ms,k9,rfl,e9,hl9,by omega,fun y hy=>by have:=hmr y hy;omega,T9,by omega⟩
    walk_at "re"
    refine qCu ⟨_,rfl,?_⟩
    refine ite2 (fun g=>iteT (iteT (yes e8 hl8 T8 (by omega)))) (fun g => ?_)
    walk_at "re"
    refine ite2 (fun g2 => ?_) (fun g2 => ?_)
    ·walk_at "re"
     refine qB5 T8 (by omega) (by decide) (by decide) fun r9 G9 a9 b9 T9 e9 k9 => ?_
     have E9:Ext [lc,t] G7 G9:=e8.trans (e9.mono (by simp))
     have hl9:G9 lc=some (.lst (ms.map V.int)):=by rw [k9 lc (Ne.symm nct)];exact hl8
     walk_at "re"
     refine qCu ⟨_,rfl,?_⟩
     refine ite2 (fun g3 => ?_) (fun g3 => ?_)
     ·exact iteT (yes E9 hl9 T9 (by omega))
     ·exact iteF (no E9 hl9 T9 (by omega))
    ·exact iteF (no e8 hl8 T8 (by omega))
   ·rintro σ' G8 ⟨o0,ms,k8,rfl,e8,hl8,hml,hmr,T8,hk8⟩
    have E8:Ext [t] G7 G8:=e8.drop hlc
    have I8:=I7.keep hex E8 T8
    have hlb8:=E8 _ _ (by simpa using nlt) hlb7
    clear e8 E8 I7 T8 hlb7
    walk_at "re"
    refine⟨lb,lc,_,_,rfl,rfl,hlb8,hl8,len2 (by rw [List.length_map,List.length_map];omega),fun f1 hf1 => ?_⟩
    rw [<-List.map_append]
    have X9:Ext [] G8 (upd G8 f1 (.lst ((nb++ms).map V.int))) :=.laid hf1
    have hf19:(upd G8 f1 (.lst ((nb++ms).map V.int))) f1=some (.lst ((nb++ms).map V.int)):=qA1
    generalize upd G8 f1 (.lst ((nb++ms).map V.int))=G9 at X9 hf19 ⊢
    walk_at "re"
    have hal:=qDh (nb++ms)
    rw [List.length_append] at hal
    refine⟨f1,_,rfl,SqL.of hf19,by rw [List.length_append];omega,fun s1 hs1 => ?_⟩
    walk_at "re"
    refine⟨s1,_,rfl,qA1,by omega,fun lx nx hlx hpx hso => ?_⟩
    have EF:Ext [] G8 (upd G9 s1 (setO w (qBj (nb++ms)))):=X9.trans (.laid hs1)
    have hmx : ∀y,y∈nx↔y∈nb\/y∈ms:=fun y=>by rw [hpx.mem_iff,qEr,List.mem_append]
    have hrx:nx.Pairwise (· < ·):=(hso.and (hpx.symm.nodup (qD2 _))).imp fun {a b} z=>by obtain⟨z1,z2⟩:=z;omega
    have hlx8:G8 lx=none:=EF.none (by simp) hlx
    have EX:Ext [] G8 (upd (upd G9 s1 (setO w (qBj (nb++ms)))) lx (.lst (nx.map V.int))):=EF.trans (.laid hlx)
    have hxX:(upd (upd G9 s1 (setO w (qBj (nb++ms)))) lx (.lst (nx.map V.int))) lx=some (.lst (nx.map V.int)):=qA1
    generalize upd (upd G9 s1 (setO w (qBj (nb++ms)))) lx (.lst (nx.map V.int))=GX at EX hxX ⊢
    clear EF hlx hpx hso hs1 hf19 X9 hf1
    have IX:=I8.put (rs':=ls.eraseIdx j) (x:=x) (ns:=nx) (m:=0) (works:=0) hex EX hlx8 hxX hpm.symm hxb hrx (fun y hy => ?_) (fun y hy=>(hmx y).mpr (.inl ((hy7 y).mpr hy)))
    walk_at "re"
    have hPX:=(I8.grown hex EX).plan
    refine⟨d,_,rfl,.inl ⟨_,Sum.inl x,hPX.dict,rfl,qAb ?_,rfl⟩,?_⟩
    ·rw [qFx hPX.len];omega
    ·refine⟨(ls.eraseIdx j).length,by omega,ls.eraseIdx j,_,_,_,k8,_,_,_,_,rfl,rfl,by omega,IX⟩
    ·rcases (hmx y).mp hy with z | z
     ·exact hnb y z
     ·exact hmr y z
end
section
variable {P:Program} {w:World} {K:PySem.W.Frag} {mg:Str->Option Value} {base:Heap}
abbrev sLPut:Stmt:=top 25
theorem scLPut:FnScope ["_law_work_here","_law_plan_here","_law_found","_law_way","_law_box"] ["_law_work_here","_law_plan_here"] (qA8 sLPut):=⟨rfl,rfl,rfl,by decide +kernel,rfl,by decide +kernel,by decide +kernel⟩
theorem qT5 {f:Addr} {fd:FuncData} (F:Fun K "_law_put" "_law_put" sLPut f fd) (nsorted:mg "sorted" = none) (hWy:Has P w K mg base "_law_ways" 2 ["_law_work_here"] (qNb K)):FnOk P w K mg base CX0 3 f fd ["_law_work_here","_law_plan_here"] (qM1 K):=by
 refine F.ok scLPut (fun vs H Q E h => ?_) (fun cdv A outer s H vs Q E hr h => ?_)
 ·obtain⟨wa,d,wk,m,works,bs,as,f,rfl,_⟩:=h
  rfl
 ·obtain⟨wa,d,wk,m,works,bs,as,f,rfl,hW,hOk,hm,hP,hbn,hbl,q⟩:=h
  have hu:=qMo hr
  refine⟨_,(qA7 (qAn (i:=2) scLPut.nd rfl (Or.inl rfl) (qAs qA3))
   (qA7 (qC3 PassesOwn.never rfl (qBd (qAr hWy hr (by decide) (qA0 (pv 0) qA3))) (qAa (i:=3) scLPut.nd rfl (Or.inl rfl))
   (qA9 (qO0 (qC3 PassesOwn.never rfl (qL3 (pv 1)) (qAa (i:=4) scLPut.nd rfl (Or.inl rfl))
   (qA9 (qDl (qAe qSx (qBe (inK K rfl) (qAu qC6 (pv 3) qA6 (fun _ _=>rfl)) (qHw hu (pv 1) (pv 4) (fun _ _=>rfl)) rfl) (qBe (inK K rfl) (qAu qC6 (pv 3) qA6 (fun _ _=>rfl)) (qHw hu (pv 1) (pv 4) (fun _ _=>rfl)) rfl) (qAm _)) (qA9 (qBw (qE6 PySem.F.plainAttrs_list PySem.F.slot_list_append PySem.F.type_list_append qBg (pv 2) (qA0 (qB9 (qA0 (pv 3) (qA0 (qC5 (qAe (inK K rfl) (qAu qC6 (pv 3) qA6 (fun _ _=>rfl)) (qHw hu (pv 1) (pv 4) (fun _ _=>rfl)) rfl) qBl qBl) (qA0 (pv 4) qA3)))) qA3)))) qBv))))))
   (qA9 (qAw (qAc (qHc (qRf hr)) (by rfl) nsorted PyProof.Rows.boot_sorted (qA0 (pv 2) qA3)))))),?_⟩
  dsimp only [qBx,qBp,qGc,qMf,qTx]
  have hwl:=hOk.len
  have hn2 : ∀b∈wk,b.ns.length<=2:=fun b hb=>(hOk.blk b hb).ns.few
  have hwy:=qBq hn2 wk.length
  have nfz : ∀o u,H d≠some (.frz o u):=fun o u z=>by rw [hP.dict] at z;cases z
  walk_at "re"
  refine⟨len2 (Nat.zero_le _),fun lf hlf => ?_⟩
  have e0:Ext [] H (upd H lf (.lst [])) :=.laid hlf
  have hlf0:(upd H lf (.lst [])) lf=some (.lst []):=qA1
  generalize upd H lf (.lst [])=H1 at e0 hlf0 ⊢
  walk_at "re"
  refine⟨wa,wk,m,works,rfl,hW.mono e0.toSame,hOk,hm,fun lw H2 hlw e1 dW => ?_⟩
  have E2:=e0.trans e1
  have hd2:=E2 _ _ (by simp) hP.dict
  have hlf2:=e1 _ _ (by simp) hlf0
  obtain⟨lw',us,ew,hSw,dU⟩:=(dW.mono yo_same).ofList
  cases ew
  have hul:=dU.len
  rw [List.length_map] at hul
  have ndl:d≠lf:=fun z=>by rw [<-z,hP.dict] at hlf;cases hlf
  have hA1 : ∀(j:Nat) (a:Addr) (b:Int),as[j]? = some a->bs[j]? = some b->H2 a=some (.lst ((f b).map V.int))/\a≠d/\a≠lf:=fun j a b h1 h2=>by
   obtain⟨ns,h3,h4⟩:=hP.lists.get h1
   rw [List.getElem?_map,h2] at h3
   have h3:f b=ns:=Option.some.inj h3
   rw [h3]
   exact⟨E2 _ _ (by simp) h4,fun z=>hP.nda (z▸List.mem_of_getElem? h1),qA2 h4 hlf⟩
  have nwl:lw≠lf:=fun z=>by rw [z,hlf0] at hlw;cases hlw
  clear hlf0 e0 e1
  generalize hkv:planK bs as=kv at hd2
  refine⟨lw,rfl,⟨_,hSw⟩,qCy (xs:=us) (fun i σ' G => ∃(o3 o4:Option V) (rs:List Addr),σ' = [some (.ref wa),some (.ref d),some (.ref lf),o3,o4]/\Ext [lf] H2 G/\G lf=some (.lst (rs.map V.ref))/\RowsI K G (rs.map V.ref) (rowsL ((qAj wk wk.length).take i) bs f)) ?_ ?_ ?_ ?_⟩
  ·exact⟨_,_,[],rfl,.refl _ _,hlf2,.nil⟩
  ·rintro i σ' G hi ⟨o3,o4,rs,rfl,e2,hlG,hI⟩
   exact hSw.keepN e2 (by simpa using nwl)
  ·rintro i x σ' G hx ⟨o3,o4,rs,rfl,e2,hlG,hI⟩ N_ B_ C_ R_ hN_ hC_ hR_
   obtain⟨dd,hdd,hDx⟩:=dU.get hx
   obtain⟨wv,hwv,rfl⟩:=qBc hdd
   have hil:i<(qAj wk wk.length).length:=(List.getElem?_eq_some_iff.mp hwv).1
   obtain⟨p,ps,rfl,hp1,hps⟩:=hDx.ofTuple
   obtain⟨v1,q1,rfl,hv1,hq1⟩:=hps.ofCons
   obtain⟨v2,q2,rfl,hv2,hq2⟩:=hq1.ofCons
   have z1:=hv1.ofInt
   have z2:=hv2.ofInt
   have z3:=hq2.ofNil
   subst z1 z2 z3
   have hT0:Tups H2 G:=e2.tups fun u hu xs q=>by
    have z:u=lf:=by simpa using hu
    subst z;rcases q with q | ⟨o,q⟩ <;> rw [hlf2] at q <;> cases q
   have hpG:=hT0.sq hp1
   have hdG:=e2 _ _ (by simpa using ndl) hd2
   walk_at "re"
   refine qNs ?_
   walk_at "re"
   refine qKz ?_
   walk_at "re"
   refine⟨d,kv,rfl,.inl hdG,fun o => ?_⟩
   have hT1:Tups G (upd G d (.frz o (.dK kv))):=Tups.melt hdG
   have hI':=hI.mono hT1
   have hpG':=hT1.sq hpG
   have e3:Ext [d,lf] G (upd G d (.frz o (.dK kv))) :=.put (by simp)
   have hdG':(upd G d (.frz o (.dK kv))) d=some (.frz o (.dK kv)):=qA1
   have hlG':(upd G d (.frz o (.dK kv))) lf=some (.lst (rs.map V.ref)):=by rw [qA4 (Ne.symm ndl)];exact hlG
   generalize upd G d (.frz o (.dK kv))=G' at hI' hpG' e3 hdG' hlG' ⊢
   have hrl:=hI'.len
   have hr2:=qIk ((qAj wk wk.length).take i) bs f
   have hb1:((qAj wk wk.length).take i).length*bs.length<=25*8:=Nat.mul_le_mul (by rw [List.length_take];omega) hbl
   rw [List.length_map] at hrl
   clear hI hpG hT1 hT0
   refine qOz (fun j σ' G2 => ∃(o4:Option V) (rs:List Addr),σ' = [some (.ref wa),some (.ref d),some (.ref lf),some (.ref p),o4]/\Ext [lf] G' G2/\G2 lf=some (.lst (rs.map V.ref))/\RowsI K G2 (rs.map V.ref) (rowsL ((qAj wk wk.length).take i) bs f++(bs.take j).filterMap (rowOf f wv))) ?_ ?_ ?_ ?_
   ·exact⟨_,rs,rfl,.refl _ _,hlG',by rw [List.take_zero,List.filterMap_nil,List.append_nil];exact hI'⟩
   ·rintro j σ' G2 hj ⟨o4,rs,rfl,e4,hl4,hI4⟩
    exact e4 _ _ (by simpa using ndl) hdG'
   ·rintro j k v σ' G2 hv ⟨o4,rs2,rfl,e4,hl4,hI4⟩ N2_ B2_ C2_ R2_ hN2_ hC2_ hR2_
    rw [<-hkv] at hv
    obtain⟨b,a,hb,ha,rfl,rfl⟩:=qL2 hv
    obtain⟨ha1,nad,nal⟩:=hA1 j a b ha hb
    have ha2:=e4 _ _ (by simpa using nal) (e3 _ _ (by simpa using ⟨nad,nal⟩) (e2 _ _ (by simpa using nal) ha1))
    have hd4:=e4 _ _ (by simpa using ndl) hdG'
    have hT2:Tups G' G2:=e4.tups fun u hu xs q=>by
     have z:u=lf:=by simpa using hu
     subst z;rcases q with q | ⟨o,q⟩ <;> rw [hlG'] at q <;> cases q
    have hp4:=hT2.sq hpG'
    have hge:DGet G2 d (kV (Sum.inl b)) (some (.ref a)) :=.inl ⟨kv,Sum.inl b,.inr ⟨o,hd4⟩,rfl,by rw [<-hkv];exact (qFw hbn hb ha).symm⟩
    have hr4:=hI4.len
    rw [List.length_map,List.length_append] at hr4
    have hf4:=List.length_filterMap_le (rowOf f wv) (bs.take j)
    rw [List.length_take] at hf4
    walk_at "re"
    refine⟨d,_,rfl,hge,?_⟩
    refine⟨a,_,rfl,.inl (SqL.of ha2),rfl,qBn _,?_⟩
    rw [if_neg Bool.false_ne_true,qBz]
    walk_at "re"
    refine⟨d,_,rfl,hge,?_⟩
    refine⟨a,_,rfl,.inl (SqL.of ha2),rfl,qBn _,?_⟩
    rw [if_neg Bool.false_ne_true,qBz]
    refine⟨rfl,_,rfl,?_⟩
    by_cases hc:decide (wv.1∈f b)=decide (wv.2∈f b)
    ·rw [decide_eq_true (show V.bl (decide (wv.1∈f b))=V.bl (decide (wv.2∈f b)) by rw [hc])]
     refine iteF ?_
     walk_at "re"
     refine⟨_,rs2,rfl,e4,hl4,?_⟩
     rw [qIi hb,show rowOf f wv b=none from if_pos hc]
     exact (List.append_nil _).symm▸hI4
    ·rw [decide_eq_false (show ¬V.bl (decide (wv.1∈f b))=V.bl (decide (wv.2∈f b)) from fun z=>hc (V.bl.inj z))]
     refine iteT ?_
     walk_at "re"
     refine qDi hl4 ?_
     walk_at "re"
     refine⟨d,_,rfl,hge,?_⟩
     refine⟨a,_,rfl,.inl (SqL.of ha2),rfl,qBn _,?_⟩
     rw [if_neg Bool.false_ne_true,qBz]
     have fin : ∀(wd:V),wd = .str (wdS (decide (wv.2∈f b))) -> ∀tp,G2 tp=none->RowsI K (upd (upd G2 tp (.tup [.ref p,wd,.int b])) lf (.lst (rs2.map V.ref ++ [V.ref tp]))) ((rs2 ++ [tp]).map V.ref) (rowsL ((qAj wk wk.length).take i) bs f++(bs.take (j+1)).filterMap (rowOf f wv)):=fun wd hwd tp htp=>by
      have ntl:tp≠lf:=fun z=>by rw [z,hl4] at htp;cases htp
      have eT:Tups G2 (upd (upd G2 tp (.tup [.ref p,wd,.int b])) lf (.lst (rs2.map V.ref ++ [V.ref tp]))):=((Ext.laid (ts :=[]) htp).toSame.tups).trans (Tups.melt (by rw [qA4 (Ne.symm ntl)];exact hl4))
      rw [qIi hb,show rowOf f wv b=some (wv,decide (wv.2∈f b),b) from if_neg hc,<-List.append_assoc,List.map_append]
      refine Paired.snoc (hI4.mono eT) ⟨tp,p,rfl,SqT.of ?_,eT.sq hp4⟩
      rw [qA4 ntl,qA1,hwd]
     refine⟨_,rfl,?_⟩
     cases hd:decide (wv.2∈f b) with
     | true =>
      rw [hd] at fin
      refine iteT ?_
      walk_at "re"
      refine⟨len2 (by simp),fun tp htp => ?_⟩
      have ntl:tp≠lf:=fun z=>by rw [z,hl4] at htp;cases htp
      walk_at "re"
      refine qDk (by rw [qA4 (Ne.symm ntl)];exact hl4) (qAb (by rw [List.length_map];omega)) ?_
      refine L2.qEs hN2_ ⟨_,rs2 ++ [tp],rfl,(e4.trans (.laid htp)).trans (.put (by simp)),by rw [qA1,List.map_append];rfl,fin _ rfl tp htp⟩
     | false =>
      rw [hd] at fin
      refine iteF ?_
      walk_at "re"
      refine⟨len2 (by simp),fun tp htp => ?_⟩
      have ntl:tp≠lf:=fun z=>by rw [z,hl4] at htp;cases htp
      walk_at "re"
      refine qDk (by rw [qA4 (Ne.symm ntl)];exact hl4) (qAb (by rw [List.length_map];omega)) ?_
      refine L2.qEs hN2_ ⟨_,rs2 ++ [tp],rfl,(e4.trans (.laid htp)).trans (.put (by simp)),by rw [qA1,List.map_append];rfl,fin _ rfl tp htp⟩
   ·rintro σ' G2 ⟨o4,rs2,rfl,e4,hl4,hI4⟩
    have hkl:kv.length=bs.length:=by rw [<-hkv];exact qFx hP.len
    rw [hkl,List.take_length,<-qM5 hwv] at hI4
    have hd4:=e4 _ _ (by simpa using ndl) hdG'
    refine⟨d,o,_,hd4,nfz,?_⟩
    refine L2.qEs hN_ ⟨_,_,rs2,rfl,e2.trans ((e3.trans (e4.mono (by simp))).melt hdG),by rw [qA4 (Ne.symm ndl)];exact hl4,hI4.mono (Tups.melt hd4)⟩
  ·rintro σ' G ⟨o3,o4,rs,rfl,e2,hlG,hI⟩
   rw [hul,List.take_length] at hI
   walk_at "re"
   refine⟨lf,_,_,rfl,SqL.of hlG,hI,fun l ps hl hpm hpw => ?_⟩
   have eA:Ext [] H G:=fun b u _ h=>e2 _ _ (by simpa using qA2 h hlf) (E2 _ _ (by simp) h)
   obtain⟨z1,z2⟩:=qKp hI hpm
   have eL:Ext [] G (upd G l (.lst (ps.map (·.1)))) :=.laid hl
   exact q l _ _ _ (eA.none (by simp) hl) (eA.trans eL) qA1 (z1.mono eL.toSame.tups) z2 hpw
end
section
variable {P:Program} {w:World} {K:PySem.W.Frag} {mg:Str->Option Value} {base:Heap}
abbrev sLaw:Stmt:=top 26
theorem scLaw:FnScope ["_law_script","_law_k","_law_tape_here","_law_works_here","_law_number_here","_law_work_here","_law_plan_here","_law_due","_law_kept","_law_found"] ["_law_script"] (qA8 sLaw):=⟨rfl,rfl,rfl,by decide +kernel,rfl,by decide +kernel,by decide +kernel⟩
def qPz (K:PySem.W.Frag):Sp:=fun vs H Q _ => ∃(a:Addr) (ns:List Int),vs = [.ref a]/\SqL K H a (ns.map V.int)/\ns.length<=63 /\ ∀H',Q (.bl true) H'
theorem qVb {f:Addr} {fd:FuncData} (F:Fun K "law" "law" sLaw f fd) (nrange:mg "range" = none) (nlen:mg "len" = none) (nmax:mg "max" = none) (nmin:mg "min" = none) (nrepr:mg "repr" = none) (nenumerate:mg "enumerate" = none)
  (hT:Has P w K mg base "_law_tape" 1 ["_law_script","_law_k"] (qNc K)) (hW:Has P w K mg base "_law_works" 5 ["_law_tape_here","_law_most"] (qHi K))
  (hP:Has P w K mg base "_law_plan" 4 ["_law_tape_here","_law_works_here","_law_number_here"] (qNe K)) (hLp:Has P w K mg base "_law_put" 3 ["_law_work_here","_law_plan_here"] (qM1 K)) (hPo:Has P w K mg base "put_on" 2 ["work","plan"] (qM1 K)) :
  FnOk P w K mg base CX0 6 f fd ["_law_script"] (qPz K):=by
 refine F.ok scLaw (fun vs H Q E h => ?_) (fun cdv A outer s H vs Q E hr h => ?_)
 ·obtain⟨a,ns,rfl,_⟩:=h
  rfl
 ·obtain⟨a,ns,rfl,hSq,hlen,q⟩:=h
  have hu:=qMo hr
  refine⟨_,(qA7 (qC3 PassesOwn.never rfl (qBk rfl nrange (qA0 (qAc (qJn rfl) (by rfl) nmax PyProof.Rows.boot_max (qA0 qA6 (qA0 (qAc (qPk rfl) (by rfl) nmin PyProof.Rows.boot_min (qA0 (qAc qAo (by rfl) nlen PySem.boot_len (qA0 (pv 0) qA3)) (qA0 qA6 qA3))) qA3))) qA3)) (qAa (i:=1) scLaw.nd rfl (Or.inl rfl))
   (qA7 (qAn (i:=2) scLaw.nd rfl (Or.inl rfl) (qAr hT hr (by decide) (qA0 (pv 0) (qA0 (pv 1) qA3))))
   (qA7 (qAn (i:=3) scLaw.nd rfl (Or.inl rfl) (qAr hW hr (by decide) (qA0 (pv 2) (qA0 qA6 qA3))))
   (qA9 (qC3 PassesOwn.never rfl (qKb rfl nenumerate (qA0 (pv 3) qA3)) (qF2 (n:=2) rfl (qAp (qAa (i:=4) scLaw.nd rfl (Or.inl rfl)) (qAp (qAa (i:=5) scLaw.nd rfl (Or.inl rfl)) qC1)))
   (qA7 (qAn (i:=6) scLaw.nd rfl (Or.inl rfl) (qAr hP hr (by decide) (qA0 (pv 2) (qA0 (pv 3) (qA0 (pv 4) qA3)))))
   (qA7 (qIr (i:=7) (j:=8) rfl scLaw.nd rfl rfl (by decide) rfl rfl (qA0 (qAr hLp hr (by decide) (qA0 (pv 5) (qA0 (pv 6) qA3))) (qA0 (qAc (qHd hr) (by rfl) nrepr PyProof.Rows.boot_repr (qA0 (qAs (qA0 (pv 5) (qA0 (pv 6) qA3))) qA3)) qA3)) rfl)
   (qA7 (qAn (i:=9) scLaw.nd rfl (Or.inl rfl) (qAr hPo hr (by decide) (qA0 (pv 5) (qA0 (pv 6) qA3))))
   (qA7 (qDl (PW.pt (qSp (qAe qSx (qAc (qJm hr) (by rfl) nrepr PyProof.Rows.boot_repr (qA0 (pv 9) qA3)) (qAc (qJm hr) (by rfl) nrepr PyProof.Rows.boot_repr (qA0 (pv 7) qA3)) (qAm _)) (qNy (qAe qSx (qAc (qHd hr) (by rfl) nrepr PyProof.Rows.boot_repr (qA0 (qAs (qA0 (pv 5) (qA0 (pv 6) qA3))) qA3)) (pv 8) (qAm _))))) (qA9 (qAw qHx)) qBv)
   (qA7 (qBw (qE6 PySem.F.plainAttrs_list PySem.F.slot_list_append PySem.F.type_list_append qBg (pv 9) (qA0 (qB9 qA3) qA3)))
   (qA9 (qDl (qAe (qL6 hr) (qAr hPo hr (by decide) (qA0 (pv 5) (qA0 (pv 6) qA3))) (pv 7) (qAm _)) (qA9 (qAw qHx)) qBv))))))))))))
   (qA9 (qAw qHx))),?_⟩
  dsimp only [qBx,qBp,qGc,qMf,qTx]
  walk_at "re"
  refine⟨a,_,rfl,.inl hSq,?_⟩
  rw [List.length_map]
  walk_at "re"
  refine⟨_,_,rfl,?_⟩
  walk_at "re"
  refine⟨_,_,rfl,?_⟩
  generalize hN:(if (if (4:Int)<(ns.length:Int) then (4:Int) else (ns.length:Int))>1 then (if (4:Int)<(ns.length:Int) then (4:Int) else (ns.length:Int)) else 1)=N
  have hN1:1<=N/\N<=4:=by
   rw [<-hN]
   repeat' split
   all_goals omega
  walk_at "re"
  refine⟨N,rfl,by omega,by omega,qCa (lo:=0) (n:=N.toNat) (fun i σ' H' => ∃(o1 o2 o3 o4 o5 o6 o7 o8 o9:Option V),σ' = [some (.ref a),o1,o2,o3,o4,o5,o6,o7,o8,o9]/\Ext [] H H') ?_ ?_ ?_⟩
  ·exact⟨_,_,_,_,_,_,_,_,_,rfl,.refl _ _⟩
  ·rintro i σ' H' hi ⟨o1,o2,o3,o4,o5,o6,o7,o8,o9,rfl,e'⟩ N_ B_ C_ R_ hN_ hC_ hR_
   walk_at "re"
   refine⟨a,ns,i,by show [V.ref a,V.int (0+(i:Int))] = [V.ref a,V.int (i:Int)];rw [Int.zero_add],e'.toSame.seq hSq,by omega,fun t H1 ht T1 s1 => ?_⟩
   walk_at "re"
   refine⟨t,0,3,rfl,T1,by omega,by decide,by decide,fun l ws H2 T2 e2 dWE hok => ?_⟩
   have e12:Ext [t] H' H2:=(show Ext [t] H' H1 from fun b o _ h=>s1 b o h).trans e2
   have EH2:Ext [] H H2:=e'.trans (e12.drop ht)
   have hof:=hok.few
   have dW:Den K H2 (qCn ws) (.ref l):=dWE.den
   obtain⟨ta,tb,tc,htp,htp2⟩:=id T2
   have hW0:=Den.off htp (qJ0 ws) dW
   obtain⟨l',us,ee,hSl,hDus⟩:=hW0.ofList
   cases ee
   have hul:=hDus.len
   rw [List.length_map] at hul
   have sm : ∀ {G:Hp},Ext [t] H2 G->Same (wo [t] H2) G:=fun {G} e b o h=>qJx [t] G _ _ (e.same _ _ h)
   have Hnt:H t=none:=e'.none (by simp) ht
   clear dWE e12 e2 s1 T1 ht e' dW
   walk_at "re"
   refine⟨l,rfl,⟨_,(sm (.refl _ _)).seq hSl⟩,qOy (xs:=us) (fun j σ' G' => ∃(o4 o5 o6 o7 o8 o9:Option V),σ' = [some (.ref a),some (.int (0+(i:Int))),some (.ref t),some (.ref l),o4,o5,o6,o7,o8,o9]/\Ext [t] H2 G'/\Tape G' t (21000+200*j)) ?_ ?_ ?_ ?_⟩
   ·exact⟨_,_,_,_,_,_,rfl,.refl _ _,T2.mono (by omega)⟩
   ·rintro j σ' G' hj ⟨o4,o5,o6,o7,o8,o9,rfl,e3,T3⟩
    exact (sm e3).seq hSl
   ·rintro j x σ' G' p hx ⟨o4,o5,o6,o7,o8,o9,rfl,e3,T3⟩ hp N2_ B2_ C2_ R2_ hN2_ hC2_ hR2_
    have hjl:j<us.length:=(List.getElem?_eq_some_iff.mp hx).1
    have eT:Ext [] G' (upd G' p (.tup [V.int j,x])) :=.laid hp
    have hpT:(upd G' p (.tup [V.int j,x])) p=some (.tup [V.int j,x]):=qA1
    generalize upd G' p (.tup [V.int j,x])=G2 at eT hpT ⊢
    refine qCt (SqT.of hpT) rfl ?_
    walk_at "re"
    obtain⟨dd,hdd,hDx⟩:=hDus.get hx
    obtain⟨wk,hwk,rfl⟩:=qBc hdd
    obtain⟨m,hm1,hm2,hOk⟩:=hok.all wk (List.mem_of_getElem? hwk)
    have hwm:=hOk.len
    obtain⟨wl,bsv,rfl,hSw,hDw⟩:=id hDx.ofList
    have eG2:Ext [t] H2 G2:=e3.trans (eT.mono (by simp))
    clear hpT hp
    refine⟨t,l,21000+200*j,ws,j,wk,rfl,T3.ext eT (by simp),by omega,hW0.mono (sm eG2),hok,hwk,fun d bs as f G3 hd has T4 e4 hPl hPF => ?_⟩
    have eG3:Ext [t] H2 G3:=eG2.trans e4
    obtain⟨pb1,pb2,pb3⟩:=qGz hPF hOk
    have fit:=qQx hPF hOk hm2 (show ((ws.length:Nat):Int)<=100 by omega)
    clear e4 eG2 eT e3 T3
    walk_at "re"
    refine⟨wl,d,wk,m,ws.length,bs,as,f,rfl,hDx.mono (sm eG3),hOk,hm2,hPl,pb3,pb2,fun ld us4 ks G4 hld e4 hld4 hR4 hk1 hk2 => ?_⟩
    walk_at "re"
    refine⟨len2 (by simp),fun lr hlr => ?_⟩
    have e5:Ext [] G4 (upd G4 lr (.lst [.ref wl,.ref d])) :=.laid hlr
    have hlr5:(upd G4 lr (.lst [.ref wl,.ref d])) lr=some (.lst [.ref wl,.ref d]):=qA1
    generalize upd G4 lr (.lst [.ref wl,.ref d])=G5 at e5 hlr5 ⊢
    have E5:=e4.trans e5
    walk_at "re"
    have pk : ∀ {G:Hp},Ext [] G3 G->PlanAt G d bs as (bs.map f):=fun {G} e=>hPl.keep fun a _ o q=>e _ _ (by simp) q
    have dw : ∀ {G:Hp},Ext [] G3 G->Den K G (workD wk) (.ref wl):=fun {G} e=>hDx.mono (sm (eG3.trans (e.mono (by simp))))
    refine⟨lr,_,rfl,.list (SqL.of hlr5) (.cons (dw E5).x (.cons (pk E5).x .nil)),fit.1,fit.2.1,fit.2.2,?_⟩
    generalize hS:PyData.shown (.list [workD wk,qFy bs (bs.map f)])=S
    refine⟨_,_,rfl,?_⟩
    walk_at "re"
    refine⟨wl,d,wk,m,ws.length,bs,as,f,rfl,dw E5,hOk,hm2,pk E5,pb3,pb2,fun lf us6 ks6 G6 hlf e6 hlf6 hR6 hk61 hk62 => ?_⟩
    obtain rfl:=qKv hk1 hk61 hk2 hk62
    obtain⟨r1,r2,r3⟩:=qNn hm2 hOk pb1 pb2 hk1
    obtain⟨s1,s2,s3⟩:=qLy r1 r2 r3
    have tS:=qCh r1 r3 ⟨_,rfl⟩
    have E6:=E5.trans e6
    have e46:=e5.trans e6
    have dF:Den K G6 (rowsD ks) (.ref lf) :=.list (SqL.of hlf6) hR6.den
    have dD : ∀ {G:Hp},Ext [] G4 G->Den K G (rowsD ks) (.ref ld):=fun {G} e =>.list (SqL.of (e _ _ (by simp) hld4)) (hR4.den.mono e.toSame)
    have nlf:G4 lf=none:=e5.none (by simp) hlf
    have hu6:=hR6.len
    have hkf:=qKy hm2 hOk pb2 hk1
    clear hk61 hk62 hR6 hlr5 hlr
    walk_at "re"
    refine⟨lf,_,rfl,dF,s1,s2,s3,?_⟩
    walk_at "re"
    refine⟨ld,_,rfl,dD e46,s1,s2,s3,?_⟩
    generalize hS2:(rowsD ks).shown=S2
    refine⟨rfl,?_⟩
    rw [decide_eq_true rfl]
    refine⟨_,rfl,iteF ?_⟩
    walk_at "re"
    refine⟨len2 (by simp),fun lr2 hlr2 => ?_⟩
    have e7:Ext [] G6 (upd G6 lr2 (.lst [.ref wl,.ref d])) :=.laid hlr2
    have hlr7:(upd G6 lr2 (.lst [.ref wl,.ref d])) lr2=some (.lst [.ref wl,.ref d]):=qA1
    generalize upd G6 lr2 (.lst [.ref wl,.ref d])=G7 at e7 hlr7 ⊢
    have E7:=E6.trans e7
    have e47:=e46.trans e7
    have hlf7:=e7 _ _ (by simp) hlf6
    walk_at "re"
    refine⟨lr2,_,rfl,.list (SqL.of hlr7) (.cons (dw E7).x (.cons (pk E7).x .nil)),fit.1,fit.2.1,fit.2.2,?_⟩
    rw [hS]
    walk_at "re"
    refine⟨rfl,?_⟩
    rw [decide_eq_true rfl]
    refine⟨_,rfl,iteF ?_⟩
    clear hlr7 hlr2 e7 hlf6 dF
    walk_at "re"
    refine qDi hlf7 ?_
    walk_at "re"
    refine⟨len2 (Nat.zero_le _),fun pe hpe => ?_⟩
    have npe:lf≠pe:=qA2 hlf7 hpe
    walk_at "re"
    refine qDk (by rw [qA4 npe];exact hlf7) (qAb (by omega)) ?_
    have e8:Ext [] G4 (upd (upd G7 pe (.tup [])) lf (.lst (us6 ++ [V.ref pe]))):=fun b o _ h=>by
     rw [qA4 (qA2 h nlf)]
     exact (e47.trans (.laid hpe)) _ _ (by simp) h
    generalize upd (upd G7 pe (.tup [])) lf (.lst (us6 ++ [V.ref pe]))=G8 at e8 ⊢
    have E8:=e4.trans e8
    walk_at "re"
    refine⟨wl,d,wk,m,ws.length,bs,as,f,rfl,dw E8,hOk,hm2,pk E8,pb3,pb2,fun lf2 us9 ks9 G9 hlf9 e9 hlf92 hR9 hk91 hk92 => ?_⟩
    obtain rfl:=qKv hk1 hk91 hk2 hk92
    walk_at "re"
    refine⟨rowsD ks,rowsD ks,.list (SqL.of hlf92) hR9.den,dD (e8.trans e9),tS,tS,?_⟩
    rw [if_pos rfl,qLi _ (qJz r1)]
    walk_at "re"
    refine iteF ?_
    walk_at "re"
    have EF:=eG3.trans ((E8.trans e9).mono (us :=[t]) (by simp))
    exact⟨_,_,_,_,_,_,rfl,EF,(T4.ext (E8.trans e9) (by simp)).mono (by omega)⟩
   ·rintro σ' G' ⟨o4,o5,o6,o7,o8,o9,rfl,e3,T3⟩
    exact L2.qEs hN_ ⟨_,_,_,_,_,_,_,_,_,rfl,EH2.dropAll e3 fun x hx=>by rw [show x=t by simpa using hx];exact Hnt⟩
  ·rintro σ' H' ⟨o1,o2,o3,o4,o5,o6,o7,o8,o9,rfl,e'⟩
   walk_at "re"
   exact q _
end
theorem qBb {P:Program} {w:World} {K:PySem.W.Frag} {mg:Str->Option Value} {base h:Heap} {x:Str} {st:Stmt} {k:Nat} {ps:List Str} {sp:Sp} {f:Addr} {oc:Value} {od an:Option Addr} {osl:Array (Option Value)} {kV doc pm cdv ct:Value} (X:K.In h) (G:h.Ns mainGlobals mg)
  (a:PySem.W.nsIn K mainGlobals x=some (some (.ref f))) (l:K.lookup f=some ⟨oc,od,.func (PySem.W.fnOf x x (qAh st) (qAg st) (qA8 st) .none kV doc pm an cdv ct),osl⟩) (c:PySem.W.codeIn K cdv x=true) (kk:PySem.W.keepIn K (.ref f)=true)
  (hb : ∀(kV doc pm:Value) (an:Option Addr) (cdv ct:Value) (us:List Value),us.length=ps.length->bindArgs (PySem.W.fnOf x x (qAh st) (qAg st) (qA8 st) .none kV doc pm an cdv ct) ⟨us,[]⟩=pure (ps.zip us))
  (ok : ∀fd,Fun K x x st f fd->FnOk P w K mg base CX0 k f fd ps sp):Has P w K mg base x k ps sp:=by
 have F:=qRy (st:=st) l c kk
 exact⟨f,_,ok _ F,PySem.W.mg_of X G a,kk,F.binds hb⟩
theorem qEb {us:List Value} (h:us.length=1) : ∃a0,us = [a0]:=by
 obtain _ | ⟨x0,us⟩:=us
 ·cases h
 obtain _ | ⟨y,us⟩:=us
 ·exact⟨x0,rfl⟩
 ·simp at h
theorem qDo {us:List Value} (h:us.length=2) : ∃a0 a1,us = [a0,a1]:=by
 obtain _ | ⟨x0,us⟩:=us
 ·cases h
 obtain _ | ⟨x1,us⟩:=us
 ·cases h
 obtain _ | ⟨y,us⟩:=us
 ·exact⟨x0,x1,rfl⟩
 ·simp at h
theorem qRv {us:List Value} (h:us.length=3) : ∃a0 a1 a2,us = [a0,a1,a2]:=by
 obtain _ | ⟨x0,us⟩:=us
 ·cases h
 obtain _ | ⟨x1,us⟩:=us
 ·cases h
 obtain _ | ⟨x2,us⟩:=us
 ·cases h
 obtain _ | ⟨y,us⟩:=us
 ·exact⟨x0,x1,x2,rfl⟩
 ·simp at h
theorem qVe {us:List Value} (h:us.length=4) : ∃a0 a1 a2 a3,us = [a0,a1,a2,a3]:=by
 obtain _ | ⟨x0,us⟩:=us
 ·cases h
 obtain _ | ⟨x1,us⟩:=us
 ·cases h
 obtain _ | ⟨x2,us⟩:=us
 ·cases h
 obtain _ | ⟨x3,us⟩:=us
 ·cases h
 obtain _ | ⟨y,us⟩:=us
 ·exact⟨x0,x1,x2,x3,rfl⟩
 ·simp at h
theorem qRu {us:List Value} (h:us.length=5) : ∃a0 a1 a2 a3 a4,us = [a0,a1,a2,a3,a4]:=by
 obtain _ | ⟨x0,us⟩:=us
 ·cases h
 obtain _ | ⟨x1,us⟩:=us
 ·cases h
 obtain _ | ⟨x2,us⟩:=us
 ·cases h
 obtain _ | ⟨x3,us⟩:=us
 ·cases h
 obtain _ | ⟨x4,us⟩:=us
 ·cases h
 obtain _ | ⟨y,us⟩:=us
 ·exact⟨x0,x1,x2,x3,x4,rfl⟩
 ·simp at h
theorem qVq {l:PySem.W.OpenLaw} {w:World} {K:PySem.W.Frag} {h:Heap} {mg:Str->Option Value} {fa f1 f2 f3 f4 f5 f6 f7 f8 f9 f10 f11 f12 f13 f14 f15 f16 f17 f18 f19 f20 f21 f22 f23 f24 f25:Addr} (X:K.In h) (G:h.Ns mainGlobals mg) (hfa:mg "law" = some (.ref fa))
  {od1 an1 od2 an2 od3 an3 od4 an4 od5 an5 od6 an6 od7 an7 od8 an8 od9 an9 od10 an10 od11 an11 od12 an12 od13 an13 od14 an14 od15 an15 od16 an16 od17 an17 od18 an18 od19 an19 od20 an20 od21 an21 od22 an22 od23 an23 od24 an24 od25 an25:Option Addr} {sl1 sl2 sl3 sl4 sl5 sl6 sl7 sl8 sl9 sl10 sl11 sl12 sl13 sl14 sl15 sl16 sl17 sl18 sl19 sl20 sl21 sl22 sl23 sl24 sl25:Array (Option Value)} {oc1 kV1 dc1 pm1 cd1 ct1 oc2 kV2 dc2 pm2 cd2 ct2 oc3 kV3 dc3 pm3 cd3 ct3 oc4 kV4 dc4 pm4 cd4 ct4 oc5 kV5 dc5 pm5 cd5 ct5 oc6 kV6 dc6 pm6 cd6 ct6 oc7 kV7 dc7 pm7 cd7 ct7 oc8 kV8 dc8 pm8 cd8 ct8 oc9 kV9 dc9 pm9 cd9 ct9 oc10 kV10 dc10 pm10 cd10 ct10 oc11 kV11 dc11 pm11 cd11 ct11 oc12 kV12 dc12 pm12 cd12 ct12 oc13 kV13 dc13 pm13 cd13 ct13 oc14 kV14 dc14 pm14 cd14 ct14 oc15 kV15 dc15 pm15 cd15 ct15 oc16 kV16 dc16 pm16 cd16 ct16 oc17 kV17 dc17 pm17 cd17 ct17 oc18 kV18 dc18 pm18 cd18 ct18 oc19 kV19 dc19 pm19 cd19 ct19 oc20 kV20 dc20 pm20 cd20 ct20 oc21 kV21 dc21 pm21 cd21 ct21 oc22 kV22 dc22 pm22 cd22 ct22 oc23 kV23 dc23 pm23 cd23 ct23 oc24 kV24 dc24 pm24 cd24 ct24 oc25 kV25 dc25 pm25 cd25 ct25:Value}
  (a1:PySem.W.nsIn K mainGlobals "_law_tape" = some (some (.ref f1))) (l1:K.lookup f1=some ⟨oc1,od1,.func (PySem.W.fnOf "_law_tape" "_law_tape" (qAh sTape) (qAg sTape) (qA8 sTape) .none kV1 dc1 pm1 an1 cd1 ct1),sl1⟩) (c1:PySem.W.codeIn K cd1 "_law_tape" = true) (k1:PySem.W.keepIn K (.ref f1)=true)
  (a2:PySem.W.nsIn K mainGlobals "_law_draw" = some (some (.ref f2))) (l2:K.lookup f2=some ⟨oc2,od2,.func (PySem.W.fnOf "_law_draw" "_law_draw" (qAh sDraw) (qAg sDraw) (qA8 sDraw) .none kV2 dc2 pm2 an2 cd2 ct2),sl2⟩) (c2:PySem.W.codeIn K cd2 "_law_draw" = true) (k2:PySem.W.keepIn K (.ref f2)=true)
  (a3:PySem.W.nsIn K mainGlobals "_law_nexts" = some (some (.ref f3))) (l3:K.lookup f3=some ⟨oc3,od3,.func (PySem.W.fnOf "_law_nexts" "_law_nexts" (qAh qGt) (qAg qGt) (qA8 qGt) .none kV3 dc3 pm3 an3 cd3 ct3),sl3⟩) (c3:PySem.W.codeIn K cd3 "_law_nexts" = true) (k3:PySem.W.keepIn K (.ref f3)=true)
  (a4:PySem.W.nsIn K mainGlobals "_law_number" = some (some (.ref f4))) (l4:K.lookup f4=some ⟨oc4,od4,.func (PySem.W.fnOf "_law_number" "_law_number" (qAh qEm) (qAg qEm) (qA8 qEm) .none kV4 dc4 pm4 an4 cd4 ct4),sl4⟩) (c4:PySem.W.codeIn K cd4 "_law_number" = true) (k4:PySem.W.keepIn K (.ref f4)=true)
  (a5:PySem.W.nsIn K mainGlobals "_law_deeds" = some (some (.ref f5))) (l5:K.lookup f5=some ⟨oc5,od5,.func (PySem.W.fnOf "_law_deeds" "_law_deeds" (qAh qGx) (qAg qGx) (qA8 qGx) .none kV5 dc5 pm5 an5 cd5 ct5),sl5⟩) (c5:PySem.W.codeIn K cd5 "_law_deeds" = true) (k5:PySem.W.keepIn K (.ref f5)=true)
  (a6:PySem.W.nsIn K mainGlobals "_law_work" = some (some (.ref f6))) (l6:K.lookup f6=some ⟨oc6,od6,.func (PySem.W.fnOf "_law_work" "_law_work" (qAh sWork) (qAg sWork) (qA8 sWork) .none kV6 dc6 pm6 an6 cd6 ct6),sl6⟩) (c6:PySem.W.codeIn K cd6 "_law_work" = true) (k6:PySem.W.keepIn K (.ref f6)=true)
  (a7:PySem.W.nsIn K mainGlobals "_law_many" = some (some (.ref f7))) (l7:K.lookup f7=some ⟨oc7,od7,.func (PySem.W.fnOf "_law_many" "_law_many" (qAh sMany) (qAg sMany) (qA8 sMany) .none kV7 dc7 pm7 an7 cd7 ct7),sl7⟩) (c7:PySem.W.codeIn K cd7 "_law_many" = true) (k7:PySem.W.keepIn K (.ref f7)=true)
  (a8:PySem.W.nsIn K mainGlobals "_law_size" = some (some (.ref f8))) (l8:K.lookup f8=some ⟨oc8,od8,.func (PySem.W.fnOf "_law_size" "_law_size" (qAh sSize) (qAg sSize) (qA8 sSize) .none kV8 dc8 pm8 an8 cd8 ct8),sl8⟩) (c8:PySem.W.codeIn K cd8 "_law_size" = true) (k8:PySem.W.keepIn K (.ref f8)=true)
  (a9:PySem.W.nsIn K mainGlobals "_law_slim" = some (some (.ref f9))) (l9:K.lookup f9=some ⟨oc9,od9,.func (PySem.W.fnOf "_law_slim" "_law_slim" (qAh sSlim) (qAg sSlim) (qA8 sSlim) .none kV9 dc9 pm9 an9 cd9 ct9),sl9⟩) (c9:PySem.W.codeIn K cd9 "_law_slim" = true) (k9:PySem.W.keepIn K (.ref f9)=true)
  (a10:PySem.W.nsIn K mainGlobals "_law_works" = some (some (.ref f10))) (l10:K.lookup f10=some ⟨oc10,od10,.func (PySem.W.fnOf "_law_works" "_law_works" (qAh qGr) (qAg qGr) (qA8 qGr) .none kV10 dc10 pm10 an10 cd10 ct10),sl10⟩) (c10:PySem.W.codeIn K cd10 "_law_works" = true) (k10:PySem.W.keepIn K (.ref f10)=true)
  (a11:PySem.W.nsIn K mainGlobals "_law_reads" = some (some (.ref f11))) (l11:K.lookup f11=some ⟨oc11,od11,.func (PySem.W.fnOf "_law_reads" "_law_reads" (qAh qEn) (qAg qEn) (qA8 qEn) .none kV11 dc11 pm11 an11 cd11 ct11),sl11⟩) (c11:PySem.W.codeIn K cd11 "_law_reads" = true) (k11:PySem.W.keepIn K (.ref f11)=true)
  (a12:PySem.W.nsIn K mainGlobals "_law_is_asked" = some (some (.ref f12))) (l12:K.lookup f12=some ⟨oc12,od12,.func (PySem.W.fnOf "_law_is_asked" "_law_is_asked" (qAh qD5) (qAg qD5) (qA8 qD5) .none kV12 dc12 pm12 an12 cd12 ct12),sl12⟩) (c12:PySem.W.codeIn K cd12 "_law_is_asked" = true) (k12:PySem.W.keepIn K (.ref f12)=true)
  (a13:PySem.W.nsIn K mainGlobals "_law_ends" = some (some (.ref f13))) (l13:K.lookup f13=some ⟨oc13,od13,.func (PySem.W.fnOf "_law_ends" "_law_ends" (qAh sEnds) (qAg sEnds) (qA8 sEnds) .none kV13 dc13 pm13 an13 cd13 ct13),sl13⟩) (c13:PySem.W.codeIn K cd13 "_law_ends" = true) (k13:PySem.W.keepIn K (.ref f13)=true)
  (a14:PySem.W.nsIn K mainGlobals "_law_writes" = some (some (.ref f14))) (l14:K.lookup f14=some ⟨oc14,od14,.func (PySem.W.fnOf "_law_writes" "_law_writes" (qAh qD4) (qAg qD4) (qA8 qD4) .none kV14 dc14 pm14 an14 cd14 ct14),sl14⟩) (c14:PySem.W.codeIn K cd14 "_law_writes" = true) (k14:PySem.W.keepIn K (.ref f14)=true)
  (a15:PySem.W.nsIn K mainGlobals "_law_behind" = some (some (.ref f15))) (l15:K.lookup f15=some ⟨oc15,od15,.func (PySem.W.fnOf "_law_behind" "_law_behind" (qAh qEp) (qAg qEp) (qA8 qEp) .none kV15 dc15 pm15 an15 cd15 ct15),sl15⟩) (c15:PySem.W.codeIn K cd15 "_law_behind" = true) (k15:PySem.W.keepIn K (.ref f15)=true)
  (a16:PySem.W.nsIn K mainGlobals "_law_busy" = some (some (.ref f16))) (l16:K.lookup f16=some ⟨oc16,od16,.func (PySem.W.fnOf "_law_busy" "_law_busy" (qAh qGv) (qAg qGv) (qA8 qGv) .none kV16 dc16 pm16 an16 cd16 ct16),sl16⟩) (c16:PySem.W.codeIn K cd16 "_law_busy" = true) (k16:PySem.W.keepIn K (.ref f16)=true)
  (a17:PySem.W.nsIn K mainGlobals "_law_boxes" = some (some (.ref f17))) (l17:K.lookup f17=some ⟨oc17,od17,.func (PySem.W.fnOf "_law_boxes" "_law_boxes" (qAh qEo) (qAg qEo) (qA8 qEo) .none kV17 dc17 pm17 an17 cd17 ct17),sl17⟩) (c17:PySem.W.codeIn K cd17 "_law_boxes" = true) (k17:PySem.W.keepIn K (.ref f17)=true)
  (a18:PySem.W.nsIn K mainGlobals "_law_ends" = some (some (.ref f18))) (l18:K.lookup f18=some ⟨oc18,od18,.func (PySem.W.fnOf "_law_ends" "_law_ends" (qAh qGw) (qAg qGw) (qA8 qGw) .none kV18 dc18 pm18 an18 cd18 ct18),sl18⟩) (c18:PySem.W.codeIn K cd18 "_law_ends" = true) (k18:PySem.W.keepIn K (.ref f18)=true)
  (a19:PySem.W.nsIn K mainGlobals "_law_ways" = some (some (.ref f19))) (l19:K.lookup f19=some ⟨oc19,od19,.func (PySem.W.fnOf "_law_ways" "_law_ways" (qAh sWays) (qAg sWays) (qA8 sWays) .none kV19 dc19 pm19 an19 cd19 ct19),sl19⟩) (c19:PySem.W.codeIn K cd19 "_law_ways" = true) (k19:PySem.W.keepIn K (.ref f19)=true)
  (a20:PySem.W.nsIn K mainGlobals "ways_of" = some (some (.ref f20))) (l20:K.lookup f20=some ⟨oc20,od20,.func (PySem.W.fnOf "ways_of" "ways_of" (qAh qEl) (qAg qEl) (qA8 qEl) .none kV20 dc20 pm20 an20 cd20 ct20),sl20⟩) (c20:PySem.W.codeIn K cd20 "ways_of" = true) (k20:PySem.W.keepIn K (.ref f20)=true)
  (a21:PySem.W.nsIn K mainGlobals "word_on" = some (some (.ref f21))) (l21:K.lookup f21=some ⟨oc21,od21,.func (PySem.W.fnOf "word_on" "word_on" (qAh qEk) (qAg qEk) (qA8 qEk) .none kV21 dc21 pm21 an21 cd21 ct21),sl21⟩) (c21:PySem.W.codeIn K cd21 "word_on" = true) (k21:PySem.W.keepIn K (.ref f21)=true)
  (a22:PySem.W.nsIn K mainGlobals "put_on" = some (some (.ref f22))) (l22:K.lookup f22=some ⟨oc22,od22,.func (PySem.W.fnOf "put_on" "put_on" (qAh qGs) (qAg qGs) (qA8 qGs) .none kV22 dc22 pm22 an22 cd22 ct22),sl22⟩) (c22:PySem.W.codeIn K cd22 "put_on" = true) (k22:PySem.W.keepIn K (.ref f22)=true)
  (a23:PySem.W.nsIn K mainGlobals "_law_plan" = some (some (.ref f23))) (l23:K.lookup f23=some ⟨oc23,od23,.func (PySem.W.fnOf "_law_plan" "_law_plan" (qAh qGu) (qAg qGu) (qA8 qGu) .none kV23 dc23 pm23 an23 cd23 ct23),sl23⟩) (c23:PySem.W.codeIn K cd23 "_law_plan" = true) (k23:PySem.W.keepIn K (.ref f23)=true)
  (a24:PySem.W.nsIn K mainGlobals "_law_put" = some (some (.ref f24))) (l24:K.lookup f24=some ⟨oc24,od24,.func (PySem.W.fnOf "_law_put" "_law_put" (qAh sLPut) (qAg sLPut) (qA8 sLPut) .none kV24 dc24 pm24 an24 cd24 ct24),sl24⟩) (c24:PySem.W.codeIn K cd24 "_law_put" = true) (k24:PySem.W.keepIn K (.ref f24)=true)
  (a25:PySem.W.nsIn K mainGlobals "law" = some (some (.ref f25))) (l25:K.lookup f25=some ⟨oc25,od25,.func (PySem.W.fnOf "law" "law" (qAh sLaw) (qAg sLaw) (qA8 sLaw) .none kV25 dc25 pm25 an25 cd25 ct25),sl25⟩) (c25:PySem.W.codeIn K cd25 "law" = true) (k25:PySem.W.keepIn K (.ref f25)=true)
  (z1:PySem.W.nsIn K mainGlobals "range" = some none) (z2:PySem.W.nsIn K mainGlobals "len" = some none) (z3:PySem.W.nsIn K mainGlobals "abs" = some none) (z4:PySem.W.nsIn K mainGlobals "int" = some none) (z5:PySem.W.nsIn K mainGlobals "max" = some none) (z6:PySem.W.nsIn K mainGlobals "min" = some none) (z7:PySem.W.nsIn K mainGlobals "list" = some none) (z8:PySem.W.nsIn K mainGlobals "repr" = some none) (z9:PySem.W.nsIn K mainGlobals "enumerate" = some none) (z10:PySem.W.nsIn K mainGlobals "any" = some none) (z11:PySem.W.nsIn K mainGlobals "sum" = some none) (z12:PySem.W.nsIn K mainGlobals "sorted" = some none) (z13:PySem.W.nsIn K mainGlobals "set" = some none) :
  ∃fd:FuncData,(∀(s:Shared) (v:Value),BindsTo s fd ⟨[v],[]⟩ [("_law_script",v)]) /\ ∀base:Heap,K.In base->base.Ns mainGlobals mg->FnOk l.prog w K mg base CX0 6 fa fd ["_law_script"] (qPz K):=by
 have e:=hfa.symm.trans (PySem.W.mg_of X G a25)
 cases e
 have nrange:=PySem.W.mg_none_of X G z1
 have nlen:=PySem.W.mg_none_of X G z2
 have nabs:=PySem.W.mg_none_of X G z3
 have nint:=PySem.W.mg_none_of X G z4
 have nmax:=PySem.W.mg_none_of X G z5
 have nmin:=PySem.W.mg_none_of X G z6
 have nlist:=PySem.W.mg_none_of X G z7
 have nrepr:=PySem.W.mg_none_of X G z8
 have nenumerate:=PySem.W.mg_none_of X G z9
 have nany:=PySem.W.mg_none_of X G z10
 have nsum:=PySem.W.mg_none_of X G z11
 have nsorted:=PySem.W.mg_none_of X G z12
 have nset:=PySem.W.mg_none_of X G z13
 have FL:=qRy (st:=sLaw) l25 c25 k25
 refine⟨PySem.W.fnOf "law" "law" (qAh sLaw) (qAg sLaw) (qA8 sLaw) .none kV25 dc25 pm25 an25 cd25 ct25,fun s v =>.of_eq rfl,fun base _ _ => ?_⟩
 have htape:Has l.prog w K mg base "_law_tape" 1 ["_law_script","_law_k"] (qNc K):=qBb (st:=sTape) X G a1 l1 c1 k1 (fun _ _ _ _ _ _ us hl=>by obtain⟨_,_,rfl⟩:=qDo hl;rfl) fun _ F=>qT1 F nlen nabs nint
 have hdraw:Has l.prog w K mg base "_law_draw" 1 ["_law_tape_here","_law_many_here"] qDm:=qBb (st:=sDraw) X G a2 l2 c2 k2 (fun _ _ _ _ _ _ us hl=>by obtain⟨_,_,rfl⟩:=qDo hl;rfl) fun _ F=>qT7 F
 have hnexts:Has l.prog w K mg base "_law_nexts" 2 ["_law_tape_here","_law_many_here"] (qK2 K):=qBb (st:=qGt) X G a3 l3 c3 k3 (fun _ _ _ _ _ _ us hl=>by obtain⟨_,_,rfl⟩:=qDo hl;rfl) fun _ F=>qQj F nrange nmax hdraw
 have hnumber:Has l.prog w K mg base "_law_number" 2 ["_law_tape_here"] qHl:=qBb (st:=qEm) X G a4 l4 c4 k4 (fun _ _ _ _ _ _ us hl=>by obtain⟨_,rfl⟩:=qEb hl;rfl) fun _ F=>qOc F hdraw
 have hdeeds:Has l.prog w K mg base "_law_deeds" 3 ["_law_tape_here","_law_most","_law_boxes_here","_law_first","_law_works_here"] (qFd K):=qBb (st:=qGx) X G a5 l5 c5 k5 (fun _ _ _ _ _ _ us hl=>by obtain⟨_,_,_,_,_,rfl⟩:=qRu hl;rfl) fun _ F=>qQn F nrange nint nlen hdraw hnumber
 have hwork:Has l.prog w K mg base "_law_work" 4 ["_law_tape_here","_law_many_here","_law_most","_law_first","_law_works_here"] (qK0 K):=qBb (st:=sWork) X G a6 l6 c6 k6 (fun _ _ _ _ _ _ us hl=>by obtain⟨_,_,_,_,_,rfl⟩:=qRu hl;rfl) fun _ F=>qSz F nrange nlist nlen hdraw hnexts hdeeds
 have hmany:Has l.prog w K mg base "_law_many" 2 ["_law_tape_here"] qNf:=qBb (st:=sMany) X G a7 l7 c7 k7 (fun _ _ _ _ _ _ us hl=>by obtain⟨_,rfl⟩:=qEb hl;rfl) fun _ F=>qT4 F nint hdraw
 have hsize:Has l.prog w K mg base "_law_size" 1 ["_law_works_here"] (qNd K):=qBb (st:=sSize) X G a8 l8 c8 k8 (fun _ _ _ _ _ _ us hl=>by obtain⟨_,rfl⟩:=qEb hl;rfl) fun _ F=>qT3 F nsum nlen
 have hslim:Has l.prog w K mg base "_law_slim" 2 ["_law_works_here"] (qK1 K):=qBb (st:=sSlim) X G a9 l9 c9 k9 (fun _ _ _ _ _ _ us hl=>by obtain⟨_,rfl⟩:=qEb hl;rfl) fun _ F=>qT2 F hsize
 have hworks:Has l.prog w K mg base "_law_works" 5 ["_law_tape_here","_law_most"] (qHi K):=qBb (st:=qGr) X G a10 l10 c10 k10 (fun _ _ _ _ _ _ us hl=>by obtain⟨_,_,rfl⟩:=qDo hl;rfl) fun _ F=>qQh F nrange nint hdraw hmany hwork hslim
 have hreads:Has l.prog w K mg base "_law_reads" 1 ["_law_deed","_law_box"] (qK4 rdB K):=qBb (st:=qEn) X G a11 l11 c11 k11 (fun _ _ _ _ _ _ us hl=>by obtain⟨_,_,rfl⟩:=qDo hl;rfl) fun _ F=>qOd F
 have his_asked:Has l.prog w K mg base "_law_is_asked" 2 ["_law_works_here","_law_number_here","_law_block","_law_box"] (qFq K):=qBb (st:=qD5) X G a12 l12 c12 k12 (fun _ _ _ _ _ _ us hl=>by obtain⟨_,_,_,_,rfl⟩:=qVe hl;rfl) fun _ F=>qMe F hreads
 have hends:Has l.prog w K mg base "_law_ends" 1 ["_law_work_here"] (qK3 K):=qBb (st:=sEnds) X G a13 l13 c13 k13 (fun _ _ _ _ _ _ us hl=>by obtain⟨_,rfl⟩:=qEb hl;rfl) fun _ F=>qT6 F nlist
 have hwrites:Has l.prog w K mg base "_law_writes" 1 ["_law_work_here","_law_box"] (qCs K):=qBb (st:=qD4) X G a14 l14 c14 k14 (fun _ _ _ _ _ _ us hl=>by obtain⟨_,_,rfl⟩:=qDo hl;rfl) fun _ F=>qMd F nrange nlen nany
 have hbehind:Has l.prog w K mg base "_law_behind" 2 ["_law_work_here","_law_box"] (qHn K):=qBb (st:=qEp) X G a15 l15 c15 k15 (fun _ _ _ _ _ _ us hl=>by obtain⟨_,_,rfl⟩:=qDo hl;rfl) fun _ F=>qOf F nrange nlen nlist nset nsorted hends hwrites
 have hbusy:Has l.prog w K mg base "_law_busy" 3 ["_law_works_here","_law_number_here","_law_box"] (qNh K):=qBb (st:=qGv) X G a16 l16 c16 k16 (fun _ _ _ _ _ _ us hl=>by obtain⟨_,_,_,rfl⟩:=qRv hl;rfl) fun _ F=>qQl F nsorted nset hbehind his_asked hwrites
 have hboxes:Has l.prog w K mg base "_law_boxes" 2 ["_law_work_here"] (qHm K):=qBb (st:=qEo) X G a17 l17 c17 k17 (fun _ _ _ _ _ _ us hl=>by obtain⟨_,rfl⟩:=qEb hl;rfl) fun _ F=>qOe F nrange hwrites
 have hends2:Has l.prog w K mg base "_law_ends" 1 ["_law_work_here"] (qNg K):=qBb (st:=qGw) X G a18 l18 c18 k18 (fun _ _ _ _ _ _ us hl=>by obtain⟨_,rfl⟩:=qEb hl;rfl) fun _ F=>qQm F nlist
 have hways:Has l.prog w K mg base "_law_ways" 2 ["_law_work_here"] (qNb K):=qBb (st:=sWays) X G a19 l19 c19 k19 (fun _ _ _ _ _ _ us hl=>by obtain⟨_,rfl⟩:=qEb hl;rfl) fun _ F=>qT0 F nenumerate nlen nint nsorted hends2
 have hways_of:Has l.prog w K mg base "ways_of" 1 ["work"] (qHk K):=qBb (st:=qEl) X G a20 l20 c20 k20 (fun _ _ _ _ _ _ us hl=>by obtain⟨_,rfl⟩:=qEb hl;rfl) fun _ F=>qOb F nenumerate nlen nsorted
 have hword_on:Has l.prog w K mg base "word_on" 1 ["way","inside"] (qHj K):=qBb (st:=qEk) X G a21 l21 c21 k21 (fun _ _ _ _ _ _ us hl=>by obtain⟨_,_,rfl⟩:=qDo hl;rfl) fun _ F=>qOa F
 have hput_on:Has l.prog w K mg base "put_on" 2 ["work","plan"] (qM1 K):=qBb (st:=qGs) X G a22 l22 c22 k22 (fun _ _ _ _ _ _ us hl=>by obtain⟨_,_,rfl⟩:=qDo hl;rfl) fun _ F=>qQi F nsorted hways_of hword_on
 have hplan:Has l.prog w K mg base "_law_plan" 4 ["_law_tape_here","_law_works_here","_law_number_here"] (qNe K):=qBb (st:=qGu) X G a23 l23 c23 k23 (fun _ _ _ _ _ _ us hl=>by obtain⟨_,_,_,rfl⟩:=qRv hl;rfl) fun _ F=>qQk F nrange nlen nset nsorted hdraw hboxes hbusy
 have hput:Has l.prog w K mg base "_law_put" 3 ["_law_work_here","_law_plan_here"] (qM1 K):=qBb (st:=sLPut) X G a24 l24 c24 k24 (fun _ _ _ _ _ _ us hl=>by obtain⟨_,_,rfl⟩:=qDo hl;rfl) fun _ F=>qT5 F nsorted hways
 exact qVb FL nrange nlen nmax nmin nrepr nenumerate htape hworks hplan hput hput_on
theorem walk {l:PySem.W.OpenLaw} {q:Program} {loose:List Str} {XP:(Str->Option Value)->Heap->Prop} {YP:World->Heap->Prop} {d:DefRec} {K:Params->PySem.W.Frag} (hn:l.most=some 63) (hdf:d.params.defaults = [])
  (hY : ∀(w:World) (h:Heap),YP w h->(K w.params).In h)
  (F : ∀(w:World) (mg:Str->Option Value) (fa:Addr) (h:Heap),(K w.params).In h->h.Ns mainGlobals mg->mg d.name=some (.ref fa) ->
   ∃fd:FuncData,(∀(s:Shared) (u:Value),BindsTo s fd ⟨[u],[]⟩ [("_law_script",u)]) /\ ∀base:Heap,(K w.params).In base->base.Ns mainGlobals mg->FnOk l.prog w (K w.params) mg base CX0 6 fa fd ["_law_script"] (qPz (K w.params))) :
  PySem.W.WalkO q loose XP YP l.row.toRowW d [] (fun f vs=>PySem.call f vs) :=
 L2.qS3 (n:=63) (k:=6) (x := "_law_script") (CX:=fun _=>CX0) (sp:=fun w=>qPz (K w.params)) hn (by decide) hdf ⟨rfl,by decide,by decide,rfl⟩ hY F (fun _ _ a ns hl _ hS=>⟨a,ns,rfl,hS,hl,fun _=>rfl⟩) fun _ _ _ _ _ z=>z
end Fs
open PySem PySem.W PyProof.Rows
namespace PySem.W.Fast
def tw11716254758787008887:=0
def tw1023430455493316700:=0
def tw16390918921620489882:=0
def tw16666316694222834306:=0
def tw5031390993080115226:=0
def tw15244480130959898919:=0
def tw9987135642375000188:=0
def tw7109976213927493271:=0
def tw17549633183092855868:=0
def tw6663221678966566837:=0
def tw16457456357700134640:=0
def tw17371251469848174752:=0
def tw14935003857214597391:=0
def tw1335538445329805268:=0
def tw10346532045029771247:=0
def tw9683972247437459451:=0
def tw4183522740691465526:=0
def tw17188570247954261851:=0
def tw9849033876678727099:=0
def tw1409873441155939006:=0
def tw13901187402324077770:=0
def tw3747372828632651427:=0
def tw8014919603516114662:=0
def tw8826401973837844730:=0
def tw17586199761044141631:=0
def tw16368162445777828880:=0
def tw32846308221247018:=0
def tw14190371674387920661:=0
def tw3595898343832134163:=0
def tw17747042112973483312:=0
def tw5872953942935514333:=0
def tw14323211468961327308:=0
def tw15444073604612244859:=0
def tw12021541906026069723:=0
def tw3941329844956550248:=0
def tw1101779636765879636:=0
def tw2380032049681374433:=0
def tw4230343642035178854:=0
def tw8103468971016210998:=0
def tw8976353806674004826:=0
def tw18136916361479626778:=0
def tw3783102432509413911:=0
def tw10264996881015598706:=0
def tw2794446241652537456:=0
def tw13029064780663793513:=0
def tw17706157707479370597:=0
def tw4437868983171275039:=0
def tw5739662947975587509:=0
def tw1967543355127320771:=0
def tw2162403585926217511:=0
def tw2888169981177643759:=0
def tw2615603924012894570:=0
def tw10724358380254043280:=0
def tw10846986700840902350:=0
def tw12231727656145451234:=0
def tw347919990486778818:=0
def tw17132101799299187122:=0
def tw10859673802720652942:=0
def tw9569514534467040803:=0
def tw13185173325061498549:=0
def tw8587031521604142281:=0
def tw3243942260653091711:=0
def tw1060679533884838944:=0
def tw9124897818876484129:=0
def tw16667484104769181845:=0
def tw11185701393257944169:=0
def tw1911929981951939603:=0
def tw12856483525923683087:=0
def tw13657349343086542718:=0
def tw8966227813791279121:=0
def tw749122251919544649:=0
def tw1934006143766387654:=0
def tw8943697599841368248:=0
def tw9909610971910810468:=0
def tw9733627810835509494:=0
def tw1959580254627350439:=0
def tw484708768501184062:=0
def tw2559296438458696295:=0
def tw7339570508902924585:=0
def tw17487711154546747559:=0
def tw17530164762301567761:=0
def tw11931470811785795290:=0
def tw11519908033580982913:=0
def tw10073792377539917532:=0
def tw2151557764088910481:=0
def tw1809185882693574029:=0
def tw17642086401241177770:=0
def tw11538682909805956247:=0
def tw4575204570156627219:=0
def tw5862944580664725781:=0
def tw17529233469701386409:=0
def tw16771181512886066254:=0
def tw14965988457856667611:=0
def tw13872531974137719900:=0
def tw9639469766529013132:=0
def tw16528677705300407921:=0
def tw1340967921104533650:=0
def tw778539498581765783:=0
def tw3824068502026938187:=0
def tw3129773062899585271:=0
def tw17418152928856025917:=0
def tw10912181033847066242:=0
def tw3578874352202750399:=0
def tw13590532255649052408:=0
def tw6978656084583437457:=0
def tw16612602568407724336:=0
def tw10271646925909772771:=0
def tw2183379515743468759:=0
def tw16023453327964247026:=0
def tw8558077031939624908:=0
def tw861829791817843653:=0
def tw14245942794919519295:=0
def tw15980038963178170724:=0
def tw12952206808471193231:=0
def tw16516809554905820714:=0
def tw7942030292371311475:=0
def tw14915966485615286035:=0
def tw2524669578819632268:=0
def tw23534974824421322:=0
def tw14320214021902262092:=0
def tw1623457983419870769:=0
def tw16716937354000005189:=0
def tw1074397548522060572:=0
def tw14098610211469601842:=0
def tw11461165374637144863:=0
def tw6566323261153713514:=0
def tw5136163455597848966:=0
def tw1513831268120536659:=0
def tw3334895338109097592:=0
def tw15398664932325684996:=0
def tw16884980447704448905:=0
def tw13866798865777461206:=0
def tw784740078058347908:=0
end PySem.W.Fast
set_option maxRecDepth 100000 in
set_option maxHeartbeats 0 in
theorem PySem.Challenge.cw_fewsaves_k22_what_is_put_on_ways_holds : PySem.Challenge.rw_fewsaves_k22_what_is_put_on_ways.Holds := by
 w_on;o_law;k_head;(case hw=>w_witness2)
 k_fill
 refine Fs.walk (l:=PySem.Challenge.rw_fewsaves_k22_what_is_put_on_ways) rfl rfl (fun w h Y=>PySem.W.kIn_of Y) ?F
 case F =>
  intro w mg fa h KX G hmg
  refine' Fs.qVq KX G hmg ?a1 ?l1 ?c1 ?k1 ?a2 ?l2 ?c2 ?k2 ?a3 ?l3 ?c3 ?k3 ?a4 ?l4 ?c4 ?k4 ?a5 ?l5 ?c5 ?k5 ?a6 ?l6 ?c6 ?k6 ?a7 ?l7 ?c7 ?k7 ?a8 ?l8 ?c8 ?k8 ?a9 ?l9 ?c9 ?k9 ?a10 ?l10 ?c10 ?k10 ?a11 ?l11 ?c11 ?k11 ?a12 ?l12 ?c12 ?k12 ?a13 ?l13 ?c13 ?k13 ?a14 ?l14 ?c14 ?k14 ?a15 ?l15 ?c15 ?k15 ?a16 ?l16 ?c16 ?k16 ?a17 ?l17 ?c17 ?k17 ?a18 ?l18 ?c18 ?k18 ?a19 ?l19 ?c19 ?k19 ?a20 ?l20 ?c20 ?k20 ?a21 ?l21 ?c21 ?k21 ?a22 ?l22 ?c22 ?k22 ?a23 ?l23 ?c23 ?k23 ?a24 ?l24 ?c24 ?k24 ?a25 ?l25 ?c25 ?k25 ?z1 ?z2 ?z3 ?z4 ?z5 ?z6 ?z7 ?z8 ?z9 ?z10 ?z11 ?z12 ?z13
  (case a1=>k_is)
  (case l1=>k_is)
  (case c1=>k_is)
  (case k1=>k_is)
  (case a2=>k_is)
  (case l2=>k_is)
  (case c2=>k_is)
  (case k2=>k_is)
  (case a3=>k_is)
  (case l3=>k_is)
  (case c3=>k_is)
  (case k3=>k_is)
  (case a4=>k_is)
  (case l4=>k_is)
  (case c4=>k_is)
  (case k4=>k_is)
  (case a5=>k_is)
  (case l5=>k_is)
  (case c5=>k_is)
  (case k5=>k_is)
  (case a6=>k_is)
  (case l6=>k_is)
  (case c6=>k_is)
  (case k6=>k_is)
  (case a7=>k_is)
  (case l7=>k_is)
  (case c7=>k_is)
  (case k7=>k_is)
  (case a8=>k_is)
  (case l8=>k_is)
  (case c8=>k_is)
  (case k8=>k_is)
  (case a9=>k_is)
  (case l9=>k_is)
  (case c9=>k_is)
  (case k9=>k_is)
  (case a10=>k_is)
  (case l10=>k_is)
  (case c10=>k_is)
  (case k10=>k_is)
  (case a11=>k_is)
  (case l11=>k_is)
  (case c11=>k_is)
  (case k11=>k_is)
  (case a12=>k_is)
  (case l12=>k_is)
  (case c12=>k_is)
  (case k12=>k_is)
  (case a13=>k_is)
  (case l13=>k_is)
  (case c13=>k_is)
  (case k13=>k_is)
  (case a14=>k_is)
  (case l14=>k_is)
  (case c14=>k_is)
  (case k14=>k_is)
  (case a15=>k_is)
  (case l15=>k_is)
  (case c15=>k_is)
  (case k15=>k_is)
  (case a16=>k_is)
  (case l16=>k_is)
  (case c16=>k_is)
  (case k16=>k_is)
  (case a17=>k_is)
  (case l17=>k_is)
  (case c17=>k_is)
  (case k17=>k_is)
  (case a18=>k_is)
  (case l18=>k_is)
  (case c18=>k_is)
  (case k18=>k_is)
  (case a19=>k_is)
  (case l19=>k_is)
  (case c19=>k_is)
  (case k19=>k_is)
  (case a20=>k_is)
  (case l20=>k_is)
  (case c20=>k_is)
  (case k20=>k_is)
  (case a21=>k_is)
  (case l21=>k_is)
  (case c21=>k_is)
  (case k21=>k_is)
  (case a22=>k_is)
  (case l22=>k_is)
  (case c22=>k_is)
  (case k22=>k_is)
  (case a23=>k_is)
  (case l23=>k_is)
  (case c23=>k_is)
  (case k23=>k_is)
  (case a24=>k_is)
  (case l24=>k_is)
  (case c24=>k_is)
  (case k24=>k_is)
  (case a25=>k_is)
  (case l25=>k_is)
  (case c25=>k_is)
  (case k25=>k_is)
  (case z1=>k_is)
  (case z2=>k_is)
  (case z3=>k_is)
  (case z4=>k_is)
  (case z5=>k_is)
  (case z6=>k_is)
  (case z7=>k_is)
  (case z8=>k_is)
  (case z9=>k_is)
  (case z10=>k_is)
  (case z11=>k_is)
  (case z12=>k_is)
  (case z13=>k_is)
