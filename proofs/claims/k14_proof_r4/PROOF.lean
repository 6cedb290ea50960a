import PyProof.Rows.All
import Wide.All
import OpenK.AllK
import Wide.FinOn
import Lean
import PyProof.EqAt
import PyProof.EqKinds
import PyProof.TupleCall
import PyProof.CollectWalk
import PySem.Challenge.RW_fewsaves_k14_ways_measured
import PyProof.ZipIter
import PyProof.Rows.ZipGen
set_option Elab.async false
set_option linter.all false
set_option maxRecDepth 100000
set_option compiler.extract_closed false
set_option genInjectivity false
set_option genSizeOfSpec false
namespace L2
open PySem PySem.Spec PyProof.Rows
abbrev Key:=Sum Int Str
def keyIs:Key->Value->Bool
 | .inl k,v=>Value.isInt k v
 | .inr x,v=>Value.isStrOf x v
def keyH (w:World):Key->Int
 | .inl k=>hashInt k
 | .inr x=>hashStr w x
theorem qBd : ∀ {k:Key} {v:Value},keyIs k v=true->(∃i t,k=Sum.inl i/\v=Value.int i t)\/(∃x t,k=Sum.inr x/\v=Value.str x t)
 | .inl i,v,h=>by
  obtain⟨t,e⟩:=Value.isInt_shape (k:=i) (v:=v) h
  exact .inl ⟨i,t,rfl,e⟩
 | .inr x,v,h=>by
  obtain⟨t,e⟩:=Value.isStrOf_shape (x:=x) (v:=v) h
  exact .inr ⟨x,t,rfl,e⟩
theorem qN7 (i:Int) (t:Tok):keyIs (.inl i) (.int i t)=true:=by simp [keyIs,Value.isInt]
theorem qN6 (x:Str) (t:Tok):keyIs (.inr x) (.str x t)=true:=by simp [keyIs,Value.isStrOf]
theorem qV9 (a b:Int):decide ((Sum.inl a:Key)=Sum.inl b)=(a == b):=by
 by_cases e:a=b
 ·subst e;simp
 ·have h : ¬(Sum.inl a:Key)=Sum.inl b:=fun q=>e (Sum.inl.inj q)
  rw [decide_eq_false h]
  exact (beq_eq_false_iff_ne.mpr e).symm
theorem qV6 (a b:Str):decide ((Sum.inr a:Key)=Sum.inr b)=decide (a=b):=by
 by_cases e:a=b
 ·subst e;simp
 ·have h : ¬(Sum.inr a:Key)=Sum.inr b:=fun q=>e (Sum.inr.inj q)
  rw [decide_eq_false h,decide_eq_false e]
theorem qV8 (a:Int) (b:Str):decide ((Sum.inl a:Key)=Sum.inr b)=false:=decide_eq_false (fun q=>nomatch q)
theorem qV7 (a:Str) (b:Int):decide ((Sum.inr a:Key)=Sum.inl b)=false:=decide_eq_false (fun q=>nomatch q)
def qAt (prog:Program) (w:World):PySem.KeyKind prog w Key where
 is:=keyIs
 hash:=keyH w
 inj:=fun v a b ha hb=>by
  rcases qBd ha with ⟨i,t,rfl,rfl⟩ | ⟨x,t,rfl,rfl⟩
  ·rcases qBd hb with ⟨j,u,rfl,e⟩ | ⟨y,u,rfl,e⟩
   ·injection e with e1 _;rw [e1]
   ·exact nomatch e
  ·rcases qBd hb with ⟨j,u,rfl,e⟩ | ⟨y,u,rfl,e⟩
   ·exact nomatch e
   ·injection e with e1 _;rw [e1]
 byValue:=fun k v h=>by
  rcases qBd h with ⟨i,t,rfl,rfl⟩ | ⟨x,t,rfl,rfl⟩ <;> rfl
 pyHash:=fun hv h=>by
  rcases qBd hv with ⟨i,t,rfl,rfl⟩ | ⟨x,t,rfl,rfl⟩
  ·exact wpAny_pyHash_int h
  ·exact wpAny_pyHash_str h
 eqBool:=fun hu hv h=>by
  rcases qBd hu with ⟨i,t,rfl,rfl⟩ | ⟨x,t,rfl,rfl⟩
  ·rcases qBd hv with ⟨j,u,rfl,rfl⟩ | ⟨y,u,rfl,rfl⟩
   ·rw [qV9] at h;exact wpAny_eqBool_int h
   ·rw [qV8] at h;exact SeqAt.EqAt.int_str i t y u _ _ _ _ h
  ·rcases qBd hv with ⟨j,u,rfl,rfl⟩ | ⟨y,u,rfl,rfl⟩
   ·rw [qV7] at h;exact SeqAt.EqAt.str_int x t j u _ _ _ _ h
   ·rw [qV6] at h;exact wpAny_eqBool_str h
 «strs» :=fun k x t v h=>by
  rcases qBd h with ⟨i,u,rfl,e⟩ | ⟨y,u,rfl,e⟩
  ·exact nomatch e
  ·injection e with e1 _
   subst e1
   cases v <;> rfl
theorem qCt (prog:Program) (w:World) (i:Int) (t:Tok):(qAt prog w).is (.inl i) (.int i t)=true:=qN7 i t
theorem qJf (prog:Program) (w:World) (x:Str) (t:Tok):(qAt prog w).is (.inr x) (.str x t)=true:=qN6 x t
set_option genInjectivity true in
inductive V where
 | non | bl (b:Bool) | int (i:Int) | str (x:Str) | byt (b:Array UInt8) | flt (b:UInt64) | ref (a:Addr) | ty (n:String)
 deriving DecidableEq
def RelV:V->Value->Prop
 | .non,u=>u=Value.none
 | .bl b,u=>u=Value.bool b
 | .int i,u => ∃t,u=Value.int i t
 | .str x,u => ∃t,u=Value.str x t
 | .byt b,u => ∃t,u=Value.bytes b t
 | .flt b,u => ∃t,u=Value.float b t
 | .ref a,u=>u=Value.ref a
 | .ty n,u=>u=Value.type n
abbrev Vals:List V->List Value->Prop:=Paired RelV
theorem Vals.length {xs:List V} {us:List Value} (r:Vals xs us):xs.length=us.length:=Paired.length r
theorem Vals.get : ∀ {xs:List V} {us:List Value} {i:Nat} {x:V},Vals xs us->xs[i]? = some x -> ∃u,us[i]? = some u/\RelV x u
 | _,_,_,_,.nil,e=>by simp at e
 | _,_,0,_,.cons r _,e=>by simp at e;subst e;exact⟨_,rfl,r⟩
 | _,_,i+1,x,.cons _ t,e=>by
  obtain⟨u,h1,h2⟩:=Vals.get (i:=i) (x:=x) t (by simpa using e)
  exact⟨u,by simpa using h1,h2⟩
theorem Vals.set {x:V} {u:Value} (r:RelV x u) : ∀ {xs:List V} {us:List Value} (i:Nat),Vals xs us->Vals (xs.set i x) (us.set i u)
 | _,_,_,.nil =>.nil
 | _,_,0,.cons _ t =>.cons r t
 | _,_,i+1,.cons q t =>.cons q (Vals.set r i t)
theorem Vals.append {xs ys:List V} {us ws:List Value} (h:Vals xs us) (s:Vals ys ws):Vals (xs++ys) (us++ws):=by
 induction h with
 | nil=>exact s
 | cons r _ ih=>exact .cons r ih
theorem Vals.take : ∀ {xs:List V} {us:List Value} (n:Nat),Vals xs us->Vals (xs.take n) (us.take n)
 | _,_,0,_ =>.nil
 | _,_,_+1,.nil =>.nil
 | _,_,n+1,.cons r t =>.cons r (Vals.take n t)
theorem Vals.drop : ∀ {xs:List V} {us:List Value} (n:Nat),Vals xs us->Vals (xs.drop n) (us.drop n)
 | _,_,0,r=>r
 | _,_,_+1,.nil =>.nil
 | _,_,n+1,.cons _ t=>Vals.drop n t
theorem Vals.none_of : ∀ {xs:List V} {us:List Value} {i:Nat},Vals xs us->xs[i]? = none->us[i]? = none:=fun {xs us i} r e=>by
 have h1:=r.length
 have h2:xs.length<=i:=List.getElem?_eq_none_iff.mp e
 exact List.getElem?_eq_none_iff.mpr (by omega)
def RelO:Option V->Option Value->Prop
 | some v,some u=>RelV v u
 | none,none=>True
 | _,_=>False
def KV {κ : Type}:List (κ × V)->List (κ × Value)->Prop:=Paired fun (p : κ × V) (q : κ × Value)=>p.1=q.1/\RelV p.2 q.2
def kV:Key->V
 | .inl i =>.int i
 | .inr x =>.str x
inductive HO where
 | lst (xs:List V)
 | tup (xs:List V)
 | dK (kvs:List (Key×V)) | dT (kvs:List (List Key×V))
 | set (S:Int->Bool) (n:Nat)
 | ins (C dx:Addr) (fs:List (Str×V))
 | own (x:Addr)
 | xd (fs:List (Str×V))
 | met (f x:Addr)
 | rng (lo hi:Int)
 | frz (o:Obj) (u:HO)
 | tbl (ps:Array Value)
 | ext (φ : Addr->Heap->Prop)
abbrev Hp:=Addr->Option HO
def upd (H:Hp) (a:Addr) (o:HO):Hp:=fun b=>if b=a then some o else H b
theorem qA1 {H:Hp} {a:Addr} {o:HO}:upd H a o a=some o:=by unfold upd;rw [if_pos rfl]
theorem qA6 {H:Hp} {a b:Addr} {o:HO} (h:b≠a):upd H a o b=H b:=by unfold upd;rw [if_neg h]
theorem qRe {H:Hp} {a:Addr} {o u:HO}:upd (upd H a o) a u=upd H a u:=by
 funext b;unfold upd;split <;> rfl
theorem qL8 {H:Hp} {a b:Addr} {o u:HO} (h:H a=some o) (h':H b=some u) (d:o≠u):a≠b:=by
 intro e;subst e;rw [h] at h';exact d (Option.some.inj h')
theorem qA5 {H:Hp} {a b:Addr} {o:HO} (h:H a=some o) (h':H b=none):a≠b:=by
 intro e;subst e;rw [h] at h';cases h'
section
variable (P:Program) (w:World)
def ObjOk (H:Hp) (h:Heap) (a:Addr):HO->Prop
 | .lst xs=>xs.length<=sizeLine /\ ∃(its:List Value) (n:Nat),Vals xs its/\h.get? a=some { cls :=.type "list",data :=.seq its.toArray n }
 | .tup xs=>xs.length<=sizeLine /\ ∃its:List Value,Vals xs its/\IsTup h a its.toArray
 | .dK kvs=>kvs.length<=sizeLine/\(a == sysModules)=false /\ ∃vs,KV kvs vs/\h.DictOf (qAt P w) a vs
 | .dT kvs=>kvs.length<=sizeLine/\(a == sysModules)=false /\ ∃xs:List (List Key×Addr×Value),
   Paired (fun (p:List Key×V) (q:List Key×Addr×Value)=>p.1=q.1/\H q.2.1=some (.tup (p.1.map kV))/\RelV p.2 q.2.2) kvs xs /\
   ∃o es ep,h.get? a=some o/\o.ExactDict/\o.data = .dict es ep/\es.toList=xs.map (entryOfKey (tupleKind (qAt P w)))/\(xs.map (·.1)).Nodup
 | .set S n=>h.SetOf (intKind P w) a S n
 | .ins C dx fs=>H dx=some (.own a)/\fs.length<=1000/\dx≠a/\h.get? a=some (PySem.W.instObj C dx) /\
   ∃mA,h.Ns1 dx mA/\(∀f,RelO (fs.lookup f) (mA f))/\PySem.Within mA (fs.map (·.1))
 | .own _ => ∃o,h.get? a=some o
 | .xd fs => ∃mA,h.Ns1 a mA /\ ∀f,RelO (fs.lookup f) (mA f)
 | .rng lo hi => ∃t u v,h.get? a=some { cls :=.type "range",data :=.fields #[.int lo t,.int hi u,.int 1 v] }
 | .frz o u=>h.get? a=some o/\ObjOk H h a u
 | .tbl ps=>h.get? a=some { cls :=.none,data :=.fields ps }
 | .met f x=>h.get? a=some (PySem.W.methodObj (.ref f) (.ref x))
 | .ext φ => φ a h/\(∃o,h.get? a=some o) /\ ∀h1 h2:Heap,φ a h1->(∀o,h1.get? a=some o->h2.get? a=some o) -> φ a h2
def HOk (H:Hp) (h:Heap):Prop := ∀a o,H a=some o->ObjOk P w H h a o
end
section
variable {P:Program} {w:World} {H H':Hp} {h h':Heap} {a:Addr} {o:HO}
theorem ObjOk.lt (x:ObjOk P w H h a o):a<h.objs.size:=by
 cases o with
 | lst xs=>obtain⟨_,_,_,_,e⟩:=x;exact Heap.lt_size e
 | tup xs=>obtain⟨_,_,_,p⟩:=x;exact p.lt
 | dK kvs=>obtain⟨_,_,_,_,o,_,_,e,_⟩:=x;exact Heap.lt_size e
 | dT kvs=>obtain⟨_,_,_,_,o,_,_,e,_⟩:=x;exact Heap.lt_size e
 | set S n=>obtain⟨o,_,_,_,e,_⟩:=x;exact Heap.lt_size e
 | ins C dx fs=>obtain⟨_,_,_,e,_⟩:=x;exact Heap.lt_size e
 | own y=>obtain⟨_,e⟩:=x;exact Heap.lt_size e
 | xd fs=>obtain⟨_,⟨_,_,_,e,_⟩,_⟩:=x;exact Heap.lt_size e
 | rng lo hi=>obtain⟨_,_,_,e⟩:=x;exact Heap.lt_size e
 | frz ob u=>obtain⟨e,_⟩:=x;exact Heap.lt_size e
 | tbl ps=>exact Heap.lt_size (show h.get? a=some _ from x)
 | met f y=>exact Heap.lt_size (show h.get? a=some _ from x)
 | ext φ =>obtain⟨_,⟨_,e⟩,_⟩:=x;exact Heap.lt_size e
theorem Paired.mapP {α β : Type} {F G : α -> β -> Prop} {l₁ : List α} {l₂ : List β} (h:Paired F l₁ l₂) (f : ∀a b,F a b->G a b):Paired G l₁ l₂ :=by
 induction h with
 | nil=>exact .nil
 | cons r _ ih=>exact .cons (f _ _ r) ih
theorem ObjOk.stay (x:ObjOk P w H h a o) (k : ∀b u,(b=a\/H b=some (.own a))->h.get? b=some u->h'.get? b=some u)
  (ho : ∀b,H b=some (.own a)->H' b=some (.own a)) (ht : ∀b xs,H b=some (.tup xs)->H' b=some (.tup xs)):ObjOk P w H' h' a o:=by
 induction o with
 | lst xs=>obtain⟨z,its,n,r,e⟩:=x;exact⟨z,its,n,r,k _ _ (.inl rfl) e⟩
 | tup xs=>obtain⟨z,its,r,ob,e,c⟩:=x;exact⟨z,its,r,ob,k _ _ (.inl rfl) e,c⟩
 | dK kvs=>obtain⟨z,y,vs,r,ob,es,ep,e,c⟩:=x;exact⟨z,y,vs,r,ob,es,ep,k _ _ (.inl rfl) e,c⟩
 | dT kvs =>
  obtain⟨z,y,xs,r,ob,es,ep,e,c⟩:=x
  exact⟨z,y,xs,Paired.mapP r fun p q z=>⟨z.1,ht _ _ z.2.1,z.2.2⟩,ob,es,ep,k _ _ (.inl rfl) e,c⟩
 | set S n=>obtain⟨ob,es,ep,t,e,c⟩:=x;exact⟨ob,es,ep,t,k _ _ (.inl rfl) e,c⟩
 | ins C dx fs =>
  obtain⟨d,z,ne,e,mA,⟨od,es,ep,e2,c⟩,r⟩:=x
  exact⟨ho _ d,z,ne,k _ _ (.inl rfl) e,mA,⟨od,es,ep,k _ _ (.inr d) e2,c⟩,r⟩
 | own y=>obtain⟨ob,e⟩:=x;exact⟨ob,k _ _ (.inl rfl) e⟩
 | xd fs=>obtain⟨mA,⟨od,es,ep,e,c⟩,r⟩:=x;exact⟨mA,⟨od,es,ep,k _ _ (.inl rfl) e,c⟩,r⟩
 | rng lo hi=>obtain⟨t,u,v,e⟩:=x;exact⟨t,u,v,k _ _ (.inl rfl) e⟩
 | frz ob u ih=>obtain⟨e,q⟩:=x;exact⟨k _ _ (.inl rfl) e,ih q⟩
 | tbl ps =>
  have e:h.get? a=some { cls :=.none,data :=.fields ps }:=x
  show h'.get? a=some { cls :=.none,data :=.fields ps }
  exact k a _ (.inl rfl) e
 | met f y =>
  have e:h.get? a=some (PySem.W.methodObj (.ref f) (.ref y)):=x
  show h'.get? a=some (PySem.W.methodObj (.ref f) (.ref y))
  exact k a _ (.inl rfl) e
 | ext φ =>obtain⟨p,⟨o,e⟩,st⟩:=x;exact⟨st _ _ p fun o q=>k _ _ (.inl rfl) q,⟨o,k _ _ (.inl rfl) e⟩,st⟩
theorem HOk.lt (x:HOk P w H h) (e:H a=some o):a<h.objs.size:=(x a o e).lt
theorem HOk.fresh (x:HOk P w H h) (e:h.objs.size<=a):H a=none:=by
 cases q:H a with
 | none=>rfl
 | some u=>exact absurd (Nat.lt_of_lt_of_le (x.lt q) e) (Nat.lt_irrefl _)
theorem HOk.kept (x:HOk P w H h) (k : ∀b u,h.get? b=some u->h'.get? b=some u):HOk P w H h':=fun a o e =>
 (x a o e).stay (fun b u _ q=>k b u q) (fun _ q=>q) fun _ _ q=>q
theorem HOk.laid (x:HOk P w H h) (k : ∀b u,h.get? b=some u->h'.get? b=some u) (hp:h.objs.size<=a) (new:ObjOk P w (upd H a o) h' a o):HOk P w (upd H a o) h':=fun b u e=>by
 have hn:=x.fresh hp
 by_cases hb:b=a
 ·subst hb;rw [qA1] at e;cases e;exact new
 ·rw [qA6 hb] at e
  exact (x b u e).stay (fun c v _ q=>k c v q) (fun c q=>by rw [qA6 (qA5 q hn)];exact q) fun c xs q=>by rw [qA6 (qA5 q hn)];exact q
end
def Rd (H:Hp) (a:Addr) (u:HO):Prop:=H a=some u \/ ∃o,H a=some (.frz o u)
theorem Rd.ok {P:Program} {w:World} {H:Hp} {h:Heap} {a:Addr} {u:HO} (r:Rd H a u) (x:HOk P w H h):ObjOk P w H h a u:=by
 rcases r with r | ⟨o,r⟩
 ·exact x a u r
 ·obtain⟨_,q⟩:=x a _ r
  exact q
def Mut:Option HO->Prop
 | some (.lst _)=>True
 | some (.dK _)=>True
 | some (.dT _)=>True
 | some (.set _ _)=>True
 | some (.ins _ _ _)=>True
 | some (.ext _)=>True
 | _=>False
section
variable {P:Program} {w:World} {H:Hp} {h h':Heap} {x e:Addr} {o':HO}
theorem HOk.write (ok:HOk P w H h) (mu:Mut (H x)) (he:e=x\/H e=some (.own x)) (k : ∀b u,b≠e->h.get? b=some u->h'.get? b=some u) (heo : ∃u,h'.get? e=some u)
  (new:ObjOk P w (upd H x o') h' x o'):HOk P w (upd H x o') h':=fun b u q=>by
 have nown : ∀c y,H c=some (.own y)->c≠x:=fun c y r z=>by subst z;rw [r] at mu;exact mu
 have ntup : ∀c xs,H c=some (.tup xs)->c≠x:=fun c xs r z=>by subst z;rw [r] at mu;exact mu
 by_cases hb:b=x
 ·subst hb;rw [qA1] at q;cases q;exact new
 ·rw [qA6 hb] at q
  by_cases hbe:b=e
  ·have q':H b=some (.own x):=by
    rcases he with z | z
    ·exact absurd (hbe.trans z) hb
    ·rw [hbe];exact z
   rw [q] at q';cases q'
   obtain⟨v,hv⟩:=heo
   exact⟨v,by rw [hbe];exact hv⟩
  ·refine (ok b u q).stay (fun c v hc r=>k c v ?_ r) (fun c r=>by rw [qA6 (nown c b r)];exact r) fun c xs r=>by rw [qA6 (ntup c xs r)];exact r
   rcases hc with rfl | hc
   ·exact hbe
   ·rintro rfl
    rcases he with z | z
    ·exact nown c b hc z
    ·rw [hc] at z;cases z;exact hb rfl
end
structure Un (fs ex:List Addr) (H H':Hp) (h h':Heap):Prop where
 keep : ∀b o,h.get? b=some o->H b=none->b∉fs->b∉ex->h'.get? b=some o
 slot : ∀b o,h.get? b=some o->H b=none->b∈fs->b∉ex -> ∃sl,h'.get? b=some { o with slots:=sl }
 free : ∀b o,h.get? b=some o->H b=none->b∉ex->H' b=none
 there : ∀b o,h.get? b=some o->b∉ex -> ∃o',h'.get? b=some o'
 tups : ∀b xs,H b=some (.tup xs)->H' b=some (.tup xs)
 frzs : ∀b o u,H b=some (.frz o u)->H' b=some (.frz o u)
 tbls : ∀b ps,H b=some (.tbl ps) -> ∃more,H' b=some (.tbl (ps++more))
section
variable {fs fs' ex ex':List Addr} {H H1 H2:Hp} {h h1 h2 h':Heap} {a x e:Addr} {o:HO}
theorem Un.any (u:Un fs ex H H1 h h1) {b:Addr} {ob:Obj} (q:h.get? b=some ob) (n:H b=none) (hx:b∉ex) : ∃sl,h1.get? b=some { ob with slots:=sl }:=by
 by_cases hb:b∈fs
 ·exact u.slot b ob q n hb hx
 ·exact⟨ob.slots,u.keep b ob q n hb hx⟩
theorem Un.kept (k : ∀b u,h.get? b=some u->h'.get? b=some u):Un fs ex H H h h' :=
 ⟨fun b ob q _ _ _=>k b ob q,fun b ob q _ _ _=>⟨ob.slots,k b ob q⟩,fun _ _ _ n _=>n,fun b ob q _=>⟨ob,k b ob q⟩,fun _ _ q=>q,fun _ _ _ q=>q,fun _ ps q=>⟨#[],by rw [q];simp⟩⟩
theorem Un.refl:Un fs ex H H h h:=Un.kept fun _ _ q=>q
theorem Un.laid (k : ∀b u,h.get? b=some u->h'.get? b=some u) (hp:h.objs.size<=a) (hn:H a=none):Un fs ex H (upd H a o) h h' where
 keep:=fun b u q _ _ _=>k b u q
 slot:=fun b u q _ _ _=>⟨u.slots,k b u q⟩
 free:=fun b u q n _=>by rw [qA6 (Nat.ne_of_lt (Nat.lt_of_lt_of_le (Heap.lt_size q) hp))];exact n
 there:=fun b u q _=>⟨u,k b u q⟩
 tups:=fun b xs q=>by rw [qA6 (qA5 q hn)];exact q
 frzs:=fun b u xs q=>by rw [qA6 (qA5 q hn)];exact q
 tbls:=fun b ps q=>⟨#[],by rw [qA6 (qA5 q hn),q];simp⟩
theorem Un.write (mu:Mut (H x)) (he:e=x\/H e=some (.own x)) (k : ∀b u,b≠e->h.get? b=some u->h'.get? b=some u) (heo : ∃u,h'.get? e=some u):Un fs ex H (upd H x o) h h':=by
 have hx : ∀b,H b=none->b≠x:=fun b n z=>by subst z;rw [n] at mu;exact mu
 have hb : ∀b,H b=none->b≠e:=fun b n z=>by
  subst z
  rcases he with r | r
  ·exact hx b n r
  ·rw [n] at r;cases r
 have hm : ∀b u,H b=some u -> ¬Mut (some u)->b≠x:=fun b u q nm z=>by subst z;rw [q] at mu;exact nm mu
 refine⟨fun b u q n _ _=>k b u (hb b n) q,fun b u q n _ _=>⟨u.slots,k b u (hb b n) q⟩,fun b u q n _=>by rw [qA6 (hx b n)];exact n,fun b u q _ => ?_,
  fun b xs q=>by rw [qA6 (hm b _ q fun z=>z)];exact q,fun b u xs q=>by rw [qA6 (hm b _ q fun z=>z)];exact q,fun b ps q=>⟨#[],by rw [qA6 (hm b _ q fun z=>z),q];simp⟩⟩
 by_cases hbe:b=e
 ·subst hbe;exact heo
 ·exact⟨u,k b u hbe q⟩
end
def trk (h:Heap) (H:Hp):List Addr:=(List.range h.objs.size).filter fun a=>(H a).isSome
def hidT (h:Heap) (H:Hp):Heap:=PySem.W.hideAll h (trk h H)
theorem qNb (h:Heap) (H:Hp):(hidT h H).objs.size=h.objs.size:=PySem.W.hideAll_size _ _
theorem qPt {h:Heap} {H:Hp} {b:Addr} {o:Obj} (e:h.get? b=some o) (n:H b=none):(hidT h H).get? b=some o :=
 PySem.W.hideAll_get _ e fun hm=>by
  have q:(H b).isSome=true:=(List.mem_filter.mp hm).2
  rw [n] at q;simp at q
theorem qSr {h:Heap} {H:Hp} {b:Addr} {o:Obj} (e:(hidT h H).get? b=some o):h.get? b=some o/\H b=none:=by
 have e':h.get? b=some o:=PySem.W.of_hideAll (trk h H) e
 refine⟨e',?_⟩
 cases q:H b with
 | none=>rfl
 | some x =>
  have hm:b∈trk h H:=List.mem_filter.mpr ⟨List.mem_range.mpr (Heap.lt_size e'),by simp [q]⟩
  have z:(hidT h H).get? b=none:=PySem.W.hideAll_none (trk h H) hm
  rw [z] at e;cases e
def qDy (g h:Heap) (L:Addr):List (Addr×Obj):=(List.range h.objs.size).filterMap fun a=>if a=L\/(g.get? a).isSome=true then none else (h.get? a).map fun o=>(a,o)
theorem qDt {g h:Heap} {L a:Addr} {o:Obj} (h1:a≠L) (h2:g.get? a=none) (h3:h.get? a=some o):(a,o)∈qDy g h L :=
 List.mem_filterMap.mpr ⟨a,List.mem_range.mpr (Heap.lt_size h3),by simp [h1,h2,h3]⟩
theorem qG3 {g h:Heap} {L:Addr} {p:Addr×Obj} (hp:p∈qDy g h L):p.1≠L/\g.get? p.1=none/\h.get? p.1=some p.2:=by
 obtain⟨b,_,e⟩:=List.mem_filterMap.mp hp
 split at e
 ·cases e
 ·rename_i hn
  cases q:h.get? b with
  | none=>rw [q] at e;simp at e
  | some u =>
   rw [q] at e
   simp only [Option.map_some,Option.some.injEq] at e
   subst e
   refine⟨fun z=>hn (.inl z),?_,q⟩
   show g.get? b=none
   cases r:g.get? b with
   | none=>rfl
   | some v=>exact (hn (.inr (by simp [r]))).elim
def rest (g h:Heap) (L d:Addr):List (Addr×Obj):=(qDy g h L).filter fun p=>decide (p.1≠d)
theorem qPh {g h:Heap} {L:Addr}:News g L h (qDy g h L):=fun p hp=>let ⟨a,b,c⟩:=qG3 hp;⟨c,a,b⟩
structure Mod (K:PySem.W.Frag) (mg:Str->Option Value) (base:Heap):Prop where
 kin:K.In base
 glob:base.Ns mainGlobals mg
 blt : ∃mb,base.Ns builtinsNs mb /\ ∀x:Str,x ≠ "__name__" -> mb x=bootBuiltins x
 nolimit:base.NoLimit
structure Cx where
 prog:Program
 w:World
 K:PySem.W.Frag
 mg:Str->Option Value
 base:Heap
 A:Around
 N:List Str
 s₀ : Shared
 H₀ : Hp
 env:Env
 outer:List Env
 stack:List Env
 ex:List Addr
 fn:Str->Bool
 calm:Bool
 pn:List (Addr×Obj)
 xe:Value->Shared->Prop
def frs (l:List Env):List Addr:=l.filterMap (·.frame)
abbrev Cx.fs (X:Cx):List Addr:=frs X.outer
def Vis (sc:Scope) (x:Str):Prop:=sc.names.lookup x=some .local\/sc.names.lookup x=some .cell\/sc.names.lookup x=some .free
def Loc (sc:Scope) (x:Str):Prop:=sc.names.lookup x=some .local\/sc.names.lookup x=some .cell
def Look (env:Env) (h:Heap) (m:Str->Option Value) (x:Str) (u:Value):Prop :=
 (env.kindOf x=some .local/\m x=some u)\/((env.kindOf x=some .cell\/env.kindOf x=some .free) /\ ∃c,env.cells.lookup x=some c/\h.IsCell c (some u))
structure Cx.Ok (X:Cx):Prop where
 mod:Mod X.K X.mg X.base
 kind:X.env.scope.kind = .function
 glob:X.env.globals=mainGlobals
 blt:X.env.builtins=builtinsNs
 above:X.s₀.heap.objs.size<=X.env.locals
 inj : ∀x y c,X.env.cells.lookup x=some c->X.env.cells.lookup y=some c->x=y
 has : ∀x,(X.env.kindOf x=some .cell\/X.env.kindOf x=some .free) -> ∃c,X.env.cells.lookup x=some c
 cab : ∀x c,X.fn x=true->X.env.cells.lookup x=some c->X.s₀.heap.objs.size<=c
 hd:X.calm=true->X.A.handled=none
 frames:X.A.frames=some X.stack
 stk:X.stack=X.outer\/(X.stack=X.env::X.outer/\X.env.frame=some X.env.locals)
 exf : ∀b∈X.ex,b≠X.env.locals /\ ∀x c,X.env.cells.lookup x=some c->c≠b
 bs : ∀b o,X.base.get? b=some o->X.s₀.heap.get? b=some o/\X.H₀ b=none
 bsz:X.base.objs.size<=X.s₀.heap.objs.size
 noex : ∀b o,X.base.get? b=some o->b∉X.ex
 exfs : ∀b∈X.ex,b∉X.fs
 funs:X.s₀.heap.FunFrames X.base X.outer
 frf : ∀b∈X.fs,X.H₀ b=none
structure Inv (X:Cx) (pins:List (Addr×Obj)) (σ : List (Option V)) (H:Hp) (s:Shared):Prop where
 ok:X.Ok
 os:s.os=X.s₀.os
 bare:AllBare s.gens
 base:Un X.fs X.ex X.H₀ H X.s₀.heap s.heap
 loc : ∃m,s.heap.Ns X.env.locals m /\ ∀(i:Nat) (x:Str) (v:V),X.N[i]? = some x -> σ[i]? = some (some v)->Vis X.env.scope x -> ∃u,RelV v u/\Look X.env s.heap m x u
 cell : ∀x c,X.env.cells.lookup x=some c -> ∃v,s.heap.IsCell c v
 free:H X.env.locals=none
 freeC : ∀x c,X.env.cells.lookup x=some c->H c=none
 pin : ∀p∈X.pn++pins,s.heap.get? p.1=some p.2/\H p.1=none/\p.1≠X.env.locals/\p.1∉X.fs /\ ∀v,p.2.data ≠ .cell v
 hok:HOk X.prog X.w H s.heap
 len : σ.length=X.N.length
section
variable {X:Cx} {pins:List (Addr×Obj)} {σ : List (Option V)} {H H':Hp} {s:Shared} {h':Heap}
theorem Cx.Ok.nofr (ok:X.Ok) {b:Addr} {o:Obj} (e:X.base.get? b=some o):b∉X.fs:=fun hb=>by
 have:=(ok.funs.mem hb).1
 rw [e] at this;cases this
theorem Inv.bs (I:Inv X pins σ H s) : ∀b o,X.base.get? b=some o->s.heap.get? b=some o/\H b=none:=fun b o e =>
 ⟨I.base.keep b o (I.ok.bs b o e).1 (I.ok.bs b o e).2 (I.ok.nofr e) (I.ok.noex b o e),I.base.free b o (I.ok.bs b o e).1 (I.ok.bs b o e).2 (I.ok.noex b o e)⟩
theorem Inv.bk (I:Inv X pins σ H s) : ∀b o,X.base.get? b=some o->s.heap.get? b=some o:=fun b o e=>(I.bs b o e).1
theorem Inv.mod (I:Inv X pins σ H s):Mod X.K X.mg X.base:=I.ok.mod
theorem Inv.kIn (I:Inv X pins σ H s):X.K.In s.heap:=I.ok.mod.kin.keeps I.bk
theorem Inv.fr (I:Inv X pins σ H s) : ∃m,Fr X.base X.env.locals s.heap m :=
 let ⟨m,hn,_⟩:=I.loc
 ⟨m,hn,I.bk,Nat.le_trans I.ok.bsz I.ok.above⟩
theorem Inv.lt (I:Inv X pins σ H s):X.env.locals<s.heap.objs.size:=let ⟨_,hn,_⟩:=I.loc;hn.lt
theorem Inv.sz (I:Inv X pins σ H s):X.s₀.heap.objs.size<=s.heap.objs.size:=Nat.le_trans I.ok.above (Nat.le_of_lt I.lt)
theorem Inv.nofs (I:Inv X pins σ H s) {a:Addr} (h:s.heap.objs.size<=a):a∉X.fs:=fun hb=>by
 obtain⟨_,o,ho,_⟩:=I.ok.funs.mem hb
 exact absurd (Nat.lt_of_lt_of_le (Heap.lt_size ho) (Nat.le_trans I.sz h)) (Nat.lt_irrefl _)
theorem Inv.cne (I:Inv X pins σ H s) : ∀x c,X.env.cells.lookup x=some c->c≠X.env.locals:=fun x c e z=>by
 obtain⟨v,o,ho,hd⟩:=I.cell x c e
 obtain⟨m,⟨o',es,ep,ho',hd',_⟩,_⟩:=I.loc
 rw [z,ho'] at ho;cases ho;rw [hd'] at hd;cases hd
theorem Inv.funs (I:Inv X pins σ H s):s.heap.FunFrames X.base X.outer:=by
 have all : ∀(l:List Env),(∀b∈frs l,b∈X.fs)->X.s₀.heap.FunFrames X.base l->s.heap.FunFrames X.base l:=by
  intro l
  induction l with
  | nil=>intro _ _;trivial
  | cons env r ih =>
   intro hs hl
   obtain⟨hk,⟨L,o,hf,hn,ho,hd⟩,hr⟩:=hl
   have hL:L∈X.fs:=hs L (by unfold frs;rw [List.filterMap_cons,hf];exact List.mem_cons_self)
   obtain⟨sl,e⟩:=I.base.slot L o ho (I.ok.frf L hL) hL fun z=>I.ok.exfs L z hL
   exact⟨hk,⟨L,_,hf,hn,e,hd⟩,ih (fun b hb=>hs b (by unfold frs;rw [List.filterMap_cons,hf];exact List.mem_cons_of_mem _ hb)) hr⟩
 exact all X.outer (fun _ hb=>hb) I.ok.funs
theorem Inv.stack (I:Inv X pins σ H s):s.heap.FunFrames X.base X.stack:=by
 rcases I.ok.stk with e | ⟨e,hf⟩
 ·rw [e];exact I.funs
 ·rw [e]
  obtain⟨m,hn,_⟩:=I.loc
  refine .cons (by rw [I.ok.kind];decide) hf hn ?_ I.funs
  exact Heap.get?_none_of_le (Nat.le_trans I.ok.bsz I.ok.above)
theorem Inv.stkSub (I:Inv X pins σ H s) : ∀b∈frs X.stack,b∈X.env.locals::X.fs:=fun b hb=>by
 rcases I.ok.stk with e | ⟨e,hf⟩
 ·rw [e] at hb;exact List.mem_cons_of_mem _ hb
 ·rw [e] at hb
  unfold frs at hb
  rw [List.filterMap_cons,hf] at hb
  exact hb
theorem Inv.stkFree (I:Inv X pins σ H s) : ∀b∈frs X.stack,H b=none:=fun b hb=>by
 rcases List.mem_cons.mp (I.stkSub b hb) with e | hb
 ·rw [e];exact I.free
 ·obtain⟨_,o,ho,_⟩:=I.ok.funs.mem hb
  exact I.base.free b o ho (I.ok.frf b hb) fun z=>I.ok.exfs b z hb
theorem Inv.step {g':Array GenState} {t':Nat} {d':Drawn} {ch:List Addr} (I:Inv X pins σ H s)
  (hch : ∀b∈ch,(b∈X.ex\/X.s₀.heap.objs.size<=b)/\b≠X.env.locals/\(∀x c,X.env.cells.lookup x=some c->c≠b) /\ ∀p∈X.pn++pins,p.1≠b)
  (keep : ∀b o,b≠X.env.locals->b∉X.fs->b∉ch->s.heap.get? b=some o->H b=none->h'.get? b=some o)
  (slot : ∀b o,b≠X.env.locals->b∈X.fs->b∉ch->s.heap.get? b=some o->H b=none -> ∃sl,h'.get? b=some { o with slots:=sl }) (free : ∀b o,b∉ch->s.heap.get? b=some o->H b=none->H' b=none)
  (there : ∀b o,b∉ch->s.heap.get? b=some o -> ∃o',h'.get? b=some o')
  (tups : ∀b xs,H b=some (.tup xs)->H' b=some (.tup xs)) (frzs : ∀b o u,H b=some (.frz o u)->H' b=some (.frz o u)) (tbls : ∀b ps,H b=some (.tbl ps) -> ∃more,H' b=some (.tbl (ps++more)))
  (ns : ∀m,s.heap.Ns X.env.locals m->h'.Ns X.env.locals m) (hok:HOk X.prog X.w H' h') (hg:AllBare g') :
  Inv X pins σ H' { s with heap:=h',gens:=g',drawn:=d',toks:=t' }:=by
 have neL : ∀b o,X.s₀.heap.get? b=some o->b≠X.env.locals:=fun b o e=>Nat.ne_of_lt (Nat.lt_of_lt_of_le (Heap.lt_size e) I.ok.above)
 have neC : ∀b o,X.s₀.heap.get? b=some o->b∉X.ex->b∉ch:=fun b o e hx hb=>by
  rcases (hch b hb).1 with z | z
  ·exact hx z
  ·exact absurd (Nat.lt_of_lt_of_le (Heap.lt_size e) z) (Nat.lt_irrefl _)
 have cellK : ∀x c,X.env.cells.lookup x=some c -> ∀v,s.heap.IsCell c v->h'.IsCell c v:=fun x c e v ⟨o,ho,hd⟩=>by
  have nch:c∉ch:=fun z=>(hch c z).2.2.1 x c e rfl
  by_cases hc:c∈X.fs
  ·obtain⟨sl,q⟩:=slot c o (I.cne x c e) hc nch ho (I.freeC x c e)
   exact⟨_,q,hd⟩
  ·exact⟨o,keep c o (I.cne x c e) hc nch ho (I.freeC x c e),hd⟩
 refine⟨I.ok,I.os,hg,⟨fun b o e n hb hx => ?_,fun b o e n hb hx => ?_,fun b o e n hx => ?_,fun b o e hx => ?_,fun b xs e=>tups b xs (I.base.tups b xs e),fun b o xs e=>frzs b o xs (I.base.frzs b o xs e),fun b ps e => ?_⟩,?_,fun x c e => ?_,?_,fun x c e => ?_,fun p hp => ?_,hok,I.len⟩
 ·exact keep b o (neL b o e) hb (neC b o e hx) (I.base.keep b o e n hb hx) (I.base.free b o e n hx)
 ·obtain⟨sl,e1⟩:=I.base.slot b o e n hb hx
  obtain⟨sl',e2⟩:=slot b _ (neL b o e) hb (neC b o e hx) e1 (I.base.free b o e n hx)
  exact⟨sl',e2⟩
 ·obtain⟨o',e1⟩:=I.base.there b o e hx
  exact free b o' (neC b o e hx) e1 (I.base.free b o e n hx)
 ·obtain⟨o',e1⟩:=I.base.there b o e hx
  exact there b o' (neC b o e hx) e1
 ·obtain⟨m1,e1⟩:=I.base.tbls b ps e
  obtain⟨m2,e2⟩:=tbls b _ e1
  exact⟨m1++m2,by rw [e2,Array.append_assoc]⟩
 ·obtain⟨m,hn,hl⟩:=I.loc
  refine⟨m,ns m hn,fun i x v e1 e2 e3 => ?_⟩
  obtain⟨u,r,l⟩:=hl i x v e1 e2 e3
  refine⟨u,r,?_⟩
  rcases l with l | ⟨k,c,e,z⟩
  ·exact .inl l
  ·exact .inr ⟨k,c,e,cellK x c e _ z⟩
 ·obtain⟨v,z⟩:=I.cell x c e
  exact⟨v,cellK x c e v z⟩
 ·obtain⟨m,⟨o,_,_,ho,_⟩,_⟩:=I.loc
  exact free _ o (fun z=>(hch _ z).2.1 rfl) ho I.free
 ·obtain⟨v,o,ho,hd⟩:=I.cell x c e
  exact free c o (fun z=>(hch c z).2.2.1 x c e rfl) ho (I.freeC x c e)
 ·obtain⟨e,n,ne,nf,d⟩:=I.pin p hp
  have nch:p.1∉ch:=fun z=>(hch p.1 z).2.2.2 p hp rfl
  exact⟨keep p.1 p.2 ne nf nch e n,free p.1 p.2 nch e n,ne,nf,d⟩
theorem Inv.un {t':Nat} (I:Inv X pins σ H s) (u:Un X.fs [] H H' s.heap h') (hok:HOk X.prog X.w H' h'):Inv X pins σ H' { s with heap:=h',toks:=t' }:=by
 obtain⟨m,⟨o,es,ep,ho,r⟩,_⟩:=id I.loc
 obtain⟨sl,hL⟩:=u.any ho I.free (by simp)
 exact I.step (g':=s.gens) (d':=s.drawn) (ch :=[]) (fun _ z=>nomatch z) (fun b o _ hb _ e n=>u.keep b o e n hb (by simp)) (fun b o _ hb _ e n=>u.slot b o e n hb (by simp)) (fun b o _ e n=>u.free b o e n (by simp)) (fun b o _ e=>u.there b o e (by simp)) u.tups u.frzs u.tbls (fun m' hm=>by
  obtain⟨o',es',ep',ho',r'⟩:=hm
  rw [ho] at ho';cases ho'
  exact⟨_,es',ep',hL,r'⟩) hok I.bare
theorem Inv.call {g':Array GenState} {t':Nat} {d':Drawn} {ch:List Addr} (I:Inv X pins σ H s) (u:Un (frs X.stack) ch H H' s.heap h') (hok:HOk X.prog X.w H' h') (hg:AllBare g')
  (hch : ∀b∈ch,(b∈X.ex\/X.s₀.heap.objs.size<=b)/\b≠X.env.locals/\(∀x c,X.env.cells.lookup x=some c->c≠b) /\ ∀p∈X.pn++pins,p.1≠b) :
  Inv X pins σ H' { s with heap:=h',gens:=g',drawn:=d',toks:=t' }:=by
 obtain⟨m,⟨o,es,ep,ho,r⟩,_⟩:=id I.loc
 obtain⟨sl,hL⟩:=u.any ho I.free fun z=>(hch _ z).2.1 rfl
 exact I.step (ch:=ch) hch (fun b o hL hb hc e n=>u.keep b o e n (fun z=>(List.mem_cons.mp (I.stkSub b z)).elim hL hb) hc) (fun b o _ _ hc e n=>u.any e n hc) (fun b o hc e n=>u.free b o e n hc) (fun b o hc e=>u.there b o e hc) u.tups u.frzs u.tbls (fun m' hm=>by
  obtain⟨o',es',ep',ho',r'⟩:=hm
  rw [ho] at ho';cases ho'
  exact⟨_,es',ep',hL,r'⟩) hok hg
theorem Inv.turned {t':Nat} {it:Addr} (I:Inv X pins σ H s) (k : ∀b o,b≠it->s.heap.get? b=some o->h'.get? b=some o) (hn:H it=none) (hL:it≠X.env.locals)
  (h1:it∈X.ex\/X.s₀.heap.objs.size<=it) (h2 : ∀x c,X.env.cells.lookup x=some c->c≠it) (h3 : ∀p∈X.pn++pins,p.1≠it):Inv X pins σ H { s with heap:=h',toks:=t' }:=by
 have nit : ∀b u,H b=some u->b≠it:=fun b u e z=>by rw [z,hn] at e;cases e
 refine I.step (g':=s.gens) (d':=s.drawn) (ch :=[it]) (fun b hb => ?_) (fun b o _ _ hc e _=>k b o (fun z=>hc (by simp [z])) e) (fun b o _ _ hc e _=>⟨o.slots,k b o (fun z=>hc (by simp [z])) e⟩) (fun _ _ _ _ n=>n)
  (fun b o hc e=>⟨o,k b o (fun z=>hc (by simp [z])) e⟩) (fun _ _ e=>e) (fun _ _ _ e=>e) (fun b ps e=>⟨#[],by rw [e];simp⟩) (fun m hm => ?_) (fun b u e => ?_) I.bare
 ·have e:b=it:=by simpa using hb
  subst e
  exact⟨h1,hL,h2,h3⟩
 ·obtain⟨o,es,ep,ho,r⟩:=hm
  exact⟨o,es,ep,k _ o (Ne.symm hL) ho,r⟩
 ·refine (I.hok b u e).stay (fun c v hc q=>k c v ?_ q) (fun _ q=>q) fun _ _ q=>q
  rcases hc with z | z
  ·rw [z];exact nit b u e
  ·exact nit c _ z
theorem Inv.tok (I:Inv X pins σ H s) (t:Nat):Inv X pins σ H { s with toks:=t }:=I.un (h':=s.heap) (t':=t) Un.refl I.hok
theorem Inv.kept {t':Nat} (I:Inv X pins σ H s) (k : ∀b u,s.heap.get? b=some u->h'.get? b=some u):Inv X pins σ H { s with heap:=h',toks:=t' }:=I.un (Un.kept k) (I.hok.kept k)
theorem Inv.laid {a:Addr} {o:HO} {t':Nat} (I:Inv X pins σ H s) (k : ∀b u,s.heap.get? b=some u->h'.get? b=some u) (hp:s.heap.objs.size<=a) (new:ObjOk X.prog X.w (upd H a o) h' a o) :
  Inv X pins σ (upd H a o) { s with heap:=h',toks:=t' }:=I.un (Un.laid k hp (I.hok.fresh hp)) (I.hok.laid k hp new)
theorem Inv.write {x e:Addr} {o:HO} {t':Nat} (I:Inv X pins σ H s) (mu:Mut (H x)) (he:e=x\/H e=some (.own x)) (k : ∀b u,b≠e->s.heap.get? b=some u->h'.get? b=some u) (heo : ∃u,h'.get? e=some u)
  (new:ObjOk X.prog X.w (upd H x o) h' x o):Inv X pins σ (upd H x o) { s with heap:=h',toks:=t' }:=I.un (Un.write mu he k heo) (I.hok.write mu he k heo new)
theorem Inv.pins_of {pins':List (Addr×Obj)} (I:Inv X pins σ H s) (h : ∀p∈pins',s.heap.get? p.1=some p.2/\H p.1=none/\p.1≠X.env.locals/\p.1∉X.fs /\ ∀v,p.2.data ≠ .cell v):Inv X pins' σ H s :=
 ⟨I.ok,I.os,I.bare,I.base,I.loc,I.cell,I.free,I.freeC,fun p hp=>(List.mem_append.mp hp).elim (fun z=>I.pin p (List.mem_append_left _ z)) (h p),I.hok,I.len⟩
theorem qKd {N:List Str} (hN:N.Nodup) {i j:Nat} {x:Str} (a:N[i]? = some x) (b:N[j]? = some x):i=j:=by
 obtain⟨h1,e1⟩:=List.getElem?_eq_some_iff.mp a
 obtain⟨h2,e2⟩:=List.getElem?_eq_some_iff.mp b
 exact (List.getElem_inj hN).mp (e1.trans e2.symm)
theorem qF7 {M:Model} {A:Around} {E:Value->Shared->Prop} {i:Nat} {x:Str} {v:V} {u:Value} {Q:Unit->Shared->Prop} (I:Inv X pins σ H s) (hN:X.N.Nodup) (hi:X.N[i]? = some x) (hx:Loc X.env.scope x) (r:RelV v u)
  (h : ∀s',Inv X pins (σ.set i (some v)) H s'->(∃a,Heap.SameBut a s.heap s'.heap/\(a=X.env.locals\/X.env.cells.lookup x=some a))->Q () s') (hf:X.fn x=true\/X.env.scope.names.lookup x=some .local:=by first | exact .inl rfl | exact .inr rfl | assumption):wpAny M A (storeName X.env x u) Q E s:=by
 obtain⟨m,hn,hl⟩:=id I.loc
 have hcls:(X.env.scope.kind == .class||(X.env.scope.kind == .module&&X.env.locals != X.env.globals))=false:=by rw [I.ok.kind];rfl
 have hiσ : i < σ.length:=by rw [I.len];exact (List.getElem?_eq_some_iff.mp hi).1
 have cne:=I.cne
 have tracked : ∀ {a:Addr} {h':Heap},(∃o,s.heap.get? a=some o/\H a=none)->Heap.SameBut a s.heap h'->HOk X.prog X.w H h':=fun {a h'} ha hs b ob e=>by
  obtain⟨_,_,hfree⟩:=ha
  refine (I.hok b ob e).stay (fun c w' hc q=>(hs.2 c ?_).trans q) (fun _ q=>q) fun _ _ q=>q
  rintro rfl
  rcases hc with rfl | hc
  ·rw [hfree] at e;cases e
  ·rw [hfree] at hc;cases hc
 rcases hx with hk | hk
 ·refine wpAny_storeName_local hk hn (fun h' hn' hs => ?_) hcls
  obtain⟨oL,_,_,hoL,_⟩:=id hn
  refine h _ ⟨I.ok,I.os,I.bare,⟨fun b o e n hb hx => ?_,fun b o e n hb hx => ?_,I.base.free,fun b o e hx => ?_,I.base.tups,I.base.frzs,I.base.tbls⟩,⟨_,hn',fun j y v' e1 e2 e3 => ?_⟩,fun y c e => ?_,I.free,I.freeC,fun p hp => ?_,tracked ⟨oL,hoL,I.free⟩ hs,by simpa using I.len⟩ ⟨_,hs,.inl rfl⟩
  ·exact (hs.2 b (Nat.ne_of_lt (Nat.lt_of_lt_of_le (Heap.lt_size e) I.ok.above))).trans (I.base.keep b o e n hb hx)
  ·obtain⟨sl,e1⟩:=I.base.slot b o e n hb hx
   exact⟨sl,(hs.2 b (Nat.ne_of_lt (Nat.lt_of_lt_of_le (Heap.lt_size e) I.ok.above))).trans e1⟩
  ·obtain⟨o',e1⟩:=I.base.there b o e hx
   exact⟨o',(hs.2 b (Nat.ne_of_lt (Nat.lt_of_lt_of_le (Heap.lt_size e) I.ok.above))).trans e1⟩
  ·by_cases hj:j=i
   ·subst hj
    rw [hi] at e1;cases e1
    rw [List.getElem?_set_self hiσ] at e2
    cases e2
    exact⟨u,r,.inl ⟨hk,by simp⟩⟩
   ·rw [List.getElem?_set_ne (Ne.symm hj)] at e2
    obtain⟨u',r',q⟩:=hl j y v' e1 e2 e3
    refine⟨u',r',?_⟩
    rcases q with ⟨k,e⟩ | ⟨k,c,e,z⟩
    ·refine .inl ⟨k,?_⟩
     have:y≠x:=fun e=>hj (qKd hN e1 (e▸hi))
     simp [this,e]
    ·exact .inr ⟨k,c,e,z.sameBut hs (cne y c e)⟩
  ·obtain⟨w',z⟩:=I.cell y c e
   exact⟨w',z.sameBut hs (cne y c e)⟩
  ·obtain⟨e,n,ne,nf,d⟩:=I.pin p hp
   exact⟨(hs.2 p.1 ne).trans e,n,ne,nf,d⟩
 ·have hfn:X.fn x=true:=by
   rcases hf with z | z
   ·exact z
   ·rw [z] at hk;cases hk
  obtain⟨c,hc⟩:=I.ok.has x (.inl hk)
  obtain⟨w',z⟩:=I.cell x c hc
  refine wpAny_storeName_cell I.ok.kind hk hc z (fun h' hc' hs => ?_)
  obtain⟨oc,hoc,hocd⟩:=id z
  refine h { s with heap:=h' } ⟨I.ok,I.os,I.bare,⟨fun b o e n hb hx => ?_,fun b o e n hb hx => ?_,I.base.free,fun b o e hx => ?_,I.base.tups,I.base.frzs,I.base.tbls⟩,⟨m,hn.sameBut hs (Ne.symm (cne x c hc)),fun j y v' e1 e2 e3 => ?_⟩,fun y c' e => ?_,I.free,I.freeC,fun p hp => ?_,tracked ⟨oc,hoc,I.freeC x c hc⟩ hs,by simpa using I.len⟩ ⟨c,hs,.inr hc⟩
  ·exact (hs.2 b (Nat.ne_of_lt (Nat.lt_of_lt_of_le (Heap.lt_size e) (I.ok.cab x c hfn hc)))).trans (I.base.keep b o e n hb hx)
  ·obtain⟨sl,e1⟩:=I.base.slot b o e n hb hx
   exact⟨sl,(hs.2 b (Nat.ne_of_lt (Nat.lt_of_lt_of_le (Heap.lt_size e) (I.ok.cab x c hfn hc)))).trans e1⟩
  ·obtain⟨o',e1⟩:=I.base.there b o e hx
   exact⟨o',(hs.2 b (Nat.ne_of_lt (Nat.lt_of_lt_of_le (Heap.lt_size e) (I.ok.cab x c hfn hc)))).trans e1⟩
  ·by_cases hj:j=i
   ·subst hj
    rw [hi] at e1;cases e1
    rw [List.getElem?_set_self hiσ] at e2
    cases e2
    exact⟨u,r,.inr ⟨.inl hk,c,hc,hc'⟩⟩
   ·rw [List.getElem?_set_ne (Ne.symm hj)] at e2
    obtain⟨u',r',q⟩:=hl j y v' e1 e2 e3
    refine⟨u',r',?_⟩
    rcases q with q | ⟨k,c',e,z'⟩
    ·exact .inl q
    ·refine .inr ⟨k,c',e,z'.sameBut hs ?_⟩
     rintro rfl
     exact hj (qKd hN e1 (I.ok.inj _ _ _ e hc▸hi))
  ·by_cases hcc:c'=c
   ·subst hcc;exact⟨_,hc'⟩
   ·obtain⟨w2,z2⟩:=I.cell y c' e
    exact⟨w2,z2.sameBut hs hcc⟩
  ·obtain⟨e,n,ne,nf,d⟩:=I.pin p hp
   refine⟨(hs.2 p.1 ?_).trans e,n,ne,nf,d⟩
   intro q
   rw [q,hoc] at e
   have q':oc=p.2:=Option.some.inj e
   exact d w' (by rw [<-q'];exact hocd)
theorem qCq {M:Model} {A:Around} {E:Value->Shared->Prop} {i:Nat} {x:Str} {v:V} {u:Value} {Q:Unit->Shared->Prop} (I:Inv X pins σ H s) (hN:X.N.Nodup) (hi:X.N[i]? = some x) (hx:Loc X.env.scope x) (r:RelV v u)
  (h : ∀s',Inv X pins (σ.set i (some v)) H s'->Q () s') (hf:X.fn x=true\/X.env.scope.names.lookup x=some .local:=by first | exact .inl rfl | exact .inr rfl | assumption):wpAny M A (storeName X.env x u) Q E s :=
 qF7 I hN hi hx r (fun s' I' _=>h s' I') hf
theorem Inv.call' {s':Shared} {ch:List Addr} (I:Inv X pins σ H s) (ho:s'.os=s.os) (u:Un (frs X.stack) ch H H' s.heap s'.heap) (hok:HOk X.prog X.w H' s'.heap) (hg:AllBare s'.gens)
  (hch : ∀b∈ch,(b∈X.ex\/X.s₀.heap.objs.size<=b)/\b≠X.env.locals/\(∀x c,X.env.cells.lookup x=some c->c≠b) /\ ∀p∈X.pn++pins,p.1≠b):Inv X pins σ H' s':=by
 obtain⟨h',g',d',t',o'⟩:=s'
 have e:o'=s.os:=ho
 subst e
 exact I.call (g':=g') (t':=t') (d':=d') u hok hg hch
end
abbrev XK:=Value->Option Addr->Hp->Prop
abbrev St:=List (Option V)
abbrev VK:=V->Hp->Prop
abbrev TE:=St->Hp->VK->Prop
abbrev TT:=St->Hp->(Bool->Hp->Prop)->Prop
abbrev TA:=St->Hp->(List V->Hp->Prop)->Prop
structure Ends where
 nx:St->Hp->Prop
 rt:VK
 bk:St->Hp->Prop:=fun _ _=>False
 ct:St->Hp->Prop:=fun _ _=>False
abbrev TS:=Ends->St->Hp->Prop
def EP (X:Cx) (pins:List (Addr×Obj)) (σ : St) (Q:VK) (u:Value) (s':Shared):Prop := ∃v H',Inv X pins σ H' s'/\RelV v u/\Q v H'
def TP (X:Cx) (pins:List (Addr×Obj)) (σ : St) (Q:Bool->Hp->Prop) (b:Bool) (s':Shared):Prop := ∃H',Inv X pins σ H' s'/\Q b H'
def AP (X:Cx) (pins:List (Addr×Obj)) (σ : St) (Q:List V->Hp->Prop) (us:List Value) (s':Shared):Prop := ∃vs H',Inv X pins σ H' s'/\Vals vs us/\Q vs H'
def SP (X:Cx) (pins:List (Addr×Obj)) (D:Ends) (f:Flow) (s':Shared):Prop :=
 match f with
 | .next => ∃ σ' H',Inv X pins σ' H' s'/\D.nx σ' H'
 | .brk => ∃ σ' H',Inv X pins σ' H' s'/\D.bk σ' H'
 | .cont => ∃ σ' H',Inv X pins σ' H' s'/\D.ct σ' H'
 | .ret u => ∃v σ' H',Inv X pins σ' H' s'/\RelV v u/\D.rt v H'
def PE (X:Cx) (e:Expr) (t:TE):Prop :=
 ∀(pins:List (Addr×Obj)) (s:Shared) (σ : St) (H:Hp) (Q:VK),Inv X pins σ H s->t σ H Q->wpAny (model X.prog X.w) X.A (eval e X.env) (EP X pins σ Q) X.xe s
def PT (X:Cx) (e:Expr) (t:TT):Prop :=
 ∀(pins:List (Addr×Obj)) (s:Shared) (σ : St) (H:Hp) (Q:Bool->Hp->Prop),Inv X pins σ H s->t σ H Q->wpAny (model X.prog X.w) X.A (isTrue e X.env (eval e X.env)) (TP X pins σ Q) X.xe s
def PW (X:Cx) (e:Expr) (t:TT):Prop :=
 ∀(whole:Sem Value) (pins:List (Addr×Obj)) (s:Shared) (σ : St) (H:Hp) (Q:Bool->Hp->Prop),Inv X pins σ H s->t σ H Q->wpAny (model X.prog X.w) X.A (isTrue e X.env whole) (TP X pins σ Q) X.xe s
theorem PW.pt {X:Cx} {e:Expr} {t:TT} (h:PW X e t):PT X e t:=h _
def PA (X:Cx) (es:List Expr) (t:TA):Prop :=
 ∀(pos:Pos) (pins:List (Addr×Obj)) (s:Shared) (σ : St) (H:Hp) (Q:List V->Hp->Prop),Inv X pins σ H s->t σ H Q->wpAny (model X.prog X.w) X.A (spliced (backTo pos (starEach es X.env))) (AP X pins σ Q) X.xe s
def PS (X:Cx) (st:Stmt) (t:TS):Prop :=
 ∀(pins:List (Addr×Obj)) (s:Shared) (σ : St) (H:Hp) (D:Ends),Inv X pins σ H s->t D σ H->wpAny (model X.prog X.w) X.A (exec st X.env) (SP X pins D) X.xe s
def PSs (X:Cx) (st:List Stmt) (t:TS):Prop :=
 ∀(pins:List (Addr×Obj)) (s:Shared) (σ : St) (H:Hp) (D:Ends),Inv X pins σ H s->t D σ H->wpAny (model X.prog X.w) X.A (execs st X.env) (SP X pins D) X.xe s
theorem thn {α : Type} {t:Sem α} {Q Q' : α -> Shared->Prop} {M:Model} {A:Around} {E:Value->Shared->Prop} {s:Shared} (h:wpAny M A t Q E s) (hQ : ∀a s,Q a s->Q' a s):wpAny M A t Q' E s:=wpAny_mono h hQ fun _ _ x=>x
section
variable {X:Cx}
theorem bin {a b:Expr} {ta tb:TE} (ha:PE X a ta) (hb:PE X b tb) {pins:List (Addr×Obj)} {s:Shared} {σ : St} {H:Hp} {R:V->V->Hp->Prop} (I:Inv X pins σ H s) (h:ta σ H fun x H1=>tb σ H1 fun y H2=>R x y H2)
  {α : Type} {Q : α -> Shared->Prop} {f:Value->Value->Sem α}
  (hf : ∀v u s2 x y H2,Inv X pins σ H2 s2->RelV x v->RelV y u->R x y H2->wpAny (model X.prog X.w) X.A (f v u) Q X.xe s2) :
  wpAny (model X.prog X.w) X.A (eval a X.env) (fun v s₁ =>wpAny (model X.prog X.w) X.A (eval b X.env) (fun u s₂ =>wpAny (model X.prog X.w) X.A (f v u) Q X.xe s₂) X.xe s₁) X.xe s:=by
 refine thn (ha pins s σ H _ I h) fun v s1 hq_ => ?_
 obtain⟨x,H1,I1,r1,q1⟩:=hq_
 refine thn (hb pins s1 σ H1 _ I1 q1) fun u s2 hq_ => ?_
 obtain⟨y,H2,I2,r2,q2⟩:=hq_
 exact hf v u s2 x y H2 I2 r1 r2 q2
def tVar (i:Nat):TE:=fun σ H Q => ∃v,σ[i]? = some (some v)/\Q v H
def tC (v:V):TE:=fun _ H Q=>Q v H
theorem qUn {i:Nat} {x:Str} {pos:Pos} (hN:X.N[i]? = some x) (hv:Vis X.env.scope x) (hd:(x == ("__debug__" : Str))=false:=by decide) (hcd:(x == ("__classdict__" : Str))=false:=by decide):PE X (.Name x pos) (tVar i):=by
 intro pins s σ H Q I h
 obtain⟨v,e,h⟩:=h
 obtain⟨m,hn,hl⟩:=I.loc
 obtain⟨u,r,l⟩:=hl i x v hN e hv
 have fin:EP X pins σ Q u s:=⟨v,H,I,r,h⟩
 rcases l with ⟨hk,hm⟩ | ⟨hk,c,hc,hcell⟩
 ·exact wpAny_Name (wpAny_loadName_local I.ok.kind hk hn hm fin) hd
 ·rcases hk with hk | hk
  ·exact wpAny_Name (wpAny_loadName_cell I.ok.kind hk hc hcell fin) hd
  ·exact wpAny_Name (wpAny_loadName_free I.ok.kind hk hc hcell fin hcd) hd
theorem qA2 {i j pos}:PE X (.Constant (.int i) j pos) (tC (.int i)):=fun _ _ _ H _ I h=>wpAny_Constant_int ⟨.int i,H,I.tok _,⟨_,rfl⟩,h⟩
theorem qH8 {b j pos}:PE X (.Constant (.bool b) j pos) (tC (.bl b)):=fun _ _ _ H _ I h=>Constant_bool ⟨.bl b,H,I,rfl,h⟩
theorem qD7 {j pos}:PE X (.Constant .none j pos) (tC .non):=fun _ _ _ H _ I h=>Constant_none ⟨.non,H,I,rfl,h⟩
theorem qAc {x j pos}:PE X (.Constant (.str x) j pos) (tC (.str x)):=fun _ _ _ H _ I h=>Calls.Constant_str ⟨.str x,H,I.tok _,⟨_,rfl⟩,h⟩
def Gl (X:Cx) (x:Str):Prop:=X.env.kindOf x=some .globalImplicit
theorem qJi {E:Value->Shared->Prop} {pins:List (Addr×Obj)} {s:Shared} {σ : St} {H:Hp} {x:Str} {u:Value} {pos:Pos} {Q:Value->Shared->Prop} (I:Inv X pins σ H s) (hg:Gl X x) (hm:X.mg x=some u) (h:Q u s)
  (hd:(x == ("__debug__" : Str))=false:=by decide):wpAny (model X.prog X.w) X.A (eval (.Name x pos) X.env) Q E s :=
 Calls.Name_function_global I.ok.kind hg (Calls.loadGlobal_global (by rw [I.ok.glob];exact I.mod.glob.keeps I.bk) hm h) hd
theorem qIc {E:Value->Shared->Prop} {pins:List (Addr×Obj)} {s:Shared} {σ : St} {H:Hp} {x:Str} {u:Value} {pos:Pos} {Q:Value->Shared->Prop} (I:Inv X pins σ H s) (hg:Gl X x) (hm:X.mg x=none) (hv:bootBuiltins x=some u) (h:Q u s)
  (hn:x ≠ "__name__" :=by decide) (hd:(x == ("__debug__" : Str))=false:=by decide):wpAny (model X.prog X.w) X.A (eval (.Name x pos) X.env) Q E s:=by
 obtain⟨mb,h1,h2⟩:=I.mod.blt
 exact Calls.Name_function_global I.ok.kind hg (Calls.loadGlobal_builtin (by rw [I.ok.glob];exact I.mod.glob.keeps I.bk) hm (by rw [I.ok.blt];exact h1.keeps I.bk) ((h2 x hn).trans hv) h) hd
theorem qS9 {x:Str} {v:V} {u:Value} {pos:Pos} (hg:Gl X x) (hm:X.mg x=some u) (r:RelV v u) (hd:(x == ("__debug__" : Str))=false:=by decide):PE X (.Name x pos) (tC v) :=
 fun _ _ _ H _ I h=>qJi I hg hm ⟨v,H,I,r,h⟩ hd
variable {a b:Expr} {ta tb:TE} {pos:Pos}
def PC (X:Cx) (op:CmpOp) (a b:Expr) (t:TE):Prop :=
 ∀(pins:List (Addr×Obj)) (s:Shared) (σ : St) (H:Hp) (Q:VK),Inv X pins σ H s->t σ H Q ->
  wpAny (model X.prog X.w) X.A (eval a X.env) (fun v s₁ =>wpAny (model X.prog X.w) X.A (eval b X.env) (fun u s₂ =>wpAny (model X.prog X.w) X.A (compareOp op v u) (EP X pins σ Q) X.xe s₂) X.xe s₁) X.xe s
theorem qPd (b:Expr) {op:CmpOp} (h:op ≠ .In) (h2:op ≠ .NotIn):behindInMarks op b=false:=by
 have e1:(op == CmpOp.In)=false:=by cases op <;> first | rfl | exact absurd rfl h
 have e2:(op == CmpOp.NotIn)=false:=by cases op <;> first | rfl | exact absurd rfl h2
 cases b <;> simp [behindInMarks,e1,e2]
def tB (t:TE):TT:=fun σ H Q=>t σ H fun x H1 => ∃c,x = .bl c/\Q c H1
theorem qMk {op:CmpOp} {t:TE} (h:PC X op a b t) (h1:behindInMarks op b=false:=by first | exact qPd _ (by decide) (by decide) | rfl):PT X (.Compare a [op] [b] pos) (tB t):=by
 intro pins s σ H Q I hw
 refine wpAny_isTrue_Compare1 (thn (h pins s σ H _ I hw) fun v s1 h1=>thn h1 fun u s2 h2=>thn h2 fun c s3 hq_ => ?_) h1
 obtain⟨x,H1,I1,r1,q1⟩:=hq_
 obtain⟨d,rfl,q⟩:=q1
 cases r1
 exact wpAny_truthy_bool ⟨H1,I1,q⟩
variable {tA tB':TT} {rest:List Expr}
def tAnd (t u:TT):TT:=fun σ H Q=>t σ H fun c H1=>if c=true then u σ H1 Q else Q false H1
def tOr (t u:TT):TT:=fun σ H Q=>t σ H fun c H1=>if c=true then Q true H1 else u σ H1 Q
def tNot (t:TT):TT:=fun σ H Q=>t σ H fun c H1=>Q (!c) H1
theorem qCj (ha:PT X a tA):PW X (.BoolOp .And [a] pos) tA:=by
 intro wh pins s σ H Q I h
 refine isTrue_and (thn (ha pins s σ H Q I h) fun c s1 e => ?_)
 cases c with
 | true=>exact isTrue_and_nil e
 | false=>exact e
theorem qMi (ha:PT X a tA):PW X (.BoolOp .Or [a] pos) tA:=by
 intro wh pins s σ H Q I h
 refine isTrue_or (thn (ha pins s σ H Q I h) fun c s1 e => ?_)
 cases c with
 | false=>exact isTrue_or_nil e
 | true=>exact e
theorem qD4 (ha:PT X a tA) (hb:PW X (.BoolOp .And (b::rest) pos) tB'):PW X (.BoolOp .And (a::b::rest) pos) (tAnd tA tB'):=by
 intro wh pins s σ H Q I h
 refine isTrue_and (thn (ha pins s σ H _ I h) fun c s1 hq_ => ?_)
 obtain⟨H1,I1,q1⟩:=hq_
 cases c with
 | true=>exact hb wh pins s1 σ H1 Q I1 q1
 | false=>exact⟨H1,I1,q1⟩
theorem qS2 (ha:PT X a tA) (hb:PW X (.BoolOp .Or (b::rest) pos) tB'):PW X (.BoolOp .Or (a::b::rest) pos) (tOr tA tB'):=by
 intro wh pins s σ H Q I h
 refine isTrue_or (thn (ha pins s σ H _ I h) fun c s1 hq_ => ?_)
 obtain⟨H1,I1,q1⟩:=hq_
 cases c with
 | true=>exact⟨H1,I1,q1⟩
 | false=>exact hb wh pins s1 σ H1 Q I1 q1
theorem qK4 (ha:PT X a tA):PT X (.UnaryOp .Not a pos) (tNot tA):=by
 intro pins s σ H Q I h
 exact isTrue_not (ha pins s σ H (fun c H1=>Q (!c) H1) I h)
def tIf (t:TT) (ta tb:TE):TE:=fun σ H Q=>t σ H fun c H1=>if c=true then ta σ H1 Q else tb σ H1 Q
theorem qBn {c:Expr} (hc:PT X c tA) (ha:PE X a ta) (hb:PE X b tb):PE X (.IfExp c a b pos) (tIf tA ta tb):=by
 intro pins s σ H Q I h
 refine wpAny_IfExp (thn (hc pins s σ H _ I h) fun d s1 hq_ => ?_)
 obtain⟨H1,I1,q1⟩:=hq_
 cases d with
 | true=>exact ha pins s1 σ H1 Q I1 q1
 | false=>exact hb pins s1 σ H1 Q I1 q1
end
def SqL (K:PySem.W.Frag) (H:Hp) (a:Addr) (xs:List V):Prop :=
 Rd H a (.lst xs) \/
  ∃(o:Obj) (its:Array Value) (n:Nat),K.lookup a=some o/\o.cls = .type "list" /\ o.dict=none/\o.data = .seq its n/\its.size<=sizeLine/\Vals xs its.toList
def SqT (K:PySem.W.Frag) (H:Hp) (a:Addr) (xs:List V):Prop :=
 Rd H a (.tup xs) \/
  ∃(o:Obj) (its:Array Value) (n:Nat),K.lookup a=some o/\o.cls = .type "tuple" /\ o.data = .seq its n/\its.size<=sizeLine/\Vals xs its.toList
def absV:Value->Option V
 | .none=>some .non
 | .bool b=>some (.bl b)
 | .int i _=>some (.int i)
 | .str x _=>some (.str x)
 | .bytes b _=>some (.byt b)
 | .float b _=>some (.flt b)
 | .ref a=>some (.ref a)
 | .type n=>some (.ty n)
 | _=>none
theorem RelV.abs {x:V} {u:Value} (r:RelV x u):absV u=some x:=by
 cases x with
 | non=>cases r;rfl
 | bl _=>cases r;rfl
 | int _=>obtain⟨t,rfl⟩:=r;rfl
 | str _=>obtain⟨t,rfl⟩:=r;rfl
 | byt _=>obtain⟨t,rfl⟩:=r;rfl
 | flt _=>obtain⟨t,rfl⟩:=r;rfl
 | ref _=>cases r;rfl
 | ty _=>cases r;rfl
theorem RelV.inj {x y:V} {u:Value} (r:RelV x u) (q:RelV y u):x=y:=Option.some.inj (r.abs.symm.trans q.abs)
theorem Vals.inj {xs ys:List V} {us:List Value} (h:Vals xs us) (k:Vals ys us):xs=ys:=by
 induction h generalizing ys with
 | nil=>cases k;rfl
 | cons r _ ih=>cases k with | cons r' t'=>rw [r.inj r',ih t']
section
variable {X:Cx} {pins:List (Addr×Obj)} {σ : St} {H:Hp} {s:Shared} {a:Addr} {xs ys:List V}
theorem SqL.of {K:PySem.W.Frag} (h:H a=some (.lst xs)):SqL K H a xs :=.inl (.inl h)
theorem SqT.of {K:PySem.W.Frag} (h:H a=some (.tup xs)):SqT K H a xs :=.inl (.inl h)
theorem Inv.list (I:Inv X pins σ H s) (h:SqL X.K H a xs) : ∃its:List Value,Vals xs its/\PlainL s.heap a its.toArray/\xs.length<=sizeLine:=by
 rcases h with h | ⟨o,its,n,hk,hc,hd,hs,hz,r⟩
 ·obtain⟨z,its,n,r,e⟩:=h.ok I.hok
  exact⟨its,r,⟨_,n,e,rfl,rfl,rfl⟩,z⟩
 ·refine⟨its.toList,r,⟨o,n,I.kIn a o hk,hc,hd,by simpa using hs⟩,?_⟩
  have e:=r.length
  simp only [Array.length_toList] at e
  omega
theorem Inv.tuple (I:Inv X pins σ H s) (h:SqT X.K H a xs) : ∃its:List Value,Vals xs its/\IsTup s.heap a its.toArray/\xs.length<=sizeLine:=by
 rcases h with h | ⟨o,its,n,hk,hc,hs,hz,r⟩
 ·obtain⟨z,its,r,p⟩:=h.ok I.hok
  exact⟨its,r,p,z⟩
 ·refine⟨its.toList,r,⟨o,I.kIn a o hk,hc,n,by simpa using hs⟩,?_⟩
  have e:=r.length
  simp only [Array.length_toList] at e
  omega
theorem Inv.list_inj (I:Inv X pins σ H s) (h:SqL X.K H a xs) (h':SqL X.K H a ys):xs=ys:=by
 obtain⟨its,r,⟨o,n,e,_,_,d⟩,_⟩:=I.list h
 obtain⟨its',r',⟨o',n',e',_,_,d'⟩,_⟩:=I.list h'
 rw [e] at e';cases e'
 rw [d] at d'
 injection d' with d1 _
 have:its=its':=by simpa using congrArg Array.toList d1
 subst this
 exact r.inj r'
theorem Inv.tuple_inj (I:Inv X pins σ H s) (h:SqT X.K H a xs) (h':SqT X.K H a ys):xs=ys:=by
 obtain⟨its,r,⟨o,e,_,n,d⟩,_⟩:=I.tuple h
 obtain⟨its',r',⟨o',e',_,n',d'⟩,_⟩:=I.tuple h'
 rw [e] at e';cases e'
 rw [d] at d'
 injection d' with d1 _
 have:its=its':=by simpa using congrArg Array.toList d1
 subst this
 exact r.inj r'
end
abbrev Cx.wish (X:Cx) (E:Value->Shared->Prop):Cx :={ X with xe:=E }
abbrev Cx.nox (X:Cx):Cx:=X.wish fun _ _=>False
theorem Cx.Ok.wish {X:Cx} (ok:X.Ok) (E:Value->Shared->Prop):(X.wish E).Ok :=
 ⟨ok.mod,ok.kind,ok.glob,ok.blt,ok.above,ok.inj,ok.has,ok.cab,ok.hd,ok.frames,ok.stk,ok.exf,ok.bs,ok.bsz,ok.noex,ok.exfs,ok.funs,ok.frf⟩
theorem Cx.Ok.unwish {X:Cx} {E:Value->Shared->Prop} (ok:(X.wish E).Ok):X.Ok :=
 ⟨ok.mod,ok.kind,ok.glob,ok.blt,ok.above,ok.inj,ok.has,ok.cab,ok.hd,ok.frames,ok.stk,ok.exf,ok.bs,ok.bsz,ok.noex,ok.exfs,ok.funs,ok.frf⟩
section
variable {X:Cx} {pins:List (Addr×Obj)} {σ : St} {H:Hp} {s:Shared} {E:Value->Shared->Prop}
theorem Inv.wish (I:Inv X pins σ H s) (E:Value->Shared->Prop):Inv (X.wish E) pins σ H s:=⟨I.ok.wish E,I.os,I.bare,I.base,I.loc,I.cell,I.free,I.freeC,I.pin,I.hok,I.len⟩
theorem Inv.unwish (I:Inv (X.wish E) pins σ H s):Inv X pins σ H s:=⟨I.ok.unwish,I.os,I.bare,I.base,I.loc,I.cell,I.free,I.freeC,I.pin,I.hok,I.len⟩
theorem SP.unwish {D:Ends} {f:Flow} {s':Shared} (h:SP (X.wish E) pins D f s'):SP X pins D f s':=by
 cases f with
 | next=>obtain⟨σ',H',I,q⟩:=h;exact⟨σ',H',I.unwish,q⟩
 | brk=>obtain⟨σ',H',I,q⟩:=h;exact⟨σ',H',I.unwish,q⟩
 | cont=>obtain⟨σ',H',I,q⟩:=h;exact⟨σ',H',I.unwish,q⟩
 | ret u=>obtain⟨v,σ',H',I,r,q⟩:=h;exact⟨v,σ',H',I.unwish,r,q⟩
theorem PSs.nox {st:List Stmt} {t:TS} (h:PSs X.nox st t):PSs X st t:=fun pins s σ H D I hw =>
 wpAny_mono (h pins s σ H D (I.wish _) hw) (fun _ _ q=>q.unwish) fun _ _ z=>False.elim z
end
section
variable {X:Cx} {st:Stmt} {rest:List Stmt} {t u:TS} {e:Expr} {te:TE} {pos:Pos}
def tNext:TS:=fun D σ H=>D.nx σ H
def tSeq (t u:TS):TS:=fun D σ H=>t { D with nx:=u D } σ H
theorem qAu:PSs X [] tNext:=fun _ _ σ H _ I h=>wpAny_execs_nil ⟨σ,H,I,h⟩
theorem qA3 (h1:PS X st t) (h2:PSs X rest u):PSs X (st::rest) (tSeq t u):=by
 intro pins s σ H D I h
 refine wpAny_execs_cons (thn (h1 pins s σ H { D with nx:=u D } I h) fun f s1 q => ?_)
 cases f with
 | next =>
  obtain⟨σ',H',I',q⟩:=q
  exact h2 pins s1 σ' H' D I' q
 | ret v=>exact q
 | brk=>exact q
 | cont=>exact q
theorem qA7 (h1:PS X st t):PSs X [st] t:=by
 intro pins s σ H D I h
 refine wpAny_execs_cons (thn (h1 pins s σ H D I h) fun f s1 q => ?_)
 cases f with
 | next=>exact wpAny_execs_nil q
 | ret v=>exact q
 | brk=>exact q
 | cont=>exact q
theorem Inv.quiet {pins:List (Addr×Obj)} {σ : St} {H:Hp} {s:Shared} (I:Inv X pins σ H s):interactive X.env=false:=by simp [interactive,I.ok.kind]
def tDrop (te:TE):TS:=fun D σ H=>te σ H fun _ H1=>D.nx σ H1
theorem qBe (he:PE X e te) (hs:swapsWith e none pos.line X.env=pure false:=by rfl):PS X (.Expr e pos) (tDrop te):=by
 intro pins s σ H D I h
 refine wpAny_Expr_any (thn (he pins s σ H _ I h) fun v s1 hq_ => ?_) I.quiet hs
 obtain⟨x,H1,I1,r1,q1⟩:=hq_
 exact⟨σ,H1,I1,q1⟩
def tRet (te:TE):TS:=fun D σ H=>te σ H D.rt
theorem qAk (he:PE X e te):PS X (.Return (some e) pos) (tRet te):=by
 intro pins s σ H D I h
 refine wpAny_Return_some (thn (he pins s σ H _ I h) fun v s1 hq_ => ?_)
 obtain⟨x,H1,I1,r1,q1⟩:=hq_
 exact⟨x,σ,H1,I1,r1,q1⟩
def tIfS (c:TT) (t u:TS):TS:=fun D σ H=>c σ H fun b H1=>if b=true then t D σ H1 else u D σ H1
theorem qBa {c:Expr} {a b:List Stmt} {tc:TT} (hc:PT X c tc) (ha:PSs X a t) (hb:PSs X b u):PS X (.If c a b pos) (tIfS tc t u):=by
 intro pins s σ H D I h
 refine wpAny_If (thn (hc pins s σ H _ I h) fun d s1 hq_ => ?_)
 obtain⟨H1,I1,q1⟩:=hq_
 cases d with
 | true=>exact ha pins s1 σ H1 D I1 q1
 | false=>exact hb pins s1 σ H1 D I1 q1
end
abbrev TG:=V->St->Hp->(St->Hp->Prop)->Prop
abbrev TGs:=List V->St->Hp->(St->Hp->Prop)->Prop
def PG (X:Cx) (target:Expr) (t:TG):Prop :=
 ∀(pins:List (Addr×Obj)) (s:Shared) (σ : St) (H:Hp) (v:V) (u:Value) (Q:St->Hp->Prop),Inv X pins σ H s->RelV v u->t v σ H Q ->
  wpAny (model X.prog X.w) X.A (assign target X.env u) (fun _ s' => ∃ σ' H',Inv X pins σ' H' s'/\Q σ' H') X.xe s
def PGs (X:Cx) (ts:List Expr) (t:TGs):Prop :=
 ∀(pins:List (Addr×Obj)) (s:Shared) (σ : St) (H:Hp) (vs:List V) (us:List Value) (Q:St->Hp->Prop),Inv X pins σ H s->Vals vs us->t vs σ H Q ->
  wpAny (model X.prog X.w) X.A (assignInOrder ((assignEach ts X.env).map (·.2)) us) (fun _ s' => ∃ σ' H',Inv X pins σ' H' s'/\Q σ' H') X.xe s
abbrev TSet:=V->V->V->Hp->(Hp->Prop)->Prop
def PSet (X:Cx) (t:TSet):Prop :=
 ∀(pins:List (Addr×Obj)) (s:Shared) (σ : St) (H:Hp) (o i v:V) (ov iv u:Value) (Q:Hp->Prop),Inv X pins σ H s->RelV o ov->RelV i iv->RelV v u->t o i v H Q ->
  wpAny (model X.prog X.w) X.A (setItem ov iv u) (fun _ s' => ∃H',Inv X pins σ H' s'/\Q H') X.xe s
abbrev TIp:=V->V->Hp->VK->Prop
def PIp (X:Cx) (op:Operator) (t:TIp):Prop :=
 ∀(pins:List (Addr×Obj)) (s:Shared) (σ : St) (H:Hp) (x y:V) (v u:Value) (Q:VK),Inv X pins σ H s->RelV x v->RelV y u->t x y H Q ->
  wpAny (model X.prog X.w) X.A (inplaceOp op v u) (EP X pins σ Q) X.xe s
section
variable {X:Cx} {pos:Pos}
def gName (i:Nat):TG:=fun v σ H Q=>Q (σ.set i (some v)) H
theorem qAg {i:Nat} {x:Str} (hN:X.N.Nodup) (hi:X.N[i]? = some x) (hx:Loc X.env.scope x) (hf:X.fn x=true\/X.env.scope.names.lookup x=some .local:=by first | exact .inl rfl | exact .inr rfl | assumption):PG X (.Name x pos) (gName i):=by
 intro pins s σ H v u Q I r h
 exact wpAny_assign_Name (qCq I hN hi hx r (fun s' I'=>⟨_,H,I',h⟩) hf)
def gNil:TGs:=fun vs σ H Q=>vs = []/\Q σ H
def gCons (t:TG) (u:TGs):TGs:=fun vs σ H Q => ∃v r,vs=v::r/\t v σ H fun σ' H'=>u r σ' H' Q
theorem qC6:PGs X [] gNil:=by
 intro pins s σ H vs us Q I r h
 obtain⟨e,h⟩:=h
 subst e
 cases r
 exact assignInOrder_nil ⟨σ,H,I,h⟩
theorem qAs {e:Expr} {es:List Expr} {t:TG} {u:TGs} (h1:PG X e t) (h2:PGs X es u)
  (hs:(assignEach (e::es) X.env).map (·.2)=assign e X.env::(assignEach es X.env).map (·.2):=by rfl):PGs X (e::es) (gCons t u):=by
 intro pins s σ H vs us Q I r h
 obtain⟨v,vr,e1,h⟩:=h
 subst e1
 cases r with
 | cons r rr =>
  rw [hs]
  refine assignInOrder_cons (thn (h1 pins s σ H _ _ _ I r h) fun _ s1 hq_ => ?_)
  obtain⟨σ1,H1,I1,q1⟩:=hq_
  exact h2 pins s1 σ1 H1 _ _ Q I1 rr q1
def gTup (K:PySem.W.Frag) (n:Nat) (t:TGs):TG:=fun v σ H Q => ∃a xs,v = .ref a/\SqT K H a xs/\xs.length=n/\t xs σ H Q
theorem qGk {es:List Expr} {k:Nat} {t:TGs} {n:Nat} (hc:X.calm=true) (h:PGs X es t)
  (hn:(assignEach es X.env).length=n:=by rfl) (hst:(assignEach es X.env).findIdx? (·.1)=none:=by rfl):PG X (.Tuple es k pos) (gTup X.K n t):=by
 intro pins s σ H v u Q I r hw
 obtain⟨a,xs,e1,hq,hl,hw⟩:=hw
 subst e1
 cases r
 obtain⟨its,rv,ht,hz⟩:=I.tuple hq
 refine assign_Tuple_tuple (I.ok.hd hc) ht (by simp [hn,<-hl,rv.length]) hst fun h' hx => ?_
 have I1:Inv X pins σ H { s with heap:=h' }:=I.kept (t':=s.toks) fun b o e=>hx b o (Nat.ne_of_lt (Heap.lt_size e)) e
 exact h pins _ σ H xs _ Q I1 (by simpa using rv) hw
def gSub (to ti:TE) (t:TSet):TG:=fun v σ H Q=>to σ H fun o H1=>ti σ H1 fun i H2=>t o i v H2 fun H3=>Q σ H3
theorem qD6 {o i:Expr} {to ti:TE} {t:TSet} (ho:PE X o to) (hi:PE X i ti) (hs:PSet X t)
  (ha : ∀v,assign (.Subscript o i pos) X.env v=(do
   let ov <-holding [v] (eval o X.env)
   let iv <-holding [v,ov] (eval i X.env)
   standAt pos
   holding [v,ov,iv] (setItem ov iv v)
   release [v,ov,iv] []):=by intro _;rfl):PG X (.Subscript o i pos) (gSub to ti t):=by
 intro pins s σ H v u Q I r h
 rw [ha]
 refine wpAny_bind (wpAny_holding (thn (ho pins s σ H _ I h) fun ov s1 hq_ => ?_))
 obtain⟨x,H1,I1,r1,q1⟩:=hq_
 refine wpAny_bind (wpAny_holding (thn (hi pins s1 σ H1 _ I1 q1) fun iv s2 hq_ => ?_))
 obtain⟨y,H2,I2,r2,q2⟩:=hq_
 refine wpAny_bind (wpAny_standAt (wpAny_bind (wpAny_holding (thn (hs pins s2 σ H2 x y v ov iv u _ I2 r1 r2 r q2) fun _ s3 hq_ => ?_))))
 obtain⟨H3,I3,q3⟩:=hq_
 exact wpAny_release ⟨σ,H3,I3,q3⟩
def tAsg (te:TE) (g:TG):TS:=fun D σ H=>te σ H fun x H1=>g x σ H1 D.nx
theorem qCy {tg e:Expr} {te:TE} {g:TG} (he:PE X e te) (hg:PG X tg g) (hs:swapsWithSole [tg] e pos.line X.env=pure false:=by rfl) (hw:swappedStores [tg] e X.env=pure none:=by rfl)
  (h1:(assignEach [tg] X.env).map (·.2) = [assign tg X.env]:=by rfl):PS X (.Assign [tg] e pos) (tAsg te g):=by
 intro pins s σ H D I h
 refine wpAny_Assign_stores (thn (he pins s σ H _ I h) fun v s1 hq_ => ?_) hs hw
 obtain⟨x,H1,I1,r1,q1⟩:=hq_
 rw [h1]
 exact thn (hg pins s1 σ H1 x v _ I1 r1 q1) fun _ s2 q=>q
theorem qAe {i:Nat} {x:Str} {e:Expr} {te:TE} {pos':Pos} (hN:X.N.Nodup) (hi:X.N[i]? = some x) (hx:Loc X.env.scope x) (he:PE X e te) (hs:swapsWith e (some (.Name x pos')) pos.line X.env=pure false:=by rfl) (hf:X.fn x=true\/X.env.scope.names.lookup x=some .local:=by first | exact .inl rfl | exact .inr rfl | assumption) :
  PS X (.Assign [.Name x pos'] e pos) (tAsg te (gName i)):=by
 intro pins s σ H D I h
 refine wpAny_Assign_Name (thn (he pins s σ H _ I h) fun v s1 hq_ => ?_) hs
 obtain⟨y,H1,I1,r1,q1⟩:=hq_
 exact qCq I1 hN hi hx r1 (fun s2 I2=>⟨_,H1,I2,q1⟩) hf
def tPar (i j:Nat) (ta:TA):TS:=fun D σ H=>ta σ H fun vs H1 => ∃v w,vs = [v,w]/\D.nx ((σ.set i (some v)).set j (some w)) H1
theorem qK6 {i j:Nat} {x y:Str} {a b:Expr} {ta:TA} {px py pt:Pos} {kt k2 pt2} (hc:X.calm=true) (hN:X.N.Nodup) (hi:X.N[i]? = some x) (hj:X.N[j]? = some y) (hij:i≠j)
  (hx:X.env.scope.names.lookup x=some .local) (hy:X.env.scope.names.lookup y=some .local) (ha:PA X [a,b] ta)
  (hw:swappedStores [.Tuple [.Name x px,.Name y py] kt pt] (.Tuple [a,b] k2 pt2) X.env=pure (some [x,y]))
  (hs:swapsWithSole [.Tuple [.Name x px,.Name y py] kt pt] (.Tuple [a,b] k2 pt2) pos.line X.env=pure false:=by rfl) :
  PS X (.Assign [.Tuple [.Name x px,.Name y py] kt pt] (.Tuple [a,b] k2 pt2) pos) (tPar i j ta):=by
 intro pins s σ H D I h
 rw [exec_Assign_arm]
 refine wpAny_bind (wpAny_standAt ?_)
 rw [hs]
 refine wpAny_bind (wpAny_pure ?_)
 rw [if_neg (by decide)]
 refine wpAny_bind (Tuple_ (thn (ha _ pins s σ H _ I h) fun us s1 hq_ => ?_))
 obtain⟨vs,H1,I1,r1,q1⟩:=hq_
 obtain⟨v,w,e1,q1⟩:=q1
 subst e1
 obtain⟨u1,u2,rfl,rv,rw'⟩ : ∃u1 u2,us = [u1,u2]/\RelV v u1/\RelV w u2:=by
  cases r1 with
  | cons p q =>
   cases q with
   | cons p' q' =>
    cases q'
    exact⟨_,_,rfl,p,p'⟩
 refine wpAny_newObj_type ?_ (by show 2<=sizeLine;decide)
 have I2:Inv X pins σ H1 { s1 with heap:=s1.heap.push { cls :=.type "tuple",data :=.seq [u1,u2].toArray } }:=I1.kept (t':=s1.toks) fun b o e=>Heap.get?_push_of_some _ e
 rw [hw]
 refine wpAny_bind (wpAny_pure ?_)
 show wpAny (model X.prog X.w) X.A (do rule "assign.swapped-stores";let items <-unpackItems (.ref s1.heap.objs.size) 2 none;assignInOrder [fun v=>bindName X.env y v,fun v=>bindName X.env x v] items.reverse;pure Flow.next) _ _ _
 refine wpAny_bind (wpAny_rule (wpAny_bind (unpackItems_tuple (items := #[u1,u2]) (I.ok.hd hc) (IsTup.new s1.heap _) fun h' hx' => ?_)))
 have I3:=I2.kept (h':=h') (t':=s1.toks) fun b o e=>hx' b o (Nat.ne_of_lt (Heap.lt_size e)) e
 show wpAny _ _ (assignInOrder [fun v=>bindName X.env y v,fun v=>bindName X.env x v] [u2,u1] >>= fun _=>pure Flow.next) _ _ _
 refine wpAny_bind (assignInOrder_cons (wpAny_bindName (qCq I3 hN hj (.inl hy) rw' (fun s2 I4 => ?_) (.inr hy))))
 refine assignInOrder_cons (wpAny_bindName (qCq I4 hN hi (.inl hx) rv (fun s3 I5=>assignInOrder_nil (wpAny_pure ?_)) (.inr hx)))
 rw [List.set_comm _ _ (Ne.symm hij)] at I5
 exact⟨_,H1,I5,q1⟩
def tAugS (to ti te:TE) (tget:V->V->Hp->VK->Prop) (tip:TIp) (tset:TSet):TS:=fun D σ H=>to σ H fun o H1=>ti σ H1 fun i H2=>tget o i H2 fun x H3=>te σ H3 fun y H4=>tip x y H4 fun z H5=>tset o i z H5 fun H6=>D.nx σ H6
def PGet (X:Cx) (t:V->V->Hp->VK->Prop):Prop :=
 ∀(pins:List (Addr×Obj)) (s:Shared) (σ : St) (H:Hp) (o i:V) (ov iv:Value) (Q:VK),Inv X pins σ H s->RelV o ov->RelV i iv->t o i H Q ->
  wpAny (model X.prog X.w) X.A (getItem ov iv) (EP X pins σ Q) X.xe s
theorem qS5 {o i e:Expr} {to ti te:TE} {tget:V->V->Hp->VK->Prop} {tip:TIp} {tset:TSet} {op:Operator} {tpos:Pos} (ho:PE X o to) (hi:PE X i ti) (hg:PGet X tget) (he:PE X e te) (hp:PIp X op tip) (hs:PSet X tset)
  (ha : ∀ov iv new,augStore i ov iv new=(do holding [new,ov,iv] (setItem ov iv new);release [new,ov,iv] [];pure .next):=by intros;rfl):PS X (.AugAssign (.Subscript o i tpos) op e pos) (tAugS to ti te tget tip tset):=by
 intro pins s σ H D I h
 refine wpAny_AugAssign_SubscriptAny (thn (ho pins s σ H _ I h) fun ov s1 hq_ => ?_) ha
 obtain⟨x1,H1,I1,r1,q1⟩:=hq_
 refine thn (hi pins s1 σ H1 _ I1 q1) fun iv s2 hq_ => ?_
 obtain⟨x2,H2,I2,r2,q2⟩:=hq_
 refine thn (hg pins s2 σ H2 x1 x2 ov iv _ I2 r1 r2 q2) fun old s3 hq_ => ?_
 obtain⟨x3,H3,I3,r3,q3⟩:=hq_
 refine thn (he pins s3 σ H3 _ I3 q3) fun v s4 hq_ => ?_
 obtain⟨x4,H4,I4,r4,q4⟩:=hq_
 refine thn (hp pins s4 σ H4 x3 x4 old v _ I4 r3 r4 q4) fun new s5 hq_ => ?_
 obtain⟨x5,H5,I5,r5,q5⟩:=hq_
 refine thn (hs pins s5 σ H5 x1 x2 x5 ov iv new _ I5 r1 r2 r5 q5) fun _ s6 hq_ => ?_
 obtain⟨H6,I6,q6⟩:=hq_
 exact⟨σ,H6,I6,q6⟩
def ipI (f:Int->Int->Int):TIp:=fun x y H Q => ∃i j,x = .int i/\y = .int j/\Q (.int (f i j)) H
theorem qVc:PIp X .Add (ipI fun i j=>i+j):=by
 intro pins s σ H x y v u Q I r1 r2 h
 obtain⟨i,j,e1,e2,q⟩:=h
 subst e1;subst e2
 obtain⟨t,rfl⟩:=r1
 obtain⟨t',rfl⟩:=r2
 exact iadd_int ⟨.int _,H,I.tok _,⟨_,rfl⟩,q⟩
end
section
variable {X:Cx} {pos:Pos}
def qTi (c:TT) (tb:TS):TS:=fun D σ H => ∃W:Nat->St->Hp->Prop,(∃m,W m σ H) /\ ∀m σ H,W m σ H ->
 c σ H fun b H1=>if b=true then ∃N:St->Hp->Prop,(∀ σ' H',N σ' H' -> ∃m',m'<m/\W m' σ' H')/\tb { D with nx:=N,ct:=N,bk:=D.nx } σ H1 else D.nx σ H1
theorem qK5 {c:Expr} {body:List Stmt} {tc:TT} {tb:TS} (hp:PassesOwn (model X.prog X.w) X.A X.env X.xe) (hc:PT X c tc) (hb:PSs X body tb):PS X (.While c body [] pos) (qTi tc tb):=by
 intro pins s σ H D I h
 obtain⟨W,⟨m0,w0⟩,turn⟩:=h
 refine wpAny_While (codeAny_whileLoop (fun n s' => ∃ σ' H',Inv X pins σ' H' s'/\W n σ' H') ?_ m0 ⟨σ,H,I,w0⟩)
 rintro n s1 ⟨σ1,H1,I1,w1⟩
 refine wpAny_passesOwn hp (thn (hc pins s1 σ1 H1 _ I1 (turn n σ1 H1 w1)) fun b s2 hq_ => ?_)
 obtain⟨H2,I2,q2⟩:=hq_
 cases b with
 | true =>
  obtain⟨N,hN,q2⟩:=q2
  rw [if_pos rfl]
  refine wpAny_passesOwn hp (thn (hb pins s2 σ1 H2 _ I2 q2) fun f s3 q3 => ?_)
  cases f with
  | next =>
   obtain⟨σ3,H3,I3,n3⟩:=q3
   obtain⟨m',hm,w3⟩:=hN σ3 H3 n3
   exact⟨m',hm,σ3,H3,I3,w3⟩
  | cont =>
   obtain⟨σ3,H3,I3,n3⟩:=q3
   obtain⟨m',hm,w3⟩:=hN σ3 H3 n3
   exact⟨m',hm,σ3,H3,I3,w3⟩
  | brk=>exact q3
  | ret v=>exact q3
 | false =>
  rw [if_neg Bool.false_ne_true]
  exact wpAny_execs_nil ⟨σ1,H2,I2,q2⟩
end
structure It where
 go:Nat->Hp->Prop
 yld:Nat->Hp->V->Hp->Prop
 stop:Nat->Hp->Prop
def FpOk (X:Cx) (pins:List (Addr×Obj)) (H:Hp) (b:Addr):Prop :=
 H b=none/\b≠X.env.locals/\b∉X.fs/\(b∈X.ex\/X.s₀.heap.objs.size<=b)/\(∀x c,X.env.cells.lookup x=some c->c≠b) /\ ∀p∈X.pn++pins,p.1≠b
theorem Inv.fpOk {X:Cx} {pins:List (Addr×Obj)} {σ : St} {H H':Hp} {s:Shared} {b:Addr} (I:Inv X pins σ H s) (hb:s.heap.objs.size<=b) (hn:H' b=none):FpOk X pins H' b:=by
 refine⟨hn,Nat.ne_of_gt (Nat.lt_of_lt_of_le I.lt hb),I.nofs hb,.inr (Nat.le_trans I.sz hb),fun x c e z => ?_,fun p hp z => ?_⟩
 ·obtain⟨v,q⟩:=I.cell x c e
  exact absurd (Nat.lt_of_lt_of_le q.lt (by rw [z];exact hb)) (Nat.lt_irrefl _)
 ·exact absurd (Nat.lt_of_lt_of_le (Heap.lt_size (I.pin p hp).1) (by rw [z];exact hb)) (Nat.lt_irrefl _)
structure Turn (P:Program) (w:World) (K:PySem.W.Frag) (tg:Expr) (J:It) (fp:List Addr) (it:Addr) (tn:Nat->Heap->Prop):Prop where
 mem:it∈fp
 obj : ∀i h,tn i h -> ∀b∈fp,∃o,h.get? b=some o /\ ∀v,o.data ≠ .cell v
 keep : ∀i h h',tn i h->(∀b∈fp,∀o,h.get? b=some o->h'.get? b=some o)->tn i h'
 item : ∀(X:Cx),X.prog=P->X.w=w->X.K=K->X.calm=true -> ∀(i:Nat) (pins:List (Addr×Obj)) (s:Shared) (σ : St) (H:Hp) (E:Value->Shared->Prop),Inv X pins σ H s->(∀b∈fp,FpOk X pins H b)->tn i s.heap->J.go i H ->
  wpAny (model P w) X.A (pyNext (.ref it)) (fun r s1 => ∃u,r=some u /\
   wpAny (model P w) X.A (letOwnedTupleGo tg (.ref it) u) (fun _ s2 => ∃x H',Inv X pins σ H' s2/\RelV x u/\J.yld i H x H'/\tn (i+1) s2.heap /\ ∀b∈fp,H' b=none) E s1) E s
 done : ∀(X:Cx),X.prog=P->X.w=w->X.K=K->X.calm=true -> ∀(i:Nat) (pins:List (Addr×Obj)) (s:Shared) (σ : St) (H:Hp) (E:Value->Shared->Prop),Inv X pins σ H s->(∀b∈fp,FpOk X pins H b)->tn i s.heap->J.stop i H ->
  wpAny (model P w) X.A (pyNext (.ref it)) (fun r s1=>r=none/\Inv X pins σ H s1) E s
 self : ∀(A:Around) (i:Nat) (s:Shared) (Q:Value->Shared->Prop) (E:Value->Shared->Prop),tn i s.heap->Q (.ref it) s->wpAny (model P w) A (pyIter (.ref it)) Q E s
abbrev TI:=St->Hp->(It->Hp->Prop)->Prop
def PIE (X:Cx) (pins:List (Addr×Obj)) (σ : St) (tg:Expr) (R:It->Hp->Prop) (itv:Value) (s2:Shared):Prop :=
 ∃(it:Addr) (fp:List Addr) (tn:Nat->Heap->Prop) (J:It) (H':Hp),itv = .ref it/\Inv X pins σ H' s2/\Turn X.prog X.w X.K tg J fp it tn/\tn 0 s2.heap/\(∀b∈fp,FpOk X pins H' b)/\R J H'
def PI (X:Cx) (tg iter:Expr) (wi:TI):Prop :=
 ∀(pins:List (Addr×Obj)) (s:Shared) (σ : St) (H:Hp) (R:It->Hp->Prop),Inv X pins σ H s->wi σ H R ->
  wpAny (model X.prog X.w) X.A (eval iter X.env) (fun v s1=>wpAny (model X.prog X.w) X.A (pyIter v) (PIE X pins σ tg R) X.xe s1) X.xe s
theorem qT4 {M:Model} {A:Around} {E:Value->Shared->Prop} {s:Shared} {tg:Expr} {it:Addr} {u:Value} {o:Obj} {n:String} {vs:Array Value} {Q:Unit->Shared->Prop} (ho:s.heap.get? it=some o) (hc:o.cls = .type n) (hd:o.data = .fields vs)
  (hn : ["enumerate","zip","dict_itemiterator","dict_reverseitemiterator","odict_iterator","itertools.zip_longest","itertools.pairwise"].contains n=false) (hQ:Q () s):wpAny M A (letOwnedTupleGo tg (.ref it) u) Q E s:=by
 unfold letOwnedTupleGo
 cases tg <;> first
  | exact wpAny_pure hQ
  | (cases u <;> first
    | exact wpAny_pure hQ
    | (refine wpAny_bind (wpAny_load ho ?_)
       rw [hc,hd]
       show wpAny M A (if (["enumerate","zip","dict_itemiterator","dict_reverseitemiterator","odict_iterator","itertools.zip_longest","itertools.pairwise"].contains n&&vs[0]? == some (rawInt _))=true then _ else _) Q E s
       rw [if_neg (by intro h;rw [hn,Bool.false_and] at h;cases h)]
       exact wpAny_pure hQ))
def Itl (K:PySem.W.Frag) (a:Addr):It :=
 ⟨fun i H => ∃xs x,SqL K H a xs/\xs[i]? = some x,fun i H x H'=>H'=H /\ ∀xs,SqL K H a xs->xs[i]? = some x,fun i H => ∃xs,SqL K H a xs/\xs.length<=i⟩
def Itt (K:PySem.W.Frag) (a:Addr):It :=
 ⟨fun i H => ∃xs x,SqT K H a xs/\xs[i]? = some x,fun i H x H'=>H'=H /\ ∀xs,SqT K H a xs->xs[i]? = some x,fun i H => ∃xs,SqT K H a xs/\xs.length<=i⟩
def Itr (lo:Int) (n:Nat):It:=⟨fun i _=>i<n,fun i H x H'=>H'=H/\x = .int (lo+i),fun i _=>n<=i⟩
theorem qLn {P:Program} {w:World} {K:PySem.W.Frag} {tg:Expr} (a it:Addr):Turn P w K tg (Itl K a) [it] it (fun i h=>h.IsListIter it a i) where
 mem:=by simp
 obj:=fun i h st b hb=>by
  have e:b=it:=by simpa using hb
  subst e
  obtain⟨o,e,c,d⟩:=st
  exact⟨o,e,fun v z=>by rw [d] at z;cases z⟩
 keep:=fun i h h' st k=>st.at fun o e=>k it (by simp) o e
 item:=by
  intro X hP hw hK hc i pins s σ H E I hf st hg
  subst hP hw hK
  obtain⟨xs,x,hq,hx⟩:=hg
  obtain⟨its,rv,p,hz⟩:=I.list hq
  obtain⟨u,hu,ru⟩:=rv.get hx
  obtain⟨f0,f1,f2,f3,f4,f5⟩:=hf it (by simp)
  refine wpAny_pyNext_list_item st p.isList (x:=u) (by simpa using hu) fun h' st' sb => ?_
  have I1:Inv X pins σ H { s with heap:=h' }:=I.turned (t':=s.toks) (fun b o hb e=>(sb.2 b hb).trans e) f0 f1 f3 f4 f5
  obtain⟨o,e,c,d⟩:=id st'
  exact⟨u,rfl,qT4 (s :={ s with heap:=h' }) e c d (by decide) ⟨x,H,I1,ru,⟨rfl,fun ys hy=>by rw [I.list_inj hy hq];exact hx⟩,st',fun b hb=>(hf b hb).1⟩⟩
 done:=by
  intro X hP hw hK hc i pins s σ H E I hf st hg
  subst hP hw hK
  obtain⟨xs,hq,hx⟩:=hg
  obtain⟨its,rv,p,hz⟩:=I.list hq
  obtain⟨f0,f1,f2,f3,f4,f5⟩:=hf it (by simp)
  have hl:=rv.length
  exact wpAny_pyNext_list_end (I.ok.hd hc) st p.isList (by simp;omega) fun h' eb=>⟨rfl,I.turned (t':=s.toks) (fun b o hb e=>eb b o hb e) f0 f1 f3 f4 f5⟩
 self:=fun _ _ _ _ _ st h=>wpAny_pyIter_listiter st h
theorem qKv {P:Program} {w:World} {K:PySem.W.Frag} {tg:Expr} (a it:Addr):Turn P w K tg (Itt K a) [it] it (fun i h=>h.IsTupleIter it a i) where
 mem:=by simp
 obj:=fun i h st b hb=>by
  have e:b=it:=by simpa using hb
  subst e
  obtain⟨o,e,c,d⟩:=st
  exact⟨o,e,fun v z=>by rw [d] at z;cases z⟩
 keep:=fun i h h' st k=>st.at fun o e=>k it (by simp) o e
 item:=by
  intro X hP hw hK hc i pins s σ H E I hf st hg
  subst hP hw hK
  obtain⟨xs,x,hq,hx⟩:=hg
  obtain⟨its,rv,p,hz⟩:=I.tuple hq
  obtain⟨u,hu,ru⟩:=rv.get hx
  obtain⟨f0,f1,f2,f3,f4,f5⟩:=hf it (by simp)
  refine wpAny_pyNext_tuple_item st (show s.heap.IsTuple a its.toArray from p) (x:=u) (by simpa using hu) fun h' st' sb => ?_
  have I1:Inv X pins σ H { s with heap:=h' }:=I.turned (t':=s.toks) (fun b o hb e=>(sb.2 b hb).trans e) f0 f1 f3 f4 f5
  obtain⟨o,e,c,d⟩:=id st'
  exact⟨u,rfl,qT4 (s :={ s with heap:=h' }) e c d (by decide) ⟨x,H,I1,ru,⟨rfl,fun ys hy=>by rw [I.tuple_inj hy hq];exact hx⟩,st',fun b hb=>(hf b hb).1⟩⟩
 done:=by
  intro X hP hw hK hc i pins s σ H E I hf st hg
  subst hP hw hK
  obtain⟨xs,hq,hx⟩:=hg
  obtain⟨its,rv,p,hz⟩:=I.tuple hq
  obtain⟨f0,f1,f2,f3,f4,f5⟩:=hf it (by simp)
  have hl:=rv.length
  exact wpAny_pyNext_tuple_end (I.ok.hd hc) st (show s.heap.IsTuple a its.toArray from p) (by simp;omega) fun h' eb=>⟨rfl,I.turned (t':=s.toks) (fun b o hb e=>eb b o hb e) f0 f1 f3 f4 f5⟩
 self:=fun _ _ _ _ _ st h=>wpAny_pyIter_tupleiter st h
theorem qKw {P:Program} {w:World} {K:PySem.W.Frag} {tg:Expr} (it:Addr) (lo:Int) (n:Nat):Turn P w K tg (Itr lo n) [it] it (fun i h=>IsRangeIter h it (lo+(i:Nat)*1) ((n:Int) - (i:Nat)) 1) where
 mem:=by simp
 obj:=fun i h st b hb=>by
  have e:b=it:=by simpa using hb
  subst e
  exact⟨_,st,fun v z=>by
   have z':Data.fields _=Data.cell v:=z
   cases z'⟩
 keep:=fun i h h' st k=>k it (by simp) _ st
 item:=by
  intro X hP hw hK hc i pins s σ H E I hf st hg
  subst hP hw hK
  obtain⟨f0,f1,f2,f3,f4,f5⟩:=hf it (by simp)
  have W:=Walks.range (prog:=X.prog) (w:=X.w) (I.ok.hd hc) it lo 1 n
  refine W.item i s _ _ hg st fun v h' tk hv st' kk => ?_
  obtain⟨t,rfl⟩:=hv
  have I1:Inv X pins σ H { s with heap:=h',toks:=tk }:=I.turned (fun b o hb e=>kk b o (by simpa using hb) e) f0 f1 f3 f4 f5
  refine⟨_,rfl,qT4 (s :={ s with heap:=h',toks:=tk }) (n := "range_iterator") st' rfl rfl (by decide) ⟨.int (lo+i),H,I1,⟨t,?_⟩,⟨rfl,rfl⟩,st',fun b hb=>(hf b hb).1⟩⟩
  rw [Int.mul_one]
 done:=by
  intro X hP hw hK hc i pins s σ H E I hf st hg
  subst hP hw hK
  obtain⟨f0,f1,f2,f3,f4,f5⟩:=hf it (by simp)
  exact wpAny_pyNext_range_end (I.ok.hd hc) st (by have:n<=i:=hg;omega) fun h' eb=>⟨rfl,I.turned (t':=s.toks) (fun b o hb e=>eb b o hb e) f0 f1 f3 f4 f5⟩
 self:=fun _ _ _ _ _ st h=>wpAny_pyIter_rangeiter st h
section
variable {X:Cx} {tg:Expr}
def iList (K:PySem.W.Frag) (tl:TE):TI:=fun σ H R=>tl σ H fun x H1 => ∃a,x = .ref a/\(∃xs,SqL K H1 a xs)/\R (Itl K a) H1
def iTup (K:PySem.W.Frag) (tl:TE):TI:=fun σ H R=>tl σ H fun x H1 => ∃a,x = .ref a/\(∃xs,SqT K H1 a xs)/\R (Itt K a) H1
theorem qCs {l:Expr} {tl:TE} (hl:PE X l tl):PI X tg l (iList X.K tl):=by
 intro pins s σ H R I h
 refine thn (hl pins s σ H _ I h) fun v s1 hq_ => ?_
 obtain⟨x,H1,I1,r1,q1⟩:=hq_
 obtain⟨a,e,⟨xs,hq⟩,q⟩:=q1
 subst e
 cases r1
 obtain⟨its,rv,p,hz⟩:=I1.list hq
 refine wpAny_pyIter_list p.isList ?_
 refine⟨s1.heap.objs.size,[s1.heap.objs.size],_,_,H1,rfl,I1.kept (t':=s1.toks) fun b o e=>Heap.get?_push_of_some _ e,qLn a _,⟨_,Heap.get?_push_size _ rfl,rfl,rfl⟩,fun b hb => ?_,q⟩
 have e:b=s1.heap.objs.size:=by simpa using hb
 subst e
 exact I1.fpOk (Nat.le_refl _) (I1.hok.fresh (Nat.le_refl _))
theorem qUm {l:Expr} {tl:TE} (hl:PE X l tl):PI X tg l (iTup X.K tl):=by
 intro pins s σ H R I h
 refine thn (hl pins s σ H _ I h) fun v s1 hq_ => ?_
 obtain⟨x,H1,I1,r1,q1⟩:=hq_
 obtain⟨a,e,⟨xs,hq⟩,q⟩:=q1
 subst e
 cases r1
 obtain⟨its,rv,p,hz⟩:=I1.tuple hq
 refine wpAny_pyIter_tuple (show s1.heap.IsTuple a its.toArray from p) ?_
 refine⟨s1.heap.objs.size,[s1.heap.objs.size],_,_,H1,rfl,I1.kept (t':=s1.toks) fun b o e=>Heap.get?_push_of_some _ e,qKv a _,⟨_,Heap.get?_push_size _ rfl,rfl,rfl⟩,fun b hb => ?_,q⟩
 have e:b=s1.heap.objs.size:=by simpa using hb
 subst e
 exact I1.fpOk (Nat.le_refl _) (I1.hok.fresh (Nat.le_refl _))
theorem qOj {pins:List (Addr×Obj)} {σ : St} {H:Hp} {s:Shared} {R:It->Hp->Prop} {E:Value->Shared->Prop} {lo hi:Int} {t u v:Tok} {tk:Nat} (I:Inv X pins σ H s) (h1 : -(2^62)<=lo) (h2:lo<2^62) (h3 : -(2^62)<=hi) (h4:hi<2^62)
  (q:R (Itr lo (hi - lo).toNat) H):wpAny (model X.prog X.w) X.A (pyIter (.ref s.heap.objs.size)) (PIE X pins σ tg R) E { s with heap:=s.heap.push { cls :=.type "range",data :=.fields #[.int lo t,.int hi u,.int 1 v] },toks:=tk }:=by
 refine wpAny_pyIter_range (IsRange.new ..) (small_one h1 h2 h3 h4) ?_
 have I1:Inv X pins σ H { s with heap:=s.heap.push { cls :=.type "range",data :=.fields #[.int lo t,.int hi u,.int 1 v] },toks:=tk }:=I.kept fun b o e=>Heap.get?_push_of_some _ e
 refine⟨(s.heap.push { cls :=.type "range",data :=.fields #[.int lo t,.int hi u,.int 1 v] }).objs.size,[(s.heap.push { cls :=.type "range",data :=.fields #[.int lo t,.int hi u,.int 1 v] }).objs.size],_,_,H,rfl,
  I1.kept (t':=tk) fun b o e=>Heap.get?_push_of_some _ e,qKw _ lo (hi - lo).toNat,?_,fun b hb => ?_,q⟩
 ·have e1:lo+((0:Nat):Int)*1=lo:=by simp
  have e2:(((hi - lo).toNat:Nat):Int) - ((0:Nat):Int)=Builtin.Range.rangeSize lo hi 1:=by rw [rangeSize_one];split <;> omega
  show IsRangeIter _ _ (lo+((0:Nat):Int)*1) ((((hi - lo).toNat:Nat):Int) - ((0:Nat):Int)) 1
  rw [e1,e2]
  exact Heap.get?_push_size _ rfl
 ·have e:b=(s.heap.push { cls :=.type "range",data :=.fields #[.int lo t,.int hi u,.int 1 v] }).objs.size:=by simpa using hb
  subst e
  exact I1.fpOk (Nat.le_refl _) (I1.hok.fresh (Nat.le_refl _))
def iRng1 (ta:TA):TI:=fun σ H R=>ta σ H fun vs H1 => ∃j:Int,vs = [.int j] /\ -(2^62)<=j/\j<2^62/\R (Itr 0 j.toNat) H1
theorem qBj {a:Expr} {ta:TA} {p pos:Pos} (hg:Gl X "range") (hm:X.mg "range" = none) (ha:PA X [a] ta) (hs:starEach [a] X.env = [(false,eval a X.env)]:=by rfl):PI X tg (.Call (.Name "range" p) [a] [] pos) (iRng1 ta):=by
 intro pins s σ H R I h
 refine Call_ (qIc I hg hm boot_range (PyProof.Rows.callWith_type1 (thn (ha pos pins s σ H _ I h) fun us s1 hq_ => ?_) hs rfl))
 obtain⟨vs,H1,I1,r1,q1⟩:=hq_
 obtain⟨j,e,q1,q2,q⟩:=q1
 subst e
 cases r1 with
 | cons r rr =>
  cases rr
  obtain⟨t,rfl⟩:=r
  exact call_range_1 (qOj I1 (by omega) (by omega) q1 q2 (by simpa using q))
def tFor (wi:TI) (g:TG) (tb:TS):TS:=fun D σ H=>wi σ H fun J H1 => ∃W:Nat->Nat->St->Hp->Prop,(∃m,W 0 m σ H1) /\ ∀i m σ H,W i m σ H ->
 (J.stop i H/\D.nx σ H)\/(J.go i H /\ ∃N:St->Hp->Prop,(∀ σ' H',N σ' H' -> ∃m',m'<m/\W (i+1) m' σ' H') /\ ∀x H',J.yld i H x H'->g x σ H' fun σ2 H2=>tb { D with nx:=N,ct:=N,bk:=D.nx } σ2 H2)
def qHx (fp:List Addr) (h:Heap):List (Addr×Obj):=fp.filterMap fun b=>(h.get? b).map fun o=>(b,o)
theorem qDi {fp:List Addr} {h:Heap} {b:Addr} {o:Obj} (hb:b∈fp) (e:h.get? b=some o):(b,o)∈qHx fp h:=List.mem_filterMap.mpr ⟨b,hb,by rw [e];rfl⟩
theorem qMy {fp:List Addr} {h:Heap} {p:Addr×Obj} (hp:p∈qHx fp h):p.1∈fp/\h.get? p.1=some p.2:=by
 obtain⟨b,hb,e⟩:=List.mem_filterMap.mp hp
 cases q:h.get? b with
 | none=>rw [q] at e;cases e
 | some o =>
  rw [q] at e
  have e':(b,o)=p:=Option.some.inj e
  subst e'
  exact⟨hb,q⟩
theorem Inv.pinned {pins:List (Addr×Obj)} {σ : St} {H:Hp} {s:Shared} {fp:List Addr} (I:Inv X pins σ H s) (hf : ∀b∈fp,FpOk X pins H b) (ho : ∀b∈fp,∃o,s.heap.get? b=some o /\ ∀v,o.data ≠ .cell v):Inv X (pins++qHx fp s.heap) σ H s :=
 I.pins_of fun p hp=>(List.mem_append.mp hp).elim (fun z=>I.pin p (List.mem_append_right _ z)) fun z=>by
  obtain⟨hb,e⟩:=qMy z
  obtain⟨f0,f1,f2,_⟩:=hf p.1 hb
  obtain⟨o,e',d⟩:=ho p.1 hb
  rw [e] at e';cases e'
  exact⟨e,f0,f1,f2,d⟩
theorem Inv.unpinned {pins pl:List (Addr×Obj)} {σ : St} {H:Hp} {s:Shared} (I:Inv X (pins++pl) σ H s):Inv X pins σ H s:=I.pins_of fun p hp=>I.pin p (List.mem_append_right _ (List.mem_append_left _ hp))
theorem qD5 {iter:Expr} {body:List Stmt} {wi:TI} {g:TG} {tb:TS} {pos:Pos} (hp:PassesOwn (model X.prog X.w) X.A X.env X.xe) (hc:X.calm=true) (hi:PI X tg iter wi) (hg:PG X tg g) (hb:PSs X body tb)
  (hs : ∀x,foldedSetIterable iter X.env x=pure x:=by intro _;rfl):PS X (.For tg iter body [] pos) (tFor wi g tb):=by
 intro pins s σ H D I h
 refine wpAny_For (thn (hi pins s σ H _ I h) fun v s1 h1=>thn h1 fun itv s2 h2 => ?_) hs
 obtain⟨it,fp,tn,J,H2,e,I2,T,st2,f2,W,⟨m0,w0⟩,turn⟩:=h2
 subst e
 have stat : ∀ {H':Hp},(∀b∈fp,H' b=none) -> ∀b∈fp,FpOk X pins H' b:=fun hn b hb=>⟨hn b hb,(f2 b hb).2⟩
 refine codeAny_forLoop_any (fun n s' => ∃i σ' H',Inv X pins σ' H' s'/\tn i s'.heap/\(∀b∈fp,H' b=none)/\W i n σ' H') ?_ m0 ⟨0,σ,H2,I2,st2,fun b hb=>(f2 b hb).1,w0⟩
 rintro n s3 ⟨i,σ3,H3,I3,st3,fr3,w3⟩
 rcases turn i n σ3 H3 w3 with ⟨stop,qn⟩ | ⟨go,N,hN,step⟩
 ·refine wpAny_passesOwn hp (thn (T.done X rfl rfl rfl hc i pins s3 σ3 H3 X.xe I3 (stat fr3) st3 stop) fun r s4 hq_ => ?_)
  obtain⟨hr,I4⟩:=hq_
  subst hr
  exact wpAny_execs_nil ⟨σ3,H3,I4,qn⟩
 ·refine wpAny_passesOwn hp (thn (T.item X rfl rfl rfl hc i pins s3 σ3 H3 X.xe I3 (stat fr3) st3 go) fun r s4 hq_ => ?_)
  obtain⟨u,hr,h4⟩:=hq_
  subst hr
  refine wpAny_passesOwn hp (thn h4 fun _ s5 hq_ => ?_)
  obtain⟨x,H5,I5,r5,y5,st5,fr5⟩:=hq_
  have I5':=I5.pinned (stat fr5) (T.obj _ _ st5)
  refine wpAny_passesOwn hp (thn (hg _ s5 σ3 H5 x u _ I5' r5 (step x H5 y5)) fun _ s6 hq_ => ?_)
  obtain⟨σ6,H6,I6,q6⟩:=hq_
  refine wpAny_passesOwn hp (thn (hb _ s6 σ6 H6 _ I6 q6) fun f s7 q7 => ?_)
  have again : ∀ {σ7:St} {H7:Hp},Inv X (pins++qHx fp s5.heap) σ7 H7 s7->N σ7 H7 -> ∃m,m<n /\ ∃i σ' H',Inv X pins σ' H' s7/\tn i s7.heap/\(∀b∈fp,H' b=none)/\W i m σ' H':=fun {σ7 H7} I7 n7=>by
   obtain⟨m',hm,w7⟩:=hN σ7 H7 n7
   refine⟨m',hm,i+1,σ7,H7,I7.unpinned,T.keep _ _ _ st5 fun b hb o e=>(I7.pin (b,o) (List.mem_append_right _ (List.mem_append_right _ (qDi hb e)))).1,fun b hb => ?_,w7⟩
   obtain⟨o,e,d⟩:=T.obj _ _ st5 b hb
   exact (I7.pin (b,o) (List.mem_append_right _ (List.mem_append_right _ (qDi hb e)))).2.1
  cases f with
  | next=>obtain⟨σ7,H7,I7,n7⟩:=q7;exact again I7 n7
  | cont=>obtain⟨σ7,H7,I7,n7⟩:=q7;exact again I7 n7
  | brk=>obtain⟨σ7,H7,I7,q7⟩:=q7;exact⟨σ7,H7,I7.unpinned,q7⟩
  | ret v=>obtain⟨x7,σ7,H7,I7,r7,q7⟩:=q7;exact⟨x7,σ7,H7,I7.unpinned,r7,q7⟩
end
theorem qPx {K:PySem.W.Frag} {a:Addr} {xs:List V} {g:TG} {tb:TS} {D:Ends} {σ : St} {H:Hp} (Pv:Nat->St->Hp->Prop) (h0:Pv 0 σ H) (hl : ∀i σ H,i<=xs.length->Pv i σ H->SqL K H a xs)
  (hs : ∀i x σ H,xs[i]? = some x->Pv i σ H->g x σ H fun σ2 H2=>tb { D with nx:=Pv (i+1),ct:=Pv (i+1),bk:=D.nx } σ2 H2) (hd : ∀ σ H,Pv xs.length σ H->D.nx σ H) :
  ∃W:Nat->Nat->St->Hp->Prop,(∃m,W 0 m σ H) /\ ∀i m σ H,W i m σ H ->
   ((Itl K a).stop i H/\D.nx σ H)\/((Itl K a).go i H /\ ∃N:St->Hp->Prop,(∀ σ' H',N σ' H' -> ∃m',m'<m/\W (i+1) m' σ' H') /\ ∀x H',(Itl K a).yld i H x H'->g x σ H' fun σ2 H2=>tb { D with nx:=N,ct:=N,bk:=D.nx } σ2 H2):=by
 refine⟨fun i m σ H=>m=xs.length - i/\i<=xs.length/\Pv i σ H,⟨xs.length,by simp,Nat.zero_le _,h0⟩,?_⟩
 rintro i m σ H ⟨rfl,hi,p⟩
 have q:=hl i σ H hi p
 by_cases hlt:i<xs.length
 ·refine .inr ⟨⟨xs,xs[i],q,by simp [hlt]⟩,Pv (i+1),fun σ' H' p'=>⟨xs.length - (i+1),by omega,rfl,hlt,p'⟩,fun x H' y => ?_⟩
  obtain⟨e,y⟩:=y
  subst e
  exact hs i x σ _ (y xs q) p
 ·have e:i=xs.length:=by omega
  subst e
  exact .inl ⟨⟨xs,q,Nat.le_refl _⟩,hd σ H p⟩
theorem qNd {lo:Int} {n:Nat} {g:TG} {tb:TS} {D:Ends} {σ : St} {H:Hp} (Pv:Nat->St->Hp->Prop) (h0:Pv 0 σ H)
  (hs : ∀i σ H,i<n->Pv i σ H->g (.int (lo+i)) σ H fun σ2 H2=>tb { D with nx:=Pv (i+1),ct:=Pv (i+1),bk:=D.nx } σ2 H2) (hd : ∀ σ H,Pv n σ H->D.nx σ H) :
  ∃W:Nat->Nat->St->Hp->Prop,(∃m,W 0 m σ H) /\ ∀i m σ H,W i m σ H ->
   ((Itr lo n).stop i H/\D.nx σ H)\/((Itr lo n).go i H /\ ∃N:St->Hp->Prop,(∀ σ' H',N σ' H' -> ∃m',m'<m/\W (i+1) m' σ' H') /\ ∀x H',(Itr lo n).yld i H x H'->g x σ H' fun σ2 H2=>tb { D with nx:=N,ct:=N,bk:=D.nx } σ2 H2):=by
 refine⟨fun i m σ H=>m=n - i/\i<=n/\Pv i σ H,⟨n,by simp,Nat.zero_le _,h0⟩,?_⟩
 rintro i m σ H ⟨rfl,hi,p⟩
 by_cases hlt:i<n
 ·refine .inr ⟨hlt,Pv (i+1),fun σ' H' p'=>⟨n - (i+1),by omega,rfl,hlt,p'⟩,fun x H' y => ?_⟩
  obtain⟨e,y⟩:=y
  subst e y
  exact hs i σ _ hlt p
 ·have e:i=n:=by omega
  subst e
  exact .inl ⟨Nat.le_refl _,hd σ H p⟩
abbrev R2:=V->V->Hp->VK->Prop
def OpR (X:Cx) (f:Value->Value->Sem Value) (r:R2):Prop :=
 ∀(pins:List (Addr×Obj)) (s:Shared) (σ : St) (H:Hp) (x y:V) (v u:Value) (Q:VK),Inv X pins σ H s->RelV x v->RelV y u->r x y H Q ->
  wpAny (model X.prog X.w) X.A (f v u) (EP X pins σ Q) X.xe s
def UnR (X:Cx) (f:Value->Sem Value) (r:V->Hp->VK->Prop):Prop :=
 ∀(pins:List (Addr×Obj)) (s:Shared) (σ : St) (H:Hp) (x:V) (v:Value) (Q:VK),Inv X pins σ H s->RelV x v->r x H Q ->
  wpAny (model X.prog X.w) X.A (f v) (EP X pins σ Q) X.xe s
def CallR (X:Cx) (f:Value) (r:List V->Hp->VK->Prop):Prop :=
 ∀(pins:List (Addr×Obj)) (s:Shared) (σ : St) (H:Hp) (xs:List V) (us:List Value) (Q:VK),Inv X pins σ H s->Vals xs us->r xs H Q ->
  wpAny (model X.prog X.w) X.A (call f us) (EP X pins σ Q) X.xe s
def TruR (X:Cx) (r:V->Hp->(Bool->Hp->Prop)->Prop):Prop :=
 ∀(pins:List (Addr×Obj)) (s:Shared) (σ : St) (H:Hp) (x:V) (v:Value) (Q:Bool->Hp->Prop),Inv X pins σ H s->RelV x v->r x H Q ->
  wpAny (model X.prog X.w) X.A (truthy v) (TP X pins σ Q) X.xe s
def tOp (r:R2) (ta tb:TE):TE:=fun σ H Q=>ta σ H fun x H1=>tb σ H1 fun y H2=>r x y H2 Q
def tUn (r:V->Hp->VK->Prop) (ta:TE):TE:=fun σ H Q=>ta σ H fun x H1=>r x H1 Q
def rI (C:Int->Int->Prop) (g:Int->Int->V):R2:=fun x y H Q => ∃i j,x = .int i/\y = .int j/\C i j/\Q (g i j) H
def rI0 (g:Int->Int->V):R2:=fun x y H Q => ∃i j,x = .int i/\y = .int j/\Q (g i j) H
def rU (g:Int->V):V->Hp->VK->Prop:=fun x H Q => ∃i,x = .int i/\Q (g i) H
section
variable {X:Cx} {a b c:Expr} {ta tb tc:TE} {pos:Pos}
theorem binT (ha:PE X a ta) (hb:PE X b tb) {pins:List (Addr×Obj)} {s:Shared} {σ : St} {H:Hp} {R:V->V->Hp->Prop} (I:Inv X pins σ H s)
  (h:ta σ H fun x H1=>tb σ H1 fun y H2=>R x y H2) {Q:Value->Shared->Prop} {f:Value->Value->Sem Value}
  (hf : ∀v u s2 x y H2,Inv X pins σ H2 s2->RelV x v->RelV y u->R x y H2->wpAny (model X.prog X.w) X.A (f v u) Q X.xe s2) :
  wpAny (model X.prog X.w) X.A (eval a X.env) (fun v s₁ =>wpAny (model X.prog X.w) X.A (eval b X.env) (fun u s₂ =>wpAny (model X.prog X.w) X.A (f v u) Q X.xe s₂) X.xe s₁) X.xe s:=by
 refine thn (ha pins s σ H _ I h) fun v s1 hq_ => ?_
 obtain⟨x,H1,I1,r1,q1⟩:=hq_
 refine thn (hb pins s1 σ H1 _ I1 q1) fun u s2 hq_ => ?_
 obtain⟨y,H2,I2,r2,q2⟩:=hq_
 exact hf v u s2 x y H2 I2 r1 r2 q2
theorem qAp {op:Operator} {r:R2} (ho:OpR X (binaryOp op) r) (ha:PE X a ta) (hb:PE X b tb):PE X (.BinOp a op b pos) (tOp r ta tb):=by
 intro pins s σ H Q I h
 exact wpAny_BinOp (binT ha hb I h fun v u s2 x y H2 I2 rx ry q=>ho pins s2 σ H2 x y v u Q I2 rx ry q)
theorem qEu {op:UnaryOp} {r:V->Hp->VK->Prop} (ho:UnR X (unaryOp op) r) (ha:PE X a ta):PE X (.UnaryOp op a pos) (tUn r ta):=by
 intro pins s σ H Q I h
 refine UnaryOp_ (thn (ha pins s σ H _ I h) fun v s1 hq_ => ?_)
 obtain⟨x,H1,I1,r1,q1⟩:=hq_
 exact ho pins s1 σ H1 x v Q I1 r1 q1
theorem opI {f:Value->Value->Sem Value} {C:Int->Int->Prop} {g:Int->Int->Int}
  (rule : ∀(i j:Int) (t u:Tok) (s:Shared) (Q:Value->Shared->Prop) (E:Value->Shared->Prop),C i j->Q (.int (g i j) s.toks) { s with toks:=s.toks+1 }->wpAny (model X.prog X.w) X.A (f (.int i t) (.int j u)) Q E s) :
  OpR X f (rI C fun i j =>.int (g i j)):=by
 intro pins s σ H x y v u Q I rx ry h
 obtain⟨i,j,rfl,rfl,hc,q⟩:=h
 obtain⟨t,rfl⟩:=rx
 obtain⟨t',rfl⟩:=ry
 exact rule i j t t' s _ _ hc ⟨.int (g i j),H,I.tok _,⟨_,rfl⟩,q⟩
theorem opI0 {f:Value->Value->Sem Value} {g:Int->Int->Int}
  (rule : ∀(i j:Int) (t u:Tok) (s:Shared) (Q:Value->Shared->Prop) (E:Value->Shared->Prop),Q (.int (g i j) s.toks) { s with toks:=s.toks+1 }->wpAny (model X.prog X.w) X.A (f (.int i t) (.int j u)) Q E s) :
  OpR X f (rI0 fun i j =>.int (g i j)):=by
 intro pins s σ H x y v u Q I rx ry h
 obtain⟨i,j,rfl,rfl,q⟩:=h
 obtain⟨t,rfl⟩:=rx
 obtain⟨t',rfl⟩:=ry
 exact rule i j t t' s _ _ ⟨.int (g i j),H,I.tok _,⟨_,rfl⟩,q⟩
theorem opB0 {f:Value->Value->Sem Value} {g:Int->Int->Bool}
  (rule : ∀(i j:Int) (t u:Tok) (s:Shared) (Q:Value->Shared->Prop) (E:Value->Shared->Prop),Q (.bool (g i j)) s->wpAny (model X.prog X.w) X.A (f (.int i t) (.int j u)) Q E s) :
  OpR X f (rI0 fun i j =>.bl (g i j)):=by
 intro pins s σ H x y v u Q I rx ry h
 obtain⟨i,j,rfl,rfl,q⟩:=h
 obtain⟨t,rfl⟩:=rx
 obtain⟨t',rfl⟩:=ry
 exact rule i j t t' s _ _ ⟨.bl (g i j),H,I,rfl,q⟩
def CDiv (i j:Int):Prop:=0<j/\j<1073741824
def CPow (i j:Int):Prop:=0<=j/\j<=1000000/\i.natAbs<2^64
def CMul (i j:Int):Prop:=(-(2^64)<i/\i<2^64)\/(-(2^64)<j/\j<2^64)
theorem CMul.ok {i j:Int} (h:CMul i j):IntMulOk i j:=by
 rcases h with ⟨h1,h2⟩ | ⟨h1,h2⟩
 ·exact .of_left (intBits_le_64 h1 h2)
 ·exact .of_right (intBits_le_64 h1 h2)
theorem qAx:OpR X (binaryOp .Add) (rI0 fun i j =>.int (i+j)):=opI0 fun _ _ _ _ _ _ _ q=>add_int q
theorem qGl:OpR X (binaryOp .Sub) (rI0 fun i j =>.int (i - j)):=opI0 fun _ _ _ _ _ _ _ q=>sub_int q
theorem qI1:OpR X (binaryOp .Mult) (rI CMul fun i j =>.int (i*j)):=opI fun _ _ _ _ _ _ _ hc q=>mul_int q hc.ok
theorem qMu:OpR X (binaryOp .FloorDiv) (rI CDiv fun i j =>.int (i / j)):=opI fun i j _ _ _ _ _ hc q=>by
 have h1:(0:Int)<j:=hc.1
 have h2:j<1073741824:=hc.2
 exact floordiv_int (by omega) (by rw [Int.fdiv_eq_ediv_of_nonneg i (by omega)];exact q) (.inl (PyProof.noPylong_small (by omega)))
theorem qE1:OpR X (binaryOp .Mod) (rI (fun _ j=>0<j) fun i j =>.int (i%j)):=opI fun i j _ _ _ _ _ hc q=>by
 have h1:(0:Int)<j:=hc
 exact mod_int' (by omega) (by rw [Int.fmod_eq_emod_of_nonneg i (by omega)];exact q)
theorem qI0:OpR X (binaryOp .Pow) (rI CPow fun i j =>.int (i^j.toNat)):=opI fun _ _ _ _ _ _ _ hc q=>pow_int_small hc.1 hc.2.1 hc.2.2 q
theorem unI {f:Value->Sem Value} {g:Int->Int}
  (rule : ∀(i:Int) (t:Tok) (s:Shared) (Q:Value->Shared->Prop) (E:Value->Shared->Prop),Q (.int (g i) s.toks) { s with toks:=s.toks+1 }->wpAny (model X.prog X.w) X.A (f (.int i t)) Q E s) :
  UnR X f (rU fun i =>.int (g i)):=by
 intro pins s σ H x v Q I rx h
 obtain⟨i,rfl,q⟩:=h
 obtain⟨t,rfl⟩:=rx
 exact rule i t s _ _ ⟨.int (g i),H,I.tok _,⟨_,rfl⟩,q⟩
theorem qCx:UnR X (unaryOp .USub) (rU fun i =>.int (-i)):=unI fun _ _ _ _ _ q=>neg_int q
end
def scal:V->V->Bool
 | .non,.non=>true | .non,.int _=>true | .int _,.non=>true | .non,.bl _=>true | .bl _,.non=>true | .non,.str _=>true | .str _,.non=>true
 | .int _,.int _=>true | .bl _,.bl _=>true | .str _,.str _=>true | .byt _,.byt _=>true
 | .int _,.str _=>true | .str _,.int _=>true | .bl _,.str _=>true | .str _,.bl _=>true
 | _,_=>false
def rEq:R2:=fun x y H Q=>scal x y=true/\Q (.bl (decide (x=y))) H
def rNe:R2:=fun x y H Q=>scal x y=true/\Q (.bl (!decide (x=y))) H
theorem qNj {i j:Int}:decide (V.int i=V.int j)=(i == j):=by
 rw [Bool.eq_iff_iff]
 simp
theorem qR6 {i j:Bool}:decide (V.bl i=V.bl j)=(i == j):=by
 rw [Bool.eq_iff_iff]
 simp
theorem qNi {i j:Str}:decide (V.str i=V.str j)=(i == j):=by
 rw [Bool.eq_iff_iff]
 simp
theorem qNk {i j:Array UInt8}:decide (V.byt i=V.byt j)=(i.toList == j.toList):=by
 rw [Bool.eq_iff_iff]
 cases i
 cases j
 simp
section
variable {X:Cx} {a b c:Expr} {ta tb tc:TE} {pos:Pos}
theorem qB2 {pins:List (Addr×Obj)} {σ : St} {H:Hp} {s:Shared} {Q:VK} {k k':Bool} (I:Inv X pins σ H s) (q:Q (.bl k) H) (e:k=k'):EP X pins σ Q (.bool k') s:=by
 subst e
 exact⟨.bl k,H,I,rfl,q⟩
theorem qBc:OpR X (compareOp .Eq) rEq:=by
 intro pins s σ H x y v u Q I rx ry h
 obtain⟨hs,q⟩:=h
 cases x with
 | non =>
  cases rx
  cases y with
  | non=>cases ry;exact PySem.EqNone.eq_none_none (qB2 I q (by simp))
  | bl j=>cases ry;exact PySem.EqNone.eq_none_bool (qB2 I q (by simp))
  | int j=>obtain⟨t',rfl⟩:=ry;exact PySem.EqNone.eq_none_int (qB2 I q (by simp))
  | str j=>obtain⟨t',rfl⟩:=ry;exact PySem.EqNone.eq_none_str (qB2 I q (by simp))
  | _=>exact absurd (show false=true from hs) Bool.false_ne_true
 | bl i =>
  cases rx
  cases y with
  | non=>cases ry;exact PySem.EqNone.eq_bool_none (qB2 I q (by simp))
  | bl j=>cases ry;exact eq_bool (qB2 I q qR6)
  | str j=>obtain⟨t',rfl⟩:=ry;exact PySem.EqMixed.eq_bool_str (qB2 I q (by simp))
  | _=>exact absurd (show false=true from hs) Bool.false_ne_true
 | int i =>
  obtain⟨t,rfl⟩:=rx
  cases y with
  | non=>cases ry;exact PySem.EqNone.eq_int_none (qB2 I q (by simp))
  | int j=>obtain⟨t',rfl⟩:=ry;exact eq_int (qB2 I q qNj)
  | str j=>obtain⟨t',rfl⟩:=ry;exact PySem.EqMixed.eq_int_str (qB2 I q (by simp))
  | _=>exact absurd (show false=true from hs) Bool.false_ne_true
 | str i =>
  obtain⟨t,rfl⟩:=rx
  cases y with
  | non=>cases ry;exact PySem.EqNone.eq_str_none (qB2 I q (by simp))
  | bl j=>cases ry;exact PySem.EqMixed.eq_str_bool (qB2 I q (by simp))
  | int j=>obtain⟨t',rfl⟩:=ry;exact PySem.EqMixed.eq_str_int (qB2 I q (by simp))
  | str j=>obtain⟨t',rfl⟩:=ry;exact eq_str (qB2 I q qNi)
  | _=>exact absurd (show false=true from hs) Bool.false_ne_true
 | byt i =>
  obtain⟨t,rfl⟩:=rx
  cases y with
  | byt j=>obtain⟨t',rfl⟩:=ry;exact PySem.W.eq_bytes (qB2 I q qNk)
  | _=>exact absurd (show false=true from hs) Bool.false_ne_true
 | _=>cases y <;> exact absurd (show false=true from hs) Bool.false_ne_true
theorem qMt:OpR X (compareOp .NotEq) rNe:=by
 intro pins s σ H x y v u Q I rx ry h
 obtain⟨hs,q⟩:=h
 cases x with
 | non =>
  cases rx
  cases y with
  | non=>cases ry;exact PySem.EqNone.ne_none_none (qB2 I q (by simp))
  | bl j=>cases ry;exact PySem.EqNone.ne_none_bool (qB2 I q (by simp))
  | int j=>obtain⟨t',rfl⟩:=ry;exact PySem.EqNone.ne_none_int (qB2 I q (by simp))
  | str j=>obtain⟨t',rfl⟩:=ry;exact PySem.EqNone.ne_none_str (qB2 I q (by simp))
  | _=>exact absurd (show false=true from hs) Bool.false_ne_true
 | bl i =>
  cases rx
  cases y with
  | non=>cases ry;exact PySem.EqNone.ne_bool_none (qB2 I q (by simp))
  | bl j=>cases ry;exact ne_bool (qB2 I q (congrArg not qR6))
  | str j=>obtain⟨t',rfl⟩:=ry;exact PySem.EqMixed.ne_bool_str (qB2 I q (by simp))
  | _=>exact absurd (show false=true from hs) Bool.false_ne_true
 | int i =>
  obtain⟨t,rfl⟩:=rx
  cases y with
  | non=>cases ry;exact PySem.EqNone.ne_int_none (qB2 I q (by simp))
  | int j=>obtain⟨t',rfl⟩:=ry;exact ne_int (qB2 I q (congrArg not qNj))
  | str j=>obtain⟨t',rfl⟩:=ry;exact PySem.EqMixed.ne_int_str (qB2 I q (by simp))
  | _=>exact absurd (show false=true from hs) Bool.false_ne_true
 | str i =>
  obtain⟨t,rfl⟩:=rx
  cases y with
  | non=>cases ry;exact PySem.EqNone.ne_str_none (qB2 I q (by simp))
  | bl j=>cases ry;exact PySem.EqMixed.ne_str_bool (qB2 I q (by simp))
  | int j=>obtain⟨t',rfl⟩:=ry;exact PySem.EqMixed.ne_str_int (qB2 I q (by simp))
  | str j=>obtain⟨t',rfl⟩:=ry;exact ne_str (qB2 I q (congrArg not qNi))
  | _=>exact absurd (show false=true from hs) Bool.false_ne_true
 | byt i =>
  obtain⟨t,rfl⟩:=rx
  cases y with
  | byt j=>obtain⟨t',rfl⟩:=ry;exact PySem.W.ne_bytes (qB2 I q (congrArg not qNk))
  | _=>exact absurd (show false=true from hs) Bool.false_ne_true
 | _=>cases y <;> exact absurd (show false=true from hs) Bool.false_ne_true
theorem qI2:OpR X (compareOp .Lt) (rI0 fun i j =>.bl (decide (i<j))):=opB0 fun _ _ _ _ _ _ _ q=>lt_int q
theorem qVt:OpR X (compareOp .LtE) (rI0 fun i j =>.bl (decide (i<=j))):=opB0 fun _ _ _ _ _ _ _ q=>le_int q
theorem qSc:OpR X (compareOp .Gt) (rI0 fun i j =>.bl (decide (j<i))):=opB0 fun _ _ _ _ _ _ _ q=>gt_int q
theorem qUv:OpR X (compareOp .GtE) (rI0 fun i j =>.bl (decide (j<=i))):=opB0 fun _ _ _ _ _ _ _ q=>ge_int q
theorem qFl:OpR X (compareOp .IsNot) (fun x y H Q=>y = .non/\Q (.bl (!decide (x = .non))) H):=by
 intro pins s σ H x y v u Q I rx ry h
 obtain⟨rfl,q⟩:=h
 cases ry
 refine isnot_none_gen (qB2 I q ?_)
 cases x <;> first
  | (cases rx;rfl)
  | (obtain⟨t,rfl⟩:=rx;rfl)
theorem qAd (b:Expr) {op:CmpOp} (h:op ≠ .In:=by decide) (h2:op ≠ .NotIn:=by decide):behindInMarks op b=false:=by
 have e1:(op == CmpOp.In)=false:=by cases op <;> first | rfl | exact absurd rfl h
 have e2:(op == CmpOp.NotIn)=false:=by cases op <;> first | rfl | exact absurd rfl h2
 cases b <;> simp [behindInMarks,e1,e2]
theorem qD8 {op:CmpOp} {r:R2} (ho:OpR X (compareOp op) r) (ha:PE X a ta) (hb:PE X b tb) (hm:behindInMarks op b=false):PE X (.Compare a [op] [b] pos) (tOp r ta tb):=by
 intro pins s σ H Q I h
 exact wpAny_Compare1 (binT ha hb I h fun v u s2 x y H2 I2 rx ry q=>ho pins s2 σ H2 x y v u Q I2 rx ry q) hm
def tTest (t:TE):TT:=fun σ H Q=>t σ H fun x H' => ∃k,x = .bl k/\Q k H'
theorem qA9 {op:CmpOp} {r:R2} (ho:OpR X (compareOp op) r) (ha:PE X a ta) (hb:PE X b tb) (hm:behindInMarks op b=false):PT X (.Compare a [op] [b] pos) (tTest (tOp r ta tb)):=by
 intro pins s σ H Q I h
 refine wpAny_isTrue_Compare1 (thn (ha pins s σ H _ I h) fun v s1 hq_ => ?_) hm
 obtain⟨x,H1,I1,r1,q1⟩:=hq_
 refine thn (hb pins s1 σ H1 _ I1 q1) fun u s2 hq_ => ?_
 obtain⟨y,H2,I2,r2,q2⟩:=hq_
 refine thn (ho pins s2 σ H2 x y v u _ I2 r1 r2 q2) fun c s3 hq_ => ?_
 obtain⟨z,H3,I3,r3,k,e,q3⟩:=hq_
 subst e
 cases r3
 exact wpAny_truthy_bool ⟨H3,I3,q3⟩
def TruV (K:PySem.W.Frag) (x:V) (H:Hp) (k:Bool):Prop :=
 match x with
 | .non=>k=false
 | .bl b=>k=b
 | .int i=>k=(i != 0)
 | .str y=>y.length<=sizeLine/\k=((y.length:Int) != 0)
 | .byt y=>y.size<=sizeLine/\k=((y.size:Int) != 0)
 | .ref p=>(∃xs,SqL K H p xs/\k = !xs.isEmpty)\/(∃xs,SqT K H p xs/\k = !xs.isEmpty) \/ ∃kvs,H p=some (.dK kvs)/\k = !kvs.isEmpty
 | _=>False
theorem qLe {κ : Type} {kvs:List (κ × V)} {vs:List (κ × Value)} (r:KV kvs vs):(!vs.isEmpty) = !kvs.isEmpty:=by
 cases r <;> rfl
theorem qGp {xs:List V} {its:List Value} (r:Vals xs its):(!its.toArray.isEmpty) = !xs.isEmpty:=by
 cases r <;> simp
theorem qGn:(sizeLine:Nat)<2^63:=by rw [sizeLine_eq];decide
theorem qTh:TruR X (fun x H Q => ∃k,TruV X.K x H k/\Q k H):=by
 intro pins s σ H x v Q I rx h
 obtain⟨k,e,q⟩:=h
 have hl:=qGn
 have hs:sizeLine=16777216:=sizeLine_eq
 cases x with
 | non =>
  cases rx
  have e':k=false:=e
  subst e'
  exact truthy_none ⟨H,I,q⟩
 | bl b =>
  cases rx
  have e':k=b:=e
  subst e'
  exact wpAny_truthy_bool ⟨H,I,q⟩
 | int i =>
  obtain⟨t,rfl⟩:=rx
  have e':k=(i != 0):=e
  subst e'
  exact PySem.P.truthy_int ⟨H,I,q⟩
 | str y =>
  obtain⟨t,rfl⟩:=rx
  obtain⟨hy,e'⟩:y.length<=sizeLine/\k=((y.length:Int) != 0):=e
  subst e'
  exact PySem.P.truthy_str (by omega) ⟨H,I.tok _,q⟩
 | byt y =>
  obtain⟨t,rfl⟩:=rx
  obtain⟨hy,e'⟩:y.size<=sizeLine/\k=((y.size:Int) != 0):=e
  subst e'
  exact PySem.W.truthy_bytes (by omega) ⟨H,I.tok _,q⟩
 | ref p =>
  cases rx
  have e':(∃xs,SqL X.K H p xs/\k = !xs.isEmpty)\/(∃xs,SqT X.K H p xs/\k = !xs.isEmpty) \/ ∃kvs,H p=some (.dK kvs)/\k = !kvs.isEmpty:=e
  rcases e' with ⟨xs,hx,e'⟩ | ⟨xs,hx,e'⟩ | ⟨kvs,hx,e'⟩
  ·subst e'
   obtain⟨its,r,pl,hz⟩:=I.list hx
   have hlen:=r.length
   exact wpAny_truthy_list pl.isList (by simp only [List.size_toArray];omega) ⟨H,I.tok _,by rw [qGp r];exact q⟩
  ·subst e'
   obtain⟨its,r,pl,hz⟩:=I.tuple hx
   have hlen:=r.length
   exact truthy_tuple pl (by simp only [List.size_toArray];omega) ⟨H,I.tok _,by rw [qGp r];exact q⟩
  ·subst e'
   obtain⟨hz,hS,vs,r,m⟩:kvs.length<=sizeLine/\(p == sysModules)=false /\ ∃vs,KV kvs vs/\s.heap.DictOf (qAt X.prog X.w) p vs:=I.hok p _ hx
   have hlen:kvs.length=vs.length:=Paired.length r
   exact wpAny_truthy_dict hS m (by omega) ⟨H,I.tok _,by rw [qLe r];exact q⟩
 | _=>exact (show False from e).elim
theorem qOo (ha:PE X a ta) (he : ∀whole,isTrue a X.env whole=(do let v <-whole;standAt a.pos;holding [v] (truthy v))) :
  PT X a (fun σ H Q=>ta σ H fun x H' => ∃k,TruV X.K x H' k/\Q k H'):=by
 intro pins s σ H Q I h
 refine isTrue_plain (thn (ha pins s σ H _ I h) fun v s1 hq_ => ?_) (he _)
 obtain⟨x,H1,I1,r1,q1⟩:=hq_
 exact qTh pins s1 σ H1 x v Q I1 r1 q1
theorem vals1 {x:V} {us:List Value} (r:Vals [x] us) : ∃u,us = [u]/\RelV x u:=by
 cases r with
 | cons r1 r2=>cases r2;exact⟨_,rfl,r1⟩
theorem vals2 {x y:V} {us:List Value} (r:Vals [x,y] us) : ∃u w',us = [u,w']/\RelV x u/\RelV y w':=by
 cases r with
 | cons r1 r2 =>
  cases r2 with
  | cons r3 r4=>cases r4;exact⟨_,_,rfl,r1,r3⟩
theorem qKq:CallR X (.builtin "abs") (fun xs H Q => ∃i,xs = [.int i]/\Q (.int (if i<0 then -i else i)) H):=by
 intro pins s σ H xs us Q I r h
 obtain⟨i,rfl,q⟩:=h
 obtain⟨u,rfl,t,rfl⟩:=vals1 r
 exact call_abs_int fun u tk=>⟨.int (if i<0 then -i else i),H,I.tok _,⟨_,rfl⟩,q⟩
theorem qIn (hc:X.calm=true):CallR X (.builtin "max") (fun xs H Q => ∃i j,xs = [.int i,.int j]/\Q (.int (if j>i then j else i)) H):=by
 intro pins s σ H xs us Q I r h
 obtain⟨i,j,rfl,q⟩:=h
 obtain⟨u,w',rfl,⟨t,rfl⟩,⟨t',rfl⟩⟩:=vals2 r
 refine max_two_ints (I.ok.hd hc) fun h' tk k=>⟨_,H,I.kept k,?_,q⟩
 by_cases hj:j>i
 ·rw [if_pos hj,if_pos hj];exact⟨_,rfl⟩
 ·rw [if_neg hj,if_neg hj];exact⟨_,rfl⟩
theorem qNt (hc:X.calm=true):CallR X (.builtin "min") (fun xs H Q => ∃i j,xs = [.int i,.int j]/\Q (.int (if j<i then j else i)) H):=by
 intro pins s σ H xs us Q I r h
 obtain⟨i,j,rfl,q⟩:=h
 obtain⟨u,w',rfl,⟨t,rfl⟩,⟨t',rfl⟩⟩:=vals2 r
 refine min_two_ints (I.ok.hd hc) fun h' tk k=>⟨_,H,I.kept k,?_,q⟩
 by_cases hj:j<i
 ·rw [if_pos hj,if_pos hj];exact⟨_,rfl⟩
 ·rw [if_neg hj,if_neg hj];exact⟨_,rfl⟩
theorem qBz:CallR X (.type "int") (fun xs H Q=>(∃i,xs = [.int i]/\Q (.int i) H) \/ ∃k,xs = [.bl k]/\Q (.int (if k then 1 else 0)) H):=by
 intro pins s σ H xs us Q I r h
 rcases h with ⟨i,rfl,q⟩ | ⟨k,rfl,q⟩
 ·obtain⟨u,rfl,t,rfl⟩:=vals1 r
  exact call_int_int ⟨.int i,H,I,⟨_,rfl⟩,q⟩
 ·obtain⟨u,rfl,r1⟩:=vals1 r
  cases r1
  exact call_int_bool ⟨.int (if k then 1 else 0),H,I.tok _,⟨_,rfl⟩,q⟩
end
structure ObjM (h:Heap) (x dx C:Addr) (mA:Str->Option Value):Prop where
 obj:h.get? x=some (PySem.W.instObj C dx)
 ns:h.Ns1 dx mA
 ne:dx≠x
theorem qN3 {h:Heap} {dx:Addr} {mA:Str->Option Value} (n:h.Ns1 dx mA) : ∃od,h.get? dx=some od /\ ∀name,PySem.W.lookIn name od=some (mA name):=by
 obtain⟨o,es,ep,ho,hd,hk,_,hm⟩:=n
 refine⟨o,ho,fun name => ?_⟩
 have e:=hm name
 unfold nsFind findBy at e
 rw [<-Array.find?_toList] at e
 unfold PySem.W.lookIn
 rw [hd]
 dsimp only
 split
 ·rename_i y q
  rw [q] at e
  exact congrArg some e
 ·rename_i q
  rw [q] at e
  have a:es.toList.any (·.refKey)=false:=by
   rw [List.any_eq_false]
   intro y hy
   obtain⟨z,t,hkey⟩:=hk y (Array.mem_toList_iff.mp hy)
   simp [DictEntry.refKey,hkey]
  have a' : ¬es.toList.any (·.refKey)=true:=by rw [a];exact Bool.false_ne_true
  rw [if_neg a']
  exact congrArg some e
theorem ObjM.look {h:Heap} {x dx C:Addr} {mA:Str->Option Value} (I:ObjM h x dx C mA) : ∃od,PySem.W.InstAt h x (PySem.W.instObj C dx) C (some od) /\ ∀name,PySem.W.lookIn name od=some (mA name) :=
 let ⟨od,ho,hl⟩:=qN3 I.ns
 ⟨od,⟨I.obj,rfl,rfl,ho⟩,hl⟩
section
variable {prog:Program} {w:World} {A:Around} {E:Value->Shared->Prop} {s:Shared} {K:PySem.W.Frag} {x dx C f:Addr} {mA:Str->Option Value} {name:Str} {v:Value}
theorem qT5 {expr:Bool} {Q:Value->Shared->Prop} (X:K.In s.heap) (I:ObjM s.heap x dx C mA) (hg:PySem.W.plainGet K C name=true) (hh:PySem.W.hasDictIn K C=true)
  (ha:PySem.W.findIn K (.ref C) name=some none) (hv:mA name=some v) (hv':PySem.W.handedIn v=true) (h:Q v { s with toks:=s.toks+1 }) :
  wpAny (model prog w) A (getAttr (.ref x) name expr) Q E s:=by
 obtain⟨od,J,hl⟩:=I.look
 exact PySem.W.get_value X J (PySem.W.plainGet_of hg).1 (PySem.W.findObj_own hh ha rfl (by rw [hl,hv])) hv' h
theorem qPu {pl:Sem Bool} {Q:Value×List Value->Shared->Prop} (X:K.In s.heap) (I:ObjM s.heap x dx C mA) (hg:PySem.W.plainGet K C name=true)
  (hf:PySem.W.findIn K (.ref C) name=some (some (.ref f))) (ht:PySem.W.isFn K (.ref f)=true) (hv:mA name=none) (h:Q (.ref f,[.ref x]) s) :
  wpAny (model prog w) A (getMethod (.ref x) name pl) Q E s:=by
 obtain⟨od,J,hl⟩:=I.look
 exact PySem.W.method_fn X J (PySem.W.plainGet_of hg).1 (PySem.W.plainGet_of hg).2 hf (beq_iff_eq.mp ht) (by show (PySem.W.lookIn name od).map (·.isSome)=some false;rw [hl,hv];rfl) h
theorem qRl {ns:List Str} {Q:Unit->Shared->Prop} (X:K.In s.heap) (I:ObjM s.heap x dx C mA)
  (hs:PySem.W.findIn K (.ref C) "__setattr__" = some (some (.builtin "object.__setattr__"))) (hp:PySem.W.plainOver K C=true) (ht:PySem.W.takerIn K C name=some none) (hh:PySem.W.hasDictIn K C=true)
  (hw:PySem.Within mA ns) (hsz:ns.length<=sizeLine)
  (h : ∀h',ObjM h' x dx C (fun y=>if y=name then some v else mA y)->Heap.SameBut dx s.heap h'->Q () { s with heap:=h',toks:=s.toks+2 }) :
  wpAny (model prog w) A (setAttr (.ref x) name v) Q E s:=by
 obtain⟨od,J,hl⟩:=I.look
 refine PySem.W.set_plain X J hs (PySem.W.osa_open (s :={ s with toks:=s.toks+1 }) (r:=none) X J hp ht fun b => ?_)
 obtain⟨cd,hc,hd'⟩:=PySem.W.any_some hh
 have hx:s.heap.get? x=some ⟨.ref C,some dx,.plain,#[]⟩:=I.obj
 refine wpAny_bind (wpAny_pure (wpAny_bind (wpAny_bind (wpAny_loadPart hx (wpAny_bind (PySem.W.Looks.here (s :={ s with toks:=s.toks+1 }) (PySem.W.looks_clsIn X hc) ?_))))))
 rw [hd']
 refine wpAny_pure (a:=some dx) (wpAny_bind (wpAny_pure (wpAny_bind ?_)))
 refine wpAny_nsSet1 (s :={ s with toks:=s.toks+1 }) I.ns fun h' hn2 hs2 => ?_
 obtain⟨oD,esD,epD,hoD,hdD,hcD⟩:=hn2.count (PySem.Within.cons name v hw)
 refine wpAny_bind (wpAny_lookBehind hoD (by rw [hdD];exact pastItsLine_dict (Nat.le_trans hcD (by rw [List.length_cons];omega))) ?_)
 exact wpAny_pure (h _ ⟨(hs2.2 _ (Ne.symm I.ne)).trans I.obj,hn2,I.ne⟩ hs2)
theorem qPn {R:Result->Shared->Prop} {vs:List Value} {kw:List (Str×Value)} (X:K.In s.heap) (hm:PySem.W.makesIn K C=true)
  (hi:PySem.W.findIn K (.ref C) "__init__" = some (some (.ref f))) (hf:PySem.W.typeIn K (.ref f)=some (.type "function"))
  (h:codeAny (model prog w) (A.under (.builtin "type.__call__" ⟨.ref C::vs,kw⟩)) (.call (.ref f) ⟨.ref (s.heap.objs.size+1)::vs,kw⟩) (PySem.W.InitBack (s.heap.objs.size+1) R)
   { s with heap:=(s.heap.push PySem.W.emptyDict).push (PySem.W.instObj C s.heap.objs.size) }) :
  codeAny (model prog w) A (.call (.ref C) ⟨vs,kw⟩) R s:=by
 obtain⟨hh,g,d,t,os⟩:=s
 exact PySem.W.make_core (PySem.W.makes_of X hm) (PySem.W.looks_findIn X hi) (fun self=>PySem.W.bind_fn X self hf) (.inl rfl) h
end
def putF (f:Str) (v:V):List (Str×V)->List (Str×V)
 | [] =>[(f,v)]
 | (g,x)::r=>if g=f then (g,v)::r else (g,x)::putF f v r
theorem qFp (f g:Str) (v:V) : ∀fs:List (Str×V),(putF f v fs).lookup g=if g=f then some v else fs.lookup g
 | []=>by
  show List.lookup g [(f,v)]=_
  by_cases h:g=f
  ·have hb:(g == f)=true:=beq_iff_eq.mpr h
   simp only [List.lookup,hb,if_pos h]
  ·have hb:(g == f)=false:=beq_eq_false_iff_ne.mpr h
   simp only [List.lookup,hb,if_neg h]
 | (k,x)::r=>by
  have ih:=qFp f g v r
  rw [show putF f v ((k,x)::r)=(if k=f then (k,v)::r else (k,x)::putF f v r) from rfl]
  by_cases hk:k=f
  ·rw [if_pos hk]
   by_cases h:g=k
   ·have hb:(g == k)=true:=beq_iff_eq.mpr h
    simp only [List.lookup,hb,if_pos (h.trans hk)]
   ·have hb:(g == k)=false:=beq_eq_false_iff_ne.mpr h
    simp only [List.lookup,hb,if_neg (fun e:g=f=>h (e.trans hk.symm))]
  ·rw [if_neg hk]
   by_cases h:g=k
   ·have hb:(g == k)=true:=beq_iff_eq.mpr h
    simp only [List.lookup,hb,if_neg (fun e:g=f=>hk (h.symm.trans e))]
   ·have hb:(g == k)=false:=beq_eq_false_iff_ne.mpr h
    simp only [List.lookup,hb]
    exact ih
theorem qFr (f:Str) (v:V) : ∀fs:List (Str×V),f∈(putF f v fs).map (·.1) /\ ∀g,g∈fs.map (·.1)->g∈(putF f v fs).map (·.1)
 | []=>⟨by simp [putF],fun g h=>by simp at h⟩
 | (k,x)::r=>by
  obtain⟨i1,i2⟩:=qFr f v r
  rw [show putF f v ((k,x)::r)=(if k=f then (k,v)::r else (k,x)::putF f v r) from rfl]
  by_cases hk:k=f
  ·rw [if_pos hk]
   subst hk
   exact⟨by simp,fun g h=>by simpa using h⟩
  ·rw [if_neg hk]
   refine⟨?_,fun g h => ?_⟩
   ·rw [List.map_cons]
    exact List.mem_cons_of_mem _ i1
   ·rw [List.map_cons] at h ⊢
    rcases List.mem_cons.mp h with e | e
    ·exact List.mem_cons.mpr (.inl e)
    ·exact List.mem_cons_of_mem _ (i2 g e)
theorem qDu (f:Str) (v:V) : ∀fs:List (Str×V),(putF f v fs).length<=fs.length+1
 | []=>by simp [putF]
 | (k,x)::r=>by
  have ih:=qDu f v r
  rw [show putF f v ((k,x)::r)=(if k=f then (k,v)::r else (k,x)::putF f v r) from rfl]
  by_cases hk:k=f
  ·rw [if_pos hk,List.length_cons,List.length_cons];omega
  ·rw [if_neg hk,List.length_cons,List.length_cons];omega
theorem RelO.some_of {v:V} {o:Option Value} (r:RelO (some v) o) : ∃u,o=some u/\RelV v u:=by
 cases o with
 | none=>exact (show False from r).elim
 | some u=>exact⟨u,rfl,r⟩
theorem RelO.none_of {o:Option Value} (r:RelO none o):o=none:=by
 cases o with
 | none=>rfl
 | some u=>exact (show False from r).elim
theorem qNc {v:V} {u:Value} (r:RelV v u):PySem.W.handedIn u=true:=by
 cases v with
 | non=>cases (show u=Value.none from r);rfl
 | bl b=>cases (show u=Value.bool b from r);rfl
 | int i=>obtain⟨t,e⟩:=(show ∃t,u=Value.int i t from r);cases e;rfl
 | str x=>obtain⟨t,e⟩:=(show ∃t,u=Value.str x t from r);cases e;rfl
 | byt b=>obtain⟨t,e⟩:=(show ∃t,u=Value.bytes b t from r);cases e;rfl
 | flt b=>obtain⟨t,e⟩:=(show ∃t,u=Value.float b t from r);cases e;rfl
 | ref a=>cases (show u=Value.ref a from r);rfl
 | ty n=>cases (show u=Value.type n from r);rfl
section
variable {P:Program} {w:World} {H H':Hp} {h h':Heap} {a C dx:Addr} {fs fs':List (Str×V)}
theorem qJj (hok:HOk P w H h) (e:H a=some (.ins C dx fs)) : ∃mA,ObjM h a dx C mA/\(∀f,RelO (fs.lookup f) (mA f))/\PySem.Within mA (fs.map (·.1))/\fs.length<=1000/\H dx=some (.own a):=by
 obtain⟨d,z,ne,ob,mA,n,r,q⟩:=(show ObjOk P w H h a (.ins C dx fs) from hok a _ e)
 exact⟨mA,⟨ob,n,ne⟩,r,q,z,d⟩
end
structure Cls (K:PySem.W.Frag) (C:Addr):Prop where
 pg:PySem.W.plainGet K C Str.empty=true
 hd:PySem.W.hasDictIn K C=true
 po:PySem.W.plainOver K C=true
 sa:PySem.W.findIn K (.ref C) "__setattr__" = some (some (.builtin "object.__setattr__"))
theorem Cls.get {K:PySem.W.Frag} {C:Addr} (c:Cls K C) (f:Str):PySem.W.plainGet K C f=true:=c.pg
def NoAttr (K:PySem.W.Frag) (C:Addr) (f:Str):Prop:=PySem.W.findIn K (.ref C) f=some none
theorem NoAttr.taker {K:PySem.W.Frag} {C:Addr} {f:Str} (n:NoAttr K C f):PySem.W.takerIn K C f=some none:=by
 unfold PySem.W.takerIn
 rw [show PySem.W.findIn K (.ref C) f=some none from n]
 rfl
structure Meth (K:PySem.W.Frag) (C:Addr) (m:Str) (f:Addr):Prop where
 at_:PySem.W.findIn K (.ref C) m=some (some (.ref f))
 fn:PySem.W.isFn K (.ref f)=true
 kp:PySem.W.keepIn K (.ref f)=true
section
variable {X:Cx} {pins:List (Addr×Obj)} {σ : St} {H:Hp} {s:Shared} {a C dx:Addr} {fs:List (Str×V)} {f:Str} {v:V} {A:Around} {E:Value->Shared->Prop}
theorem qGq {b:Bool} {Q:Value->Shared->Prop} (I:Inv X pins σ H s) (e:H a=some (.ins C dx fs)) (c:Cls X.K C) (n:NoAttr X.K C f) (l:fs.lookup f=some v)
  (h : ∀u s',Inv X pins σ H s'->RelV v u->Q u s'):wpAny (model X.prog X.w) A (getAttr (.ref a) f b) Q E s:=by
 obtain⟨mA,O,r,_,_,_⟩:=qJj I.hok e
 obtain⟨u,hu,ru⟩:=RelO.some_of (v:=v) (o:=mA f) (by rw [<-l];exact r f)
 exact qT5 I.kIn O (c.get f) c.hd n hu (qNc ru) (h u _ (I.tok _) ru)
theorem qEl {m:Str} {g:Addr} {pl:Sem Bool} {Q:Value×List Value->Shared->Prop} (I:Inv X pins σ H s) (e:H a=some (.ins C dx fs)) (c:Cls X.K C) (k:Meth X.K C m g) (l:fs.lookup m=none)
  (h:Q (.ref g,[.ref a]) s):wpAny (model X.prog X.w) A (getMethod (.ref a) m pl) Q E s:=by
 obtain⟨mA,O,r,_,_,_⟩:=qJj I.hok e
 have hn:mA m=none:=RelO.none_of (by rw [<-l];exact r m)
 exact qPu I.kIn O (c.get m) k.at_ k.fn hn h
theorem qG9 {y:V} {u:Value} {Q:Unit->Shared->Prop} (I:Inv X pins σ H s) (e:H a=some (.ins C dx fs)) (c:Cls X.K C) (n:NoAttr X.K C f) (hl:fs.length<1000) (ry:RelV y u)
  (h : ∀s',Inv X pins σ (upd H a (.ins C dx (putF f y fs))) s'->Q () s'):wpAny (model X.prog X.w) A (setAttr (.ref a) f u) Q E s:=by
 obtain⟨mA,O,r,wi,_,ho⟩:=qJj I.hok e
 have hz:(fs.map (·.1)).length<=sizeLine:=by rw [List.length_map,sizeLine_eq];omega
 refine qRl I.kIn O c.sa c.po n.taker c.hd wi hz fun h' O' sb=>h _ ?_
 have hd : ∃o,h'.get? dx=some o:=let ⟨o,_,_,e',_⟩:=O'.ns;⟨o,e'⟩
 refine I.write (x:=a) (e:=dx) (by rw [e];exact True.intro) (.inr ho) (fun b q hb z=>(sb.2 b hb).trans z) hd ?_
 refine⟨by rw [qA6 O.ne];exact ho,?_,O.ne,O'.obj,_,O'.ns,fun g => ?_,fun g hg => ?_⟩
 ·have:=qDu f y fs;omega
 ·show RelO ((putF f y fs).lookup g) (if g=f then some u else mA g)
  rw [qFp]
  by_cases q:g=f
  ·rw [if_pos q,if_pos q];exact ry
  ·rw [if_neg q,if_neg q];exact r g
 ·by_cases q:g=f
  ·rw [q];exact (qFr f y fs).1
  ·refine (qFr f y fs).2 g (wi g fun z=>hg ?_)
   show (if g=f then some u else mA g)=none
   rw [if_neg q];exact z
theorem Inv.made (I:Inv X pins σ H s):Inv X pins σ (upd (upd H s.heap.objs.size (.own (s.heap.objs.size+1))) (s.heap.objs.size+1) (.ins C s.heap.objs.size []))
  { s with heap:=(s.heap.push PySem.W.emptyDict).push (PySem.W.instObj C s.heap.objs.size) }:=by
 have e1:(s.heap.push PySem.W.emptyDict).get? s.heap.objs.size=some PySem.W.emptyDict:=Heap.get?_push_size s.heap rfl
 have e2:((s.heap.push PySem.W.emptyDict).push (PySem.W.instObj C s.heap.objs.size)).get? (s.heap.objs.size+1)=some (PySem.W.instObj C s.heap.objs.size):=by
  have:=Heap.get?_push_size (s.heap.push PySem.W.emptyDict) (o:=PySem.W.instObj C s.heap.objs.size) rfl
  rwa [Heap.size_push] at this
 have e3:(s.heap.push PySem.W.emptyDict).Ns s.heap.objs.size (fun _=>none):=⟨PySem.W.emptyDict,#[],_,e1,rfl,(fun e he=>absurd he (by simp)),fun _=>rfl⟩
 have I1:=I.laid (a:=s.heap.objs.size) (o :=.own (s.heap.objs.size+1)) (h':=s.heap.push PySem.W.emptyDict) (t':=s.toks) (fun b u q=>Heap.get?_push_of_some _ q) (Nat.le_refl _) ⟨_,e1⟩
 refine I1.laid (a:=s.heap.objs.size+1) (o :=.ins C s.heap.objs.size []) (t':=s.toks) (fun b u q=>Heap.get?_push_of_some _ q) (Nat.le_of_eq (Heap.size_push _ _)) ?_
 have ne:s.heap.objs.size≠s.heap.objs.size+1:=Nat.ne_of_lt (Nat.lt_succ_self _)
 refine⟨by rw [qA6 ne,qA1],Nat.zero_le _,ne,e2,fun _=>none,(Heap.Ns1.of_empty e3).at fun o q=>Heap.get?_push_of_some _ q,fun _=>True.intro,fun y hy=>absurd rfl hy⟩
theorem qTd {prog:Program} {w:World} {env:Env} {e:Expr} {f:Str} {pos:Pos} {s:Shared} {Q:Value->Shared->Prop} (hb:attributeBase e f env (eval e env)=eval e env)
  (h:wpAny (model prog w) A (eval e env) (fun o s₁ =>wpAny (model prog w) A (getAttr o f true) Q E s₁) E s):wpAny (model prog w) A (eval (.Attribute e f pos) env) Q E s :=
 Attribute_any_ h (by rw [arm_eval_Attribute,hb])
end
def tFld (K:PySem.W.Frag) (ta:TE) (f:Str):TE:=fun σ H Q=>ta σ H fun x H1 => ∃a C dx fs v,x = .ref a/\H1 a=some (.ins C dx fs)/\Cls K C/\NoAttr K C f/\fs.lookup f=some v/\Q v H1
def sFld (K:PySem.W.Frag) (ta tv:TE) (f:Str):TS:=fun D σ H=>tv σ H fun y H1=>ta σ H1 fun x H2 => ∃a C dx fs,x = .ref a/\H2 a=some (.ins C dx fs)/\Cls K C/\NoAttr K C f/\fs.length<1000 /\
 D.nx σ (upd H2 a (.ins C dx (putF f y fs)))
def InOp (X:Cx) (op:Operator) (rd:V->V->Hp->VK->Prop):Prop :=
 ∀(pins:List (Addr×Obj)) (s:Shared) (σ : St) (H:Hp) (x y:V) (u v:Value) (Q:VK),Inv X pins σ H s->RelV x u->RelV y v->rd x y H Q->wpAny (model X.prog X.w) X.A (inplaceOp op u v) (EP X pins σ Q) X.xe s
def qJ3 (K:PySem.W.Frag) (ta tv:TE) (rd:V->V->Hp->VK->Prop) (f:Str):TS:=fun D σ H=>ta σ H fun x H1 => ∃a C dx fs v,x = .ref a/\H1 a=some (.ins C dx fs)/\Cls K C/\NoAttr K C f/\fs.lookup f=some v /\
 tv σ H1 fun y H2=>rd v y H2 fun z H3 => ∃dx' fs',H3 a=some (.ins C dx' fs')/\fs'.length<1000/\D.nx σ (upd H3 a (.ins C dx' (putF f z fs')))
section
variable {X:Cx} {o e value:Expr} {f:Str} {pos pos' tpos:Pos} {ta tv:TE}
theorem qB0 (he:PE X e ta) (hb:attributeBase e f X.env (eval e X.env)=eval e X.env):PE X (.Attribute e f pos) (tFld X.K ta f):=by
 intro pins s σ H Q I h
 refine qTd hb (thn (he pins s σ H _ I h) fun u s1 hq_ => ?_)
 obtain⟨x,H1,I1,rx,a,C,dx,fs,v,ex,ea,c,n,l,q⟩:=hq_
 subst ex
 obtain rfl:u=Value.ref a:=rx
 exact qGq I1 ea c n l fun u' s2 I2 ru=>⟨v,H1,I2,ru,q⟩
theorem qBt (ha:PE X o ta) (hv:PE X value tv) (hs:swapsWith value (some (.Attribute o f pos')) pos.line X.env=pure false):PS X (.Assign [.Attribute o f pos'] value pos) (sFld X.K ta tv f):=by
 intro pins s σ H D I h
 refine plainObj_wpAny_Assign_Attribute (thn (hv pins s σ H _ I h) fun u s1 hq_ => ?_) hs
 obtain⟨y,H1,I1,ry,q⟩:=hq_
 refine thn (ha pins s1 σ H1 _ I1 q) fun ov s2 hq_ => ?_
 obtain⟨x,H2,I2,rx,a,C,dx,fs,ex,ea,c,n,l,q2⟩:=hq_
 subst ex
 obtain rfl:ov=Value.ref a:=rx
 exact qG9 I2 ea c n l ry fun s3 I3=>⟨σ,_,I3,q2⟩
theorem qCl {op:Operator} {rd:V->V->Hp->VK->Prop} (ha:PE X o ta) (hv:PE X value tv) (hop:InOp X op rd):PS X (.AugAssign (.Attribute o f tpos) op value pos) (qJ3 X.K ta tv rd f):=by
 intro pins s σ H D I h
 refine wpAny_AugAssign_AttributeAny (thn (ha pins s σ H _ I h) fun ov s1 hq_ => ?_)
 obtain⟨x,H1,I1,rx,a,C,dx,fs,v,ex,ea,c,n,l,q⟩:=hq_
 subst ex
 obtain rfl:ov=Value.ref a:=rx
 refine qGq I1 ea c n l fun u s2 I2 ru=>thn (hv pins s2 σ H1 _ I2 q) fun w3 s3 hq_ => ?_
 obtain⟨y,H2,I3,ry,q3⟩:=hq_
 refine thn (hop pins s3 σ H2 v y u w3 _ I3 ru ry q3) fun w4 s4 hq_ => ?_
 obtain⟨z,H3,I4,rz,dx',fs',ea',l',q4⟩:=hq_
 exact qG9 I4 ea' c n l' rz fun s5 I5=>⟨σ,_,I5,q4⟩
def rAdd:V->V->Hp->VK->Prop:=fun x y H Q => ∃i j,x = .int i/\y = .int j/\Q (.int (i+j)) H
def rSub:V->V->Hp->VK->Prop:=fun x y H Q => ∃i j,x = .int i/\y = .int j/\Q (.int (i - j)) H
theorem qIe:InOp X .Add rAdd:=by
 rintro pins s σ H x y u v Q I rx ry ⟨i,j,rfl,rfl,q⟩
 obtain⟨t,rfl⟩:=(show ∃t,u=Value.int i t from rx)
 obtain⟨t',rfl⟩:=(show ∃t',v=Value.int j t' from ry)
 exact PyProof.Rows.iadd_int ⟨.int (i+j),H,I.tok _,⟨_,rfl⟩,q⟩
theorem qVd:InOp X .Sub rSub:=by
 rintro pins s σ H x y u v Q I rx ry ⟨i,j,rfl,rfl,q⟩
 obtain⟨t,rfl⟩:=(show ∃t,u=Value.int i t from rx)
 obtain⟨t',rfl⟩:=(show ∃t',v=Value.int j t' from ry)
 exact PyProof.Rows.isub_int ⟨.int (i - j),H,I.tok _,⟨_,rfl⟩,q⟩
theorem qT1 {pl:Sem Bool} {m:Str} {apos:Pos} {args:List Expr} {pins:List (Addr×Obj)} {s:Shared} {σ : St} {H:Hp} {Q:Value->Shared->Prop} {te:TE} (he:PE X e te) (I:Inv X pins σ H s)
  (h:te σ H fun x H1 => ∃a C dx fs g,x = .ref a/\H1 a=some (.ins C dx fs)/\Cls X.K C/\Meth X.K C m g/\fs.lookup m=none /\
   ∀s1,Inv X pins σ H1 s1->wpAny (model X.prog X.w) X.A (callWith pos (.ref g) [.ref a] (backTo pos (starEach args X.env)) (backToKw pos (keywordEach [] X.env))) Q X.xe s1)
  (ht:eval (.Call (.Attribute e m apos) args [] pos) X.env=(do
   let ov <-eval e X.env
   standAt apos.atName
   let (f,first) <-holding [ov] (getMethod ov m pl)
   callWith pos f first (backTo pos (starEach args X.env)) (backToKw pos (keywordEach [] X.env)))) :
  wpAny (model X.prog X.w) X.A (eval (.Call (.Attribute e m apos) args [] pos) X.env) Q X.xe s:=by
 refine PySem.W.methodCall_KW (pl:=pl) (thn (he pins s σ H _ I h) fun u s1 hq_ => ?_) ht
 obtain⟨x,H1,I1,rx,a,C,dx,fs,g,ex,ea,c,k,l,q⟩:=hq_
 subst ex
 obtain rfl:u=Value.ref a:=rx
 exact qEl I1 ea c k l (q s1 I1)
end
structure Room (k:Nat) (A:Around):Prop where
 hd:A.handled=none
 dp:A.depth+3*k+5<recursionLimit
 un:A.units+16*k+200<cLine
 gd:A.guards=some []:=by rfl
theorem Room.mono {j k:Nat} {A:Around} (r:Room k A) (h:j<=k):Room j A:=⟨r.hd,by have:=r.dp;omega,by have:=r.un;omega,r.gd⟩
theorem Room.deeper {k:Nat} {A:Around} (r:Room (k+1) A) (env:Env):Room k (A.deeper env) :=
 ⟨r.hd,by have:=r.dp;show A.depth+1+3*k+5<_;omega,by have:=r.un;show A.units+3+16*k+200<_;omega,r.gd⟩
theorem qLc {A:Around} {C:Addr} {us:List Value} {kw:List (Str×Value)}:(A.under (.builtin "type.__call__" ⟨.ref C::us,kw⟩)).depth=A.depth+1:=by
 first | rfl | simp [Around.under,Code.weight,Code.isCreation,Code.isGuard,Code.isCaller,Code.frames,Code.isFrame,guardIds]
theorem qLb {A:Around} {C:Addr} {us:List Value} {kw:List (Str×Value)}:(A.under (.builtin "type.__call__" ⟨.ref C::us,kw⟩)).units=A.units+1:=by
 first | rfl | simp [Around.under,Code.cUnits,Code.frames,Code.isFrame]
theorem Room.make {k:Nat} {A:Around} (r:Room (k+1) A) (C:Addr) (us:List Value) (kw:List (Str×Value)):Room k (A.under (.builtin "type.__call__" ⟨.ref C::us,kw⟩)) :=
 ⟨r.hd,by have:=r.dp;rw [qLc];omega,by have:=r.un;rw [qLb];omega,by first | exact r.gd | (simpa [Around.under,Code.guards,Code.isGuard,pushGuards,guardIds] using r.gd)⟩
theorem Room.depth {k:Nat} {A:Around} (r:Room k A):A.depth<recursionLimit:=by have:=r.dp;omega
theorem Room.units {k:Nat} {A:Around} (r:Room k A):A.units+64<cLine:=by have:=r.un;omega
theorem Room.units0 {k:Nat} {A:Around} (r:Room k A):A.units<cLine:=by have:=r.un;omega
def tNil:TA:=fun _ H Q=>Q [] H
def tCons (ta:TE) (tr:TA):TA:=fun σ H Q=>ta σ H fun x H1=>tr σ H1 fun xs H2=>Q (x::xs) H2
section
variable {X:Cx} {e:Expr} {es:List Expr} {te:TE} {t:TA} {pos:Pos}
theorem qA4:PA X [] tNil:=fun _ _ _ _ H Q I h=>Calls.spliced_nil ⟨[],H,I,.nil,h⟩
theorem qA0 (ha:PE X e te) (hr:PA X es t) (hs:starEach (e::es) X.env=(false,eval e X.env)::starEach es X.env:=by rfl):PA X (e::es) (tCons te t):=by
 intro pos pins s σ H Q I h
 rw [hs]
 show wpAny _ _ (spliced ((false,eval e X.env)::backTo pos (starEach es X.env))) _ _ s
 refine Calls.spliced_cons (thn (ha pins s σ H _ I h) fun u s1 hq_ => ?_)
 obtain⟨x,H1,I1,r1,q1⟩:=hq_
 refine thn (hr pos pins s1 σ H1 _ I1 q1) fun us s2 hq_ => ?_
 obtain⟨xs,H2,I2,r2,q2⟩:=hq_
 exact⟨x::xs,H2,I2,.cons r1 r2,q2⟩
def tTup (t:TA):TE:=fun σ H Q=>t σ H fun xs H1=>xs.length<=sizeLine /\ ∀p,H1 p=none->Q (.ref p) (upd H1 p (.tup xs))
def tLst (t:TA):TE:=fun σ H Q=>t σ H fun xs H1=>xs.length<=sizeLine /\ ∀p,H1 p=none->Q (.ref p) (upd H1 p (.lst xs))
theorem qB7 {x1} (h:PA X es t):PE X (.Tuple es x1 pos) (tTup t):=by
 intro pins s σ H Q I hq
 refine wpAny_Tuple_spliced (thn (h pos pins s σ H _ I hq) fun us s1 hq_ => ?_)
 obtain⟨xs,H1,I1,r,z,q⟩:=hq_
 refine⟨by rw [<-r.length];exact z,?_⟩
 have hf:H1 s1.heap.objs.size=none:=I1.hok.fresh (Nat.le_refl _)
 refine⟨.ref s1.heap.objs.size,upd H1 s1.heap.objs.size (.tup xs),I1.laid (t':=s1.toks) (fun b u e=>Heap.get?_push_of_some _ e) (Nat.le_refl _) ?_,rfl,q _ hf⟩
 exact⟨z,us,r,⟨_,Heap.get?_push_size _ rfl,rfl,_,rfl⟩⟩
theorem qAr (h:PA X es t):PE X (.List es pos) (tLst t):=by
 intro pins s σ H Q I hq
 refine wpAny_List_spliced (thn (h pos pins s σ H _ I hq) fun us s1 hq_ => ?_)
 obtain⟨xs,H1,I1,r,z,q⟩:=hq_
 refine⟨by rw [<-r.length];exact z,?_⟩
 have hf:H1 s1.heap.objs.size=none:=I1.hok.fresh (Nat.le_refl _)
 refine⟨.ref s1.heap.objs.size,upd H1 s1.heap.objs.size (.lst xs),I1.laid (t':=s1.toks) (fun b u e=>Heap.get?_push_of_some _ e) (Nat.le_refl _) ?_,rfl,q _ hf⟩
 exact⟨z,us,0,r,Heap.get?_push_size _ rfl⟩
end
abbrev Sp:=List V->Hp->VK->XK->Prop
abbrev CXT:=List Env->Hp->Shared->XK->Value->Shared->Prop
structure Env0 (P:Program) (w:World) (K:PySem.W.Frag) (mg:Str->Option Value) (base:Heap) (A:Around) (outer:List Env) (s:Shared) (H:Hp):Prop where
 frames:A.frames=some outer
 mod:Mod K mg base
 bs : ∀b o,base.get? b=some o->s.heap.get? b=some o/\H b=none
 bsz:base.objs.size<=s.heap.objs.size
 funs:s.heap.FunFrames base outer
 frf : ∀b∈frs outer,H b=none
 hok:HOk P w H s.heap
 bare:AllBare s.gens
def CE (outer:List Env) (P:Program) (w:World) (H:Hp) (s:Shared) (Q:VK) (u:Value) (s':Shared):Prop :=
 ∃v H',s'.os=s.os/\AllBare s'.gens/\Un (frs outer) [] H H' s.heap s'.heap/\HOk P w H' s'.heap/\RelV v u/\Q v H'
def CR (CX:CXT) (outer:List Env) (P:Program) (w:World) (H:Hp) (s:Shared) (Q:VK) (E:XK) (r:Result) (s':Shared):Prop :=
 match r with
 | .ok (.ret u)=>CE outer P w H s Q u s'
 | .ok _=>False
 | .error e=>CX outer H s E e s'
structure FnOk (P:Program) (w:World) (K:PySem.W.Frag) (mg:Str->Option Value) (base:Heap) (CX:CXT) (k:Nat) (f:Addr) (fd:FuncData) (ps:List Str) (sp:Sp):Prop where
 len : ∀vs H Q E,sp vs H Q E->vs.length=ps.length
 run : ∀(A:Around) (outer:List Env) (s:Shared) (H:Hp) (args:Args) (us:List Value) (vs:List V) (Q:VK) (E:XK),Room k A->Env0 P w K mg base A outer s H->BindsTo s fd args (ps.zip us)->Vals vs us->sp vs H Q E ->
  codeAny (model P w) A (.call (.ref f) args) (CR CX outer P w H s Q E) s
theorem Env0.make {P:Program} {w:World} {K:PySem.W.Frag} {mg:Str->Option Value} {base:Heap} {A:Around} {outer:List Env} {s:Shared} {H:Hp} (e:Env0 P w K mg base A outer s H) (C:Addr) (us:List Value) (kw:List (Str×Value)) :
  Env0 P w K mg base (A.under (.builtin "type.__call__" ⟨.ref C::us,kw⟩)) outer s H:=⟨by first | exact e.frames | (simpa [Around.under,Code.envs,Code.isFrame,pushEnvs] using e.frames),e.mod,e.bs,e.bsz,e.funs,e.frf,e.hok,e.bare⟩
section
variable {X:Cx} {pins:List (Addr×Obj)} {σ : St} {H:Hp} {s s':Shared}
theorem Inv.env0 (I:Inv X pins σ H s):Env0 X.prog X.w X.K X.mg X.base X.A X.stack s H :=
 ⟨I.ok.frames,I.ok.mod,I.bs,Nat.le_trans I.ok.bsz I.sz,I.stack,I.stkFree,I.hok,I.bare⟩
theorem Inv.after {Q:VK} {u:Value} (I:Inv X pins σ H s) (h:CE X.stack X.prog X.w H s Q u s'):EP X pins σ Q u s':=by
 obtain⟨v,H',os,bare,un,hok,r,q⟩:=h
 obtain⟨hh,g,d,t,os'⟩:=s'
 obtain rfl:os'=s.os:=os
 exact⟨v,H',I.call (h':=hh) (g':=g) (d':=d) (t':=t) (ch :=[]) un hok bare (fun b z=>absurd z (by simp)),r,q⟩
end
def tCall (sp:Sp) (dvs:List V) (E:XK) (t:TA):TE:=fun σ H Q=>t σ H fun vs H1=>sp (vs++dvs) H1 Q E
def tMeth (C:Addr) (m:Str) (sp:Sp) (dvs:List V) (E:XK) (ta:TE) (t:TA):TE:=fun σ H Q=>ta σ H fun x H1 => ∃a dx fs,x = .ref a/\H1 a=some (.ins C dx fs)/\fs.lookup m=none /\
 t σ H1 fun vs H2=>sp (x::(vs++dvs)) H2 Q E
def tMake (C:Addr) (sp:Sp) (dvs:List V) (E:XK) (t:TA):TE:=fun σ H Q=>t σ H fun vs H1 => ∀x dx,H1 x=none->H1 dx=none->dx≠x ->
 sp (.ref x::(vs++dvs)) (upd (upd H1 dx (.own x)) x (.ins C dx [])) (fun v H2=>v = .non/\Q (.ref x) H2) E
def Binds (K:PySem.W.Frag) (fd:FuncData) (ps:List Str) (ds:List Value):Prop :=
 ∀(s:Shared) (us:List Value),K.In s.heap->(us++ds).length=ps.length->BindsTo s fd ⟨us,[]⟩ (ps.zip (us++ds))
theorem Binds.all {K:PySem.W.Frag} {fd:FuncData} {ps:List Str} (h : ∀us:List Value,us.length=ps.length->bindArgs fd ⟨us,[]⟩=pure (ps.zip us)):Binds K fd ps []:=fun s us _ hl=>by
 rw [List.append_nil] at hl ⊢
 exact .of_eq (h us hl)
def qG1 (CX:CXT) (X:Cx) (E:XK):Prop := ∀(pins:List (Addr×Obj)) (σ : St) (H:Hp) (s:Shared) (e:Value) (s':Shared),Inv X pins σ H s->CX X.stack H s E e s'->X.xe e s'
section
variable {X:Cx} {CX:CXT} {k:Nat} {f C:Addr} {fd:FuncData} {ps:List Str} {sp:Sp} {dvs:List V} {ds:List Value} {E:XK} {x m:Str} {p pos apos:Pos} {e o:Expr} {es:List Expr} {ta:TE} {t:TA}
theorem qM9 {pins:List (Addr×Obj)} {σ : St} {H:Hp} {s:Shared} {Q:VK} {us:List Value} {vs:List V} (F:FnOk X.prog X.w X.K X.mg X.base CX k f fd ps sp) (hr:Room k X.A) (hb:Binds X.K fd ps ds) (hd:Vals dvs ds) (hx:qG1 CX X E)
  (I:Inv X pins σ H s) (r:Vals vs us) (h:sp (vs++dvs) H Q E):wpAny (model X.prog X.w) X.A (call (.ref f) us) (EP X pins σ Q) X.xe s:=by
 have r2:Vals (vs++dvs) (us++ds):=r.append hd
 have hl:(us++ds).length=ps.length:=by rw [<-r2.length];exact F.len _ _ _ _ h
 refine wpAny_call (codeAny_mono (F.run X.A X.stack s H ⟨us,[]⟩ (us++ds) (vs++dvs) Q E hr I.env0 (hb s us I.kIn hl) r2 h) fun r s' hq => ?_)
 cases r with
 | error e=>exact hx pins σ H s e s' I hq
 | ok fl =>
  cases fl with
  | ret u=>exact I.after hq
  | next=>exact False.elim hq
  | brk=>exact False.elim hq
  | cont=>exact False.elim hq
theorem qSb (F:FnOk X.prog X.w X.K X.mg X.base CX k f fd ps sp) (hr:Room k X.A) (hg:Gl X x) (hm:X.mg x=some (.ref f)) (hk:PySem.W.keepIn X.K (.ref f)=true) (hb:Binds X.K fd ps ds) (hd:Vals dvs ds) (hx:qG1 CX X E)
  (ha:PA X (e::es) t) (hdb:(x == ("__debug__" : Str))=false:=by decide) (he:starEach (e::es) X.env=(false,eval e X.env)::starEach es X.env:=by rfl) (hpl:(backTo pos (starEach es X.env)).any (·.1)=false:=by rfl) :
  PE X (.Call (.Name x p) (e::es) [] pos) (tCall sp dvs E t):=by
 intro pins s σ H Q I h
 refine wpAny_Call_Name_kw (qJi I hg hm ?_ hdb)
 refine PySem.W.callWith_K (h₀ :=X.base) I.ok.mod.kin hk (thn (ha pos pins s σ H _ I h) fun us s1 hq_ => ?_) he hpl
 obtain⟨vs,H1,I1,r,q⟩:=hq_
 refine⟨I1.kIn,?_⟩
 exact qM9 F hr hb hd hx I1 r q
theorem qS7 {pl:Sem Bool} (he:PE X o ta) (c:Cls X.K C) (hm:Meth X.K C m f) (F:FnOk X.prog X.w X.K X.mg X.base CX k f fd ps sp) (hr:Room k X.A) (hb:Binds X.K fd ps ds) (hd:Vals dvs ds) (hx:qG1 CX X E) (ha:PA X (e::es) t)
  (hst:starEach (e::es) X.env=(false,eval e X.env)::starEach es X.env:=by rfl) (hpl:(backTo pos (starEach es X.env)).any (·.1)=false:=by rfl)
  (ht:eval (.Call (.Attribute o m apos) (e::es) [] pos) X.env=(do
   let ov <-eval o X.env
   standAt apos.atName
   let (f,first) <-holding [ov] (getMethod ov m pl)
   callWith pos f first (backTo pos (starEach (e::es) X.env)) (backToKw pos (keywordEach [] X.env))):=by rfl) :
  PE X (.Call (.Attribute o m apos) (e::es) [] pos) (tMeth C m sp dvs E ta t):=by
 intro pins s σ H Q I h
 refine PySem.W.methodCall_KW (pl:=pl) (thn (he pins s σ H _ I h) fun u s1 hq_ => ?_) ht
 obtain⟨x,H1,I1,rx,a,dx,fs,ex,ea,l,q⟩:=hq_
 subst ex
 obtain rfl:u=Value.ref a:=rx
 refine qEl I1 ea c hm l ?_
 refine PySem.W.callWith_K (first :=[.ref a]) (h₀ :=X.base) I.ok.mod.kin hm.kp (thn (ha pos pins s1 σ H1 _ I1 q) fun us s2 hq_ => ?_) hst hpl
 obtain⟨vs,H2,I2,r,q2⟩:=hq_
 refine⟨I2.kIn,?_⟩
 exact qM9 (us :=.ref a::us) (vs :=.ref a::vs) F hr hb hd hx I2 (.cons rfl r) q2
theorem qOt {pl:Sem Bool} (he:PE X o ta) (c:Cls X.K C) (hm:Meth X.K C m f) (F:FnOk X.prog X.w X.K X.mg X.base CX k f fd ps sp) (hr:Room k X.A) (hb:Binds X.K fd ps ds) (hd:Vals dvs ds) (hx:qG1 CX X E)
  (ht:eval (.Call (.Attribute o m apos) [] [] pos) X.env=(do
   let ov <-eval o X.env
   standAt apos.atName
   let (f,first) <-holding [ov] (getMethod ov m pl)
   callWith pos f first (backTo pos (starEach [] X.env)) (backToKw pos (keywordEach [] X.env))):=by rfl) :
  PE X (.Call (.Attribute o m apos) [] [] pos) (tMeth C m sp dvs E ta tNil):=by
 intro pins s σ H Q I h
 refine PySem.W.methodCall_KW (pl:=pl) (thn (he pins s σ H _ I h) fun u s1 hq_ => ?_) ht
 obtain⟨x,H1,I1,rx,a,dx,fs,ex,ea,l,q⟩:=hq_
 subst ex
 obtain rfl:u=Value.ref a:=rx
 refine qEl I1 ea c hm l ?_
 exact PySem.W.callWith_K0 (first :=[.ref a]) I1.kIn hm.kp (qM9 (us :=[.ref a]) (vs :=[.ref a]) F hr hb hd hx I1 (.cons rfl .nil) q)
structure Mk (K:PySem.W.Frag) (C f:Addr):Prop where
 makes:PySem.W.makesIn K C=true
 init:PySem.W.findIn K (.ref C) "__init__" = some (some (.ref f))
 fn:PySem.W.isFn K (.ref f)=true
 kp:PySem.W.keepIn K (.ref C)=true
theorem qOb {pins:List (Addr×Obj)} {σ : St} {H:Hp} {s:Shared} {Q:VK} {us:List Value} {vs:List V} (M:Mk X.K C f) (F:FnOk X.prog X.w X.K X.mg X.base CX k f fd ps sp) (hr:Room (k+1) X.A) (hb:Binds X.K fd ps ds) (hd:Vals dvs ds)
  (hx:qG1 CX X E) (I:Inv X pins σ H s) (r:Vals vs us)
  (h : ∀x dx,H x=none->H dx=none->dx≠x->sp (.ref x::(vs++dvs)) (upd (upd H dx (.own x)) x (.ins C dx [])) (fun v H2=>v = .non/\Q (.ref x) H2) E) :
  wpAny (model X.prog X.w) X.A (call (.ref C) us) (EP X pins σ Q) X.xe s:=by
 have hq:=h (s.heap.objs.size+1) s.heap.objs.size (I.hok.fresh (Nat.le_succ _)) (I.hok.fresh (Nat.le_refl _)) (Nat.ne_of_lt (Nat.lt_succ_self _))
 have I2:=Inv.made (C:=C) I
 have r2:Vals (V.ref (s.heap.objs.size+1)::(vs++dvs)) (Value.ref (s.heap.objs.size+1)::(us++ds)) :=.cons rfl (r.append hd)
 have hl:(Value.ref (s.heap.objs.size+1)::us++ds).length=ps.length:=by
  have e:=r2.length
  rw [F.len _ _ _ _ hq] at e
  exact e.symm
 refine wpAny_call (qPn (f:=f) I.kIn M.makes M.init (beq_iff_eq.mp M.fn) (codeAny_mono (F.run _ X.stack _ _ ⟨Value.ref (s.heap.objs.size+1)::us,[]⟩ (Value.ref (s.heap.objs.size+1)::(us++ds)) _ _ E (hr.make C us [])
  (I2.env0.make C us []) (hb _ (Value.ref (s.heap.objs.size+1)::us) I2.kIn hl) r2 hq) fun r s' hq' => ?_))
 cases r with
 | error e=>exact hx pins σ _ _ e s' I2 hq'
 | ok fl =>
  cases fl with
  | ret u =>
   obtain⟨v,H',I3,rv,ev,q3⟩:=I2.after hq'
   subst ev
   exact⟨rv,⟨V.ref (s.heap.objs.size+1),H',I3,rfl,q3⟩⟩
  | next=>exact False.elim hq'
  | brk=>exact False.elim hq'
  | cont=>exact False.elim hq'
theorem qS8 (M:Mk X.K C f) (F:FnOk X.prog X.w X.K X.mg X.base CX k f fd ps sp) (hr:Room (k+1) X.A) (hg:Gl X x) (hm:X.mg x=some (.ref C)) (hb:Binds X.K fd ps ds) (hd:Vals dvs ds) (hx:qG1 CX X E)
  (ha:PA X (e::es) t) (hdb:(x == ("__debug__" : Str))=false:=by decide) (he:starEach (e::es) X.env=(false,eval e X.env)::starEach es X.env:=by rfl) (hpl:(backTo pos (starEach es X.env)).any (·.1)=false:=by rfl) :
  PE X (.Call (.Name x p) (e::es) [] pos) (tMake C sp dvs E t):=by
 intro pins s σ H Q I h
 refine wpAny_Call_Name_kw (qJi I hg hm ?_ hdb)
 refine PySem.W.callWith_K (h₀ :=X.base) I.ok.mod.kin M.kp (thn (ha pos pins s σ H _ I h) fun us s1 hq_ => ?_) he hpl
 obtain⟨vs,H1,I1,r,q⟩:=hq_
 refine⟨I1.kIn,?_⟩
 exact qOb M F hr hb hd hx I1 r q
end
section
variable {X:Cx} {CX:CXT} {k:Nat} {f C:Addr} {fd:FuncData} {ps ks:List Str} {sp:Sp} {E:XK} {x m:Str} {p pos apos kpos:Pos} {e o:Expr} {es:List Expr} {kws:List Keyword} {te ta:TE} {t tk:TA} {nm:Option Str}
variable {g:List Value->List Value->List Value} {gV:List V->List V->List V}
end
structure FnScope (N P:List Str) (sc:Scope):Prop where
 kind:sc.kind = .function
 co:sc.isCoroutine=false
 gen:sc.isGenerator=false
 nd:N.Nodup
 pre:N.take P.length=P
 par : ∀x∈P,sc.names.lookup x=some .local\/sc.names.lookup x=some .cell
 nofree : ∀y∈sc.names,y.2 ≠ .free
theorem qIp {kindOf:Str->Option NameKind} {x:Str} : ∀ {binds:List (Str×Value)} {m:Str->Option Value},(∀v,(x,v)∉binds)->bindL kindOf binds m x=m x
 | [],_,_=>rfl
 | (n,v)::r,m,h=>by
  unfold bindL
  rw [qIp fun w hw=>h w (List.mem_cons_of_mem _ hw)]
  split
  ·have:x≠n:=by rintro rfl;exact h v List.mem_cons_self
   simp [this]
  ·rfl
theorem qIr {kindOf:Str->Option NameKind} {x:Str} : ∀ {binds:List (Str×Value)} {m:Str->Option Value},(∀v,(x,v)∉binds)->bindC kindOf binds m x=m x
 | [],_,_=>rfl
 | (n,v)::r,m,h=>by
  unfold bindC
  rw [qIr fun w hw=>h w (List.mem_cons_of_mem _ hw)]
  split
  ·rfl
  ·have:x≠n:=by rintro rfl;exact h v List.mem_cons_self
   simp [this]
theorem qIq {kindOf:Str->Option NameKind} {x:Str} {v:Value} : ∀ {P:List Str} {vs:List Value} {i:Nat} {m:Str->Option Value},P.Nodup->P[i]? = some x->vs[i]? = some v->kindOf x=some .local ->
  bindL kindOf (P.zip vs) m x=some v
 | [],_,_,_,_,h,_,_=>by simp at h
 | _::_,[],_,_,_,_,h,_=>by simp at h
 | p::P,w::vs,0,m,nd,h1,h2,hk=>by
  simp at h1 h2;subst h1;subst h2
  show bindL kindOf ((p,w)::P.zip vs) m p=_
  unfold bindL
  rw [qIp fun v hv=>(List.nodup_cons.mp nd).1 (List.of_mem_zip hv).1,if_pos hk]
  simp
 | p::P,w::vs,i+1,m,nd,h1,h2,hk=>by
  show bindL kindOf ((p,w)::P.zip vs) m x=_
  unfold bindL
  exact qIq (i:=i) (List.nodup_cons.mp nd).2 (by simpa using h1) (by simpa using h2) hk
theorem qIs {kindOf:Str->Option NameKind} {x:Str} {v:Value} : ∀ {P:List Str} {vs:List Value} {i:Nat} {m:Str->Option Value},P.Nodup->P[i]? = some x->vs[i]? = some v->kindOf x≠some .local ->
  bindC kindOf (P.zip vs) m x=some v
 | [],_,_,_,_,h,_,_=>by simp at h
 | _::_,[],_,_,_,_,h,_=>by simp at h
 | p::P,w::vs,0,m,nd,h1,h2,hk=>by
  simp at h1 h2;subst h1;subst h2
  show bindC kindOf ((p,w)::P.zip vs) m p=_
  unfold bindC
  rw [qIr fun v hv=>(List.nodup_cons.mp nd).1 (List.of_mem_zip hv).1,if_neg hk]
  simp
 | p::P,w::vs,i+1,m,nd,h1,h2,hk=>by
  show bindC kindOf ((p,w)::P.zip vs) m x=_
  unfold bindC
  exact qIs (i:=i) (List.nodup_cons.mp nd).2 (by simpa using h1) (by simpa using h2) hk
def start (N:List Str) (vs:List V):St:=vs.map some++List.replicate (N.length - vs.length) none
def cxOf (CX:CXT) (P:Program) (w:World) (K:PySem.W.Frag) (mg:Str->Option Value) (base:Heap) (N:List Str) (qual:Str) (scope:Scope) (f:Addr) (cd:Value) (A:Around) (outer:List Env) (s:Shared) (H:Hp) (E:XK):Cx where
 prog:=P
 w:=w
 K:=K
 mg:=mg
 base:=base
 A:=A.deeper (envOfC qual scope s.heap.objs.size f cd)
 N:=N
 s₀ :=s
 H₀ :=H
 env:=envOfC qual scope s.heap.objs.size f cd
 outer:=outer
 stack:=envOfC qual scope s.heap.objs.size f cd::outer
 ex :=[]
 calm:=true
 fn:=fun _=>true
 pn :=[]
 xe:=fun e s'=>wpAny (model P w) (A.deeper (envOfC qual scope s.heap.objs.size f cd)) (leaving (envOfC qual scope s.heap.objs.size f cd) e) (fun _ s''=>CX outer H s E e s'') (fun e' s''=>CX outer H s E e' s'') s'
theorem qKp {sc:Scope} {n:Nat} {x:Str} (h:sc.names.lookup x=some .cell) : ∃c,(cellsFrom n sc.names []).lookup x=some c:=by
 have q:=PySem.W.cellsFrom_some sc.names n [] (.inl h)
 exact Option.isSome_iff_exists.mp q
theorem qNa {CX:CXT} {P:Program} {w:World} {K:PySem.W.Frag} {mg:Str->Option Value} {base:Heap} {N ps:List Str} {qual:Str} {scope:Scope} {f:Addr} {cd:Value} {A:Around} {outer:List Env} {s s1:Shared} {H:Hp} {E:XK} {us:List Value} {vs:List V}
  (S:FnScope N ps scope) (hd:A.handled=none) (e0:Env0 P w K mg base A outer s H) (hl:vs.length=ps.length) (r:Vals vs us)
  (x:InCallC s s.heap.objs.size (bindL (envOfC qual scope s.heap.objs.size f cd).kindOf (ps.zip us) fun _=>none) (cellsFrom (s.heap.objs.size+1) scope.names []) (bindC (envOfC qual scope s.heap.objs.size f cd).kindOf (ps.zip us) fun _=>none) s1) :
  Inv (cxOf CX P w K mg base N qual scope f cd A outer s H E) [] (start N vs) H s1:=by
 have hpl:ps.length<=N.length:=by have:=congrArg List.length S.pre;rw [List.length_take] at this;omega
 obtain⟨h1,tk,rfl,hk⟩:=x.done
 have noA : ∀b:Addr,b∉(cxOf CX P w K mg base N qual scope f cd A outer s H E).ex:=fun b z=>absurd (show b∈([]:List Addr) from z) (by simp)
 refine⟨⟨e0.mod,S.kind,rfl,rfl,Nat.le_refl _,fun y z c h1 h2 => ?_,fun y hy => ?_,fun y c _ h => ?_,fun _=>hd,Around.frames_deeper e0.frames,.inr ⟨rfl,rfl⟩,fun b z=>absurd z (noA b),e0.bs,e0.bsz,fun b _ _=>noA b,fun b z=>absurd z (noA b),e0.funs,e0.frf⟩,
  rfl,e0.bare,Un.kept hk,⟨_,x.toInCall.ns,fun i y v h1 h2 h3 => ?_⟩,fun y c h=>⟨_,x.cell y c h⟩,e0.hok.fresh (Nat.le_refl _),fun y c h => ?_,fun p hp=>absurd (show p∈([]:List (Addr×Obj)) from hp) (by simp),e0.hok.kept hk,?_⟩
 ·exact name_of_addr x.apart (PySem.mem_of_lookup h1) (PySem.mem_of_lookup h2)
 ·have hy:scope.names.lookup y=some .cell\/scope.names.lookup y=some .free:=hy
  rcases hy with hy | hy
  ·exact qKp hy
  ·exact absurd rfl (S.nofree _ (PySem.mem_of_lookup hy))
 ·exact Nat.le_of_lt (x.above y c (PySem.mem_of_lookup h))
 ·have hi:i<vs.length:=by
   unfold start at h2
   by_cases hi:i<vs.length
   ·exact hi
   ·rw [List.getElem?_append_right (by simpa using hi)] at h2
    rw [List.getElem?_replicate] at h2
    split at h2 <;> cases h2
  have ha:vs[i]? = some v:=by
   unfold start at h2
   rw [List.getElem?_append_left (by simpa using hi),List.getElem?_map] at h2
   cases e:vs[i]? with
   | none=>rw [e] at h2;cases h2
   | some a=>rw [e] at h2;cases h2;rfl
  obtain⟨u,hu,rv⟩:=r.get ha
  have hp:ps[i]? = some y:=by
   rw [<-S.pre,List.getElem?_take_of_lt (by omega)];exact h1
  have ndP:ps.Nodup:=by rw [<-S.pre];exact S.nd.sublist (List.take_sublist _ _)
  refine⟨u,rv,?_⟩
  rcases S.par y (List.mem_of_getElem? hp) with k | k
  ·exact .inl ⟨k,qIq ndP hp hu k⟩
  ·obtain⟨c,e⟩:=qKp (n:=s.heap.objs.size+1) k
   refine .inr ⟨.inl k,c,e,?_⟩
   have q:=x.cell y c e
   rw [qIs ndP hp hu (by show scope.names.lookup y≠_;rw [k];decide)] at q
   exact q
 ·exact e0.hok.fresh (Nat.le_of_lt (x.above y c (PySem.mem_of_lookup h)))
 ·unfold start
  show _=N.length
  rw [List.length_append,List.length_map,List.length_replicate]
  omega
theorem qVx {CX:CXT} {P:Program} {w:World} {K:PySem.W.Frag} {mg:Str->Option Value} {base:Heap} {k:Nat} {f:Addr} {name qual:Str} {params:Arguments} {body:List Stmt} {scope:Scope} {dV kV doc pm cdv ct oc:Value} {an od:Option Addr}
  {osl:Array (Option Value)} {N ps:List Str} {sp:Sp} (lk:K.lookup f=some ⟨oc,od,.func (PySem.W.fnOf name qual params body scope dV kV doc pm an cdv ct),osl⟩) (hcd:PySem.W.codeIn K cdv qual=true) (S:FnScope N ps scope)
  (len : ∀vs H Q E,sp vs H Q E->vs.length=ps.length)
  (hbody : ∀(A:Around) (outer:List Env) (s:Shared) (H:Hp) (vs:List V) (Q:VK) (E:XK),Room k (A.deeper (envOfC qual scope s.heap.objs.size f cdv))->sp vs H Q E ->
   ∃t,PSs (cxOf CX P w K mg base N qual scope f cdv A outer s H E) body t/\t { nx:=fun _ H'=>Q .non H',rt:=Q } (start N vs) H) :
  FnOk P w K mg base CX (k+1) f (PySem.W.fnOf name qual params body scope dV kV doc pm an cdv ct) ps sp:=by
 refine⟨len,fun A outer s H args us vs Q E hr e0 hb r hsp => ?_⟩
 have hl:=len _ _ _ _ hsp
 have KX:K.In s.heap:=e0.mod.kin.keeps fun b o e=>(e0.bs b o e).1
 have lim:s.heap.NoLimit:=e0.mod.nolimit.keeps fun b o e=>(e0.bs b o e).1
 have hkind : ∀y∈ps.zip us,scope.names.lookup y.1=some .local\/(scope.names.lookup y.1=some .cell/\((cellsFrom (s.heap.objs.size+1) scope.names []).lookup y.1).isSome=true):=fun ⟨n,v⟩ hy=>by
  rcases S.par n (List.of_mem_zip hy).1 with q | q
  ·exact .inl q
  ·exact .inr ⟨q,PySem.W.cellsFrom_some _ _ _ (.inl q)⟩
 refine codeAny_call_function hr.depth (KX _ _ lk) rfl S.co S.gen rfl (PySem.W.codeRec_of KX hcd) (hb _ _ _ _ ?_)
 refine wpAny_newFunctionEnv_cells S.kind hkind fun env he s1 x => ?_
 subst he
 refine⟨lim.keeps x.toInCall.keep,codeAny_func ?_⟩
 obtain⟨t,ht,hq⟩:=hbody A outer s H vs Q E (hr.deeper _) hsp
 have I:Inv (cxOf CX P w K mg base N qual scope f cdv A outer s H E) [] (start N vs) H s1:=qNa S hr.hd e0 hl r x
 refine wpAny_mono (ht [] s1 (start N vs) H _ I hq) (fun fl s' hs => ?_) fun e s' hs=>hs
 have fin : ∀ {σ':St} {H':Hp} {v:V} {u:Value},Inv (cxOf CX P w K mg base N qual scope f cdv A outer s H E) [] σ' H' s'->RelV v u->Q v H'->CE outer P w H s Q u s' :=
  fun {σ' H' v u} J rv q=>⟨v,H',J.os,J.bare,J.base,J.hok,rv,q⟩
 cases fl with
 | ret u =>
  obtain⟨v,σ',H',J,rv,q⟩:=hs
  exact fin J rv q
 | next =>
  obtain⟨σ',H',J,q⟩:=hs
  exact fin (v:=V.non) (u:=Value.none) J rfl q
 | brk =>
  obtain⟨_,_,_,q⟩:=hs
  exact False.elim q
 | cont =>
  obtain⟨_,_,_,q⟩:=hs
  exact False.elim q
section
variable {X:Cx} {x:Str} {p pos:Pos} {e:Expr} {es:List Expr} {t:TA} {id T:String} {r:List V->Hp->VK->Prop}
def tCB (r:List V->Hp->VK->Prop) (t:TA):TE:=fun σ H Q=>t σ H fun vs H1=>r vs H1 Q
theorem qAl (hc:CallR X (.builtin id) r) (hg:Gl X x) (hm:X.mg x=none) (hv:bootBuiltins x=some (.builtin id)) (ha:PA X (e::es) t) (hn:x ≠ "__name__" :=by decide) (hdb:(x == ("__debug__" : Str))=false:=by decide)
  (he:starEach (e::es) X.env=(false,eval e X.env)::starEach es X.env:=by rfl) (hpl:(backTo pos (starEach es X.env)).any (·.1)=false:=by rfl):PE X (.Call (.Name x p) (e::es) [] pos) (tCB r t):=by
 intro pins s σ H Q I h
 refine wpAny_Call_Name_kw (qIc I hg hm hv ?_ hn hdb)
 refine PyProof.Rows.callWith_builtin1 (thn (ha pos pins s σ H _ I h) fun us s1 hq_ => ?_) he hpl
 obtain⟨vs,H1,I1,r1,q1⟩:=hq_
 exact hc pins s1 σ H1 vs us Q I1 r1 q1
theorem qAv (hc:CallR X (.type T) r) (hg:Gl X x) (hm:X.mg x=none) (hv:bootBuiltins x=some (.type T)) (ha:PA X (e::es) t) (hn:x ≠ "__name__" :=by decide) (hdb:(x == ("__debug__" : Str))=false:=by decide)
  (he:starEach (e::es) X.env=(false,eval e X.env)::starEach es X.env:=by rfl) (hpl:(backTo pos (starEach es X.env)).any (·.1)=false:=by rfl):PE X (.Call (.Name x p) (e::es) [] pos) (tCB r t):=by
 intro pins s σ H Q I h
 refine wpAny_Call_Name_kw (qIc I hg hm hv ?_ hn hdb)
 refine PyProof.Rows.callWith_type1 (thn (ha pos pins s σ H _ I h) fun us s1 hq_ => ?_) he hpl
 obtain⟨vs,H1,I1,r1,q1⟩:=hq_
 exact hc pins s1 σ H1 vs us Q I1 r1 q1
end
end L2
namespace HT
open PySem PyProof.Rows
def lexLt:List Int->List Int->Bool
 | [],[]=>false
 | [],_::_=>true
 | _::_,[]=>false
 | x::xs,y::ys=>if x=y then lexLt xs ys else decide (x<y)
theorem lexLt_cons (x y:Int) (xs ys:List Int):lexLt (x::xs) (y::ys)=if x=y then lexLt xs ys else decide (x<y):=rfl
section
open PySem.SeqAt
open PySem.AutoSeq1 (wpAny_loadPart')
open PySem.MeetsSeq PySem.MeetsSeq2 PySem.MeetsSeq3
end
section
variable {prog:Program} {w:World} {A:Around} {E:Value->Shared->Prop} {s:Shared}
def sIx (n d:Nat):Option Int->Nat
 | none=>d
 | some v=>if v<0 then (v+(n:Int)).toNat else min v.toNat n
theorem qTs (n d:Nat) (hd:d<=n) (o:Option Int):sIx n d o<=n:=by
 cases o with
 | none=>exact hd
 | some v =>
  show (if v<0 then (v+(n:Int)).toNat else min v.toNat n)<=n
  by_cases hv:v<0
  ·rw [if_pos hv];omega
  ·rw [if_neg hv];exact Nat.min_le_right _ _
theorem qNs (v:Int) (n d:Nat):(if v<0 then max (v+(n:Int)) 0 else min v (n:Int))=((sIx n d (some v):Nat):Int):=by
 show (if v<0 then max (v+(n:Int)) 0 else min v (n:Int))=(((if v<0 then (v+(n:Int)).toNat else min v.toNat n):Nat):Int)
 by_cases hv:v<0
 ·simp only [if_pos hv];omega
 ·simp only [if_neg hv];omega
theorem qLk (lo hi:Option Int) (n:Nat):Builtin.Slice.sliceAdjust lo hi 1 (n:Int)=(((sIx n 0 lo:Nat):Int),((sIx n n hi:Nat):Int)):=by
 have h1 : ¬((1:Int)<0):=by omega
 unfold Builtin.Slice.sliceAdjust
 simp only [h1,if_false]
 refine Prod.ext ?_ ?_
 ·cases lo with
  | none=>rfl
  | some v=>exact qNs v n 0
 ·cases hi with
  | none=>rfl
  | some v=>exact qNs v n n
theorem qL3 (i j:Nat):Builtin.Slice.slicePlaces (i:Int) (j:Int) 1=j - i:=by
 unfold Builtin.Slice.slicePlaces
 have h1:(1:Int)>0:=by omega
 simp only [h1,if_true,Int.ediv_one]
 split <;> omega
theorem qG8 {v:Value} {o:Option Int} {Q:Option Int->Shared->Prop} (p:IsPart v o) (h:Q o s):wpAny (model prog w) A (Builtin.Slice.slicePartIndex v) Q E s:=by
 cases p with
 | none=>exact slicePart_none h
 | int i t=>exact slicePart_int h
theorem qEt {sl:Addr} {vl vu:Value} {lo hi:Option Int} {n:Nat} {Q:Int×Int×Nat->Shared->Prop} (hs:s.heap.IsSliceOf sl vl vu .none) (pl:IsPart vl lo) (pu:IsPart vu hi)
  (h:Q (((sIx n 0 lo:Nat):Int),1,sIx n n hi - sIx n 0 lo) s):wpAny (model prog w) A (Builtin.Slice.sliceApplied (.ref sl) (pure (n:Int))) Q E s:=by
 obtain⟨os,hos,hcs,hds⟩:=id hs
 unfold Builtin.Slice.sliceApplied Builtin.Slice.sliceFields
 refine wpAny_bind (wpAny_bind (wpAny_field hos hds (x:=vl) rfl (wpAny_bind (wpAny_field hos hds (x:=vu) rfl (wpAny_bind (wpAny_field hos hds (x :=.none) rfl (wpAny_pure ?_)))))))
 refine wpAny_bind (slicePart_none ?_)
 show wpAny _ _ (if ((1:Int) == 0)=true then _ else _) _ _ s
 rw [if_neg (by decide)]
 refine wpAny_bind (qG8 pl (wpAny_bind (qG8 pu (wpAny_bind (wpAny_pure ?_)))))
 show wpAny _ _ (match Builtin.Slice.sliceAdjust lo hi 1 (n:Int) with | (lo,hi)=>pure (lo,(1:Int),Builtin.Slice.slicePlaces lo hi 1)) _ _ s
 rw [qLk lo hi n]
 show wpAny _ _ (pure (((sIx n 0 lo:Nat):Int),(1:Int),Builtin.Slice.slicePlaces ((sIx n 0 lo:Nat):Int) ((sIx n n hi:Nat):Int) 1)) _ _ s
 rw [qL3]
 exact wpAny_pure h
theorem qOs (xs:Array Value) (i k:Nat):((List.range k).filterMap fun (m:Nat)=>xs[((i:Int)+(m:Int)*1).toNat]?).toArray=((xs.toList.drop i).take k).toArray:=by
 have e:(fun (m:Nat)=>xs[((i:Int)+(m:Int)*1).toNat]?)=fun m=>xs[i+m]? :=by
  funext m
  have:((i:Int)+(m:Int)*1).toNat=i+m:=by omega
  rw [this]
 rw [e]
 have:=pick_run xs i k
 rw [List.filterMap_map] at this
 have e2:((fun x=>xs[x]?)∘fun x=>i+x)=fun m=>xs[i+m]? :=rfl
 rw [e2] at this
 rw [this]
theorem getItem_tuple_cut {t sl:Addr} {items:Array Value} {vl vu:Value} {lo hi:Option Int} {Q:Value->Shared->Prop} (ht:IsTup s.heap t items) (hs:s.heap.IsSliceOf sl vl vu .none) (pl:IsPart vl lo) (pu:IsPart vu hi)
  (hw : ¬(sIx items.size 0 lo=0/\sIx items.size items.size hi=items.size))
  (h:Q (.ref s.heap.objs.size) { s with heap:=s.heap.push { cls :=.type "tuple",data :=.seq ((items.toList.drop (sIx items.size 0 lo)).take (sIx items.size items.size hi - sIx items.size 0 lo)).toArray } })
  (hsz:items.size<=sizeLine):wpAny (model prog w) A (getItem (.ref t) (.ref sl)) Q E s:=by
 have htake:sizeOk (.seq ((items.toList.drop (sIx items.size 0 lo)).take (sIx items.size items.size hi - sIx items.size 0 lo)).toArray):=by
  show ((items.toList.drop (sIx items.size 0 lo)).take (sIx items.size items.size hi - sIx items.size 0 lo)).toArray.size<=sizeLine
  rw [List.size_toArray,List.length_take,List.length_drop,Array.length_toList]
  omega
 have hj:sIx items.size items.size hi<=items.size:=qTs _ _ (Nat.le_refl _) hi
 obtain⟨os,hos,hcs,hds⟩:=id hs
 have hTs:s.TypeIs (.ref sl) "slice" :=⟨os,hos,hcs⟩
 unfold getItem
 try with_reducible refine wpAny_holding ?_
 first | refine wpAny_bind (wpAny_pure ?_) | skip
 refine wpAny_bind (wpAny_sequenceKey ht.typeIs (by decide) ?_)
 refine wpAny_bind (wpAny_callSpecial?_slot (name:=Str.ofString "__getitem__") ht.typeIs PyProof.Rows.slot_tuple_getitem
  (wpAny_call_entry PyProof.Rows.slot_tuple_getitem ht.typeIs entry_tuple_getitem ?_ (args_tuple_getitem _ _)))
 show wpAny _ _ (Builtin.Tuple.tupleItemsOf (.ref t) >>= _) _ _ s
 refine wpAny_bind (tupleItemsOf_ ht ?_)
 refine wpAny_bind (wpAny_typeOf hTs ?_)
 rw [if_pos (by decide)]
 refine wpAny_bind (qEt hs pl pu ?_)
 have hno : ¬((((sIx items.size 0 lo:Nat):Int) == 0&&(1:Int) == 1&&(sIx items.size items.size hi - sIx items.size 0 lo) == items.size)=true):=by
  intro q
  rw [Bool.and_eq_true,Bool.and_eq_true] at q
  have q1:((sIx items.size 0 lo:Nat):Int)=0:=eq_of_beq q.1.1
  have q2:sIx items.size items.size hi - sIx items.size 0 lo=items.size:=eq_of_beq q.2
  exact hw ⟨by omega,by omega⟩
 show wpAny _ _ (if (((sIx items.size 0 lo:Nat):Int) == 0&&(1:Int) == 1&&(sIx items.size items.size hi - sIx items.size 0 lo) == items.size)=true then _ else _) _ _ s
 rw [if_neg hno,qOs]
 first
  | exact wpAny_bind (m:=Builtin.Tuple.tupleExact _) (wpAny_newObj_type (wpAny_pure ⟨_,rfl,wpAny_pure h⟩) htake)
  | exact wpAny_bind (m:=Builtin.Tuple.tupleExact _) (wpAny_newObj_type (wpAny_bind (wpAny_pure (wpAny_pure ⟨_,rfl,wpAny_pure h⟩))) htake)
  | exact wpAny_bind (wpAny_bind (m:=Builtin.Tuple.tupleExact _) (wpAny_newObj_type (wpAny_pure (wpAny_pure ⟨_,rfl,wpAny_pure h⟩)) htake))
  | exact wpAny_bind (wpAny_bind (m:=Builtin.Tuple.tupleExact _) (wpAny_newObj_type (wpAny_pure ⟨_,rfl,wpAny_pure h⟩) htake))
end
end HT
namespace L2
open PySem PySem.Spec PyProof.Rows
abbrev TO:=St->Hp->(Option Int->Hp->Prop)->Prop
def PO (X:Cx) (e:Option Expr) (t:TO):Prop :=
 ∀(pins:List (Addr×Obj)) (s:Shared) (σ : St) (H:Hp) (Q:Option Int->Hp->Prop),Inv X pins σ H s->t σ H Q ->
  wpAny (model X.prog X.w) X.A (evalPart e X.env) (fun u s' => ∃o H',Inv X pins σ H' s'/\IsPart u o/\Q o H') X.xe s
def qLr:TO:=fun _ H Q=>Q none H
def tPart (t:TE):TO:=fun σ H Q=>t σ H fun x H1 => ∃i,x = .int i/\Q (some i) H1
theorem qEk {ns:List Int} : ∀ {us:List Value},Vals (ns.map V.int) us->IntsAre us ns:=by
 induction ns with
 | nil=>intro us r;rw [List.map_nil] at r;cases r;exact .nil
 | cons n ns ih =>
  intro us r
  rw [List.map_cons] at r
  cases r with
  | cons r1 r2 =>
   obtain⟨t,e⟩:=r1
   subst e
   exact .cons n t (ih r2)
section
variable {X:Cx} {e:Expr} {te:TE} {lo hi:Option Expr} {tl th:TO} {pos p2:Pos}
theorem qMo:PO X none qLr:=by
 intro pins s σ H Q I h
 rw [evalPart_none]
 exact wpAny_pure ⟨none,H,I,.none,h⟩
theorem qMn (h:PE X e te):PO X (some e) (tPart te):=by
 intro pins s σ H Q I hw
 rw [evalPart_some]
 refine thn (h pins s σ H _ I hw) fun u s1 hq_ => ?_
 obtain⟨x,H1,I1,r1,q1⟩:=hq_
 obtain⟨i,rfl,q⟩:=q1
 obtain⟨t,rfl⟩:=r1
 exact⟨some i,H1,I1,.int i t,q⟩
def SlR (X:Cx) (r:V->Option Int->Option Int->Hp->VK->Prop):Prop :=
 ∀(pins:List (Addr×Obj)) (s:Shared) (σ : St) (H:Hp) (x:V) (v vl vu:Value) (lo hi:Option Int) (sl:Addr) (Q:VK),Inv X pins σ H s->RelV x v->s.heap.IsSliceOf sl vl vu .none->IsPart vl lo->IsPart vu hi->r x lo hi H Q ->
  ∃T id,typeLookup (.type T) "__getitem__" = pure (some (.builtin id))/\s.TypeIs v T/\wpAny (model X.prog X.w) X.A (getItem v (.ref sl)) (EP X pins σ Q) X.xe s
def tSl (r:V->Option Int->Option Int->Hp->VK->Prop) (te:TE) (tl th:TO):TE:=fun σ H Q=>te σ H fun x H1=>tl σ H1 fun l H2=>th σ H2 fun u H3=>r x l u H3 Q
theorem qK9 {r:V->Option Int->Option Int->Hp->VK->Prop} (hr:SlR X r) (he:PE X e te) (hl:PO X lo tl) (hu:PO X hi th):PE X (.Subscript e (.Slice lo hi none p2) pos) (tSl r te tl th):=by
 intro pins s σ H Q I h
 refine Subscript_ (thn (he pins s σ H _ I h) fun v s1 hq_ => ?_)
 obtain⟨x,H1,I1,r1,q1⟩:=hq_
 refine wpAny_Slice (thn (hl pins s1 σ H1 _ I1 q1) fun vl s2 hq_ => ?_)
 obtain⟨l,H2,I2,pl,q2⟩:=hq_
 refine thn (hu pins s2 σ H2 _ I2 q2) fun vu s3 hq_ => ?_
 obtain⟨u,H3,I3,pu,q3⟩:=hq_
 rw [evalPart_none]
 refine wpAny_pure ?_
 have I4:Inv X pins σ H3 { s3 with heap:=s3.heap.push { cls :=.type "slice",data :=.fields #[vl,vu,.none] } }:=I3.kept (t':=s3.toks) fun b ob q=>Heap.get?_push_of_some _ q
 obtain⟨T,id,hT,ht,hg⟩:=hr pins { s3 with heap:=s3.heap.push { cls :=.type "slice",data :=.fields #[vl,vu,.none] } } σ H3 x v vl vu l u s3.heap.objs.size Q I4 r1 (Heap.IsSliceOf.new ..) pl pu q3
 show wpAny (model X.prog X.w) X.A (subscriptTail e (.Slice lo hi none p2) v (.ref s3.heap.objs.size)) (EP X pins σ Q) X.xe { s3 with heap:=s3.heap.push { cls :=.type "slice",data :=.fields #[vl,vu,.none] } }
 exact tail_any (ops :=[.ref s3.heap.objs.size,v]) ht hT hg (by with_unfolding_all rfl)
def cutV (xs:List V) (lo hi:Option Int):List V:=(xs.drop (HT.sIx xs.length 0 lo)).take (HT.sIx xs.length xs.length hi - HT.sIx xs.length 0 lo)
theorem qFx (xs:List V) (lo hi:Option Int):(cutV xs lo hi).length<=xs.length:=by
 unfold cutV
 rw [List.length_take,List.length_drop]
 omega
def rSlT (K:PySem.W.Frag):V->Option Int->Option Int->Hp->VK->Prop:=fun x lo hi H Q => ∃a xs,x = .ref a/\SqT K H a xs /\
 ¬(HT.sIx xs.length 0 lo=0/\HT.sIx xs.length xs.length hi=xs.length) /\ ∀p,H p=none->Q (.ref p) (upd H p (.tup (cutV xs lo hi)))
theorem qQh:SlR X (rSlT X.K):=by
 intro pins s σ H x v vl vu lo hi sl Q I rx hs pl pu h
 obtain⟨a,xs,rfl,hx,hw,q⟩:=h
 cases rx
 obtain⟨its,r,ht,hz⟩:=I.tuple hx
 have hlen:its.toArray.size=xs.length:=by rw [List.size_toArray];exact r.length.symm
 refine⟨"tuple",_,PyProof.Rows.slot_tuple_getitem.lookup,ht.typeIs,?_⟩
 refine HT.getItem_tuple_cut ht hs pl pu (by rw [hlen];exact hw) ?_ (by rw [hlen];exact hz)
 rw [hlen]
 refine⟨.ref s.heap.objs.size,_,I.laid (t':=s.toks) (o :=.tup (cutV xs lo hi)) (fun b ob q=>Heap.get?_push_of_some _ q) (Nat.le_refl _) ?_,rfl,q _ (I.hok.fresh (Nat.le_refl _))⟩
 exact⟨Nat.le_trans (qFx xs lo hi) hz,_,(r.drop (HT.sIx xs.length 0 lo)).take (HT.sIx xs.length xs.length hi - HT.sIx xs.length 0 lo),IsTup.new _ _⟩
end
def ixN (n:Nat) (i:Int):Option Nat:=if 0<=i then (if i<n then some i.toNat else none) else if -(n:Int)<=i then some (i+n).toNat else none
def atI {α : Type} (xs:List α) (i:Int):Option α :=(ixN xs.length i).bind fun j=>xs[j]?
theorem qN9 {n:Nat} {i:Int} {j:Nat} (h:ixN n i=some j):seqIndex? i n=some j/\j<n /\ -(n:Int)<=i/\i<n:=by
 unfold ixN at h
 by_cases h0:0<=i
 ·rw [if_pos h0] at h
  by_cases h1:i<n
  ·rw [if_pos h1] at h
   have e:i.toNat=j:=Option.some.inj h
   exact⟨by rw [seqIndex_of h0 h1,e],by omega,by omega,h1⟩
  ·rw [if_neg h1] at h;cases h
 ·rw [if_neg h0] at h
  by_cases h1 : -(n:Int)<=i
  ·rw [if_pos h1] at h
   have e:(i+n).toNat=j:=Option.some.inj h
   exact⟨by rw [seqIndex_neg (by omega) h1,e],by omega,h1,by omega⟩
  ·rw [if_neg h1] at h;cases h
theorem qNv {α : Type} {xs:List α} {i:Int} {v : α} (h:atI xs i=some v) : ∃j,seqIndex? i xs.length=some j/\xs[j]? = some v/\j<xs.length /\ -(xs.length:Int)<=i/\i<xs.length:=by
 unfold atI at h
 cases e:ixN xs.length i with
 | none=>rw [e] at h;cases h
 | some j =>
  rw [e] at h
  obtain⟨h1,h2,h3,h4⟩:=qN9 e
  exact⟨j,h1,h,h2,h3,h4⟩
theorem qBf {α : Type} {xs:List α} {j:Nat} {v : α} (h:xs[j]? = some v):atI xs (j:Int)=some v:=by
 have hj:j<xs.length:=(List.getElem?_eq_some_iff.mp h).1
 have e:ixN xs.length (j:Int)=some j:=by
  unfold ixN
  rw [if_pos (by omega),if_pos (by omega)];simp
 unfold atI;rw [e];exact h
theorem qKs {α : Type} (xs:List α) (v : α):atI (xs ++ [v]) (-1)=some v:=by
 have hl:(xs ++ [v]).length=xs.length+1:=by simp
 have e:ixN (xs ++ [v]).length (-1)=some xs.length:=by
  unfold ixN
  rw [hl,if_neg (by decide),if_pos (by omega)]
  congr 1
  omega
 unfold atI
 rw [e]
 show (xs ++ [v])[xs.length]? = some v
 simp
def qTe (b:Expr):Prop := ∀o i,subscripted b false o i=operate [o,i] (getItem o i)
def IxR (X:Cx) (r:R2):Prop :=
 ∀(value slice:Expr) (pins:List (Addr×Obj)) (s:Shared) (σ : St) (H:Hp) (x y:V) (v u:Value) (Q:VK),Inv X pins σ H s->RelV x v->RelV y u->r x y H Q ->
  subscripted slice false v u=operate [v,u] (getItem v u)->wpAny (model X.prog X.w) X.A (subscriptTail value slice v u) (EP X pins σ Q) X.xe s
def MtR (X:Cx) (id:String) (r:V->List V->Hp->VK->Prop):Prop :=
 ∀(pins:List (Addr×Obj)) (s:Shared) (σ : St) (H:Hp) (x:V) (xs:List V) (v:Value) (us:List Value) (Q:VK),Inv X pins σ H s->RelV x v->Vals xs us->r x xs H Q ->
  wpAny (model X.prog X.w) X.A (call (.builtin id) (v::us)) (EP X pins σ Q) X.xe s
section
variable {X:Cx} {a b:Expr} {ta tb:TE} {pos:Pos}
theorem qAb {r:R2} (hr:IxR X r) (ha:PE X a ta) (hb:PE X b tb) (hs:qTe b):PE X (.Subscript a b pos) (tOp r ta tb):=by
 intro pins s σ H Q I h
 exact Subscript_ (binT ha hb I h fun v u s2 x y H2 I2 rx ry q=>hr a b pins s2 σ H2 x y v u Q I2 rx ry q (hs _ _))
def rIxL (K:PySem.W.Frag):R2:=fun x y H Q => ∃p xs i v,x = .ref p/\y = .int i/\SqL K H p xs/\atI xs i=some v/\Q v H
def rIxT (K:PySem.W.Frag):R2:=fun x y H Q => ∃p xs i v,x = .ref p/\y = .int i/\SqT K H p xs/\atI xs i=some v/\Q v H
theorem qAa:IxR X (rIxL X.K):=by
 intro value slice pins s σ H x y v u Q I rx ry h hs
 obtain⟨p,xs,i,z,rfl,rfl,hq,he,q⟩:=h
 cases rx
 obtain⟨t,rfl⟩:=ry
 obtain⟨its,r,pl,hz⟩:=I.list hq
 obtain⟨j,h1,h2,h3,h4,h5⟩:=qNv he
 obtain⟨w,ew,rw'⟩:=r.get h2
 have hl:=r.length
 have hn:=qGn
 have fin:EP X pins σ Q w s:=⟨z,H,I,rw',q⟩
 by_cases h0:0<=i
 ·have hj:i.toNat=j:=by
   rw [seqIndex_of h0 h5] at h1
   exact Option.some.inj h1
  exact item_listR pl.isList h0 (by omega) (by rw [hj];simpa using ew) fin hs
 ·have hj:(i+(its.toArray.size:Int)).toNat=j:=by
   rw [seqIndex_neg (by omega) h4] at h1
   rw [List.size_toArray,<-hl]
   exact Option.some.inj h1
  exact subscriptTail_builtinR (x:=w) pl.isList.typeIs slot_list_getitem.lookup
   (wpAny_getItem_list_neg (Q:=fun r s'=>r=w/\EP X pins σ Q r s') pl.isList (by omega) (by rw [List.size_toArray] <;> omega) (by omega) (by rw [hj];simpa using ew) ⟨rfl,fin⟩) hs
theorem qAm:IxR X (rIxT X.K):=by
 intro value slice pins s σ H x y v u Q I rx ry h hs
 obtain⟨p,xs,i,z,rfl,rfl,hq,he,q⟩:=h
 cases rx
 obtain⟨t,rfl⟩:=ry
 obtain⟨its,r,pl,hz⟩:=I.tuple hq
 obtain⟨j,h1,h2,h3,h4,h5⟩:=qNv he
 obtain⟨w,ew,rw'⟩:=r.get h2
 have hl:=r.length
 have hn:=qGn
 have fin:EP X pins σ Q w s:=⟨z,H,I,rw',q⟩
 exact subscriptTail_builtinR (x:=w) pl.typeIs slot_tuple_getitem.lookup
  (getItem_tuple (j:=j) (Q:=fun r s'=>r=w/\EP X pins σ Q r s') pl (by omega) (by omega) (by rw [List.size_toArray,<-hl];exact h1) (by simpa using ew) ⟨rfl,fin⟩) hs
theorem qLa (its:List Value) (n j:Nat) (u:Value):Obj.mapSeq (·.setIfInBounds j u) { cls :=.type "list",data :=.seq its.toArray n } = { cls :=.type "list",data :=.seq (its.set j u).toArray n }:=by
 simp [Obj.mapSeq]
theorem Inv.lst {pins:List (Addr×Obj)} {σ : St} {H:Hp} {s:Shared} {p:Addr} {xs:List V} (I:Inv X pins σ H s) (h:H p=some (.lst xs)) :
  ∃(its:List Value) (n:Nat),Vals xs its/\s.heap.get? p=some { cls :=.type "list",data :=.seq its.toArray n }/\xs.length<=sizeLine:=by
 obtain⟨z,its,n,r,e⟩:=I.hok p _ h
 exact⟨its,n,r,e,z⟩
theorem Inv.lstUpd {pins:List (Addr×Obj)} {σ : St} {H:Hp} {s:Shared} {p:Addr} {xs ys:List V} {its its':List Value} {n n':Nat} {f:Obj->Obj} (I:Inv X pins σ H s) (h:H p=some (.lst xs))
  (ho:s.heap.get? p=some { cls :=.type "list",data :=.seq its.toArray n }) (hf:f { cls :=.type "list",data :=.seq its.toArray n } = { cls :=.type "list",data :=.seq its'.toArray n' }) (r:Vals ys its') (hz:ys.length<=sizeLine) (t:Nat) :
  Inv X pins σ (upd H p (.lst ys)) { s with heap:=s.heap.update p f,toks:=t }:=by
 have e:(s.heap.update p f).get? p=some { cls :=.type "list",data :=.seq its'.toArray n' }:=by
  rw [Heap.get?_update_self f ho (by rw [hf] <;> rfl),hf]
 refine I.write (x:=p) (e:=p) (by rw [h];trivial) (.inl rfl) (fun b u hb q=>(Heap.get?_update_other _ _ (Ne.symm hb)).trans q) ⟨_,e⟩ ?_
 exact⟨hz,its',n',r,e⟩
def rSetL:V->V->V->Hp->(Hp->Prop)->Prop:=fun o i v H Q => ∃p xs k j,o = .ref p/\i = .int k/\H p=some (.lst xs)/\ixN xs.length k=some j/\Q (upd H p (.lst (xs.set j v)))
theorem qBm:PSet X rSetL:=by
 intro pins s σ H o i v ov iv u Q I ro ri rv h
 obtain⟨p,xs,k,j,rfl,rfl,hp,hj,q⟩:=h
 cases ro
 obtain⟨t,rfl⟩:=ri
 obtain⟨its,n,r,ho,hz⟩:=I.lst hp
 obtain⟨h1,h2,h3,h4⟩:=qN9 hj
 have hl:=r.length
 have hn:=qGn
 have I':Inv X pins σ (upd H p (.lst (xs.set j v))) { s with heap:=s.heap.update p (Obj.mapSeq (·.setIfInBounds j u)) } :=
  I.lstUpd hp ho (qLa its n j u) (r.set rv j) (by rw [List.length_set];exact hz) s.toks
 by_cases h0:0<=k
 ·have hk:k.toNat=j:=by
   rw [seqIndex_of h0 h4] at h1
   exact Option.some.inj h1
  exact PySem.W.ki_setAt ho h0 (by omega) (by rw [List.size_toArray,<-hl];exact h4) (by rw [hk];exact⟨_,I',q⟩)
 ·have hk:(k+(its.toArray.size:Int)).toNat=j:=by
   rw [seqIndex_neg (by omega) h3] at h1
   rw [List.size_toArray,<-hl]
   exact Option.some.inj h1
  exact PySem.W.ki_setBack ho (by omega) (by rw [List.size_toArray,<-hl];exact h3) (by omega) (by rw [hk];exact⟨_,I',q⟩)
theorem qHs (lo hi:Option Int) (n:Nat):(sliceBounds lo hi none n).1=((HT.sIx n 0 lo:Nat):Int)/\(sliceBounds lo hi none n).2.1=((HT.sIx n n hi:Nat):Int)/\(sliceBounds lo hi none n).2.2=1:=by
 refine⟨?_,?_,rfl⟩
 ·cases lo with
  | none=>simp [sliceBounds,HT.sIx]
  | some i =>
   simp only [sliceBounds,HT.sIx,Option.getD_none,show (1:Int)>0 by decide,if_true]
   by_cases h:i<0
   ·simp only [h,if_true] <;> omega
   ·simp only [h,if_false] <;> omega
 ·cases hi with
  | none=>simp [sliceBounds,HT.sIx]
  | some i =>
   simp only [sliceBounds,HT.sIx,Option.getD_none,show (1:Int)>0 by decide,if_true]
   by_cases h:i<0
   ·simp only [h,if_true] <;> omega
   ·simp only [h,if_false] <;> omega
theorem qGz (its:List Value) (lo hi:Option Int):slicePick its.toArray lo hi none=((its.drop (HT.sIx its.length 0 lo)).take (HT.sIx its.length its.length hi - HT.sIx its.length 0 lo)).toArray:=by
 obtain⟨h1,h2,h3⟩:=qHs lo hi its.toArray.size
 unfold slicePick
 rw [h1,h2,h3]
 simp only [sliceRange_one,pick_run,List.size_toArray] <;> rfl
def rSlL (K:PySem.W.Frag):V->Option Int->Option Int->Hp->VK->Prop:=fun x lo hi H Q => ∃a xs,x = .ref a/\SqL K H a xs /\ ∀p,H p=none->Q (.ref p) (upd H p (.lst (cutV xs lo hi)))
theorem qVo:SlR X (rSlL X.K):=by
 intro pins s σ H x v vl vu lo hi sl Q I rx hs pl pu h
 obtain⟨a,xs,rfl,hx,q⟩:=h
 cases rx
 obtain⟨its,r,ht,hz⟩:=I.list hx
 have hlen:=r.length
 refine⟨"list",_,slot_list_getitem.lookup,ht.isList.typeIs,?_⟩
 refine wpAny_getItem_list_slice ht.isList hs pl pu .none (by simp) ?_ (by rw [List.size_toArray] <;> omega)
 rw [qGz,<-hlen]
 refine⟨.ref s.heap.objs.size,_,I.laid (t':=s.toks) (o :=.lst (cutV xs lo hi)) (fun b ob q=>Heap.get?_push_of_some _ q) (Nat.le_refl _) ?_,rfl,q _ (I.hok.fresh (Nat.le_refl _))⟩
 exact⟨Nat.le_trans (qFx xs lo hi) hz,_,0,(r.drop (HT.sIx xs.length 0 lo)).take (HT.sIx xs.length xs.length hi - HT.sIx xs.length 0 lo),Heap.get?_push_size _ rfl⟩
def flatV:V->Bool
 | .non=>true
 | .bl _=>true
 | .int _=>true
 | .str _=>true
 | _=>false
def eqV:V->V->Bool
 | .non,.non=>true
 | .bl a,.bl b=>a == b
 | .bl a,.int b=>(if a then 1 else 0) == b
 | .int a,.bl b=>a == (if b then 1 else 0)
 | .int a,.int b=>a == b
 | .str a,.str b=>a == b
 | _,_=>false
theorem qVg {A:Around} {s:Shared} {y x:V} {u v:Value} (ry:RelV y u) (rx:RelV x v) (fy:flatV y=true) (fx:flatV x=true):SeqAt.EqAt A s u v (eqV y x):=by
 cases y with
 | non =>
  cases ry
  cases x with
  | non=>cases rx;exact SeqAt.EqAt.same _
  | bl b=>cases rx;exact SeqAt.EqAt.none_bool b
  | int b=>obtain⟨t,rfl⟩:=rx;exact SeqAt.EqAt.none_int b t
  | str b=>obtain⟨t,rfl⟩:=rx;exact SeqAt.EqAt.none_str b t
  | _=>exact absurd (show false=true from fx) Bool.false_ne_true
 | bl a =>
  cases ry
  cases x with
  | non=>cases rx;exact SeqAt.EqAt.bool_none a
  | bl b=>cases rx;exact SeqAt.EqAt.bool_bool a b
  | int b=>obtain⟨t,rfl⟩:=rx;exact SeqAt.EqAt.bool_int a b t
  | str b=>obtain⟨t,rfl⟩:=rx;exact SeqAt.EqAt.bool_str a b t
  | _=>exact absurd (show false=true from fx) Bool.false_ne_true
 | int a =>
  obtain⟨t',rfl⟩:=ry
  cases x with
  | non=>cases rx;exact SeqAt.EqAt.int_none a t'
  | bl b=>cases rx;exact SeqAt.EqAt.int_bool a t' b
  | int b=>obtain⟨t,rfl⟩:=rx;exact SeqAt.EqAt.int_int a t' b t
  | str b=>obtain⟨t,rfl⟩:=rx;exact SeqAt.EqAt.int_str a t' b t
  | _=>exact absurd (show false=true from fx) Bool.false_ne_true
 | str a =>
  obtain⟨t',rfl⟩:=ry
  cases x with
  | non=>cases rx;exact SeqAt.EqAt.str_none a t'
  | bl b=>cases rx;exact SeqAt.EqAt.str_bool a t' b
  | int b=>obtain⟨t,rfl⟩:=rx;exact SeqAt.EqAt.str_int a t' b t
  | str b=>obtain⟨t,rfl⟩:=rx;exact SeqAt.EqAt.str_str a t' b t
  | _=>exact absurd (show false=true from fx) Bool.false_ne_true
 | _=>exact absurd (show false=true from fy) Bool.false_ne_true
def eqU (x:V) (u:Value):Bool:=match u with
 | .none=>eqV .non x
 | .bool b=>eqV (.bl b) x
 | .int i _=>eqV (.int i) x
 | .str z _=>eqV (.str z) x
 | _=>false
theorem qR5 {x y:V} {u:Value} (r:RelV y u) (f:flatV y=true):eqU x u=eqV y x:=by
 cases y with
 | non=>cases r;rfl
 | bl b=>cases r;rfl
 | int i=>obtain⟨t,rfl⟩:=r;rfl
 | str z=>obtain⟨t,rfl⟩:=r;rfl
 | _=>exact absurd (show false=true from f) Bool.false_ne_true
theorem qNz {x:V} {xs:List V} {us:List Value} (h:Vals xs us) (f:xs.all flatV=true):us.any (eqU x)=xs.any fun y=>eqV y x:=by
 induction h with
 | nil=>rfl
 | cons r t ih =>
  rw [List.all_cons,Bool.and_eq_true] at f
  rw [List.any_cons,List.any_cons,qR5 r f.1,ih f.2]
theorem qKh {A:Around} {s:Shared} {x:V} {v:Value} (rx:RelV x v) (fx:flatV x=true) {xs:List V} {us:List Value} (h:Vals xs us) (f:xs.all flatV=true) : ∀u∈us,SeqAt.EqAt A s u v (eqU x u):=by
 induction h with
 | nil=>intro u hu;cases hu
 | cons r t ih =>
  intro u' hu
  rw [List.all_cons,Bool.and_eq_true] at f
  rcases List.mem_cons.mp hu with rfl | hu
  ·rw [qR5 r f.1];exact qVg r rx f.1 fx
  ·exact ih f.2 u' hu
def inV (x:V) (xs:List V):Bool:=xs.any fun y=>eqV y x
def rIn (K:PySem.W.Frag) (neg:Bool):R2:=fun x y H Q => ∃p xs,y = .ref p/\(SqL K H p xs\/SqT K H p xs)/\flatV x=true/\xs.all flatV=true/\Q (.bl (if neg then !inV x xs else inV x xs)) H
theorem qI3:OpR X (compareOp .In) (rIn X.K false):=by
 intro pins s σ H x y v u Q I rx ry h
 obtain⟨p,xs,rfl,hq,fx,fs,q⟩:=h
 cases ry
 rcases hq with hq | hq
 ·obtain⟨its,r,pl,hz⟩:=I.list hq
  refine SeqAt.in_listAt (eqU x) pl.isList (fun w hw=>qKh rx fx r fs w (by simpa using hw)) ⟨.bl _,H,I,rfl,?_⟩
  rw [show its.toArray.any (eqU x)=its.any (eqU x) by simp,qNz r fs]
  exact q
 ·obtain⟨its,r,pl,hz⟩:=I.tuple hq
  refine SeqAt.in_tupleAt (eqU x) pl (fun w hw=>qKh rx fx r fs w (by simpa using hw)) ⟨.bl _,H,I,rfl,?_⟩
  rw [show its.toArray.any (eqU x)=its.any (eqU x) by simp,qNz r fs]
  exact q
theorem qAf:CallR X (.builtin "len") (fun xs H Q => ∃p ys,xs = [.ref p]/\(SqL X.K H p ys\/SqT X.K H p ys)/\Q (.int ys.length) H):=by
 intro pins s σ H xs us Q I r h
 obtain⟨p,ys,rfl,hq,q⟩:=h
 obtain⟨u,rfl,rx⟩:=vals1 r
 cases rx
 have hn:=qGn
 rcases hq with hq | hq
 ·obtain⟨its,r',pl,hz⟩:=I.list hq
  have hlen:=r'.length
  exact Calls.call_len_list pl.isList (by simp only [List.size_toArray] <;> omega) ⟨.int ys.length,H,I.tok _,⟨s.toks+1,by rw [List.size_toArray,hlen]⟩,q⟩
 ·obtain⟨its,r',pl,hz⟩:=I.tuple hq
  have hlen:=r'.length
  exact len_tuple pl (by simp only [List.size_toArray] <;> omega) ⟨.int ys.length,H,I.tok _,⟨s.toks+1,by rw [List.size_toArray,hlen]⟩,q⟩
theorem qBi:CallR X (.type "list") (fun xs H Q => ∃p ys,xs = [.ref p]/\(SqL X.K H p ys\/SqT X.K H p ys) /\ ∀l,H l=none->Q (.ref l) (upd H l (.lst ys))):=by
 intro pins s σ H xs us Q I r h
 obtain⟨p,ys,rfl,hq,q⟩:=h
 obtain⟨u,rfl,rx⟩:=vals1 r
 cases rx
 have fin : ∀(its:List Value),Vals ys its->ys.length<=sizeLine -> ∀(h':Heap) (c':Nat),(∀b o',s.heap.get? b=some o'->h'.get? b=some o') ->
   h'.get? s.heap.objs.size=some { cls :=.type "list",dict:=none,data :=.seq its.toArray c',slots := #[] }->EP X pins σ Q (.ref s.heap.objs.size) { s with heap:=h' }:=fun its r' hz h' c' kp e =>
  ⟨.ref s.heap.objs.size,_,I.laid (t':=s.toks) kp (Nat.le_refl _) (show ObjOk X.prog X.w _ h' _ (.lst ys) from⟨hz,its,c',r',e⟩),rfl,q _ (I.hok.fresh (Nat.le_refl _))⟩
 rcases hq with hq | hq
 ·obtain⟨its,r',pl,hz⟩:=I.list hq
  have hlen:=r'.length
  obtain⟨o,ho,hc,n,hd⟩:=pl.isList
  exact call_list_seq p (.inl rfl) ho hc hd (fun h' c' kp e=>fin its r' hz h' c' kp e) (by simp only [List.size_toArray] <;> omega)
 ·obtain⟨its,r',pl,hz⟩:=I.tuple hq
  have hlen:=r'.length
  obtain⟨o,ho,hc,n,hd⟩:=pl
  exact call_list_seq p (.inr rfl) ho hc hd (fun h' c' kp e=>fin its r' hz h' c' kp e) (by simp only [List.size_toArray] <;> omega)
def tyV (K:PySem.W.Frag) (T:String) (x:V) (H:Hp):Prop:=match x with
 | .str _=>T = "str"
 | .int _=>T = "int"
 | .ref p=>(T = "list" /\ ∃xs,SqL K H p xs)\/(T = "tuple" /\ ∃o,K.lookup p=some o/\o.cls = .type "tuple" /\ o.dict=none) \/
   (T = "dict" /\ ((∃kvs,H p=some (.dK kvs)) \/ ∃kvs,H p=some (.dT kvs)))\/(T = "set" /\ ∃S n,H p=some (.set S n))
 | _=>False
theorem qQb {pins:List (Addr×Obj)} {σ : St} {H:Hp} {s:Shared} {T:String} {x:V} {v:Value} (I:Inv X pins σ H s) (r:RelV x v) (ty:tyV X.K T x H) :
  s.TypeIs v T /\ ∀a,v = .ref a -> ∃ob,s.heap.get? a=some ob/\ob.dict=none:=by
 cases x with
 | str z =>
  obtain⟨t,rfl⟩:=r
  cases (show T = "str" from ty)
  exact⟨typeIs_str s z t,fun _ e=>nomatch e⟩
 | int i =>
  obtain⟨t,rfl⟩:=r
  cases (show T = "int" from ty)
  exact⟨typeIs_int s i t,fun _ e=>nomatch e⟩
 | ref p =>
  cases r
  rcases ty with ⟨rfl,xs,hq⟩ | ⟨rfl,o,hk,hc,hd⟩ | ⟨rfl,hk⟩ | ⟨rfl,S,n,hk⟩
  ·obtain⟨its,_,pl,_⟩:=I.list hq
   refine⟨pl.isList.typeIs,fun a e => ?_⟩
   cases e
   obtain⟨o,n,e,c,hd,_⟩:=pl
   exact⟨o,e,hd⟩
  ·refine⟨⟨o,I.kIn p o hk,hc⟩,fun a e => ?_⟩
   cases e
   exact⟨o,I.kIn _ o hk,hd⟩
  ·have z : ∃o,s.heap.get? p=some o/\o.ExactDict:=by
    rcases hk with ⟨kvs,hk⟩ | ⟨kvs,hk⟩
    ·obtain⟨_,_,_,_,o,_,_,e,ex,_⟩:=I.hok p _ hk
     exact⟨o,e,ex⟩
    ·obtain⟨_,_,_,_,o,_,_,e,ex,_⟩:=I.hok p _ hk
     exact⟨o,e,ex⟩
   obtain⟨o,e,ex⟩:=z
   refine⟨⟨o,e,ex.1⟩,fun a e2 => ?_⟩
   cases e2
   exact⟨o,e,ex.2.1⟩
  ·obtain⟨o,_,_,_,e,ex,_⟩:=I.hok p _ hk
   refine⟨⟨o,e,ex.1⟩,fun a e2 => ?_⟩
   cases e2
   exact⟨o,e,ex.2.1⟩
 | _=>exact False.elim ty
def tBM0 (K:PySem.W.Frag) (T:String) (r:V->List V->Hp->VK->Prop) (to:TE):TE:=fun σ H Q=>to σ H fun x H1=>tyV K T x H1/\r x [] H1 Q
def tBM (K:PySem.W.Frag) (T:String) (r:V->List V->Hp->VK->Prop) (to:TE) (t:TA):TE:=fun σ H Q=>to σ H fun x H1=>tyV K T x H1/\t σ H1 fun xs H2=>r x xs H2 Q
variable {o e:Expr} {es:List Expr} {to:TE} {t:TA} {name:Str} {apos cpos:Pos} {T id:String} {r:V->List V->Hp->VK->Prop}
theorem qQy (pa:PlainAttrs T) (slot:Slot T name id) (hty:typeOf (.builtin id)=pure (.type "method_descriptor")) (hm:MtR X id r) (ho:PE X o to)
  (hbase:attributeBase o name X.env (eval o X.env)=eval o X.env:=by rfl) (hline:(apos.endLine == cpos.line)=true:=by rfl):PE X (.Call (.Attribute o name apos) [] [] cpos) (tBM0 X.K T r to):=by
 intro pins s σ H Q I h
 refine wpAny_Call_method0_late hbase hline (thn (ho pins s σ H _ I h) fun v s1 hq_ => ?_)
 obtain⟨x,H1,I1,r1,ty,q1⟩:=hq_
 obtain⟨h1,h2⟩:=qQb I1 r1 ty
 exact⟨T,id,pa,slot,hty,h1,h2,Calls.callWith_builtin rfl (PySem.evalArgs_none (hm pins s1 σ H1 x [] v [] Q I1 r1 .nil q1))⟩
theorem qDs (pa:PlainAttrs T) (slot:Slot T name id) (hty:typeOf (.builtin id)=pure (.type "method_descriptor")) (hm:MtR X id r) (ho:PE X o to) (ha:PA X (e::es) t)
  (hbase:attributeBase o name X.env (eval o X.env)=eval o X.env:=by rfl)
  (hfew:((backTo cpos (starEach (e::es) X.env)).all (fun x => !x.1)&&(backToKw cpos (keywordEach [] X.env)).all (fun x=>x.1.isSome)
   && decide ((e::es).length+([]:List Keyword).length+(if ([]:List Keyword).isEmpty then 0 else 1)<30))=true:=by rfl)
  (hline:(apos.endLine == cpos.line)=true:=by rfl) (hs:starEach (e::es) X.env=(false,eval e X.env)::starEach es X.env:=by rfl) (hplain:(backTo cpos (starEach es X.env)).any (·.1)=false:=by rfl) :
  PE X (.Call (.Attribute o name apos) (e::es) [] cpos) (tBM X.K T r to t):=by
 intro pins s σ H Q I h
 refine wpAny_Call_method_late hbase hfew hline rfl (thn (ho pins s σ H _ I h) fun v s1 hq_ => ?_)
 obtain⟨x,H1,I1,r1,ty,q1⟩:=hq_
 obtain⟨h1,h2⟩:=qQb I1 r1 ty
 refine⟨T,id,pa,slot,hty,h1,h2,?_⟩
 have hA:=ha cpos pins s1 σ H1 _ I1 q1
 rw [hs] at hA ⊢
 refine Calls.callWith_builtin (by show (false||(backTo cpos (starEach es X.env)).any (·.1))=false;rw [hplain] <;> rfl) (Calls.evalArgs_plain ?_)
 refine thn hA fun us s2 hq_ => ?_
 obtain⟨vs,H2,I2,r2,q2⟩:=hq_
 exact hm pins s2 σ H2 x vs v us Q I2 r1 r2 q2
end
def MtM (X:Cx) (id:String) (r:V->List V->Hp->VK->Prop):Prop :=
 ∀(pins:List (Addr×Obj)) (s:Shared) (σ : St) (H:Hp) (x:V) (xs:List V) (v:Value) (us:List Value) (Q:VK),Inv X pins σ H s->RelV x v->Vals xs us->r x xs H Q ->
  wpAny (model X.prog X.w) X.A (call (.builtin id) (v::us)) (EP X pins σ Q) X.xe s
theorem Vals.one {x:V} {us:List Value} (h:Vals [x] us) : ∃u,us = [u]/\RelV x u:=by
 cases h with | cons r t=>cases t;exact⟨_,rfl,r⟩
theorem Vals.zero : ∀ {us:List Value},Vals [] us->us = []
 | _,.nil=>rfl
theorem Vals.dropLast {xs:List V} {us:List Value} (h:Vals xs us):Vals xs.dropLast us.dropLast:=by
 induction h with
 | nil=>exact .nil
 | cons r t ih =>
  cases t with
  | nil=>exact .nil
  | cons q t'=>exact .cons r ih
theorem Vals.eraseIdx : ∀ {xs:List V} {us:List Value} (i:Nat),Vals xs us->Vals (xs.eraseIdx i) (us.eraseIdx i)
 | _,_,_,.nil =>.nil
 | _,_,0,.cons _ t=>t
 | _,_,i+1,.cons r t =>.cons r (Vals.eraseIdx i t)
theorem Vals.reverse {xs:List V} {us:List Value} (h:Vals xs us):Vals xs.reverse us.reverse:=by
 induction h with
 | nil=>exact .nil
 | cons r t ih=>rw [List.reverse_cons,List.reverse_cons];exact Vals.append ih (.cons r .nil)
theorem Vals.rep {xs:List V} {us:List Value} (h:Vals xs us) : ∀k:Nat,Vals (List.replicate k xs).flatten (List.replicate k us).flatten
 | 0 =>.nil
 | k+1=>by
  rw [List.replicate_succ,List.replicate_succ,List.flatten_cons,List.flatten_cons]
  exact Vals.append h (Vals.rep h k)
theorem qLg {α : Type} (l:List α):l.eraseIdx (l.length - 1)=l.dropLast:=by
 induction l with
 | nil=>rfl
 | cons a r ih =>
  cases r with
  | nil=>rfl
  | cons b r =>
   have e:(a::b::r).length - 1=((b::r).length - 1)+1:=by
    have h1:(a::b::r).length=r.length+2:=rfl
    have h2:(b::r).length=r.length+1:=rfl
    omega
   rw [e,List.eraseIdx_cons_succ,ih]
   all_goals rfl
theorem qIb {α : Type} : ∀(l:List α) (i:Nat),(l.eraseIdx i).length<=l.length
 | [],_=>Nat.le_refl _
 | _::_,0=>Nat.le_succ _
 | _::r,i+1=>Nat.succ_le_succ (qIb r i)
theorem qIg (its:List Value) : ∀(k:Nat) (acc:List Value),
  List.foldl (fun x1 x2=>x1++x2) acc.toArray (List.replicate k its.toArray)=(acc++(List.replicate k its).flatten).toArray
 | 0,acc=>by simp
 | k+1,acc=>by
  have e:acc.toArray++its.toArray=(acc++its).toArray:=by simp
  have e2:(acc++its)++(List.replicate k its).flatten=acc++(List.replicate (k+1) its).flatten:=by
   rw [List.replicate_succ,List.flatten_cons,List.append_assoc]
  rw [<-e2,<-qIg its k (acc++its),<-e,List.replicate_succ,List.foldl_cons]
section
variable {X:Cx} {pins:List (Addr×Obj)} {σ : St} {H:Hp} {s:Shared} {l b:Addr} {xs ys zs:List V}
theorem Inv.lset {its its':List Value} {n:Nat} {f:Array Value->Array Value} {t':Nat} (I:Inv X pins σ H s) (hH:H l=some (.lst xs))
  (e:s.heap.get? l=some { cls :=.type "list",data :=.seq its.toArray n }) (hf:f its.toArray=its'.toArray) (hv:Vals ys its') (hz:ys.length<=sizeLine) :
  Inv X pins σ (upd H l (.lst ys)) { s with heap:=s.heap.update l (Obj.mapSeq f),toks:=t' }:=by
 have q:=PySem.IsL.update e f
 rw [hf] at q
 refine I.write (x:=l) (e:=l) (by rw [hH];exact trivial) (.inl rfl) (fun b' u hb hu=>(Heap.get?_update_other s.heap (Obj.mapSeq f) (Ne.symm hb)).trans hu) ⟨_,q⟩ ?_
 exact⟨hz,its',_,hv,q⟩
theorem Inv.lnew {its:List Value} {t':Nat} (I:Inv X pins σ H s) (hv:Vals ys its) (hz:ys.length<=sizeLine) :
  Inv X pins σ (upd H s.heap.objs.size (.lst ys)) { s with heap:=s.heap.push { cls :=.type "list",data :=.seq its.toArray },toks:=t' } :=
 I.laid (fun _ _ q=>Heap.get?_push_of_some _ q) (Nat.le_refl _) ⟨hz,its,0,hv,Heap.get?_push_size _ rfl⟩
theorem Inv.fresh (I:Inv X pins σ H s):H s.heap.objs.size=none:=I.hok.fresh (Nat.le_refl _)
theorem Inv.lstM (I:Inv X pins σ H s) (hH:H l=some (.lst xs)):xs.length<=sizeLine /\ ∃(its:List Value) (n:Nat),Vals xs its/\xs.length=its.length/\s.heap.get? l=some { cls :=.type "list",data :=.seq its.toArray n }:=by
 obtain⟨z,its,n,r,e⟩:=I.hok l _ hH
 exact⟨z,its,n,r,r.length,e⟩
theorem qKc {n:Nat} (h:n<=sizeLine):Builtin.List.listTooLong n=false:=by
 unfold Builtin.List.listTooLong
 exact decide_eq_false (by omega)
end
section
variable {X:Cx}
def qH3:V->List V->Hp->VK->Prop:=fun x vs H Q => ∃l xs y,x = .ref l/\vs = [y]/\H l=some (.lst xs)/\xs.length<sizeLine/\Q .non (upd H l (.lst (xs ++ [y])))
theorem qBh:MtM X "list.append" qH3:=by
 intro pins s σ H x vs v us Q I rx rv h
 obtain⟨l,xs,y,rfl,rfl,hH,hz,q⟩:=h
 cases rx
 obtain⟨u,rfl,ru⟩:=rv.one
 obtain⟨z,its,n,r,hl,e⟩:=I.lstM hH
 refine call_meets F.slot_list_append ⟨_,e,rfl⟩ F.entry_list_append (F.args_list_append_2 _ _) (PySem.list_append l its.toArray n u (by rw [List.size_toArray];omega)) ⟨e,?_⟩
 refine⟨.non,_,I.lset (its':=its ++ [u]) hH e (by simp) (r.append (.cons ru .nil)) ?_,rfl,q⟩
 rw [List.length_append,List.length_singleton]
 omega
def qS1:V->List V->Hp->VK->Prop:=fun x vs H Q => ∃l b xs zs,x = .ref l/\vs = [.ref b]/\H l=some (.lst xs)/\H b=some (.lst zs)/\xs.length+zs.length<=sizeLine/\Q .non (upd H l (.lst (xs++zs)))
theorem qFn:MtM X "list.extend" qS1:=by
 intro pins s σ H x vs v us Q I rx rv h
 obtain⟨l,b,xs,zs,rfl,rfl,hH,hB,hz,q⟩:=h
 cases rx
 obtain⟨u,rfl,ru⟩:=rv.one
 cases ru
 obtain⟨z,its,n,r,hl,e⟩:=I.lstM hH
 obtain⟨z2,its2,n2,r2,hl2,e2⟩:=I.lstM hB
 have hsz:its.toArray.size+its2.toArray.size<=sizeLine:=by rw [List.size_toArray,List.size_toArray];omega
 have hlong : ¬(!its.toArray.isEmpty&&Builtin.List.listTooLong (its.toArray.size+its2.toArray.size))=true:=by
  rw [qKc hsz,Bool.and_false]
  exact Bool.false_ne_true
 refine call_meets F.slot_list_extend ⟨_,e,rfl⟩ F.entry_list_extend (F.args_list_extend_2 _ _)
  (AutoSeq1.list_extend_list_list_0 l its.toArray n b its2.toArray n2 hlong (by rw [List.size_toArray];omega) (by omega)) ⟨e,e2,?_⟩
 refine⟨.non,_,I.lset (its':=its++its2) hH e (by simp) (r.append r2) ?_,rfl,q⟩
 rw [List.length_append]
 omega
def rPop:V->List V->Hp->VK->Prop:=fun x vs H Q => ∃l xs y,x = .ref l/\vs = []/\H l=some (.lst xs)/\xs[xs.length - 1]? = some y/\Q y (upd H l (.lst xs.dropLast))
theorem qV2:MtM X "list.pop" rPop:=by
 intro pins s σ H x vs v us Q I rx rv h
 obtain⟨l,xs,y,rfl,rfl,hH,hy,q⟩:=h
 cases rx
 have hus:=rv.zero
 subst hus
 obtain⟨z,its,n,r,hl,e⟩:=I.lstM hH
 obtain⟨u,hu,ru⟩:=r.get hy
 have hy':its.toArray[its.toArray.size - 1]? = some u:=by
  show its.toArray[its.length - 1]? = some u
  rw [<-Array.getElem?_toList,<-hl]
  exact hu
 refine call_meets F.slot_list_pop ⟨_,e,rfl⟩ F.entry_list_pop (F.args_list_pop_1 _) (MeetsSeq.list_pop_last l its.toArray n u hy' (by rw [List.size_toArray];omega)) ⟨e,?_⟩
 refine⟨y,_,I.lset (its':=its.dropLast) hH e ?_ r.dropLast ?_,ru,q⟩
 ·show its.toArray.eraseIdxIfInBounds (its.toArray.size - 1)=its.dropLast.toArray
  rw [List.size_toArray,List.eraseIdxIfInBounds_toArray,qLg]
 ·rw [List.length_dropLast]
  omega
def qUj:V->List V->Hp->VK->Prop:=fun x vs H Q => ∃l xs i k y,x = .ref l/\vs = [.int i]/\H l=some (.lst xs) /\ -(2^63)<=i/\i<2^63/\seqIndex? i xs.length=some k/\xs[k]? = some y/\Q y (upd H l (.lst (xs.eraseIdx k)))
theorem qPj:MtM X "list.pop" qUj:=by
 intro pins s σ H x vs v us Q I rx rv h
 obtain⟨l,xs,i,k,y,rfl,rfl,hH,h1,h2,hk,hy,q⟩:=h
 cases rx
 obtain⟨u,rfl,ru⟩:=rv.one
 obtain⟨t,rfl⟩:=ru
 obtain⟨z,its,n,r,hl,e⟩:=I.lstM hH
 obtain⟨w,hw,rw'⟩:=r.get hy
 refine call_meets F.slot_list_pop ⟨_,e,rfl⟩ F.entry_list_pop (F.args_list_pop_2 _ _)
  (MeetsSeq.list_pop_at l its.toArray n i t k w (fitsIndex_both h1 h2) (by rw [List.size_toArray,<-hl];exact hk) (by rw [<-Array.getElem?_toList];exact hw) (by rw [List.size_toArray];omega)) ⟨e,?_⟩
 refine⟨y,_,I.lset (its':=its.eraseIdx k) hH e ?_ (r.eraseIdx k) ?_,rw',q⟩
 ·show its.toArray.eraseIdxIfInBounds k=(its.eraseIdx k).toArray
  rw [List.eraseIdxIfInBounds_toArray]
 ·have:=qIb xs k
  omega
def qOm:V->List V->Hp->VK->Prop:=fun x vs H Q => ∃l xs,x = .ref l/\vs = []/\H l=some (.lst xs)/\Q .non (upd H l (.lst xs.reverse))
theorem qL9:MtM X "list.reverse" qOm:=by
 intro pins s σ H x vs v us Q I rx rv h
 obtain⟨l,xs,rfl,rfl,hH,q⟩:=h
 cases rx
 have hus:=rv.zero
 subst hus
 obtain⟨z,its,n,r,hl,e⟩:=I.lstM hH
 refine call_meets F.slot_list_reverse ⟨_,e,rfl⟩ F.entry_list_reverse (F.args_list_reverse_1 _) (AutoSeq1.list_reverse_list_0 l its.toArray n (by rw [List.size_toArray];omega)) ⟨e,?_⟩
 refine⟨.non,_,I.lset (its':=its.reverse) hH e (by simp) r.reverse ?_,rfl,q⟩
 rw [List.length_reverse]
 omega
def rCat:R2:=fun x y H Q => ∃l b xs zs,x = .ref l/\y = .ref b/\H l=some (.lst xs)/\H b=some (.lst zs)/\xs.length+zs.length<=sizeLine /\ ∀p,H p=none->Q (.ref p) (upd H p (.lst (xs++zs)))
theorem qR0:OpR X (binaryOp .Add) rCat:=by
 intro pins s σ H x y v u Q I rx ry h
 obtain⟨l,b,xs,zs,rfl,rfl,hH,hB,hz,q⟩:=h
 cases rx
 cases ry
 obtain⟨z,its,n,r,hl,e⟩:=I.lstM hH
 obtain⟨z2,its2,n2,r2,hl2,e2⟩:=I.lstM hB
 refine PySem.P.add_list e e2 ?_ (by rw [List.size_toArray,List.size_toArray];omega)
 have ea:its.toArray++its2.toArray=(its++its2).toArray:=by simp
 rw [ea]
 exact⟨.ref _,_,I.lnew (t':=s.toks) (r.append r2) (by rw [List.length_append];omega),rfl,q _ I.fresh⟩
def rRep:R2:=fun x y H Q => ∃l k xs,x = .ref l/\y = .int k/\H l=some (.lst xs) /\ -(2^63)<=k/\k<2^63/\xs.length*k.toNat<=sizeLine /\
 ∀p,H p=none->Q (.ref p) (upd H p (.lst (List.replicate k.toNat xs).flatten))
theorem qT3 {α : Type} (xs:List α) (k:Nat):(List.replicate k xs).flatten.length=k*xs.length:=by
 induction k with
 | zero=>simp
 | succ k ih=>rw [List.replicate_succ,List.flatten_cons,List.length_append,ih,Nat.succ_mul,Nat.add_comm]
theorem qUt:OpR X (binaryOp .Mult) rRep:=by
 intro pins s σ H x y v u Q I rx ry h
 obtain⟨l,k,xs,rfl,rfl,hH,h1,h2,hz,q⟩:=h
 cases rx
 obtain⟨t,rfl⟩:=ry
 obtain⟨z,its,n,r,hl,e⟩:=I.lstM hH
 have hlen:its.toArray.size*k.toNat<=sizeLine:=by rw [List.size_toArray,<-hl];exact hz
 have hcap : ¬its.toArray.size*k.toNat>(2^63 - 1) / 8:=by
  have:(sizeLine:Nat)<=(2^63 - 1) / 8:=by decide
  omega
 have hfit : ¬(!Builtin.List.listFitsIndex k)=true:=by
  rw [fitsIndex_both h1 h2]
  exact Bool.false_ne_true
 have hlong : ¬Builtin.List.listTooLong (its.toArray.size*k.toNat)=true:=by
  rw [qKc hlen]
  exact Bool.false_ne_true
 have hnew:List.foldl (fun x1 x2=>x1++x2) #[] (List.replicate (if its.toArray.isEmpty=true then 0 else k.toNat) its.toArray)=(List.replicate k.toNat its).flatten.toArray:=by
  have f0 : ∀m:Nat,List.foldl (fun x1 x2=>x1++x2) #[] (List.replicate m its.toArray)=(List.replicate m its).flatten.toArray:=fun m=>by
   have:=qIg its m []
   rw [List.nil_append] at this
   exact this
  rw [f0]
  cases its with
  | nil=>simp
  | cons a r'=>rw [if_neg (by simp)]
 refine wpAny_binaryOp_repeat_ref (T := "list") (U := "int") (by decide) ⟨_,e,rfl⟩ (fun s'=>typeIs_int s' k t) noFill_list_mul F.fills_int_mul F.slot_int_rmul repeat_list F.slot_int_index.lookup
  (call_meets F.slot_int_rmul (typeIs_int s k t) F.entry_int_rmul (F.args_int_rmul_2 _ _) (int___rmul___int_list k t l its.toArray n)
   ⟨e,rfl,⟨_,e,rfl⟩,call_meets F.slot_list_mul ⟨_,e,rfl⟩ F.entry_list_mul (F.args_list_mul_2 _ _) (AutoListH.list___mul___list_int_3 l its.toArray n k t hfit hcap hlong) ⟨e,?_⟩⟩)
 rw [hnew]
 exact⟨.ref _,_,I.lnew (t':=s.toks) (r.rep k.toNat) (by rw [qT3,Nat.mul_comm];exact hz),rfl,q _ I.fresh⟩
end
section
variable {κ : Type} [DecidableEq κ]
def valV (kvs:List (κ × V)) (k : κ):Option V:=(kvs.find? fun kv=>decide (kv.1=k)).map (·.2)
def putK (kvs:List (κ × V)) (k : κ) (v:V):List (κ × V) :=
 if (kvs.any fun kv=>decide (kv.1=k))=true then kvs.map (fun kv=>if kv.1=k then (kv.1,v) else kv) else kvs ++ [(k,v)]
theorem qBk {p : κ × V} {r:List (κ × V)} {k : κ} (e:p.1=k):valV (p::r) k=some p.2:=by simp [valV,List.find?_cons,e]
theorem qBl {p : κ × V} {r:List (κ × V)} {k : κ} (e : ¬p.1=k):valV (p::r) k=valV r k:=by simp [valV,List.find?_cons,e]
theorem qEw (k : κ) : ∀kvs:List (κ × V),(kvs.any fun kv=>decide (kv.1=k))=(valV kvs k).isSome
 | []=>rfl
 | p::r=>by
  rw [List.any_cons]
  by_cases e:p.1=k
  ·simp only [qBk e,decide_eq_true e,Bool.true_or,Option.isSome_some]
  ·rw [qBl e,decide_eq_false e,Bool.false_or];exact qEw k r
theorem qJq (k j : κ) (y:V) : ∀kvs:List (κ × V),valV (kvs.map fun kv=>if kv.1=k then (kv.1,y) else kv) j=(valV kvs j).map fun x=>if j=k then y else x
 | []=>rfl
 | p::r=>by
  have ih:=qJq k j y r
  rw [List.map_cons]
  by_cases h:p.1=k
  ·rw [if_pos h]
   by_cases e:p.1=j
   ·rw [qBk (p:=(p.1,y)) e,qBk e,Option.map_some,if_pos (e.symm.trans h)]
   ·rw [qBl (p:=(p.1,y)) e,qBl e,ih]
  ·rw [if_neg h]
   by_cases e:p.1=j
   ·rw [qBk (p:=p) e,qBk e,Option.map_some,if_neg (fun z=>h (e.trans z))]
   ·rw [qBl (p:=p) e,qBl e,ih]
theorem qHn (k j : κ) (y:V) : ∀kvs:List (κ × V),valV kvs k=none->valV (kvs ++ [(k,y)]) j=if j=k then some y else valV kvs j
 | [],_=>by
  by_cases e:k=j
  ·rw [if_pos e.symm];exact qBk (p:=(k,y)) e
  ·rw [if_neg (fun z=>e z.symm)];exact qBl (p:=(k,y)) e
 | p::r,hn=>by
  rw [List.cons_append]
  have hk : ¬p.1=k:=fun z=>by rw [qBk z] at hn;cases hn
  rw [qBl hk] at hn
  have ih:=qHn k j y r hn
  by_cases e:p.1=j
  ·rw [qBk e,qBk e,if_neg (fun z=>hk (e.trans z))]
  ·rw [qBl e,qBl e,ih]
theorem qO3 (kvs:List (κ × V)) (k j : κ) (y:V):valV (putK kvs k y) j=if j=k then some y else valV kvs j:=by
 unfold putK
 by_cases a:(kvs.any fun kv=>decide (kv.1=k))=true
 ·rw [if_pos a,qJq]
  rw [qEw] at a
  by_cases e:j=k
  ·obtain⟨x,hx⟩:=Option.isSome_iff_exists.mp a
   rw [if_pos e,e,hx,Option.map_some,if_pos rfl]
  ·rw [if_neg e]
   cases valV kvs j with
   | none=>rfl
   | some x=>rw [Option.map_some,if_neg e]
 ·rw [if_neg a]
  refine qHn k j y kvs ?_
  rw [qEw] at a
  cases q:valV kvs k with
  | none=>rfl
  | some x=>rw [q] at a;exact (a rfl).elim
theorem qC8 (kvs:List (κ × V)) (k : κ) (v:V):(putK kvs k v).length<=kvs.length+1:=by
 unfold putK
 split
 ·rw [List.length_map];omega
 ·rw [List.length_append,List.length_cons,List.length_nil];omega
theorem RelO.isSome_eq {o:Option V} {u:Option Value} (r:RelO o u):o.isSome=u.isSome:=by
 cases o with
 | none=>cases u with
  | none=>rfl
  | some _=>exact (show False from r).elim
 | some _=>cases u with
  | none=>exact (show False from r).elim
  | some _=>rfl
theorem RelO.getD {o:Option V} {u:Option Value} {d:V} {d':Value} (r:RelO o u) (rd:RelV d d'):RelV (o.getD d) (u.getD d'):=by
 cases o with
 | none=>cases u with
  | none=>exact rd
  | some _=>exact (show False from r).elim
 | some _=>cases u with
  | none=>exact (show False from r).elim
  | some _=>exact r
theorem KV.val {kvs:List (κ × V)} {vs:List (κ × Value)} (r:KV kvs vs) (k : κ):RelO (valV kvs k) (valueAt vs k):=by
 unfold KV at r
 induction r with
 | nil=>exact True.intro
 | @cons p q ps qs h t ih =>
  obtain⟨h1,h2⟩:=h
  by_cases e:p.1=k
  ·have e':q.1=k:=h1.symm.trans e
   have b:valueAt (q::qs) k=some q.2:=by simp [valueAt,List.find?_cons,e']
   rw [qBk e,b];exact h2
  ·have e' : ¬q.1=k:=fun z=>e (h1.trans z)
   have b:valueAt (q::qs) k=valueAt qs k:=by simp [valueAt,List.find?_cons,e']
   rw [qBl e,b];exact ih
theorem KV.any {kvs:List (κ × V)} {vs:List (κ × Value)} (r:KV kvs vs) (k : κ):(kvs.any fun kv=>decide (kv.1=k))=vs.any fun kv=>decide (kv.1=k):=by
 unfold KV at r
 induction r with
 | nil=>rfl
 | cons h t ih=>rw [List.any_cons,List.any_cons,ih,h.1]
theorem KV.repl {kvs:List (κ × V)} {vs:List (κ × Value)} (r:KV kvs vs) (k : κ) {y:V} {u:Value} (ry:RelV y u) :
  KV (kvs.map fun kv=>if kv.1=k then (kv.1,y) else kv) (vs.map fun kv=>if kv.1=k then (kv.1,u) else kv):=by
 unfold KV at r ⊢
 induction r with
 | nil=>exact .nil
 | @cons p q ps qs h t ih =>
  rw [List.map_cons,List.map_cons]
  refine .cons ?_ ih
  obtain⟨h1,h2⟩:=h
  by_cases e:p.1=k
  ·rw [if_pos e,if_pos (h1.symm.trans e)];exact⟨h1,ry⟩
  ·rw [if_neg e,if_neg (fun z=>e (h1.trans z))];exact⟨h1,h2⟩
theorem KV.put {kvs:List (κ × V)} {vs:List (κ × Value)} (r:KV kvs vs) (k : κ) {y:V} {u:Value} (ry:RelV y u):KV (putK kvs k y) (stored vs k u):=by
 unfold putK stored
 rw [r.any k]
 by_cases e:(vs.any fun kv=>decide (kv.1=k))=true
 ·rw [if_pos e,if_pos e];exact r.repl k ry
 ·rw [if_neg e,if_neg e];exact Paired.snoc r ⟨rfl,ry⟩
theorem KV.length {kvs:List (κ × V)} {vs:List (κ × Value)} (r:KV kvs vs):kvs.length=vs.length:=Paired.length r
end
theorem qId {P:Program} {w:World} {k:Key} {u:Value} (r:RelV (kV k) u):(qAt P w).is k u=true:=by
 cases k with
 | inl i=>obtain⟨t,e⟩:=(show ∃t,u=Value.int i t from r);subst e;exact qCt P w i t
 | inr x=>obtain⟨t,e⟩:=(show ∃t,u=Value.str x t from r);subst e;exact qJf P w x t
theorem qFt {P:Program} {w:World} : ∀ {ks:List Key} {us:List Value},Vals (ks.map kV) us->ItemsAre (qAt P w) ks us
 | [],_,r=>by rw [List.map_nil] at r;cases r;exact .nil
 | k::ks,_,r=>by
  rw [List.map_cons] at r
  cases r with
  | cons h t=>exact .cons (qId h) (qFt t)
abbrev KT (H:Hp):List (List Key×V)->List (List Key×Addr×Value)->Prop:=Paired fun p q=>p.1=q.1/\H q.2.1=some (.tup (p.1.map kV))/\RelV p.2 q.2.2
theorem KT.val {H:Hp} {kvs:List (List Key×V)} {xs:List (List Key×Addr×Value)} (r:KT H kvs xs) (k:List Key):RelO (valV kvs k) ((atKey xs k).map (·.2)):=by
 induction r with
 | nil=>exact True.intro
 | @cons p q ps qs h t ih =>
  obtain⟨h1,_,h2⟩:=h
  by_cases e:p.1=k
  ·have e':q.1=k:=h1.symm.trans e
   have b:atKey (q::qs) k=some q.2:=by simp [atKey,List.find?_cons,e']
   rw [qBk e,b];exact h2
  ·have e' : ¬q.1=k:=fun z=>e (h1.trans z)
   have b:atKey (q::qs) k=atKey qs k:=by simp [atKey,List.find?_cons,e']
   rw [qBl e,b];exact ih
theorem KT.repl {H:Hp} {kvs:List (List Key×V)} {xs:List (List Key×Addr×Value)} (r:KT H kvs xs) (k:List Key) {y:V} {u:Value} (ry:RelV y u) :
  KT H (kvs.map fun kv=>if kv.1=k then (kv.1,y) else kv) (xs.map (putAt k u)):=by
 induction r with
 | nil=>exact .nil
 | @cons p q ps qs h t ih =>
  rw [List.map_cons,List.map_cons]
  refine .cons ?_ ih
  obtain⟨h1,h2,h3⟩:=h
  unfold putAt
  by_cases e:p.1=k
  ·rw [if_pos e,if_pos (h1.symm.trans e)];exact⟨h1,h2,ry⟩
  ·rw [if_neg e,if_neg (fun z=>e (h1.trans z))];exact⟨h1,h2,h3⟩
theorem KT.put {H:Hp} {kvs:List (List Key×V)} {xs:List (List Key×Addr×Value)} (r:KT H kvs xs) (k:List Key) {b:Addr} {y:V} {u:Value} (hb:H b=some (.tup (k.map kV))) (ry:RelV y u) :
  KT H (putK kvs k y) (storedH xs k b u):=by
 have e:(kvs.any fun kv=>decide (kv.1=k))=(atKey xs k).isSome:=by
  rw [qEw,(r.val k).isSome_eq,Option.isSome_map]
 unfold putK storedH
 rw [e]
 by_cases q:(atKey xs k).isSome=true
 ·rw [if_pos q,if_pos q];exact r.repl k ry
 ·rw [if_neg q,if_neg q];exact Paired.snoc r ⟨rfl,hb,ry⟩
theorem KT.keeps {H H':Hp} {kvs:List (List Key×V)} {xs:List (List Key×Addr×Value)} (r:KT H kvs xs) (ht : ∀b ys,H b=some (.tup ys)->H' b=some (.tup ys)):KT H' kvs xs :=
 Paired.mapP r fun _ _ z=>⟨z.1,ht _ _ z.2.1,z.2.2⟩
section
variable {P:Program} {w:World} {H:Hp} {h:Heap} {a:Addr}
theorem qTu {u:HO} (ok:HOk P w H h) (e:Rd H a u):ObjOk P w H h a u:=e.ok ok
theorem qJl {kvs:List (Key×V)} (ok:HOk P w H h) (e:Rd H a (.dK kvs)):kvs.length<=sizeLine/\(a == sysModules)=false /\ ∃vs,KV kvs vs/\h.DictOf (qAt P w) a vs :=
 show ObjOk P w H h a (.dK kvs) from qTu ok e
theorem qQ2 {kvs:List (Key×V)} (ok:HOk P w H h) (e:H a=some (.dK kvs)):kvs.length<=sizeLine/\(a == sysModules)=false /\ ∃vs,KV kvs vs/\h.DictOf (qAt P w) a vs:=qJl ok (.inl e)
theorem qFs {ks:List Key} (ok:HOk P w H h) (e:H a=some (.tup (ks.map kV))):(tupleKind (qAt P w)).is h ks a:=by
 obtain⟨_,its,r,o,h1,h2,n,h3⟩:=(show ObjOk P w H h a (.tup (ks.map kV)) from ok a _ e)
 exact⟨o,its.toArray,n,h1,h2,h3,by simpa using qFt r⟩
theorem qHf {kvs:List (List Key×V)} (ok:HOk P w H h) (e:Rd H a (.dT kvs)):kvs.length<=sizeLine/\(a == sysModules)=false /\
  ∃xs,KT H kvs xs/\h.DictOfH (tupleKind (qAt P w)) a xs:=by
 obtain⟨z,y,xs,r,o,es,ep,h1,h2,h3,h4,h5⟩:=(show ObjOk P w H h a (.dT kvs) from qTu ok e)
 refine⟨z,y,xs,r,o,es,ep,h1,h2,h3,h4,fun x hx => ?_,h5⟩
 have all : ∀ {l:List (List Key×V)} {m:List (List Key×Addr×Value)},KT H l m -> ∀x∈m,(tupleKind (qAt P w)).is h x.1 x.2.1:=by
  intro l m q
  induction q with
  | nil=>intro x hx;exact nomatch hx
  | @cons p q ps qs hq t ih =>
   intro x hx
   rcases List.mem_cons.mp hx with e | hx
   ·subst e
    exact qFs ok (by rw [<-hq.1];exact hq.2.1)
   ·exact ih x hx
 exact all r x hx
theorem qVy {kvs:List (List Key×V)} (ok:HOk P w H h) (e:H a=some (.dT kvs)):kvs.length<=sizeLine/\(a == sysModules)=false /\
  ∃xs,KT H kvs xs/\h.DictOfH (tupleKind (qAt P w)) a xs:=qHf ok (.inl e)
end
def DGet (H:Hp) (a:Addr) (y:V) (r:Option V):Prop :=
 (∃kvs k,Rd H a (.dK kvs)/\y=kV k/\r=valV kvs k) \/ ∃kvs k b,Rd H a (.dT kvs)/\y = .ref b/\H b=some (.tup (k.map kV))/\r=valV kvs k
def DPut (H:Hp) (a:Addr) (y v:V) (H':Hp):Prop :=
 (∃kvs k,H a=some (.dK kvs)/\y=kV k/\kvs.length<sizeLine/\H'=upd H a (.dK (putK kvs k v))) \/
 ∃kvs k b,H a=some (.dT kvs)/\y = .ref b/\H b=some (.tup (k.map kV))/\kvs.length<sizeLine/\H'=upd H a (.dT (putK kvs k v))
theorem DGet.k {H:Hp} {a:Addr} {kvs:List (Key×V)} {k:Key} (e:H a=some (.dK kvs)):DGet H a (kV k) (valV kvs k) :=.inl ⟨kvs,k,.inl e,rfl,rfl⟩
theorem DGet.t {H:Hp} {a b:Addr} {kvs:List (List Key×V)} {k:List Key} (e:H a=some (.dT kvs)) (eb:H b=some (.tup (k.map kV))):DGet H a (.ref b) (valV kvs k) :=.inr ⟨kvs,k,b,.inl e,rfl,eb,rfl⟩
theorem DPut.k {H:Hp} {a:Addr} {kvs:List (Key×V)} {k:Key} {v:V} (e:H a=some (.dK kvs)) (hl:kvs.length<sizeLine):DPut H a (kV k) v (upd H a (.dK (putK kvs k v))) :=.inl ⟨kvs,k,e,rfl,hl,rfl⟩
theorem DPut.t {H:Hp} {a b:Addr} {kvs:List (List Key×V)} {k:List Key} {v:V} (e:H a=some (.dT kvs)) (eb:H b=some (.tup (k.map kV))) (hl:kvs.length<sizeLine) :
  DPut H a (.ref b) v (upd H a (.dT (putK kvs k v))) :=.inr ⟨kvs,k,b,e,rfl,eb,hl,rfl⟩
section
variable {X:Cx} {pins:List (Addr×Obj)} {σ : St} {H:Hp} {s:Shared} {a:Addr} {y v:V} {u r:Value} {o:Option V} {A:Around} {E:Value->Shared->Prop}
theorem Inv.big (I:Inv X pins σ H s):sysModules<s.heap.objs.size:=by
 have h:mainGlobals<s.heap.objs.size:=(I.mod.glob.keeps I.bk).lt
 exact Nat.lt_trans (by decide) h
theorem qNm {Q:Value->Shared->Prop} (hu:A.units+1<cLine) (I:Inv X pins σ H s) (g:DGet H a y (some v)) (ry:RelV y u) (h : ∀w' s',Inv X pins σ H s'->RelV v w'->Q w' s') :
  wpAny (model X.prog X.w) A (getItem (.ref a) u) Q E s:=by
 rcases g with ⟨kvs,k,e,ey,l⟩ | ⟨kvs,k,b,e,ey,eb,l⟩
 ·subst ey
  obtain⟨z,hd,vs,rel,dd⟩:=qJl I.hok e
  obtain⟨w',hw,rw'⟩:=RelO.some_of (v:=v) (o:=valueAt vs k) (by rw [l];exact rel.val k)
  exact wpAny_getItem_of (qId ry) dd.mapOf hw (h w' _ (I.tok _) rw')
 ·subst ey
  cases (show u=Value.ref b from ry)
  obtain⟨z,hd,xs,rel,dd⟩:=qHf I.hok e
  obtain⟨w',hw,rw'⟩:=RelO.some_of (v:=v) (o:=(atKey xs k).map (·.2)) (by rw [l];exact rel.val k)
  obtain⟨p,hp,hp2⟩:=Option.map_eq_some_iff.mp hw
  refine wpAny_getItem_heap (tupleKind_room_in1 hu) (qFs I.hok eb) dd hp ?_
  rw [hp2]
  exact h w' _ (I.tok _) rw'
theorem d_in {Q:Value->Shared->Prop} (hu:A.units+1<cLine) (I:Inv X pins σ H s) (g:DGet H a y o) (ry:RelV y u) (h : ∀s',Inv X pins σ H s'->Q (.bool o.isSome) s') :
  wpAny (model X.prog X.w) A (compareOp .In u (.ref a)) Q E s:=by
 rcases g with ⟨kvs,k,e,ey,l⟩ | ⟨kvs,k,b,e,ey,eb,l⟩
 ·subst ey
  obtain⟨z,hd,vs,rel,dd⟩:=qJl I.hok e
  refine wpAny_in_of (qId ry) hd dd.mapOf ?_
  rw [<-(rel.val k).isSome_eq,<-l]
  exact h _ (I.tok _)
 ·subst ey
  cases (show u=Value.ref b from ry)
  obtain⟨z,hd,xs,rel,dd⟩:=qHf I.hok e
  refine wpAny_in_heap (tupleKind_room_in1 hu) (qFs I.hok eb) hd dd ?_
  have q:=(rel.val k).isSome_eq
  rw [Option.isSome_map] at q
  rw [<-q,<-l]
  exact h _ (I.tok _)
theorem qTb {Q:Value->Shared->Prop} (hu:A.units+1<cLine) (I:Inv X pins σ H s) (g:DGet H a y o) (ry:RelV y u) (h : ∀s',Inv X pins σ H s'->Q (.bool (!o.isSome)) s') :
  wpAny (model X.prog X.w) A (compareOp .NotIn u (.ref a)) Q E s:=by
 rcases g with ⟨kvs,k,e,ey,l⟩ | ⟨kvs,k,b,e,ey,eb,l⟩
 ·subst ey
  obtain⟨z,hd,vs,rel,dd⟩:=qJl I.hok e
  refine wpAny_notIn_of (qId ry) hd dd.mapOf ?_
  rw [<-(rel.val k).isSome_eq,<-l]
  exact h _ (I.tok _)
 ·subst ey
  cases (show u=Value.ref b from ry)
  obtain⟨z,hd,xs,rel,dd⟩:=qHf I.hok e
  refine wpAny_notIn_heap (tupleKind_room_in1 hu) (qFs I.hok eb) hd dd ?_
  have q:=(rel.val k).isSome_eq
  rw [Option.isSome_map] at q
  rw [<-q,<-l]
  exact h _ (I.tok _)
theorem qFw {h':Heap} {t':Nat} {ob:HO} (I:Inv X pins σ H s) (mu:Mut (H a)) (hs:Heap.SameBut a s.heap h') (he : ∃q,h'.get? a=some q) (new:ObjOk X.prog X.w (upd H a ob) h' a ob) :
  Inv X pins σ (upd H a ob) { s with heap:=h',toks:=t' } :=
 I.write (x:=a) (e:=a) mu (.inl rfl) (fun b q hb z=>(hs.2 b hb).trans z) he new
theorem qNf {P:Program} {w:World} {H':Hp} {h':Heap} {kvs:List (Key×V)} {vs:List (Key×Value)} (z:kvs.length<=sizeLine) (hd:(a == sysModules)=false) (rel:KV kvs vs) (dd:h'.DictOf (qAt P w) a vs) :
  ObjOk P w H' h' a (.dK kvs):=⟨z,hd,vs,rel,dd⟩
theorem qNl {H':Hp} {Q:Unit->Shared->Prop} (hu:A.units+1<cLine) (I:Inv X pins σ H s) (g:DPut H a y v H') (ry:RelV y u) (rv:RelV v r) (h : ∀s',Inv X pins σ H' s'->Q () s') :
  wpAny (model X.prog X.w) A (setItem (.ref a) u r) Q E s:=by
 rcases g with ⟨kvs,k,e,ey,l,eH⟩ | ⟨kvs,k,b,e,ey,eb,l,eH⟩
 ·subst ey eH
  obtain⟨z,hd,vs,rel,dd⟩:=qQ2 I.hok e
  have hz:vs.length<=sizeLine:=by rw [<-rel.length];exact z
  have hl:(putK kvs k v).length<=sizeLine:=by have:=qC8 kvs k v;omega
  refine wpAny_setItem_pairs (hsz:=hz) (qId ry) dd fun h' dd' hs=>h _ ?_
  have he : ∃q,h'.get? a=some q:=let ⟨q,_,_,hq,_⟩:=dd';⟨q,hq⟩
  exact qFw I (by rw [e];exact True.intro) hs he (qNf hl hd (rel.put k rv) dd')
 ·subst ey eH
  cases (show u=Value.ref b from ry)
  obtain⟨z,hd,xs,rel,dd⟩:=qVy I.hok e
  have hz:xs.length<=sizeLine:=by rw [<-Paired.length rel];exact z
  have hl:(putK kvs k v).length<=sizeLine:=by have:=qC8 kvs k v;omega
  refine wpAny_setItem_heap (hsz:=hz) (tupleKind_room_in1 hu) (qFs I.hok eb) dd fun h' dd' hs=>h _ ?_
  obtain⟨q,es,ep,hq,h2,h3,h4,_,h5⟩:=dd'
  refine qFw I (by rw [e];exact True.intro) hs ⟨q,hq⟩ ⟨hl,hd,_,(rel.put k eb rv).keeps fun c ys ec => ?_,q,es,ep,hq,h2,h3,h4,h5⟩
  rw [qA6 (qL8 ec e (fun z=>nomatch z))]
  exact ec
end
def NoSl (i:Expr):Prop := ∀ov iv,subscripted i false ov iv=operate [ov,iv] (getItem ov iv)
theorem qRg {prog:Program} {w:World} {A:Around} {E:Value->Shared->Prop} {s:Shared} {env:Env} {value slice:Expr} {pos:Pos} {T id:String} {Q:Value->Shared->Prop}
  (hl:typeLookup (.type T) "__getitem__" = pure (some (.builtin id))) (hs:NoSl slice)
  (h:wpAny (model prog w) A (eval value env) (fun o s₁ =>wpAny (model prog w) A (eval slice env) (fun i s₂ =>s₂.TypeIs o T/\wpAny (model prog w) A (getItem o i) Q E s₂) E s₁) E s) :
  wpAny (model prog w) A (eval (.Subscript value slice pos) env) Q E s:=by
 refine Subscript_ (wpAny_mono h (fun o s₁ h₁ =>wpAny_mono h₁ (fun i s₂ h₂ => ?_) fun _ _ x=>x) fun _ _ x=>x)
 obtain⟨hT,h₂⟩:=h₂
 unfold subscriptTail
 refine wpAny_bind ?_
 rw [getitemInPython_of_ne hT.not_modules]
 refine wpAny_bind (wpAny_specialOf hT hl ?_)
 have fin:wpAny (model prog w) A (subscripted slice false o i) (fun r s₃ =>wpAny (model prog w) A (letTemporaryGo value o r >>= fun _=>pure r) Q E s₃) E s₂ :=by
  rw [hs o i]
  exact wpAny_operating (wpAny_mono h₂ (fun r s₃ h₃ =>wpAny_bind (wpAny_letTemporaryGo (wpAny_pure h₃))) fun _ _ x=>x)
 first
  | exact wpAny_pure (wpAny_bind fin)
  | exact wpAny_bind (wpAny_pure (wpAny_bind fin))
  | exact wpAny_bind fin
theorem qJm {X:Cx} {pins:List (Addr×Obj)} {σ : St} {H:Hp} {s:Shared} {a:Addr} {y:V} {o:Option V} (I:Inv X pins σ H s) (g:DGet H a y o):s.TypeIs (.ref a) "dict" :=by
 rcases g with ⟨kvs,k,e,_,_⟩ | ⟨kvs,k,b,e,_,_,_⟩
 ·obtain⟨_,_,vs,_,dd⟩:=qJl I.hok e
  exact dd.typeIs
 ·obtain⟨_,_,xs,_,dd⟩:=qHf I.hok e
  exact dd.typeIs
def tDGet (td ty:TE):TE:=fun σ H Q=>td σ H fun x H1=>ty σ H1 fun y H2 => ∃a v,x = .ref a/\DGet H2 a y (some v)/\Q v H2
def tDIn (ty td:TE):TE:=fun σ H Q=>ty σ H fun y H1=>td σ H1 fun x H2 => ∃a o,x = .ref a/\DGet H2 a y o/\Q (.bl o.isSome) H2
def qLs (ty td:TE):TE:=fun σ H Q=>ty σ H fun y H1=>td σ H1 fun x H2 => ∃a o,x = .ref a/\DGet H2 a y o/\Q (.bl (!o.isSome)) H2
def sDPut (td ty tv:TE):TS:=fun D σ H=>tv σ H fun v H1=>td σ H1 fun x H2=>ty σ H2 fun y H3 => ∃a H4,x = .ref a/\DPut H3 a y v H4/\D.nx σ H4
section
variable {X:Cx} {o i e value:Expr} {pos pos' tpos:Pos} {td ty tv:TE}
theorem qBb (hu:X.A.units+1<cLine) (ho:PE X o td) (hi:PE X i ty) (hs:NoSl i):PE X (.Subscript o i pos) (tDGet td ty):=by
 intro pins s σ H Q I h
 refine qRg PySem.F.slot_dict_getitem.lookup hs (thn (ho pins s σ H _ I h) fun u s1 hq_ => ?_)
 obtain⟨x,H1,I1,rx,q1⟩:=hq_
 refine thn (hi pins s1 σ H1 _ I1 q1) fun iv s2 hq_ => ?_
 obtain⟨y,H2,I2,ry,a,v,ex,g,q2⟩:=hq_
 subst ex
 obtain rfl:u=Value.ref a:=rx
 exact⟨qJm I2 g,qNm hu I2 g ry fun w' s3 I3 rw'=>⟨v,H2,I3,rw',q2⟩⟩
theorem qUr (hu:X.A.units+1<cLine) (hi:PE X i ty) (ho:PE X o td):PC X .In i o (tDIn ty td):=by
 intro pins s σ H Q I h
 refine thn (hi pins s σ H _ I h) fun iv s1 hq_ => ?_
 obtain⟨y,H1,I1,ry,q1⟩:=hq_
 refine thn (ho pins s1 σ H1 _ I1 q1) fun u s2 hq_ => ?_
 obtain⟨x,H2,I2,rx,a,ov,ex,g,q2⟩:=hq_
 subst ex
 obtain rfl:u=Value.ref a:=rx
 exact d_in hu I2 g ry fun s3 I3=>⟨.bl ov.isSome,H2,I3,rfl,q2⟩
theorem qHz (hu:X.A.units+1<cLine) (hi:PE X i ty) (ho:PE X o td):PC X .NotIn i o (qLs ty td):=by
 intro pins s σ H Q I h
 refine thn (hi pins s σ H _ I h) fun iv s1 hq_ => ?_
 obtain⟨y,H1,I1,ry,q1⟩:=hq_
 refine thn (ho pins s1 σ H1 _ I1 q1) fun u s2 hq_ => ?_
 obtain⟨x,H2,I2,rx,a,ov,ex,g,q2⟩:=hq_
 subst ex
 obtain rfl:u=Value.ref a:=rx
 exact qTb hu I2 g ry fun s3 I3=>⟨.bl (!ov.isSome),H2,I3,rfl,q2⟩
theorem qDr (hu:X.A.units+1<cLine) (ho:PE X o td) (hi:PE X i ty) (hv:PE X value tv) (hs:swapsWith value (some (.Subscript o i pos')) pos.line X.env=pure false) :
  PS X (.Assign [.Subscript o i pos'] value pos) (sDPut td ty tv):=by
 intro pins s σ H D I h
 refine wpAny_Assign_Subscript (thn (hv pins s σ H _ I h) fun r s1 hq_ => ?_) hs
 obtain⟨v,H1,I1,rv,q1⟩:=hq_
 refine thn (ho pins s1 σ H1 _ I1 q1) fun u s2 hq_ => ?_
 obtain⟨x,H2,I2,rx,q2⟩:=hq_
 refine thn (hi pins s2 σ H2 _ I2 q2) fun iv s3 hq_ => ?_
 obtain⟨y,H3,I3,ry,a,H4,ex,g,q3⟩:=hq_
 subst ex
 obtain rfl:u=Value.ref a:=rx
 exact qNl hu I3 g ry rv fun s4 I4=>⟨σ,H4,I4,q3⟩
end
theorem qKo {P:Program} {w:World} {H:Hp} (h:Heap) (hb:sysModules<h.objs.size):ObjOk P w H (h.push { cls :=.type "dict",data :=.dict #[] }) h.objs.size (.dK []) :=
 ⟨Nat.zero_le _,beq_eq_false_iff_ne.mpr (Ne.symm (Nat.ne_of_lt hb)),[],.nil,Heap.DictOf.new h⟩
theorem qQ1 {P:Program} {w:World} {H:Hp} (h:Heap) (hb:sysModules<h.objs.size):ObjOk P w H (h.push { cls :=.type "dict",data :=.dict #[] }) h.objs.size (.dT []) :=
 ⟨Nat.zero_le _,beq_eq_false_iff_ne.mpr (Ne.symm (Nat.ne_of_lt hb)),[],.nil,_,#[],0,Heap.get?_push_size _ rfl,⟨rfl,rfl,rfl⟩,rfl,rfl,List.nodup_nil⟩
def qQe:TE:=fun _ H Q => ∀p,H p=none->Q (.ref p) (upd H p (.dK []))
def qQc:TE:=fun _ H Q => ∀p,H p=none->Q (.ref p) (upd H p (.dT []))
section
variable {X:Cx} {pos:Pos}
theorem qEz:PE X (.Dict [] [] pos) qQe:=fun pins s σ H Q I h =>
 wpAny_Dict_empty ⟨.ref s.heap.objs.size,_,I.laid (a:=s.heap.objs.size) (o :=.dK []) (t':=s.toks) (fun _ _ q=>Heap.get?_push_of_some _ q) (Nat.le_refl _) (qKo s.heap I.big),rfl,h _ (I.hok.fresh (Nat.le_refl _))⟩
theorem qOu:PE X (.Dict [] [] pos) qQc:=fun pins s σ H Q I h =>
 wpAny_Dict_empty ⟨.ref s.heap.objs.size,_,I.laid (a:=s.heap.objs.size) (o :=.dT []) (t':=s.toks) (fun _ _ q=>Heap.get?_push_of_some _ q) (Nat.le_refl _) (qQ1 s.heap I.big),rfl,h _ (I.hok.fresh (Nat.le_refl _))⟩
end
def qF6:List (TE×TE)->St->Hp->(List (V×V)->Hp->Prop)->Prop
 | [],_,H,Q=>Q [] H
 | (tk,tv)::r,σ,H,Q=>tk σ H fun x H1=>tv σ H1 fun y H2=>qF6 r σ H2 fun ps H3=>Q ((x,y)::ps) H3
abbrev VV:List (V×V)->List (Value×Value)->Prop:=Paired fun p q=>RelV p.1 q.1/\RelV p.2 q.2
def PPs (X:Cx) (pos:Pos) (keys:List (Option Expr)) (values:List Expr) (trs:List (TE×TE)):Prop :=
 ∀(pins:List (Addr×Obj)) (s:Shared) (σ : St) (H:Hp) (Q:List (V×V)->Hp->Prop),Inv X pins σ H s->qF6 trs σ H Q ->
  wpAny (model X.prog X.w) X.A (evalPairs (pairTrees keys values X.env pos)) (fun vs s' => ∃ps H',Inv X pins σ H' s'/\VV ps vs/\Q ps H') X.xe s
theorem qS6 {X:Cx} {pos:Pos}:PPs X pos [] [] []:=fun pins s σ H Q I h=>pairTrees_nil_walk ⟨[],H,I,.nil,h⟩
theorem qDe {X:Cx} {pos:Pos} {k v:Expr} {ks:List (Option Expr)} {vs:List Expr} {tk tv:TE} {trs:List (TE×TE)} (hk:PE X k tk) (hv:PE X v tv) (hr:PPs X pos ks vs trs) :
  PPs X pos (some k::ks) (v::vs) ((tk,tv)::trs):=fun pins s σ H Q I h =>
 pairTrees_cons_walk (thn (hk pins s σ H _ I h) fun u s1 ⟨x,H1,I1,rx,q1⟩=>thn (hv pins s1 σ H1 _ I1 q1) fun w2 s2 ⟨y,H2,I2,ry,q2⟩ =>
  thn (hr pins s2 σ H2 _ I2 q2) fun ws s3 ⟨ps,H3,I3,rel,q3⟩=>⟨(x,y)::ps,H3,I3,.cons ⟨rx,ry⟩ rel,q3⟩)
def qDm (kvs more:List (Key×V)):List (Key×V):=more.foldl (fun acc kv=>putK acc kv.1 kv.2) kvs
theorem KV.merge : ∀ {more:List (Key×V)} {rs:List (Key×Value)} {kvs:List (Key×V)} {vs:List (Key×Value)},KV more rs->KV kvs vs->KV (qDm kvs more) (merged vs rs):=by
 intro more rs kvs vs r
 unfold KV at r
 induction r generalizing kvs vs with
 | nil=>intro q;exact q
 | @cons p q ps qs h t ih =>
  intro r0
  have e:KV (putK kvs p.1 p.2) (stored vs q.1 q.2):=by
   have:=r0.put p.1 h.2
   rw [<-h.1];exact this
  exact ih e
theorem qCu : ∀(more kvs:List (Key×V)),(qDm kvs more).length<=kvs.length+more.length
 | [],kvs=>by show kvs.length<=kvs.length+0;omega
 | p::r,kvs=>by
  have h1:=qCu r (putK kvs p.1 p.2)
  have h2:=qC8 kvs p.1 p.2
  show (qDm (putK kvs p.1 p.2) r).length<=_
  rw [List.length_cons];omega
theorem qGs {P:Program} {w:World} : ∀ {kvs:List (Key×V)} {ws:List (Value×Value)},VV (kvs.map fun kv=>(kV kv.1,kv.2)) ws -> ∃rs,Carries (qAt P w) ws rs/\KV kvs rs
 | [],_,r=>by rw [List.map_nil] at r;cases r;exact⟨[],True.intro,.nil⟩
 | p::kvs,_,r=>by
  rw [List.map_cons] at r
  cases r with
  | @cons a b as bs h t =>
   obtain⟨rs,c,q⟩:=qGs (P:=P) (w:=w) t
   obtain⟨b1,b2⟩:=b
   exact⟨(p.1,b2)::rs,⟨qId h.1,rfl,c⟩,.cons ⟨rfl,h.2⟩ q⟩
def tDisp (trs:List (TE×TE)):TE:=fun σ H Q => ∀p,H p=none->qF6 trs σ (upd H p (.dK [])) fun ps H2=>H2 p=some (.dK []) /\ ∃kvs:List (Key×V),ps=kvs.map (fun kv=>(kV kv.1,kv.2))/\kvs.length<=15/\Q (.ref p) (upd H2 p (.dK (qDm [] kvs)))
theorem qSa {X:Cx} {pos:Pos} {keys:List (Option Expr)} {values:List Expr} {trs:List (TE×TE)} (h:PPs X pos keys values trs) (hall:keys.all (·.isSome)=true) (hl:keys.length=values.length) (h0:keys ≠ [])
  (h15:keys.length<=15):PE X (.Dict keys values pos) (tDisp trs):=by
 intro pins s σ H Q I q
 have hn:=I.hok.fresh (Nat.le_refl s.heap.objs.size)
 have I1:=I.laid (a:=s.heap.objs.size) (o :=.dK []) (h':=s.heap.push { cls :=.type "dict",data :=.dict #[] }) (t':=s.toks) (fun _ _ q=>Heap.get?_push_of_some _ q) (Nat.le_refl _) (qKo s.heap I.big)
 refine wpAny_Dict_walk (knd:=qAt X.prog X.w) hall hl h0 h15 (thn (h pins _ σ _ _ I1 (q _ hn)) fun ws s2 hq_ => ?_)
 obtain⟨ps,H2,I2,rel,e,kvs,ep,lk,q2⟩:=hq_
 subst ep
 obtain⟨rs,c,rk⟩:=qGs (P:=X.prog) (w:=X.w) rel
 obtain⟨z,hd,vs0,r0,dd⟩:=qQ2 I2.hok e
 cases r0
 refine⟨rs,c,dd,fun h' dd' hs=>⟨.ref s.heap.objs.size,_,?_,rfl,q2⟩⟩
 have hz:(qDm [] kvs).length<=sizeLine:=by
  have h1:=qCu kvs []
  rw [List.length_nil] at h1
  rw [sizeLine_eq];omega
 have he : ∃q,h'.get? s.heap.objs.size=some q:=let ⟨q,_,_,hq,_⟩:=dd';⟨q,hq⟩
 exact qFw I2 (by rw [e];exact True.intro) hs he (qNf hz hd (rk.merge .nil) dd')
structure M2 (X:Cx) (o:Expr) (m:Str) (apos:Pos) (e f:Expr) (cpos:Pos):Prop where
 base:attributeBase o m X.env (eval o X.env)=eval o X.env
 few:((backTo cpos (starEach [e,f] X.env)).all (fun x => !x.1)&&(backToKw cpos (keywordEach [] X.env)).all (fun x=>x.1.isSome)
  && decide (([e,f]:List Expr).length+([]:List Keyword).length+(if ([]:List Keyword).isEmpty then 0 else 1)<30))=true
 line:(apos.endLine == cpos.line)=true
 trees:backTo cpos (starEach [e,f] X.env) = [(false,eval e X.env),(false,eval f X.env)]
def IsD (H:Hp) (a:Addr):Prop:=(∃kvs,Rd H a (.dK kvs)) \/ ∃kvs,Rd H a (.dT kvs)
theorem qVb {X:Cx} {pins:List (Addr×Obj)} {σ : St} {H:Hp} {s:Shared} {a:Addr} (I:Inv X pins σ H s) (d:IsD H a) :
  s.TypeIs (.ref a) "dict" /\ (∀b,Value.ref a = .ref b -> ∃ob,s.heap.get? b=some ob/\ob.dict=none)/\(a == sysModules)=false:=by
 rcases d with ⟨kvs,e⟩ | ⟨kvs,e⟩
 ·obtain⟨_,hd,vs,_,dd⟩:=qJl I.hok e
  refine⟨dd.typeIs,fun b q => ?_,hd⟩
  cases q
  obtain⟨ob,_,_,h1,h2,_⟩:=dd
  exact⟨ob,h1,h2.2.1⟩
 ·obtain⟨_,hd,xs,_,dd⟩:=qHf I.hok e
  refine⟨dd.typeIs,fun b q => ?_,hd⟩
  cases q
  obtain⟨ob,_,_,h1,h2,_⟩:=dd
  exact⟨ob,h1,h2.2.1⟩
section
variable {X:Cx} {pins:List (Addr×Obj)} {σ : St} {H:Hp} {s:Shared} {a:Addr} {y d:V} {u r:Value} {o:Option V} {A:Around} {E:Value->Shared->Prop}
theorem qVh {Q:Value->Shared->Prop} (hu:A.units+1<cLine) (I:Inv X pins σ H s) (g:DGet H a y o) (ry:RelV y u) (rd:RelV d r) (h : ∀w' s',Inv X pins σ H s'->RelV (o.getD d) w'->Q w' s') :
  wpAny (model X.prog X.w) A (call (.builtin "dict.get") [.ref a,u,r]) Q E s:=by
 rcases g with ⟨kvs,k,e,ey,l⟩ | ⟨kvs,k,b,e,ey,eb,l⟩
 ·subst ey
  obtain⟨z,hd,vs,rel,dd⟩:=qJl I.hok e
  refine call_meetsIn PySem.F.slot_dict_get dd.typeIs PySem.F.entry_dict_get (PySem.F.args_dict_get_3 _ _ _) (meets_dict_get_default (qAt X.prog X.w) a (qId ry) hd r) ⟨_,dd.mapOf,h _ _ (I.tok _) ?_⟩
  rw [l]
  exact (rel.val k).getD rd
 ·subst ey
  cases (show u=Value.ref b from ry)
  obtain⟨z,hd,xs,rel,dd⟩:=qHf I.hok e
  refine call_meetsIn PySem.F.slot_dict_get dd.typeIs PySem.F.entry_dict_get (PySem.F.args_dict_get_3 _ _ _) (meetsH_dict_get_default (tupleKind (qAt X.prog X.w)) a b hd r) ⟨tupleKind_room_in1 hu,k,xs,qFs I.hok eb,dd,h _ _ (I.tok _) ?_⟩
  rw [l]
  exact (rel.val k).getD rd
end
def qQg (td ty tx:TE):TE:=fun σ H Q=>td σ H fun x H1 => ∃a,x = .ref a/\IsD H1 a/\ty σ H1 fun y H2=>tx σ H2 fun z H3 => ∃o,DGet H3 a y o/\Q (o.getD z) H3
section
variable {X:Cx} {o e f:Expr} {apos cpos:Pos} {td ty tx:TE}
theorem qKa (hu:X.A.units+1<cLine) (ho:PE X o td) (he:PE X e ty) (hf:PE X f tx) (m:M2 X o "get" apos e f cpos):PE X (.Call (.Attribute o "get" apos) [e,f] [] cpos) (qQg td ty tx):=by
 intro pins s σ H Q I h
 refine wpAny_Call_method m.base m.few m.line PySem.F.plainAttrs_dict PySem.F.slot_dict_get PySem.F.type_dict_get (thn (ho pins s σ H _ I h) fun u s1 hq_ => ?_)
 obtain⟨x,H1,I1,rx,a,ex,d,q1⟩:=hq_
 subst ex
 obtain rfl:u=Value.ref a:=rx
 obtain⟨t1,t2,_⟩:=qVb I1 d
 refine⟨t1,t2,?_⟩
 rw [m.trees]
 refine Calls.callWith_builtin rfl (Calls.evalArgs_plain (Calls.spliced_cons (thn (he pins s1 σ H1 _ I1 q1) fun iv s2 hq_ => ?_)))
 obtain⟨y,H2,I2,ry,q2⟩:=hq_
 refine Calls.spliced_cons (thn (hf pins s2 σ H2 _ I2 q2) fun fv s3 hq_ => ?_)
 obtain⟨z,H3,I3,rz,ov,g,q3⟩:=hq_
 refine Calls.spliced_nil ?_
 exact qVh hu I3 g ry rz fun w' s4 I4 rw'=>⟨_,H3,I4,rw',q3⟩
end
end L2
namespace Att
open PySem PySem.W PySem.Calls PyProof.Rows
theorem qFu {P:Params} {h:Heap} : ∀(ns:List Int) (vs:List Value),WellAll P h vs (ns.map WData.int)->IntsAre vs ns:=by
 intro ns
 induction ns with
 | nil =>
  intro vs w
  rw [List.map_nil] at w
  cases w
  exact .nil
 | cons n ns ih =>
  intro vs w
  rw [List.map_cons] at w
  cases w with
  | cons a b =>
   cases a
   exact .cons _ _ (ih _ b)
theorem qM7 {l:OpenLaw} {n:Nat} (hn:l.most=some n) {P:Params} {h:Heap} {args:List WData} {vals:List Value}
  (hpre:l.row.toRowW.claim.pre args=true) (hwl:WellAll P h vals args) :
  ∃a vs ns,vals = [Value.ref a]/\args = [WData.list (ns.map WData.int)]/\h.get? a=some { cls :=.type "list",data :=.seq vs.toArray }/\IntsAre vs ns/\ns.length<=n:=by
 have hsh:WShape.hasAll [] args [.list .int]=true:=(pre_splitW hpre).1
 have hc:l.pre.holds [] { args:=args }=true:=(pre_splitW hpre).2
 obtain⟨d,r,rfl,h1,h2⟩:=hasAllW_cons hsh
 obtain rfl:=hasAllW_nil h2
 obtain⟨xs,rfl,h3⟩:=hasW_list h1
 obtain⟨ns,rfl⟩:=items_int h3
 have hlen:ns.length<=n:=by
  unfold OpenLaw.pre at hc
  have h4:(WTm.not (.lt (.lit (.int (n:Int))) (.len (.arg 0)))).holds [] { args :=[.list (ns.map .int)] }=true:=by
   have h4:=(holds_andW hc).1
   rw [hn] at h4
   exact h4
  have h5:=condW_of h4 (w_not (w_lt w_lit (w_len_list (w_arg rfl))))
  rw [List.length_map] at h5
  refine Nat.le_of_not_lt fun q => ?_
  have q':(n:Int)<((ns.length:Nat):Int):=by omega
  first
   | (rw [decide_eq_true q'] at h5;exact absurd h5 (by decide))
   | (simp at h5;omega)
 cases hwl with
 | cons w1 w2 =>
  cases w2
  cases w1 with
  | list ho hall=>exact⟨_,_,ns,rfl,rfl,ho,qFu ns _ hall,hlen⟩
theorem qMm (l:OpenLaw) (args:List WData):l.row.toRowW.claim.post args (.bool true) args=true :=
 postW_of (r:=l.row.toRowW) (X:=(true == true))
  (show WShape.has [] (.bool true) .bool=true by first | rfl | decide | simp [WShape.has,WShape.arms,WShape.armsAll])
  (show (WTm.eq .res (.lit (.bool true))).value [] { args:=args,res:=some (.bool true),after:=args }=some (.bool (true == true)) from w_eq_bool (w_res rfl) w_lit) rfl
theorem attach_call {l:OpenLaw} {n:Nat} {q:Program} {loose:List Str} {XP:(Str->Option Value)->Heap->Prop} {YP:World->Heap->Prop} {d:DefRec}
  (hn:l.most=some n) (hdf:d.params.defaults = [])
  (call : ∀(w:World) (s₀ s₁ : Shared) (mg mb:Str->Option Value) (fa:Addr) (o:Obj) (pm cd doc:Value) (a:Addr) (vs:List Value) (ns:List Int),
   Ground q loose [] XP w s₀ mg mb s₁.heap->YP w s₁.heap ->
   s₁.heap.get? fa=some o->o.data = .func (docDef d.name d.params d.body d.scope pm cd doc)->s₁.heap.CodeRec cd d.name->mg d.name=some (.ref fa) ->
   s₁.heap.get? a=some { cls :=.type "list",data :=.seq vs.toArray }->IntsAre vs ns->ns.length<=n->s₁.gens = #[] ->
   codeAny (model l.prog w) callerA (.call (.ref fa) ⟨[.ref a],[]⟩) (fun r s'=>r = .ok (.ret (.bool true))/\OldK s₁.heap s'.heap/\s'.os=s₁.os/\AllBare s'.gens) s₁) :
  WalkO q loose XP YP l.row.toRowW d [] (fun f vs=>PySem.call f vs):=by
 intro w s₀ s₁ mg mb G Y fa o pm cd doc dV kV ho hd hcd hD hmg hg args vals as hpre hlay hrd hwl hlo
 obtain rfl:dV = .none:=Dflts.none hD hdf
 obtain rfl:kV = .none:=Dflts.noKw hD
 obtain⟨a,vs,ns,rfl,rfl,hobj,hints,hlen⟩:=qM7 hn hpre hwl
 refine enter_call (codeAny_mono (call w s₀ s₁ mg mb fa o pm cd doc a vs ns G Y ho (fd_plain hd) hcd hmg hobj hints hlen hg) fun r s' hq => ?_)
 obtain⟨rfl,h2,h3,h4⟩:=hq
 exact⟨.inl ⟨.bool true,.bool true,[],rfl,fun _=>rfl,.bool true,qMm l _,fun _=>⟨List.Pairwise.nil,fun _ hm=>(nomatch hm)⟩⟩,h2,h3,h4⟩
end Att
namespace L2
open PySem PySem.Spec PyProof.Rows
theorem qHm {vs:List Value} {ns:List Int} (h:IntsAre vs ns):Vals (ns.map V.int) vs:=by
 induction h with
 | nil=>exact .nil
 | cons n t _ ih=>exact .cons ⟨t,rfl⟩ ih
def Only (H:Hp):Prop := ∀b,H b=none \/ ∃o xs,H b=some (.frz o (.lst xs))
theorem qPs {P:Program} {w:World} {K:PySem.W.Frag} {mg mb:Str->Option Value} {CX:CXT} {k:Nat} {fa a:Addr} {fd:FuncData} {x:Str} {sp:Sp} {s₁ : Shared} {vs:List Value} {ns:List Int}
  (KX:K.In s₁.heap) (hns:s₁.heap.Ns mainGlobals mg) (hb:s₁.heap.Ns builtinsNs mb) (hbb : ∀x:Str,x ≠ "__name__" -> mb x=bootBuiltins x) (hlim:s₁.heap.NoLimit) (hg:s₁.gens = #[])
  (ha:s₁.heap.get? a=some { cls :=.type "list",data :=.seq vs.toArray }) (hi:IntsAre vs ns) (hl:ns.length<=sizeLine) (hr:Room k callerA)
  (F : ∀base:Heap,K.In base->base.Ns mainGlobals mg->FnOk P w K mg base CX k fa fd [x] sp) (hbind : ∀(s:Shared) (u:Value),BindsTo s fd ⟨[u],[]⟩ [(x,u)])
  (hsp : ∀H:Hp,Only H->SqL K H a (ns.map V.int)->sp [.ref a] H (fun v _=>v = .bl true) fun _ _ _=>False)
  (hCX : ∀H e s',CX [] H s₁ (fun _ _ _=>False) e s'->False) :
  codeAny (model P w) callerA (.call (.ref fa) ⟨[.ref a],[]⟩) (fun r s'=>r = .ok (.ret (.bool true))/\OldK s₁.heap s'.heap/\s'.os=s₁.os/\AllBare s'.gens) s₁ :=by
 have rv:=qHm hi
 have lenV:=hi.length
 have core : ∀H:Hp,Only H->SqL K H a (ns.map V.int)->HOk P w H s₁.heap->(∀b,H b≠none->b=a)->(H a≠none->K.lookup a=none) ->
   codeAny (model P w) callerA (.call (.ref fa) ⟨[.ref a],[]⟩) (fun r s'=>r = .ok (.ret (.bool true))/\OldK s₁.heap s'.heap/\s'.os=s₁.os/\AllBare s'.gens) s₁ :=by
  intro H hO hS hok hA hK
  have base_of : ∀ {b:Addr} {o:Obj},s₁.heap.get? b=some o->H b=none->(hidT s₁.heap H).get? b=some o:=fun e n=>qPt e n
  have noA : ∀ {b:Addr} {o:Obj} {es:Array DictEntry} {ep:Nat},s₁.heap.get? b=some o->o.data = .dict es ep->H b=none:=fun {b o es ep} e d=>by
   cases q:H b with
   | none=>rfl
   | some u =>
    have e':b=a:=hA b (by rw [q];simp)
    subst e'
    rw [ha] at e;cases e
    have d':Data.seq vs.toArray _=Data.dict es ep:=d
    cases d'
  have nsK : ∀ {b:Addr} {m:Str->Option Value},s₁.heap.Ns b m->(hidT s₁.heap H).Ns b m:=fun {b m} ⟨o,es,ep,e,d,r⟩=>⟨o,es,ep,base_of e (noA e d),d,r⟩
  have hKb:K.In (hidT s₁.heap H):=fun b o e=>base_of (KX b o e) (by
   cases q:H b with
   | none=>rfl
   | some u =>
    have e':b=a:=hA b (by rw [q];simp)
    subst e'
    rw [hK (by rw [q];simp)] at e;cases e)
  have hM:Mod K mg (hidT s₁.heap H):=⟨hKb,nsK hns,⟨mb,nsK hb,hbb⟩,let ⟨mc,h1,h2⟩:=hlim;⟨mc,nsK h1,h2⟩⟩
  have e0:Env0 P w K mg (hidT s₁.heap H) callerA [] s₁ H:=⟨rfl,hM,fun b o e=>qSr e,Nat.le_of_eq (qNb _ _),trivial,fun b hb=>absurd (show b∈([]:List Addr) from hb) (by simp),hok,.of_eq hg⟩
  refine codeAny_mono ((F _ hKb (nsK hns)).run callerA [] s₁ H ⟨[.ref a],[]⟩ [.ref a] [.ref a] _ _ hr e0 (hbind s₁ (.ref a)) (.cons rfl .nil) (hsp H hO hS)) fun r s' h => ?_
  cases r with
  | error e=>exact (hCX H e s' h).elim
  | ok fl =>
   cases fl with
   | next=>exact False.elim h
   | brk=>exact False.elim h
   | cont=>exact False.elim h
   | ret u =>
    obtain⟨v,H',os,bare,un,hok',r',q⟩:=h
    have q':v = .bl true:=q
    subst q'
    obtain rfl:u=Value.bool true:=r'
    refine⟨rfl,OldK.of_keep fun b o e => ?_,os,bare⟩
    cases q:H b with
    | none=>exact un.keep b o e q (by intro z;exact absurd (show b∈([]:List Addr) from z) (by simp)) (by simp)
    | some u =>
     rcases hO b with z | ⟨ob,xs,z⟩
     ·rw [q] at z;cases z
     ·have z2:=un.frzs b ob _ z
      obtain⟨e1,_⟩:=hok b _ z
      obtain⟨e2,_⟩:=hok' b _ z2
      rw [e] at e1;cases e1
      exact e2
 cases hk:K.lookup a with
 | some o =>
  have e:=KX a o hk
  rw [ha] at e
  cases e
  refine core (fun _=>none) (fun _ =>.inl rfl) (.inr ⟨_,vs.toArray,_,hk,rfl,rfl,rfl,by rw [List.size_toArray,lenV];exact hl,by simpa using rv⟩) (fun b u z=>by have z':(none:Option HO)=some u:=z;cases z') (fun b z=>absurd rfl z) fun z=>absurd rfl z
 | none =>
  refine core (fun b=>if b=a then some (.frz { cls :=.type "list",data :=.seq vs.toArray } (.lst (ns.map V.int))) else none) (fun b => ?_) (.inl (.inr ⟨{ cls :=.type "list",data :=.seq vs.toArray },if_pos rfl⟩)) (fun b u z => ?_) (fun b z => ?_) fun _=>hk
  ·by_cases hb:b=a
   ·exact .inr ⟨_,_,if_pos hb⟩
   ·exact .inl (if_neg hb)
  ·by_cases hb:b=a
   ·have z':=(if_pos hb).symm.trans z
    cases z'
    subst hb
    exact⟨ha,by rw [List.length_map];exact hl,vs,_,rv,ha⟩
   ·have z':=(if_neg hb).symm.trans z
    cases z'
  ·by_cases hb:b=a
   ·exact hb
   ·exact absurd (if_neg hb) z
theorem qRc {l:PySem.W.OpenLaw} {n k:Nat} {q:Program} {loose:List Str} {XP:(Str->Option Value)->Heap->Prop} {YP:World->Heap->Prop} {d:DefRec} {K:Params->PySem.W.Frag} {CX:World->CXT} {sp:World->Sp} {x:Str}
  (hn:l.most=some n) (hn2:n<=sizeLine) (hdf:d.params.defaults = []) (hr:Room k callerA)
  (hY : ∀(w:World) (h:Heap),YP w h->(K w.params).In h)
  (F : ∀(w:World) (mg:Str->Option Value) (fa:Addr) (h:Heap),(K w.params).In h->h.Ns mainGlobals mg->mg d.name=some (.ref fa) ->
   ∃fd:FuncData,(∀(s:Shared) (u:Value),BindsTo s fd ⟨[u],[]⟩ [(x,u)]) /\
    ∀base:Heap,(K w.params).In base->base.Ns mainGlobals mg->FnOk l.prog w (K w.params) mg base (CX w) k fa fd [x] (sp w))
  (hsp : ∀(w:World) (H:Hp) (a:Addr) (ns:List Int),ns.length<=n->Only H->SqL (K w.params) H a (ns.map V.int)->sp w [.ref a] H (fun v _=>v = .bl true) fun _ _ _=>False)
  (hCX : ∀(w:World) (H:Hp) (s:Shared) (e:Value) (s':Shared),CX w [] H s (fun _ _ _=>False) e s'->False) :
  PySem.W.WalkO q loose XP YP l.row.toRowW d [] (fun f vs=>PySem.call f vs):=by
 refine Att.attach_call hn hdf fun w s₀ s₁ mg mb fa o pm cd doc a vs ns G Y ho hd hcd hmg hobj hints hlen hg => ?_
 have KX:=hY w _ Y
 obtain⟨fd,hb,hF⟩:=F w mg fa _ KX G.T.g hmg
 exact qPs KX G.T.g G.T.b G.T.builtins G.T.nolimit hg hobj hints (Nat.le_trans hlen hn2) hr hF hb (fun H hO hS=>hsp w H a ns hlen hO hS) fun H e s'=>hCX w H s₁ e s'
def qC9 (s:Stmt) (j:Nat):Stmt:=match s with
 | .ClassDef _ _ _ body _ _ _ _ _ _ _=>body.getD j (.Pass ⟨0,0,0,0⟩)
 | _ =>.Pass ⟨0,0,0,0⟩
def qAj (s:Stmt):Arguments:=match s with
 | .FunctionDef _ a _ _ _ _ _ _ _ _=>a
 | _ =>{ posonlyargs :=[],args :=[],vararg:=none,kwonlyargs :=[],kw_defaults :=[],kwarg:=none,defaults :=[] }
def qAh (s:Stmt):List Stmt:=match s with
 | .FunctionDef _ _ b _ _ _ _ _ _ _=>b
 | _ =>[]
def qA8 (s:Stmt):Scope:=match s with
 | .FunctionDef _ _ _ _ _ _ sc _ _ _=>sc
 | _ =>{ kind :=.function,names :=[],isGenerator:=false,isCoroutine:=false }
abbrev CX0:CXT:=fun _ _ _ _ _ _=>False
abbrev E0:XK:=fun _ _ _=>False
theorem pass0 {X:Cx}:qG1 CX0 X E0:=fun _ _ _ _ _ _ _ h=>h.elim
structure Fun (K:PySem.W.Frag) (x qual:Str) (st:Stmt) (f:Addr) (fd:FuncData):Prop where
 ex : ∃(oc:Value) (od:Option Addr) (kV doc pm:Value) (an:Option Addr) (cdv ct:Value) (osl:Array (Option Value)),
  fd=PySem.W.fnOf x qual (qAj st) (qAh st) (qA8 st) .none kV doc pm an cdv ct/\K.lookup f=some ⟨oc,od,.func fd,osl⟩/\PySem.W.codeIn K cdv qual=true
 kp:PySem.W.keepIn K (.ref f)=true
section
variable {P:Program} {w:World} {K:PySem.W.Frag} {mg:Str->Option Value} {base:Heap}
theorem Fun.ok {x qual:Str} {st:Stmt} {f:Addr} {fd:FuncData} {N ps:List Str} {k:Nat} {sp:Sp} (F:Fun K x qual st f fd) (S:FnScope N ps (qA8 st)) (len : ∀vs H Q E,sp vs H Q E->vs.length=ps.length)
  (hbody : ∀(cdv:Value) (A:Around) (outer:List Env) (s:Shared) (H:Hp) (vs:List V) (Q:VK) (E:XK),Room k (A.deeper (envOfC qual (qA8 st) s.heap.objs.size f cdv))->sp vs H Q E ->
   ∃t,PSs (cxOf CX0 P w K mg base N qual (qA8 st) f cdv A outer s H E).nox (qAh st) t/\t { nx:=fun _ H'=>Q .non H',rt:=Q } (start N vs) H):FnOk P w K mg base CX0 (k+1) f fd ps sp:=by
 obtain⟨oc,od,kV,doc,pm,an,cdv,ct,osl,rfl,lk,hcd⟩:=F.ex
 refine qVx lk hcd S len fun A outer s H vs Q E hr hsp => ?_
 obtain⟨t,h,q⟩:=hbody cdv A outer s H vs Q E hr hsp
 exact⟨t,h.nox,q⟩
theorem Fun.binds {x qual:Str} {st:Stmt} {f:Addr} {fd:FuncData} {ps:List Str} (F:Fun K x qual st f fd)
  (h : ∀(kV doc pm:Value) (an:Option Addr) (cdv ct:Value) (us:List Value),us.length=ps.length->bindArgs (PySem.W.fnOf x qual (qAj st) (qAh st) (qA8 st) .none kV doc pm an cdv ct) ⟨us,[]⟩=pure (ps.zip us)):Binds K fd ps []:=by
 obtain⟨oc,od,kV,doc,pm,an,cdv,ct,osl,rfl,lk,hcd⟩:=F.ex
 exact .all (h kV doc pm an cdv ct)
theorem qCm {x qual:Str} {st:Stmt} {f:Addr} {oc:Value} {od an:Option Addr} {osl:Array (Option Value)} {kV doc pm cdv ct:Value} (l:K.lookup f=some ⟨oc,od,.func (PySem.W.fnOf x qual (qAj st) (qAh st) (qA8 st) .none kV doc pm an cdv ct),osl⟩)
  (c:PySem.W.codeIn K cdv qual=true) (k:PySem.W.keepIn K (.ref f)=true):Fun K x qual st f (PySem.W.fnOf x qual (qAj st) (qAh st) (qA8 st) .none kV doc pm an cdv ct):=⟨⟨oc,od,kV,doc,pm,an,cdv,ct,osl,rfl,l,c⟩,k⟩
end
theorem qLf {A:Around} {k:Nat} (hr:Room k A):A.units+1<cLine:=Nat.lt_of_le_of_lt (Nat.add_le_add_left (by decide:1<=64) _) hr.units
theorem qAn {n:Nat} (h:n<=1000):n<sizeLine:=Nat.lt_of_le_of_lt h (by decide)
section
variable {X:Cx}
theorem pv (i:Nat) {x:Str} {pos:Pos} (hN:X.N[i]? = some x:=by rfl) (hv:Vis X.env.scope x:=by first | exact Or.inl rfl | exact Or.inr (Or.inl rfl) | exact Or.inr (Or.inr rfl)) (hd:(x == ("__debug__" : Str))=false:=by decide)
  (hcd:(x == ("__classdict__" : Str))=false:=by decide):PE X (.Name x pos) (tVar i):=qUn hN hv hd hcd
end
theorem iteF {A B:Prop} (h:B):if false=true then A else B:=by
 rw [if_neg Bool.false_ne_true]
 exact h
theorem iteT {A B:Prop} (h:A):if true=true then A else B:=by
 rw [if_pos rfl]
 exact h
theorem ite2 {c A B:Prop} [Decidable c] (h1:c->A) (h2 : ¬c->B):if c then A else B:=by
 by_cases h:c
 ·rw [if_pos h]
  exact h1 h
 ·rw [if_neg h]
  exact h2 h
def Same (H H':Hp):Prop := ∀b o,H b=some o->H' b=some o
theorem Same.seq {K:PySem.W.Frag} {H H':Hp} {a:Addr} {xs:List V} (e:Same H H') (h:SqL K H a xs):SqL K H' a xs:=by
 rcases h with (h | ⟨o,h⟩) | h
 ·exact .inl (.inl (e _ _ h))
 ·exact .inl (.inr ⟨o,e _ _ h⟩)
 ·exact .inr h
end L2
set_option maxHeartbeats 4000000
namespace L2
open PySem PySem.Spec PyProof.Rows
abbrev TB:=St->Hp->(St->Hp->Prop)->Prop
def PB (X:Cx) (m:Sem Unit) (B:TB):Prop :=
 ∀(pins:List (Addr×Obj)) (s:Shared) (σ : St) (H:Hp) (Q:St->Hp->Prop),Inv X pins σ H s->B σ H Q ->
  wpAny (model X.prog X.w) X.A m (fun _ s' => ∃ σ' H',Inv X pins σ' H' s'/\Q σ' H') X.xe s
def tAll:List TT->TT
 | []=>fun _ H Q=>Q true H
 | t::r=>fun σ H Q=>t σ H fun b H1=>if b=true then tAll r σ H1 Q else Q false H1
inductive PTs (X:Cx):List Expr->List TT->Prop
 | nil:PTs X [] []
 | cons {e es t ts}:PT X e t->PTs X es ts->PTs X (e::es) (t::ts)
def qF4 (ifs:List Expr) (env:Env) (b:Bool):Sem Bool:=forIn ifs b fun c r=>if r=true then do let ok <-isTrue c env (eval c env);pure (ForInStep.yield ok) else pure (ForInStep.yield r)
theorem qF3 {M:Model} {A:Around} {E:Value->Shared->Prop} {env:Env} {Q:Bool->Shared->Prop} {s:Shared} (h:Q false s) : ∀ifs:List Expr,wpAny M A (qF4 ifs env false) Q E s
 | []=>wpAny_pure h
 | c::r=>by
  unfold qF4
  simp only [List.forIn_cons,Bool.false_eq_true,if_false]
  exact wpAny_bind (wpAny_pure (qF3 h r))
theorem qJr {X:Cx} : ∀ {ifs:List Expr} {ts:List TT},PTs X ifs ts -> ∀(pins:List (Addr×Obj)) (s:Shared) (σ : St) (H:Hp) (Q:Bool->Hp->Prop),Inv X pins σ H s->tAll ts σ H Q ->
  wpAny (model X.prog X.w) X.A (qF4 ifs X.env true) (TP X pins σ Q) X.xe s
 | _,_,.nil,pins,s,σ,H,Q,I,h=>wpAny_pure ⟨H,I,h⟩
 | _,_,.cons (es:=es) h1 h2,pins,s,σ,H,Q,I,h=>by
  unfold qF4
  simp only [List.forIn_cons,if_true]
  refine wpAny_bind (wpAny_bind (thn (h1 pins s σ H _ I h) fun b s1 hq_ => ?_))
  obtain⟨H1,I1,q1⟩:=hq_
  refine wpAny_pure ?_
  cases b with
  | true=>exact qJr h2 pins s1 σ H1 Q I1 q1
  | false=>exact qF3 (show TP X pins σ Q false s1 from⟨H1,I1,q1⟩) es
def LoopT (J:It) (g:TG) (tt:TT) (B:TB):TB:=fun σ H Q => ∃W:Nat->Nat->St->Hp->Prop,(∃m,W 0 m σ H) /\ ∀i m σ H,W i m σ H ->
 (J.stop i H/\Q σ H)\/(J.go i H /\ ∀x H',J.yld i H x H'->g x σ H' fun σ2 H2=>tt σ2 H2 fun b H3 =>
  if b=true then B σ2 H3 (fun σ3 H4 => ∃m',m'<m/\W (i+1) m' σ3 H4) else ∃m',m'<m/\W (i+1) m' σ2 H3)
def CompR (X:Cx) (pins:List (Addr×Obj)) (Q:St->Hp->Prop):Result->Shared->Prop
 | .ok _,s' => ∃ σ' H',Inv X pins σ' H' s'/\Q σ' H'
 | .error _,_=>False
structure ClauseAt (X:Cx) (e:Expr) (d:Nat) (acc:Value) (tg iter:Expr) (ifs:List Expr) (beh:Sem Unit):Prop where
 quiet : ∀it,(Code.compLoop e d it acc X.env).quiet=true
 under : ∀it,X.A.under (Code.compLoop e d it acc X.env)=X.A
 den : ∀it,(model X.prog X.w).den (.compLoop e d it acc X.env)=(compTurn e d it acc X.env).onRaise (fun x=>do noteFrame x X.env;theTreesLotGoes x)
 turn : ∀it,compTurn e d it acc X.env=(do
   standAt iter.pos
   match <-pyNext it with
   | none=>pure (.done .next)
   | some v =>
    letOwnedTupleGo tg it v
    assign tg X.env v
    let ok <-qF4 ifs X.env true
    if ok then beh
    again (.compLoop e d it acc X.env))
 start : ∀(it:Value) (R:Result->Shared->Prop) (s:Shared),codeAny (model X.prog X.w) X.A (.compLoop e d it acc X.env) R s ->
  wpAny (model X.prog X.w) X.A (pyIter it) (fun it' s'=>codeAny (model X.prog X.w) X.A (.compLoop e d it' acc X.env) R s') (fun _ _=>False) s->codeAny (model X.prog X.w) X.A (.compStart e d it acc X.env) R s
theorem qIj {X:Cx} {e:Expr} {d:Nat} {acc:Value} {tg iter:Expr} {ifs:List Expr} {beh:Sem Unit} {J:It} {fp:List Addr} {it:Addr} {tn:Nat->Heap->Prop} {g:TG} {tts:List TT} {B:TB}
  (hxe:X.xe=fun _ _=>False) (hc:X.calm=true) (C:ClauseAt X e d acc tg iter ifs beh) (T:Turn X.prog X.w X.K tg J fp it tn) (hg:PG X tg g) (ht:PTs X ifs tts) (hb:PB X beh B)
  {pins:List (Addr×Obj)} {σ : St} {H:Hp} {s:Shared} {Q:St->Hp->Prop} (I:Inv X pins σ H s) (st:tn 0 s.heap) (f : ∀b∈fp,FpOk X pins H b) (q:LoopT J g (tAll tts) B σ H Q) :
  codeAny (model X.prog X.w) X.A (.compLoop e d (.ref it) acc X.env) (CompR X pins Q) s:=by
 obtain⟨W,⟨m0,w0⟩,turn⟩:=q
 have stat : ∀ {H':Hp},(∀b∈fp,H' b=none) -> ∀b∈fp,FpOk X pins H' b:=fun hn b hb=>⟨hn b hb,(f b hb).2⟩
 refine codeAny_loop (C.quiet _) (fun n s' => ∃i σ' H',Inv X pins σ' H' s'/\tn i s'.heap/\(∀b∈fp,H' b=none)/\W i n σ' H') ?_ m0 ⟨0,σ,H,I,st,fun b hb=>(f b hb).1,w0⟩
 rintro n s3 ⟨i,σ3,H3,I3,st3,fr3,w3⟩
 rw [C.under,C.den]
 refine wpAny_noted ?_
 rw [C.turn]
 refine wpAny_bind (wpAny_standAt ?_)
 have lift : ∀ {α : Type} {t:Sem α} {R : α -> Shared->Prop} {s:Shared},wpAny (model X.prog X.w) X.A t R X.xe s->wpAny (model X.prog X.w) X.A t R (notedBy (model X.prog X.w) X.A X.env fun x s'=>CompR X pins Q (.error x) s') s:=by
  intro α t R s h
  rw [hxe] at h
  exact wpAny_mono h (fun _ _ z=>z) fun _ _ z=>z.elim
 rcases turn i n σ3 H3 w3 with ⟨stop,qn⟩ | ⟨go,step⟩
 ·refine wpAny_bind (lift (thn (T.done X rfl rfl rfl hc i pins s3 σ3 H3 X.xe I3 (stat fr3) st3 stop) fun r s4 hq_ => ?_))
  obtain⟨hr,I4⟩:=hq_
  subst hr
  exact wpAny_pure ⟨σ3,H3,I4,qn⟩
 ·refine wpAny_bind (lift (thn (T.item X rfl rfl rfl hc i pins s3 σ3 H3 X.xe I3 (stat fr3) st3 go) fun r s4 hq_ => ?_))
  obtain⟨u,hr,h4⟩:=hq_
  subst hr
  refine wpAny_bind (lift (thn h4 fun _ s5 hq_ => ?_))
  obtain⟨x,H5,I5,r5,y5,st5,fr5⟩:=hq_
  have I5':=I5.pinned (stat fr5) (T.obj _ _ st5)
  refine wpAny_bind (lift (thn (hg _ s5 σ3 H5 x u _ I5' r5 (step x H5 y5)) fun _ s6 hq_ => ?_))
  obtain⟨σ6,H6,I6,q6⟩:=hq_
  have again : ∀ {σ7:St} {H7:Hp} {s7:Shared},Inv X (pins++qHx fp s5.heap) σ7 H7 s7->(∃m',m'<n/\W (i+1) m' σ7 H7) -> ∃m,m<n /\ ∃i σ' H',Inv X pins σ' H' s7/\tn i s7.heap/\(∀b∈fp,H' b=none)/\W i m σ' H':=fun {σ7 H7 s7} I7 ⟨m',hm,w7⟩=>by
   refine⟨m',hm,i+1,σ7,H7,I7.unpinned,T.keep _ _ _ st5 fun b hb o e=>(I7.pin (b,o) (List.mem_append_right _ (List.mem_append_right _ (qDi hb e)))).1,fun b hb => ?_,w7⟩
   obtain⟨o,e,_⟩:=T.obj _ _ st5 b hb
   exact (I7.pin (b,o) (List.mem_append_right _ (List.mem_append_right _ (qDi hb e)))).2.1
  refine wpAny_bind (lift (thn (qJr ht _ s6 σ6 H6 _ I6 q6) fun ok s7 hq_ => ?_))
  obtain⟨H7,I7,q7⟩:=hq_
  cases ok with
  | false =>
   exact wpAny_pure ⟨rfl,again I7 q7⟩
  | true =>
   refine wpAny_bind (lift (thn (hb _ s7 σ6 H7 _ I7 q7) fun _ s8 hq_ => ?_))
   obtain⟨σ8,H8,I8,q8⟩:=hq_
   exact wpAny_pure ⟨rfl,again I8 q8⟩
theorem qEn (env:Env) : ∀(names:List (Str×NameKind)) (cs:List (Str×Addr)),(∀x∈names,x.2 = .free -> ∃c,env.cells.lookup x.1=some c) ->
  (∀x c,cs.lookup x=some c->env.cells.lookup x=some c) ->
  ∃cl,(forIn names cs fun (x:Str×NameKind) (r:List (Str×Addr))=>(if (x.2 == NameKind.free)=true then do let c <-cellOf env x.1;pure (ForInStep.yield ((x.1,c)::r)) else pure (ForInStep.yield r):Sem (ForInStep (List (Str×Addr)))))=pure cl /\
   (∀x c,cl.lookup x=some c->env.cells.lookup x=some c)/\(∀x,(x,NameKind.free)∈names\/(∃c,cs.lookup x=some c) -> ∃c,cl.lookup x=some c)
 | [],cs,_,h2=>⟨cs,rfl,h2,fun x h=>h.elim (fun z=>nomatch z) id⟩
 | (n,k)::r,cs,h1,h2=>by
  rw [List.forIn_cons]
  have hr : ∀x∈r,x.2 = .free -> ∃c,env.cells.lookup x.1=some c:=fun x hx=>h1 x (List.mem_cons_of_mem _ hx)
  by_cases hk:k = .free
  ·subst hk
   obtain⟨c,hc⟩:=h1 (n,.free) List.mem_cons_self rfl
   have hcell:cellOf env n=pure c:=by unfold cellOf;rw [hc]
   obtain⟨cl,e,a,b⟩:=qEn env r ((n,c)::cs) hr (fun x d hx=>by
    rw [List.lookup_cons] at hx
    cases hxn:x == n with
    | true =>
     rw [hxn] at hx
     have:x=n:=eq_of_beq hxn
     cases hx;rw [this];exact hc
    | false=>rw [hxn] at hx;exact h2 x d hx)
   refine⟨cl,?_,a,fun x hx=>b x ?_⟩
   ·rw [hcell]
    exact e
   ·by_cases hxn:x=n
    ·exact .inr ⟨c,by rw [List.lookup_cons,hxn,beq_self_eq_true]⟩
    ·rcases hx with hx | ⟨d,hx⟩
     ·rcases List.mem_cons.mp hx with z | z
      ·exact absurd (congrArg Prod.fst z) hxn
      ·exact .inl z
     ·refine .inr ⟨d,?_⟩
      have:(x == n)=false:=by simpa using hxn
      rw [List.lookup_cons,this];exact hx
  ·have hb:(k == NameKind.free)=false:=by simpa using hk
   obtain⟨cl,e,a,b⟩:=qEn env r cs hr h2
   refine⟨cl,?_,a,fun x hx=>b x ?_⟩
   ·show (if (k == NameKind.free)=true then _ else _) >>= _=_
    rw [hb]
    exact e
   ·rcases hx with hx | hx
    ·rcases List.mem_cons.mp hx with z | z
     ·exact absurd (congrArg Prod.snd z).symm hk
     ·exact .inl z
    ·exact .inr hx
theorem qDk {scope:Scope} {env:Env} (h : ∀x∈scope.names,x.2 = .free -> ∃c,env.cells.lookup x.1=some c) :
  ∃cl,closureFor scope env=pure cl/\(∀x c,cl.lookup x=some c->env.cells.lookup x=some c) /\ ∀x,(x,NameKind.free)∈scope.names -> ∃c,cl.lookup x=some c:=by
 obtain⟨cl,e,a,b⟩:=qEn env scope.names [] h (fun x c hx=>nomatch hx)
 refine⟨cl,?_,a,fun x hx=>b x (.inl hx)⟩
 unfold closureFor
 show (forIn scope.names ([]:List (Str×Addr)) _) >>= _=_
 have e2:(forIn scope.names ([]:List (Str×Addr)) fun (x:Str×NameKind) (r:List (Str×Addr))=>(match x with | (name,kind)=>if (kind == NameKind.free)=true then do let c <-cellOf env name;pure (ForInStep.yield ((name,c)::r)) else pure (ForInStep.yield r):Sem (ForInStep (List (Str×Addr)))))=pure cl:=e
 rw [e2]
 rfl
def relK (env:Env) (x:Str) (k:NameKind):NameKind:=if (k == .free&&env.scope.kind == .function&&env.kindOf x == some .cell)=true then .cell else k
theorem qDn (env:Env) (x:Str) : ∀names:List (Str×NameKind),
  (names.map fun (n,k)=>if (k == NameKind.free&&env.scope.kind == .function&&env.kindOf n == some .cell) then (n,NameKind.cell) else (n,k)).lookup x=(names.lookup x).map (relK env x)
 | []=>rfl
 | (n,k)::r=>by
  have ih:=qDn env x r
  show List.lookup x ((if (k == NameKind.free&&env.scope.kind == .function&&env.kindOf n == some .cell)=true then (n,NameKind.cell) else (n,k))::_)=_
  have e:(if (k == NameKind.free&&env.scope.kind == .function&&env.kindOf n == some .cell)=true then (n,NameKind.cell) else (n,k))=(n,relK env n k):=by
   unfold relK;split <;> rfl
  rw [e,List.lookup_cons,List.lookup_cons]
  cases hx:x == n with
  | true=>have:=eq_of_beq hx;subst this;rfl
  | false=>exact ih
theorem qCe (scope:Scope) (env:Env) (x:Str):(relabel scope env).names.lookup x=(scope.names.lookup x).map (relK env x):=qDn env x scope.names
def qAw (X:Cx) (own:List Str) (cap:List Nat) (scope:Scope) (cl:List (Str×Addr)) (s:Shared) (H:Hp) (ex:List Addr):Cx :=
 { X with N:=own++cap.map (fun j=>X.N.getD j ""),env:=compEnvC scope cl s.heap.objs.size X.env,s₀ :=s,H₀ :=H,outer:=X.stack,ex:=ex,fn:=fun _=>false,pn :=[],xe:=fun _ _=>False }
def qEr (own:List Str) (cap:List Nat) (σ : St):St:=own.map (fun _=>none)++cap.map (fun j=>(σ[j]?).join)
structure CompScope (X:Cx) (own:List Str) (cap:List Nat) (scope:Scope):Prop where
 kind:scope.kind = .function
 nocell : ∀x∈scope.names,x.2 ≠ .cell
 names : ∀x∈scope.names,x.2 = .local->scope.names.lookup x.1=some .local
 free : ∀x∈scope.names,x.2 = .free->X.env.kindOf x.1=some .cell\/X.env.kindOf x.1=some .free
 own : ∀x∈own,scope.names.lookup x=some .local
 caps : ∀j∈cap,scope.names.lookup (X.N.getD j "")=some .free/\j<X.N.length
theorem qQ6 {X:Cx} {own:List Str} {cap:List Nat} {scope:Scope} {cl:List (Str×Addr)} {pins:List (Addr×Obj)} {σ : St} {H:Hp} {s:Shared} {fp:List Addr} {h':Heap} {tk:Nat} (S:CompScope X own cap scope)
  (I:Inv X pins σ H s) (hcl : ∀x c,cl.lookup x=some c->X.env.cells.lookup x=some c) (hfr : ∀x,(x,NameKind.free)∈scope.names -> ∃c,cl.lookup x=some c)
  (hf : ∀b∈fp,FpOk X pins H b) (hlt : ∀b∈fp,b<s.heap.objs.size) (hns:h'.Ns s.heap.objs.size (fun x=>([]:List (Str×Value)).reverse.lookup x)) (hk : ∀b u,s.heap.get? b=some u->h'.get? b=some u) :
  Inv (qAw X own cap scope cl s H fp) [] (qEr own cap σ) H { s with heap:=h',toks:=tk }:=by
 have kc : ∀x k,(relabel scope X.env).names.lookup x=some k->(k = .cell\/k = .free)->(x,NameKind.free)∈scope.names:=by
  intro x k e hk
  rw [qCe] at e
  cases q:scope.names.lookup x with
  | none=>rw [q] at e;cases e
  | some k0 =>
   rw [q] at e
   have e':relK X.env x k0=k:=Option.some.inj e
   have hm:=PySem.mem_of_lookup q
   have h0:k0 ≠ .cell:=S.nocell _ hm
   have:k0 = .free:=by
    unfold relK at e'
    by_cases hb:(k0 == NameKind.free&&X.env.scope.kind == .function&&X.env.kindOf x == some .cell)=true
    ·simp only [Bool.and_eq_true,beq_iff_eq] at hb
     exact hb.1.1
    ·rw [if_neg hb] at e'
     rcases hk with z | z
     ·exact absurd (e'.trans z) h0
     ·exact e'.trans z
   rw [this] at hm
   exact hm
 have ok:(qAw X own cap scope cl s H fp).Ok :={
  mod:=I.ok.mod
  kind:=S.kind
  glob:=I.ok.glob
  blt:=I.ok.blt
  above:=Nat.le_refl _
  inj:=fun x y c e1 e2=>I.ok.inj x y c (hcl x c e1) (hcl y c e2)
  has:=fun x hx=>by
   rcases hx with hx | hx
   ·exact hfr x (kc x _ hx (.inl rfl))
   ·exact hfr x (kc x _ hx (.inr rfl))
  cab:=fun x c h=>absurd h (show ¬(false=true) from Bool.false_ne_true)
  hd:=I.ok.hd
  frames:=I.ok.frames
  stk :=.inl rfl
  exf:=fun b hb=>⟨Nat.ne_of_lt (hlt b hb),fun x c e=>(hf b hb).2.2.2.2.1 x c (hcl x c e)⟩
  bs:=I.bs
  bsz:=Nat.le_trans I.ok.bsz I.sz
  noex:=fun b o e hb=>by
   rcases (hf b hb).2.2.2.1 with z | z
   ·exact I.ok.noex b o e z
   ·exact absurd (Nat.lt_of_lt_of_le (Heap.lt_size e) (Nat.le_trans I.ok.bsz z)) (Nat.lt_irrefl _)
  exfs:=fun b hb hm=>by
   rcases List.mem_cons.mp (I.stkSub b hm) with z | z
   ·exact (hf b hb).2.1 z
   ·exact (hf b hb).2.2.1 z
  funs:=I.stack
  frf:=I.stkFree }
 refine⟨ok,rfl,I.bare,Un.kept hk,⟨_,hns,fun i x v e1 e2 e3 => ?_⟩,fun x c e => ?_,I.hok.fresh (Nat.le_refl _),fun x c e=>I.freeC x c (hcl x c e),fun p hp=>absurd (show p∈([]:List (Addr×Obj)) from hp) (by simp),I.hok.kept hk,?_⟩
 ·have e1:(own++cap.map (fun j=>X.N.getD j ""))[i]? = some x:=e1
  have e2:(own.map (fun _=>(none:Option V))++cap.map (fun j=>(σ[j]?).join))[i]? = some (some v):=e2
  by_cases hi:i<own.length
  ·rw [List.getElem?_append_left (by simpa using hi),List.getElem?_map] at e2
   cases q:own[i]? with
   | none=>rw [q] at e2;cases e2
   | some y=>rw [q] at e2;cases e2
  ·rw [List.getElem?_append_right (by simpa using hi),List.getElem?_map] at e1
   rw [List.getElem?_append_right (by simpa using hi),List.getElem?_map,List.length_map] at e2
   cases q:cap[i - own.length]? with
   | none=>rw [q] at e2;cases e2
   | some j =>
    rw [q] at e1 e2
    have e1':X.N.getD j "" = x:=Option.some.inj e1
    have e2':(σ[j]?).join=some v:=Option.some.inj e2
    obtain⟨hj,hlj⟩:=S.caps j (List.mem_of_getElem? q)
    rw [e1'] at hj
    have hNj:X.N[j]? = some x:=by
     rw [List.getElem?_eq_getElem hlj,<-e1',List.getD_eq_getElem?_getD,List.getElem?_eq_getElem hlj];rfl
    have hσ : σ[j]? = some (some v):=by
     cases z : σ[j]? with
     | none=>rw [z] at e2';cases e2'
     | some o=>rw [z] at e2';rw [show o=some v from e2']
    obtain⟨m,hn,hl⟩:=I.loc
    have hm:=PySem.mem_of_lookup hj
    have hkx:=S.free _ hm rfl
    have vis:Vis X.env.scope x:=by
     rcases hkx with z | z
     ·exact .inr (.inl z)
     ·exact .inr (.inr z)
    obtain⟨u,r,l⟩:=hl j x v hNj hσ vis
    refine⟨u,r,.inr ?_⟩
    rcases l with ⟨kl,_⟩ | ⟨_,c,hc,z⟩
    ·rcases hkx with z | z
     ·rw [kl] at z;cases z
     ·rw [kl] at z;cases z
    ·obtain⟨c',hc'⟩:=hfr x hm
     have:=hcl x c' hc'
     rw [hc] at this;cases this
     refine⟨?_,c,hc',?_⟩
     ·have q:(relabel scope X.env).names.lookup x=some (relK X.env x .free):=by rw [qCe,hj];rfl
      show (relabel scope X.env).names.lookup x=some .cell\/(relabel scope X.env).names.lookup x=some .free
      rw [q]
      unfold relK
      split
      ·exact .inl rfl
      ·exact .inr rfl
     ·obtain⟨o,ho,hd⟩:=z
      exact⟨o,hk c o ho,hd⟩
 ·obtain⟨v,o,ho,hd⟩:=I.cell x c (hcl x c e)
  exact⟨v,o,hk c o ho,hd⟩
 ·show (own.map (fun _=>(none:Option V))++cap.map (fun j=>(σ[j]?).join)).length=(own++cap.map (fun j=>X.N.getD j "")).length
  simp only [List.length_append,List.length_map]
def qG2 (X:Cx) (m:Sem Value) (o:HO):Prop :=
 ∀(pins:List (Addr×Obj)) (s:Shared) (σ : St) (H:Hp) (E:Value->Shared->Prop) (Q:Value->Shared->Prop),Inv X pins σ H s ->
  (∀l s',s.heap.objs.size<=l->H l=none->Inv X pins σ (upd H l o) s'->(∀b u,s.heap.get? b=some u->s'.heap.get? b=some u)->Q (.ref l) s')->wpAny (model X.prog X.w) X.A m Q E s
theorem qF1 {X:Cx}:qG2 X (newList []) (.lst []):=by
 intro pins s σ H E Q I h
 exact wpAny_newList (h _ _ (Nat.le_refl _) I.fresh (I.lnew (its :=[]) (t':=s.toks) .nil (Nat.zero_le _)) fun b u e=>Heap.get?_push_of_some _ e)
theorem qIk {X:Cx} {e:Expr} {tg iter:Expr} {ifs:List Expr} {scope:Scope} {own:List Str} {cap:List Nat} {newAcc:Sem Value} {o:HO} {cl:List (Str×Addr)} {behOf:Value->Env->Sem Unit} {g:TG} {tts:List TT} {Bof:Addr->TB}
  (hc:X.calm=true) (S:CompScope X own cap scope) (hcl : ∀x c,cl.lookup x=some c->X.env.cells.lookup x=some c) (hfr : ∀x,(x,NameKind.free)∈scope.names -> ∃c,cl.lookup x=some c)
  (hacc:qG2 X newAcc o)
  (hC : ∀s H ex l,ClauseAt (qAw X own cap scope cl s H ex) e 0 (.ref l) tg iter ifs (behOf (.ref l) (qAw X own cap scope cl s H ex).env))
  (hg : ∀s H ex,PG (qAw X own cap scope cl s H ex) tg g) (ht : ∀s H ex,PTs (qAw X own cap scope cl s H ex) ifs tts)
  (hb : ∀s H ex l,PB (qAw X own cap scope cl s H ex) (behOf (.ref l) (qAw X own cap scope cl s H ex).env) (Bof l))
  {pins:List (Addr×Obj)} {σ : St} {s2:Shared} {itv:Value} {Q:Addr->Hp->Prop} {E:Value->Shared->Prop} {R:Value->Addr->Result->Shared->Prop}
  (h:PIE X pins σ tg (fun J H1 => ∀l,H1 l=none->LoopT J g (tAll tts) (Bof l) (qEr own cap σ) (upd H1 l o) fun _ H2=>Q l H2) itv s2)
  (hR : ∀l C s' H',Inv X pins σ H' s'->FpOk X pins H' C->(∃m,s'.heap.Ns C m)->Q l H'->R (.ref l) C (.ok .next) s')
  (hok : ∀acc C f s',R acc C (.ok .next) s'->R acc C (.ok f) s') :
  wpAny (model X.prog X.w) X.A newAcc (fun acc s₃ =>wpAny (model X.prog X.w) X.A (newFunctionEnv scope X.env.globals cl [] X.env.qual none .none (some X.env)) (fun cenv s₄ =>
   codeAny (model X.prog X.w) X.A (.compStart e 0 itv acc { cenv with scope:=relabel scope X.env }) (R acc cenv.locals) s₄) E s₃) E s2:=by
 obtain⟨it,fp,tn,J,H2,rfl,I2,T,st2,f2,q⟩:=h
 have lt2 : ∀b∈fp,b<s2.heap.objs.size:=fun b hb=>by
  obtain⟨ob,e,_⟩:=T.obj _ _ st2 b hb
  exact Heap.lt_size e
 refine hacc pins s2 σ H2 E _ I2 fun l s3 hl hn I3 k3 => ?_
 have q':=q l hn
 have f3 : ∀b∈fp,FpOk X pins (upd H2 l o) b:=fun b hb=>by
  obtain⟨a1,a2⟩:=f2 b hb
  refine⟨?_,a2⟩
  rw [qA6 (Nat.ne_of_lt (Nat.lt_of_lt_of_le (lt2 b hb) hl))];exact a1
 have lt3 : ∀b∈fp,b<s3.heap.objs.size:=fun b hb=>by
  obtain⟨ob,e,_⟩:=T.obj _ _ st2 b hb
  exact Heap.lt_size (k3 b ob e)
 refine wpAny_newFunctionEnv S.nocell (by intro y hy;simp at hy) (fun h1 hns hsb => ?_) S.kind
 have k4 : ∀b u,s3.heap.get? b=some u->h1.get? b=some u:=fun b u e=>by
  exact hsb.extBut b u (Nat.ne_of_lt (Heap.lt_size e)) (Heap.get?_push_of_some _ e)
 have I4:Inv (qAw X own cap scope cl s3 (upd H2 l o) fp) [] (qEr own cap σ) (upd H2 l o) { s3 with heap:=h1,toks:=s3.toks+([]:List (Str×Value)).length }:=qQ6 S I3 hcl hfr f3 lt3 hns k4
 have st4:tn 0 h1:=T.keep _ _ _ st2 fun b hb ob e=>k4 b ob (k3 b ob e)
 have f4 : ∀b∈fp,FpOk (qAw X own cap scope cl s3 (upd H2 l o) fp) [] (upd H2 l o) b:=fun b hb=>by
  obtain⟨a0,a1,a2,a3,a4,a5⟩:=f3 b hb
  refine⟨a0,Nat.ne_of_lt (lt3 b hb),fun hm => ?_,.inl hb,fun x c ex=>a4 x c (hcl x c ex),fun p hp=>absurd (show p∈([]:List (Addr×Obj)) from hp) (by simp)⟩
  rcases List.mem_cons.mp (I3.stkSub b hm) with z | z
  ·exact a1 z
  ·exact a2 z
 have fin : ∀(r:Result) (s':Shared),CompR (qAw X own cap scope cl s3 (upd H2 l o) fp) [] (fun _ H2=>Q l H2) r s'->R (.ref l) s3.heap.objs.size r s':=by
  intro r s' hr
  cases r with
  | error x=>exact (show False from hr).elim
  | ok f =>
   obtain⟨σ5,H5,I5,q5⟩:=(show ∃ σ' H',Inv (qAw X own cap scope cl s3 (upd H2 l o) fp) [] σ' H' s'/\Q l H' from hr)
   have I6:Inv X pins σ H5 s':=I3.call' (ch:=fp) I5.os I5.base I5.hok I5.bare fun b hb=>(f3 b hb).2.2.2 |> fun ⟨z1,z2,z3⟩=>⟨z1,(f3 b hb).2.1,z2,z3⟩
   refine hok _ _ _ _ (hR l _ s' H5 I6 (I3.fpOk (Nat.le_refl _) I5.free) ?_ q5)
   obtain⟨m,hm,_⟩:=I5.loc
   exact⟨m,hm⟩
 have loop : ∀s4:Shared,s4 = { s3 with heap:=h1,toks:=s3.toks+([]:List (Str×Value)).length } ->
   codeAny (model X.prog X.w) X.A (.compLoop e 0 (.ref it) (.ref l) (qAw X own cap scope cl s3 (upd H2 l o) fp).env) (R (.ref l) s3.heap.objs.size) s4:=by
  rintro s4 rfl
  exact codeAny_mono (qIj (X:=qAw X own cap scope cl s3 (upd H2 l o) fp) rfl hc (hC _ _ _ _) T (hg _ _ _) (ht _ _ _) (hb _ _ _ l) I4 st4 f4 q') fin
 exact (hC s3 (upd H2 l o) fp l).start (.ref it) _ _ (loop _ rfl) (T.self _ 0 _ _ _ st4 (loop _ rfl))
section
variable {X:Cx} {e:Expr} {tg iter:Expr} {ifs:List Expr} {gs:List Comprehension} {scope:Scope} {own:List Str} {cap:List Nat} {newAcc:Sem Value} {o:HO} {behOf:Value->Env->Sem Unit} {wi:TI} {g:TG} {tts:List TT} {Bof:Addr->TB} {cpos:Pos}
def tComp (own:List Str) (cap:List Nat) (o:HO) (wi:TI) (g:TG) (tts:List TT) (Bof:Addr->TB):TE:=fun σ H Q=>wi σ H fun J H1 => ∀l,H1 l=none->LoopT J g (tAll tts) (Bof l) (qEr own cap σ) (upd H1 l o) fun _ H2=>Q (.ref l) H2
theorem qQ4 (hc:X.calm=true) (S:CompScope X own cap scope) (hcl:clausesOf e=⟨tg,iter,ifs,0⟩::gs) (hi:PI X tg iter wi) (hacc:qG2 X newAcc o)
  (hC : ∀cl s H ex l,ClauseAt (qAw X own cap scope cl s H ex) e 0 (.ref l) tg iter ifs (behOf (.ref l) (qAw X own cap scope cl s H ex).env))
  (hg : ∀cl s H ex,PG (qAw X own cap scope cl s H ex) tg g) (ht : ∀cl s H ex,PTs (qAw X own cap scope cl s H ex) ifs tts)
  (hb : ∀cl s H ex l,PB (qAw X own cap scope cl s H ex) (behOf (.ref l) (qAw X own cap scope cl s H ex).env) (Bof l)) (hs : ∀x,foldedSetIterable iter X.env x=pure x) :
  ∀(pins:List (Addr×Obj)) (s:Shared) (σ : St) (H:Hp) (Q:VK),Inv X pins σ H s->tComp own cap o wi g tts Bof σ H Q ->
   wpAny (model X.prog X.w) X.A (comprehension e scope X.env cpos newAcc false (eval iter X.env)) (EP X pins σ Q) X.xe s:=by
 intro pins s σ H Q I h
 obtain⟨cl,hclos,h1,h2⟩:=qDk (scope:=scope) (env:=X.env) fun x hx hf=>I.ok.has x.1 (S.free x hx hf)
 refine wpAny_comprehension_free (use:=none) hcl hs hclos S.kind S.names (thn (hi pins s σ H _ I h) fun v s1 q1=>thn q1 fun itv s2 q2 => ?_)
 refine qIk (R:=fun acc C=>compPost (model X.prog X.w) X.A X.xe none (EP X pins σ Q) acc C) hc S h1 h2 hacc (hC cl) (hg cl) (ht cl) (hb cl) q2 (fun l C s' H' I' fC hm q => ?_) (fun acc C f s' z=>z)
 obtain⟨m,hm⟩:=hm
 refine⟨m,hm,fun h' sb=>⟨.ref l,H',I'.turned (t':=s'.toks) (fun b o hb e=>(sb.2 b hb).trans e) fC.1 fC.2.1 fC.2.2.2.1 fC.2.2.2.2.1 fC.2.2.2.2.2,rfl,q⟩⟩
theorem qQ5 {i:Nat} {x:Str} {px:Pos} (hc:X.calm=true) (S:CompScope X own cap scope) (hcl:clausesOf e=⟨tg,iter,ifs,0⟩::gs) (hi:PI X tg iter wi) (hacc:qG2 X newAcc o)
  (hC : ∀cl s H ex l,ClauseAt (qAw X own cap scope cl s H ex) e 0 (.ref l) tg iter ifs (behOf (.ref l) (qAw X own cap scope cl s H ex).env))
  (hg : ∀cl s H ex,PG (qAw X own cap scope cl s H ex) tg g) (ht : ∀cl s H ex,PTs (qAw X own cap scope cl s H ex) ifs tts)
  (hb : ∀cl s H ex l,PB (qAw X own cap scope cl s H ex) (behOf (.ref l) (qAw X own cap scope cl s H ex).env) (Bof l)) (hs : ∀x,foldedSetIterable iter X.env x=pure x)
  (hN:X.N.Nodup) (hix:X.N[i]? = some x) (hx:Loc X.env.scope x) (hf:X.fn x=true\/X.env.scope.names.lookup x=some .local) :
  ∀(pins:List (Addr×Obj)) (s:Shared) (σ : St) (H:Hp) (D:Ends),Inv X pins σ H s->tComp own cap o wi g tts Bof σ H (fun v H1=>D.nx (σ.set i (some v)) H1) ->
   wpAny (model X.prog X.w) X.A (comprehension e scope X.env cpos newAcc false (eval iter X.env) (some (assign (.Name x px) X.env))) (fun _ s'=>SP X pins D .next s') X.xe s:=by
 intro pins s σ H D I h
 obtain⟨cl,hclos,h1,h2⟩:=qDk (scope:=scope) (env:=X.env) fun x hx hf=>I.ok.has x.1 (S.free x hx hf)
 refine wpAny_comprehension_free (use:=some (assign (.Name x px) X.env)) hcl hs hclos S.kind S.names (thn (hi pins s σ H _ I h) fun v s1 q1=>thn q1 fun itv s2 q2 => ?_)
 refine qIk (R:=fun acc C=>compPost (model X.prog X.w) X.A X.xe (some (assign (.Name x px) X.env)) (fun _ s'=>SP X pins D .next s') acc C) hc S h1 h2 hacc (hC cl) (hg cl) (ht cl) (hb cl) q2 (fun l C s' H' I' fC hm q => ?_) (fun acc C f s' z=>z)
 obtain⟨m,hm⟩:=hm
 show wpAny (model X.prog X.w) X.A (assign (.Name x px) X.env (.ref l)) _ X.xe s'
 refine wpAny_assign_Name (qF7 (v :=.ref l) I' hN hix hx rfl (fun s'' I'' hq_ => ?_) hf)
 obtain⟨a,sa,ha⟩:=hq_
 have hCa:C≠a:=by
  rcases ha with z | z
  ·rw [z];exact fC.2.1
  ·exact Ne.symm (fC.2.2.2.2.1 x a z)
 refine⟨m,hm.sameBut sa hCa,fun h' sb=>⟨_,H',I''.turned (t':=s''.toks) (fun b o hb e=>(sb.2 b hb).trans e) fC.1 fC.2.1 fC.2.2.2.1 fC.2.2.2.2.1 fC.2.2.2.2.2,q⟩⟩
end
def eApp (te:TE) (l:Addr):TB:=fun σ H Q=>te σ H fun v H1 => ∃vs,H1 l=some (.lst vs)/\vs.length<sizeLine/\Q σ (upd H1 l (.lst (vs ++ [v])))
def qEo (elt:Expr) (acc:Value) (env:Env):Sem Unit:=do let _ <-call (.builtin "list.append") [acc,<-eval elt env]
theorem qH9 {X:Cx} {elt:Expr} {te:TE} {l:Addr} (he:PE X elt te):PB X (qEo elt (.ref l) X.env) (eApp te l):=by
 intro pins s σ H Q I h
 refine wpAny_bind (thn (he pins s σ H _ I h) fun v s1 hq_ => ?_)
 obtain⟨x,H1,I1,r1,vs,e,hz,q⟩:=hq_
 refine wpAny_bind (thn (qBh pins s1 σ H1 (.ref l) [x] (.ref l) [v] (fun _ H2=>Q σ H2) I1 rfl (.cons r1 .nil) ⟨l,vs,x,rfl,rfl,e,hz,q⟩) fun u s2 hq_ => ?_)
 obtain⟨z,H2,I2,_,q2⟩:=hq_
 exact wpAny_pure ⟨σ,H2,I2,q2⟩
theorem qCv {X:Cx} {elt tg iter:Expr} {ifs:List Expr} {scope:Scope} {pos:Pos} {acc:Value}:ClauseAt X (.ListComp elt [⟨tg,iter,ifs,0⟩] scope pos) 0 acc tg iter ifs (qEo elt acc X.env) where
 quiet:=fun _=>rfl
 under:=fun _=>rfl
 den:=fun _=>rfl
 turn:=fun _=>rfl
 start:=fun it R s h0 h=>codeAny_compStart_list h0 (wpAny_mono h (fun _ _ z=>z) fun _ _ z=>z.elim)
theorem Inv.turnLaid {X:Cx} {pins:List (Addr×Obj)} {σ : St} {H:Hp} {s:Shared} {h':Heap} {t':Nat} {ch:List Addr} {p:Addr} {o:HO} (I:Inv X pins σ H s) (k : ∀b u,b∉ch->s.heap.get? b=some u->h'.get? b=some u)
  (hth : ∀b∈ch,∃u,h'.get? b=some u) (hf : ∀b∈ch,FpOk X pins H b) (hp:s.heap.objs.size<=p) (new:ObjOk X.prog X.w (upd H p o) h' p o):Inv X pins σ (upd H p o) { s with heap:=h',toks:=t' }:=by
 have hn:H p=none:=I.hok.fresh hp
 have nch : ∀b u,H b=some u->b∉ch:=fun b u e hb=>by rw [(hf b hb).1] at e;cases e
 refine I.step (g':=s.gens) (d':=s.drawn) (ch:=ch) (fun b hb => ?_) (fun b u _ _ hc e _=>k b u hc e) (fun b u _ _ hc e _=>⟨u.slots,k b u hc e⟩) (fun b u _ e n => ?_)
  (fun b u hc e=>⟨u,k b u hc e⟩) (fun b xs e => ?_) (fun b ob xs e => ?_) (fun b ps e => ?_) (fun m hm => ?_) (fun b u e => ?_) I.bare
 ·obtain⟨_,a1,_,a3,a4,a5⟩:=hf b hb
  exact⟨a3,a1,a4,a5⟩
 ·rw [qA6 (Nat.ne_of_lt (Nat.lt_of_lt_of_le (Heap.lt_size e) hp))];exact n
 ·rw [qA6 (qA5 e hn)];exact e
 ·rw [qA6 (qA5 e hn)];exact e
 ·exact⟨#[],by rw [qA6 (qA5 e hn),e];simp⟩
 ·obtain⟨ob,es,ep,ho,r⟩:=hm
  exact⟨ob,es,ep,k _ ob (fun hb=>(hf _ hb).2.1 rfl) ho,r⟩
 ·by_cases hb:b=p
  ·subst hb;rw [qA1] at e;cases e;exact new
  ·rw [qA6 hb] at e
   refine (I.hok b u e).stay (fun c v hc q=>k c v ?_ q) (fun c q=>by rw [qA6 (qA5 q hn)];exact q) fun c xs q=>by rw [qA6 (qA5 q hn)];exact q
   rcases hc with z | z
   ·rw [z];exact nch b u e
   ·exact nch c _ z
def Ite (K:PySem.W.Frag) (a:Addr):It :=
 ⟨fun i H => ∃xs x,SqL K H a xs/\xs[i]? = some x,fun i H x H' => ∃p y,x = .ref p/\H p=none/\(∀ys,SqL K H a ys->ys[i]? = some y)/\H'=upd H p (.tup [.int (i:Int),y]),fun i H => ∃xs,SqL K H a xs/\xs.length<=i⟩
theorem qLo {P:Program} {w:World} {K:PySem.W.Frag} {elts:List Expr} {k:Nat} {pos:Pos} (a e it:Addr) (hne:e≠it) :
  Turn P w K (.Tuple elts k pos) (Ite K a) [e,it] e (fun i h=>(∃old,IsEnum h e it (i:Nat) old)/\h.IsListIter it a i) where
 mem:=by simp
 obj:=fun i h st b hb=>by
  obtain⟨⟨old,he⟩,⟨o,h1,h2,h3⟩⟩:=st
  rcases List.mem_cons.mp hb with z | z
  ·subst z
   exact⟨_,he,fun v z=>by
    have z':Data.fields _=Data.cell v:=z
    cases z'⟩
  ·have z:b=it:=by simpa using z
   subst z
   exact⟨o,h1,fun v z=>by rw [h3] at z;cases z⟩
 keep:=fun i h h' st kk=>by
  obtain⟨⟨old,he⟩,hi⟩:=st
  exact⟨⟨old,kk e (by simp) _ he⟩,hi.at fun o q=>kk it (by simp) o q⟩
 item:=by
  intro X hP hw hK hc i pins s σ H E I hf st hg
  subst hP hw hK
  obtain⟨xs,x,hq,hx⟩:=hg
  obtain⟨⟨old,he⟩,hi⟩:=st
  obtain⟨its,rv,p,hz⟩:=I.list hq
  obtain⟨u,hu,ru⟩:=rv.get hx
  refine wpAny_pyNext_enum_item he hi p.isList (x:=u) (by simpa using hu) hne fun h1 heo hi1 ht hsz hk => ?_
  refine⟨_,rfl,wpAny_letOwnedTupleGo_enum heo fun h2 he2 hs2 => ?_⟩
  have helt:e<s.heap.objs.size:=Heap.lt_size he
  have hs2':Heap.SameBut e h1 h2:=hs2
  have I1:Inv X pins σ (upd H s.heap.objs.size (.tup [.int (i:Int),x])) { s with heap:=h2,toks:=s.toks+1 }:=by
   refine I.turnLaid (ch :=[e,it]) (fun b o hb q => ?_) (fun b hb => ?_) hf (Nat.le_refl _) ?_
   ·have h1':b≠e:=fun z=>hb (by simp [z])
    have h2':b≠it:=fun z=>hb (by simp [z])
    exact (hs2'.2 b h1').trans (hk b o h1' h2' q)
   ·rcases List.mem_cons.mp hb with z | z
    ·subst z;exact⟨_,he2⟩
    ·have z:b=it:=by simpa using z
     subst z
     obtain⟨o,q,_⟩:=hi1
     exact⟨o,(hs2'.2 _ (Ne.symm hne)).trans q⟩
   ·refine⟨by show 2<=sizeLine;decide,[.int (i:Int) s.toks,u],.cons ⟨_,rfl⟩ (.cons ru .nil),⟨_,(hs2'.2 _ (Nat.ne_of_gt helt)).trans ht,rfl,_,rfl⟩⟩
  refine⟨.ref s.heap.objs.size,_,I1,rfl,⟨s.heap.objs.size,x,rfl,I.fresh,fun ys hy=>by rw [I.list_inj hy hq];exact hx,rfl⟩,⟨⟨_,by
   have:((i+1:Nat):Int)=(i:Int)+1:=by omega
   rw [this];exact he2⟩,hi1.extBut hs2'.extBut (Ne.symm hne)⟩,fun b hb => ?_⟩
  have hlt:b<s.heap.objs.size:=by
   rcases List.mem_cons.mp hb with z | z
   ·rw [z];exact helt
   ·have z:b=it:=by simpa using z
    rw [z];obtain⟨o,q,_⟩:=hi;exact Heap.lt_size q
  rw [qA6 (Nat.ne_of_lt hlt)];exact (hf b hb).1
 done:=by
  intro X hP hw hK hc i pins s σ H E I hf st hg
  subst hP hw hK
  obtain⟨xs,hq,hx⟩:=hg
  obtain⟨⟨old,he⟩,hi⟩:=st
  obtain⟨its,rv,p,hz⟩:=I.list hq
  obtain⟨f0,f1,f2,f3,f4,f5⟩:=hf it (by simp)
  have hl:=rv.length
  exact wpAny_pyNext_enum_end (I.ok.hd hc) he hi p.isList (by simp;omega) fun h' eb=>⟨rfl,I.turned (t':=s.toks) (fun b o hb q=>eb b o hb q) f0 f1 f3 f4 f5⟩
 self:=fun _ _ _ _ _ st h=>by
  obtain⟨⟨old,he⟩,_⟩:=st
  exact wpAny_pyIter_enum he h
section
variable {X:Cx} {elts:List Expr} {k:Nat} {tpos:Pos}
def iEnum (K:PySem.W.Frag) (ta:TA):TI:=fun σ H R=>ta σ H fun vs H1 => ∃a,vs = [.ref a]/\(∃xs,SqL K H1 a xs)/\R (Ite K a) H1
theorem qH6 {a:Expr} {ta:TA} {p pos:Pos} (hg:Gl X "enumerate") (hm:X.mg "enumerate" = none) (ha:PA X [a] ta) (hs:starEach [a] X.env = [(false,eval a X.env)]:=by rfl):PI X (.Tuple elts k tpos) (.Call (.Name "enumerate" p) [a] [] pos) (iEnum X.K ta):=by
 intro pins s σ H R I h
 refine Call_ (qIc I hg hm boot_enumerate (PyProof.Rows.callWith_type1 (thn (ha pos pins s σ H _ I h) fun us s1 hq_ => ?_) hs rfl))
 obtain⟨vs,H1,I1,r1,q1⟩:=hq_
 obtain⟨l,e,⟨xs,hq⟩,q⟩:=q1
 subst e
 obtain⟨u,rfl,ru⟩:=vals1 r1
 cases ru
 obtain⟨its,rv,pl,hz⟩:=I1.list hq
 refine call_enumerate_list pl.isList fun h' he hi hsz hk => ?_
 refine wpAny_pyIter_enum he ?_
 have I2:Inv X pins σ H1 { s1 with heap:=h' }:=I1.kept (t':=s1.toks) hk
 refine⟨s1.heap.objs.size+1,[s1.heap.objs.size+1,s1.heap.objs.size],_,_,H1,rfl,I2,qLo l (s1.heap.objs.size+1) s1.heap.objs.size (Nat.ne_of_gt (Nat.lt_succ_self _)),⟨⟨_,he⟩,hi⟩,fun b hb => ?_,q⟩
 have hge:s1.heap.objs.size<=b:=by
  rcases List.mem_cons.mp hb with z | z
  ·rw [z];exact Nat.le_succ _
  ·have z:b=s1.heap.objs.size:=by simpa using z
   rw [z];exact Nat.le_refl _
 exact I1.fpOk hge (I1.hok.fresh hge)
end
section
variable {X:Cx} {elt tg iter tg2 iter2:Expr} {ifs ifs2:List Expr} {scope:Scope} {own:List Str} {cap:List Nat} {wi wi2:TI} {g g2:TG} {tts tts2:List TT} {te:TE} {pos:Pos}
theorem qEv (own:List Str) (cap:List Nat) (hc:X.calm=true) (S:CompScope X own cap scope) (hi:PI X tg iter wi) (hg : ∀cl s H ex,PG (qAw X own cap scope cl s H ex) tg g)
  (ht : ∀cl s H ex,PTs (qAw X own cap scope cl s H ex) ifs tts) (he : ∀cl s H ex,PE (qAw X own cap scope cl s H ex) elt te) (hs : ∀x,foldedSetIterable iter X.env x=pure x:=by intro _;rfl) :
  PE X (.ListComp elt [⟨tg,iter,ifs,0⟩] scope pos) (tComp own cap (.lst []) wi g tts (eApp te)):=by
 intro pins s σ H Q I h
 exact qQ4 (behOf:=qEo elt) hc S rfl hi qF1 (fun _ _ _ _ _=>qCv) hg ht (fun cl s H ex l=>qH9 (he cl s H ex)) hs pins s σ H Q I h
theorem qOp {i:Nat} {x:Str} {px spos:Pos} (own:List Str) (cap:List Nat) (hc:X.calm=true) (S:CompScope X own cap scope) (hN:X.N.Nodup) (hix:X.N[i]? = some x) (hx:Loc X.env.scope x)
  (hi:PI X tg iter wi) (hg : ∀cl s H ex,PG (qAw X own cap scope cl s H ex) tg g)
  (ht : ∀cl s H ex,PTs (qAw X own cap scope cl s H ex) ifs tts) (he : ∀cl s H ex,PE (qAw X own cap scope cl s H ex) elt te)
  (hsw:swapsWith (.ListComp elt [⟨tg,iter,ifs,0⟩] scope pos) (some (.Name x px)) spos.line X.env=pure true:=by rfl) (hs : ∀x,foldedSetIterable iter X.env x=pure x:=by intro _;rfl)
  (hf:X.fn x=true\/X.env.scope.names.lookup x=some .local:=by first | exact .inl rfl | exact .inr rfl | assumption) :
  PS X (.Assign [.Name x px] (.ListComp elt [⟨tg,iter,ifs,0⟩] scope pos) spos) (tAsg (tComp own cap (.lst []) wi g tts (eApp te)) (gName i)):=by
 intro pins s σ H D I h
 rw [exec_Assign_Name_used _ _ _ _ hsw]
 refine wpAny_bind (wpAny_standAt (wpAny_bind ?_))
 show wpAny _ X.A (do let _ <-comprehension (.ListComp elt [⟨tg,iter,ifs,0⟩] scope pos) scope X.env _ (newList []) false (eval iter X.env) (some (assign (.Name x px) X.env))) _ _ s
 refine wpAny_bind (thn (qQ5 (behOf:=qEo elt) hc S rfl hi qF1 (fun _ _ _ _ _=>qCv) hg ht (fun cl s H ex l=>qH9 (he cl s H ex)) hs hN hix hx hf pins s σ H D I h) fun _ s' hq => ?_)
 exact wpAny_pure (wpAny_pure hq)
end
end L2
namespace Srt
open PySem PySem.W PyProof.Rows
def run {α : Type} (lt:Nat->Nat->Bool):KasT α -> α
 | .ret a=>a
 | .ask i j k=>run lt (k (lt i j))
theorem qDc {α β : Type} (lt:Nat->Nat->Bool) (f : α -> KasT β) : ∀t:KasT α,run lt (t.bind f)=run lt (f (run lt t))
 | .ret _=>rfl
 | .ask i j k=>qDc lt f (k (lt i j))
section
variable (lt:Nat->Nat->Bool)
structure Ord:Prop where
 asym : ∀a b,lt a b=true->lt b a=false
 trans : ∀a b c,lt b a=false->lt c b=false->lt c a=false
abbrev at' (p:Array Nat) (i:Nat):Nat:=p.getD i 0
def Up (p:Array Nat) (k:Nat):Prop := ∀i j,i<=j->j<k->lt (at' p j) (at' p i)=false
def Dn (p:Array Nat) (k:Nat):Prop := ∀i j,i<=j->j<k->lt (at' p i) (at' p j)=false
def Eqs (p:Array Nat) (a b:Nat):Prop := ∀i j,a<=i->i<b->a<=j->j<b->lt (at' p i) (at' p j)=false
end
variable {lt:Nat->Nat->Bool}
theorem Ord.irr (O:Ord lt) (a:Nat):lt a a=false:=by
 cases h:lt a a with
 | false=>rfl
 | true=>rw [<-h];exact (O.asym a a h)
theorem qNu {p q:Array Nat} {i j:Nat} (h:p[i]? = q[j]?):at' p i=at' q j:=by
 unfold at'
 rw [Array.getD_eq_getD_getElem?,Array.getD_eq_getD_getElem?,h]
theorem qEs {p:Array Nat} {i j:Nat} (hj:j<=p.size) (k:Nat):at' (kas_rev p i j) k=if i<=k/\k<j then at' p (i+j - 1 - k) else at' p k:=by
 have h:=getElem?_mirror_all (i:=i) hj k
 by_cases c:i<=k/\k<j
 ·rw [if_pos c] at h ⊢;exact qNu h
 ·rw [if_neg c] at h ⊢;exact qNu h
theorem qR8 {p:Array Nat} {k l:Nat} (hk:k<p.size) (hl:l<=k) (i:Nat):at' (bubble p k (k - l)) i=if i=l then at' p k else if l<i/\i<=k then at' p (i - 1) else at' p i:=by
 have h:=getElem?_bubble hk (k - l) (by omega) i
 have e:k - (k - l)=l:=by omega
 rw [e] at h
 by_cases c:i=l
 ·rw [if_pos c] at h ⊢;exact qNu h
 ·rw [if_neg c] at h ⊢
  by_cases d:l<i/\i<=k
  ·rw [if_pos d] at h ⊢;exact qNu h
  ·rw [if_neg d] at h ⊢;exact qNu h
theorem Up.snoc (O:Ord lt) {p:Array Nat} {n:Nat} (h1:1<=n) (u:Up lt p n) (h:lt (at' p n) (at' p (n - 1))=false):Up lt p (n+1):=by
 intro i j hij hj
 by_cases e:j=n
 ·subst e
  by_cases e2:i=j
  ·subst e2;exact O.irr _
  ·exact O.trans _ (at' p (j - 1)) _ (u i (j - 1) (by omega) (by omega)) h
 ·exact u i j hij (by omega)
theorem Dn.snoc (O:Ord lt) {p:Array Nat} {n:Nat} (h1:1<=n) (u:Dn lt p n) (h:lt (at' p (n - 1)) (at' p n)=false):Dn lt p (n+1):=by
 intro i j hij hj
 by_cases e:j=n
 ·subst e
  by_cases e2:i=j
  ·subst e2;exact O.irr _
  ·exact O.trans _ (at' p (j - 1)) _ h (u i (j - 1) (by omega) (by omega))
 ·exact u i j hij (by omega)
theorem qNw (O:Ord lt) (p:Array Nat) : ∀(f n:Nat),1<=n->Up lt p n->n<=run lt (kas_asc p f n)/\run lt (kas_asc p f n)<=n+f/\Up lt p (run lt (kas_asc p f n)) /\
  (run lt (kas_asc p f n)<n+f->lt (at' p (run lt (kas_asc p f n))) (at' p (run lt (kas_asc p f n) - 1))=true)
 | 0,n,h1,u=>⟨Nat.le_refl _,Nat.le_refl _,u,fun h=>absurd h (Nat.lt_irrefl _)⟩
 | f+1,n,h1,u=>by
  have e0:run lt (kas_asc p (f+1) n)=if lt (at' p n) (at' p (n - 1))=true then n else run lt (kas_asc p f (n+1)):=by
   show run lt (if lt (at' p n) (at' p (n - 1))=true then KasT.ret n else kas_asc p f (n+1))=_
   cases lt (at' p n) (at' p (n - 1)) <;> rfl
  rw [e0]
  cases c:lt (at' p n) (at' p (n - 1)) with
  | true =>
   simp only [if_true]
   exact⟨Nat.le_refl _,by omega,u,fun _=>c⟩
  | false =>
   simp only [Bool.false_eq_true,if_false]
   obtain⟨a,b,d,e⟩:=qNw O p f (n+1) (by omega) (u.snoc O h1 c)
   exact⟨by omega,by omega,d,fun h=>e (by omega)⟩
theorem qC0 (p:Array Nat) (i j:Nat):(kas_rev p i j).Perm p:=mirror_perm _ _ _ _
theorem qCr (p:Array Nat) (i j:Nat):(kas_rev p i j).size=p.size:=mirror_size _ _ _ _
theorem Dn.revEq (O:Ord lt) {p:Array Nat} {a n:Nat} (hn:n<=p.size) (ha:a<=n) (u:Dn lt p n) (e:Eqs lt p a n):Dn lt (kas_rev p a n) n:=by
 intro i j hij hj
 rw [qEs hn,qEs hn]
 by_cases ci:a<=i/\i<n
 ·by_cases cj:a<=j/\j<n
  ·rw [if_pos ci,if_pos cj];exact e _ _ (by omega) (by omega) (by omega) (by omega)
  ·omega
 ·by_cases cj:a<=j/\j<n
  ·rw [if_neg ci,if_pos cj];exact u _ _ (by omega) (by omega)
  ·rw [if_neg ci,if_neg cj];exact u _ _ hij hj
theorem qHg (O:Ord lt) : ∀(f:Nat) (p:Array Nat) (n q:Nat),q+1<=n->n+f<=p.size->Dn lt p n->Eqs lt p (n - (q+1)) n ->
  ∃p' n' q',run lt (kas_desc f p n q)=(p',n',q')/\p'.Perm p/\p'.size=p.size/\n<=n'/\n'<=n+f/\q'+1<=n'/\Dn lt p' n'/\Eqs lt p' (n' - (q'+1)) n'
 | 0,p,n,q,h1,h2,u,e=>⟨p,n,q,rfl,Array.Perm.refl _,rfl,Nat.le_refl _,Nat.le_refl _,h1,u,e⟩
 | f+1,p,n,q,h1,h2,u,e=>by
  unfold kas_desc
  show ∃p' n' q',run lt (if lt (at' p n) (at' p (n - 1))=true then _ else _)=_/\_
  cases c:lt (at' p n) (at' p (n - 1)) with
  | true =>
   simp only [if_true]
   by_cases hq:q>0
   ·rw [if_pos hq]
    have u1:Dn lt (kas_rev p (n - (q+1)) n) n:=u.revEq O (by omega) (by omega) e
    have ez:at' (kas_rev p (n - (q+1)) n) n=at' p n:=by rw [qEs (by omega),if_neg (by omega)]
    have ey:at' (kas_rev p (n - (q+1)) n) (n - 1)=at' p (n - (q+1)):=by
     rw [qEs (by omega),if_pos (by omega)];congr 1;omega
    have u2:Dn lt (kas_rev p (n - (q+1)) n) (n+1):=u1.snoc O (by omega) (by
     rw [ez,ey]
     exact O.trans _ (at' p (n - 1)) _ (O.asym _ _ c) (e _ _ (by omega) (by omega) (by omega) (by omega)))
    obtain⟨p',n',q',r,a1,a2,a3,a4,a5,a6,a7⟩:=qHg O f (kas_rev p (n - (q+1)) n) (n+1) 0 (by omega) (by rw [qCr];omega) u2 (fun i j _ _ _ _=>by
     have:i=j:=by omega
     subst this;exact O.irr _)
    exact⟨p',n',q',r,a1.trans (qC0 _ _ _),a2.trans (qCr _ _ _),by omega,by omega,a5,a6,a7⟩
   ·rw [if_neg hq]
    obtain⟨p',n',q',r,a1,a2,a3,a4,a5,a6,a7⟩:=qHg O f p (n+1) 0 (by omega) (by omega) (u.snoc O (by omega) (O.asym _ _ c)) (fun i j _ _ _ _=>by
     have:i=j:=by omega
     subst this;exact O.irr _)
    exact⟨p',n',q',r,a1,a2,by omega,by omega,a5,a6,a7⟩
  | false =>
   simp only [Bool.false_eq_true,if_false]
   show ∃p' n' q',run lt (if lt (at' p (n - 1)) (at' p n)=true then _ else _)=_/\_
   cases d:lt (at' p (n - 1)) (at' p n) with
   | true =>
    simp only [if_true]
    exact⟨p,n,q,rfl,Array.Perm.refl _,rfl,Nat.le_refl _,by omega,h1,u,e⟩
   | false =>
    simp only [Bool.false_eq_true,if_false]
    obtain⟨p',n',q',r,a1,a2,a3,a4,a5,a6,a7⟩:=qHg O f p (n+1) (q+1) (by omega) (by omega) (u.snoc O (by omega) d) (fun i j hi hi2 hj hj2=>by
     have key : ∀k,n+1 - (q+1+1)<=k->k<n+1->lt (at' p k) (at' p (n - 1))=false/\lt (at' p (n - 1)) (at' p k)=false:=by
      intro k k1 k2
      by_cases ek:k=n
      ·subst ek;exact⟨c,d⟩
      ·exact⟨e _ _ (by omega) (by omega) (by omega) (by omega),e _ _ (by omega) (by omega) (by omega) (by omega)⟩
     exact O.trans _ (at' p (n - 1)) _ (key j hj hj2).2 (key i hi hi2).1)
    exact⟨p',n',q',r,a1,a2,by omega,by omega,a5,a6,a7⟩
theorem Dn.rev {p:Array Nat} {n:Nat} (hn:n<=p.size) (u:Dn lt p n):Up lt (kas_rev p 0 n) n:=by
 intro i j hij hj
 rw [qEs hn,qEs hn,if_pos (by omega),if_pos (by omega)]
 exact u _ _ (by omega) (by omega)
theorem qJs (O:Ord lt) {p:Array Nat} {n nrem:Nat} (h1:1<=n) (hn:n<=nrem) (hz:nrem<=p.size) (u:Dn lt p n) :
  ∃m p',run lt (kas_tail3 n nrem p)=(m,p')/\p'.Perm p/\p'.size=p.size/\1<=m/\m<=nrem/\Up lt p' m:=by
 obtain⟨a,b,d,_⟩:=qNw O (kas_rev p 0 n) (nrem - n) n h1 (u.rev (by omega))
 refine⟨_,_,qDc lt _ _,qC0 _ _ _,qCr _ _ _,by omega,by omega,d⟩
theorem qFv (O:Ord lt) {p:Array Nat} {n nrem:Nat} (h1:1<=n) (hn:n+1<=nrem) (hz:nrem<=p.size) (u:Dn lt p (n+1)) :
  ∃m p',run lt (kas_descPart n nrem p)=(m,p')/\p'.Perm p/\p'.size=p.size/\1<=m/\m<=nrem/\Up lt p' m:=by
 obtain⟨p',n',q',r,a1,a2,a3,a4,a5,a6,a7⟩:=qHg O (nrem - (n+1)) p (n+1) 0 (by omega) (by omega) u (fun i j _ _ _ _=>by
  have:i=j:=by omega
  subst this;exact O.irr _)
 unfold kas_descPart
 rw [qDc,r]
 dsimp only
 by_cases hq:q'>0
 ·rw [if_pos hq]
  obtain⟨m,p2,e,b1,b2,b3,b4,b5⟩:=qJs O (p:=kas_rev p' (n' - (q'+1)) n') (n:=n') (nrem:=nrem) (by omega) (by omega) (by rw [qCr];omega) (a6.revEq O (by omega) (by omega) a7)
  exact⟨m,p2,e,(b1.trans (qC0 _ _ _)).trans a1,by rw [b2,qCr];omega,b3,b4,b5⟩
 ·rw [if_neg hq]
  obtain⟨m,p2,e,b1,b2,b3,b4,b5⟩:=qJs O (p:=p') (n:=n') (nrem:=nrem) (by omega) (by omega) (by omega) a6
  exact⟨m,p2,e,b1.trans a1,by rw [b2];omega,b3,b4,b5⟩
theorem qQ3 (O:Ord lt) {p:Array Nat} {nrem:Nat} (h1:1<=nrem) (hz:nrem<=p.size) :
  ∃m p',run lt (kas_count nrem p)=(m,p')/\p'.Perm p/\p'.size=p.size/\1<=m/\m<=nrem/\Up lt p' m:=by
 obtain⟨a,b,d,e⟩:=qNw O p (nrem - 1) 1 (by omega) (fun i j hij hj=>by
  have:i=j:=by omega
  subst this;exact O.irr _)
 unfold kas_count
 rw [qDc]
 generalize hn:run lt (kas_asc p (nrem - 1) 1)=n at a b d e
 by_cases c:n=nrem
 ·rw [if_pos (by simp [c])]
  exact⟨n,p,rfl,Array.Perm.refl _,rfl,a,by omega,d⟩
 ·rw [if_neg (by simp [c])]
  have hlt:=e (by omega)
  by_cases c2:n>1
  ·rw [if_pos c2]
   show ∃m p',run lt (if lt (at' p 0) (at' p (n - 1))=true then _ else _)=_/\_
   cases f:lt (at' p 0) (at' p (n - 1)) with
   | true =>
    simp only [if_true]
    exact⟨n,p,rfl,Array.Perm.refl _,rfl,a,by omega,d⟩
   | false =>
    simp only [Bool.false_eq_true,if_false]
    have all : ∀i j,i<n->j<n->lt (at' p i) (at' p j)=false:=by
     intro i j hi hj
     have x1:lt (at' p (n - 1)) (at' p j)=false:=d j (n - 1) (by omega) (by omega)
     have x2:lt (at' p i) (at' p 0)=false:=d 0 i (by omega) hi
     exact O.trans _ (at' p 0) _ (O.trans _ (at' p (n - 1)) _ x1 f) x2
    have u:Dn lt (kas_rev p 0 n) (n+1):=by
     intro i j hij hj
     rw [qEs (by omega),qEs (by omega)]
     by_cases ej:j=n
     ·subst ej
      rw [if_neg (show ¬(0<=j/\j<j) by omega)]
      by_cases ei:i=j
      ·subst ei;rw [if_neg (by omega)];exact O.irr _
      ·rw [if_pos (by omega)]
       exact O.trans _ (at' p (j - 1)) _ (O.asym _ _ hlt) (all _ _ (by omega) (by omega))
     ·rw [if_pos (by omega),if_pos (by omega)]
      exact all _ _ (by omega) (by omega)
    obtain⟨m,p2,e2,b1,b2,b3,b4,b5⟩:=qFv O (p:=kas_rev p 0 n) (n:=n) (nrem:=nrem) a (by omega) (by rw [qCr];omega) u
    exact⟨m,p2,e2,b1.trans (qC0 _ _ _),by rw [b2,qCr],b3,b4,b5⟩
  ·rw [if_neg c2]
   have en:n=1:=by omega
   subst en
   have u:Dn lt p (1+1):=by
    intro i j hij hj
    by_cases ei:i=j
    ·subst ei;exact O.irr _
    ·have e1:i=0:=by omega
     have e2:j=1:=by omega
     subst e1;subst e2
     exact O.asym _ _ hlt
   exact qFv O (by omega) (by omega) hz u
theorem qH5 (O:Ord lt) {p:Array Nat} {k:Nat} (u:Up lt p k) : ∀(f l r:Nat),l<=r->r<=k->r - l<=f->(∀i,i<l->lt (at' p k) (at' p i)=false)->(∀i,r<=i->i<k->lt (at' p k) (at' p i)=true) ->
  ∃m,run lt (kas_place p k f l r)=m/\m<=k/\(∀i,i<m->lt (at' p k) (at' p i)=false) /\ ∀i,m<=i->i<k->lt (at' p k) (at' p i)=true
 | 0,l,r,h1,h2,h3,a,b=>⟨l,rfl,by omega,a,fun i hi=>b i (by omega)⟩
 | f+1,l,r,h1,h2,h3,a,b=>by
  unfold kas_place
  by_cases c:l>=r
  ·rw [if_pos c]
   exact⟨l,rfl,by omega,a,fun i hi=>b i (by omega)⟩
  ·rw [if_neg c]
   show ∃m,run lt (if lt (at' p k) (at' p ((l+r) / 2))=true then _ else _)=m/\_
   cases d:lt (at' p k) (at' p ((l+r) / 2)) with
   | true =>
    simp only [if_true]
    refine qH5 O u f l ((l+r) / 2) (by omega) (by omega) (by omega) a fun i hi hk => ?_
    by_cases hr:r<=i
    ·exact b i hr hk
    ·cases z:lt (at' p k) (at' p i) with
     | true=>rfl
     | false =>
      have x:=u ((l+r) / 2) i hi hk
      have:=O.trans _ _ _ x z
      rw [d] at this;cases this
   | false =>
    simp only [Bool.false_eq_true,if_false]
    refine qH5 O u f ((l+r) / 2+1) r (by omega) (by omega) (by omega) (fun i hi => ?_) b
    by_cases hl:i<l
    ·exact a i hl
    ·exact O.trans _ _ _ (u i ((l+r) / 2) (by omega) (by omega)) d
theorem qVl (O:Ord lt) {p:Array Nat} {k l:Nat} (hk:k<p.size) (hl:l<=k) (u:Up lt p k) (a : ∀i,i<l->lt (at' p k) (at' p i)=false) (b : ∀i,l<=i->i<k->lt (at' p k) (at' p i)=true):Up lt (bubble p k (k - l)) (k+1):=by
 intro i j hij hj
 rw [qR8 hk hl,qR8 hk hl]
 by_cases ei:i=l
 ·rw [if_pos ei]
  by_cases ej:j=l
  ·rw [if_pos ej];exact O.irr _
  ·rw [if_neg ej,if_pos (by omega)]
   exact O.asym _ _ (b _ (by omega) (by omega))
 ·rw [if_neg ei]
  by_cases ej:j=l
  ·rw [if_pos ej,if_neg (by omega)];exact a i (by omega)
  ·rw [if_neg ej]
   by_cases ci:l<i/\i<=k
   ·rw [if_pos ci,if_pos (by omega)];exact u _ _ (by omega) (by omega)
   ·rw [if_neg ci]
    by_cases cj:l<j/\j<=k
    ·rw [if_pos cj];exact u _ _ (by omega) (by omega)
    ·rw [if_neg cj];exact u _ _ hij (by omega)
theorem qR7 (O:Ord lt) : ∀(f:Nat) (p:Array Nat) (k:Nat),k+f=p.size->Up lt p k -> ∃p',run lt (kas_bin f p k)=p'/\p'.Perm p/\p'.size=p.size/\Up lt p' p.size
 | 0,p,k,h,u=>⟨p,rfl,Array.Perm.refl _,rfl,by rw [<-h];exact u⟩
 | f+1,p,k,h,u=>by
  unfold kas_bin
  rw [qDc]
  obtain⟨m,e,h1,a,b⟩:=qH5 O u k 0 k (by omega) (by omega) (by omega) (fun i hi=>absurd hi (by omega)) (fun i hi hk=>absurd hk (by omega))
  rw [e]
  obtain⟨p',e',b1,b2,b3⟩:=qR7 O f (bubble p k (k - m)) (k+1) (by rw [bubble_size];omega) (qVl O (by omega) h1 u a b)
  exact⟨p',e',b1.trans (bubble_perm _ _ _),by rw [b2,bubble_size],by rw [bubble_size] at b3;exact b3⟩
theorem sort_ok (O:Ord lt) {n:Nat} (h1:1<=n) : ∃p,run lt (kas_sort n)=p/\p.Perm (List.toArray (List.range n))/\p.size=n/\Up lt p n:=by
 obtain⟨m,p,e,a1,a2,a3,a4,a5⟩:=qQ3 O (p:=List.toArray (List.range n)) (nrem:=n) h1 (by simp)
 have hz:p.size=n:=by rw [a2];simp
 unfold kas_sort
 rw [qDc,e]
 dsimp only
 by_cases c:m<n
 ·rw [if_pos c]
  have em:max m 1=m:=by omega
  rw [em]
  obtain⟨p',e',b1,b2,b3⟩:=qR7 O (n - m) p m (by omega) a5
  exact⟨p',e',b1.trans a1,by omega,by rw [hz] at b3;exact b3⟩
 ·rw [if_neg c]
  have:m=n:=by omega
  subst this
  exact⟨p,rfl,a1,hz,a5⟩
def Asks {α : Type} (n:Nat):KasT α -> Prop
 | .ret _=>True
 | .ask i j k=>i<n/\j<n /\ ∀b,Asks n (k b)
def Ends' {α : Type} (n:Nat) (P : α -> Prop):KasT α -> Prop
 | .ret a=>P a
 | .ask i j k=>i<n/\j<n /\ ∀b,Ends' n P (k b)
theorem qCn {α β : Type} {n:Nat} {P : α -> Prop} {R : β -> Prop} {f : α -> KasT β} (hf : ∀a,P a->Ends' n R (f a)) : ∀ {t:KasT α},Ends' n P t->Ends' n R (t.bind f)
 | .ret a,h=>hf a h
 | .ask _ _ k,⟨h1,h2,h3⟩=>⟨h1,h2,fun b=>qCn hf (h3 b)⟩
def Bd (n:Nat) (p:Array Nat):Prop := ∀i,at' p i<n
theorem Bd.of {n:Nat} {p q:Array Nat} (h0:0<n) (h:q.Perm p) (hb : ∀x∈p,x<n):Bd n q /\ ∀x∈q,x<n:=by
 have hq : ∀x∈q,x<n:=fun x hx=>hb x ((Array.Perm.mem_iff h).mp hx)
 refine⟨fun i => ?_,hq⟩
 unfold at'
 rw [Array.getD_eq_getD_getElem?]
 cases e:q[i]? with
 | none=>exact h0
 | some x=>exact hq x (Array.mem_of_getElem? e)
section
variable {n:Nat} (h0:0<n)
abbrev Ok (n:Nat) (p:Array Nat):Prop:=Bd n p /\ ∀x∈p,x<n
include h0
theorem Ok.perm {p q:Array Nat} (h:Ok n p) (hp:q.Perm p):Ok n q:=Bd.of h0 hp h.2
theorem qHj {p:Array Nat} (hp:Ok n p) : ∀(f k:Nat),Ends' n (fun _=>True) (kas_asc p f k)
 | 0,_=>trivial
 | f+1,k=>⟨hp.1 _,hp.1 _,fun b=>by
  cases b with
  | true=>exact trivial
  | false=>exact qHj hp f (k+1)⟩
theorem qE9 : ∀(f:Nat) (p:Array Nat) (k q:Nat),Ok n p->Ends' n (fun r=>Ok n r.1) (kas_desc f p k q)
 | 0,p,_,_,hp=>hp
 | f+1,p,k,q,hp=>⟨hp.1 _,hp.1 _,fun b=>by
  cases b with
  | true =>
   show Ends' n _ (if q>0 then _ else _)
   by_cases c:q>0
   ·rw [if_pos c];exact qE9 f _ _ _ (hp.perm h0 (qC0 _ _ _))
   ·rw [if_neg c];exact qE9 f _ _ _ hp
  | false =>
   refine⟨hp.1 _,hp.1 _,fun d => ?_⟩
   cases d with
   | true=>exact hp
   | false=>exact qE9 f _ _ _ hp⟩
theorem qG6 {p:Array Nat} (hp:Ok n p) (k m:Nat):Ends' n (fun r=>Ok n r.2) (kas_tail3 k m p):=by
 unfold kas_tail3
 refine qCn (P:=fun _=>True) (fun a _ => ?_) (qHj h0 (hp.perm h0 (qC0 _ _ _)) _ _)
 exact hp.perm h0 (qC0 _ _ _)
theorem qEa {p:Array Nat} (hp:Ok n p) (k m:Nat):Ends' n (fun r=>Ok n r.2) (kas_descPart k m p):=by
 unfold kas_descPart
 exact qCn (P:=fun r=>Ok n r.1) (fun a ha=>by
  by_cases c:a.2.2>0
  ·rw [if_pos c];exact qG6 h0 (ha.perm h0 (qC0 _ _ _)) _ _
  ·rw [if_neg c];exact qG6 h0 ha _ _) (qE9 h0 _ _ _ _ hp)
theorem qLh {p:Array Nat} (hp:Ok n p) (m:Nat):Ends' n (fun r=>Ok n r.2) (kas_count m p):=by
 unfold kas_count
 exact qCn (P:=fun _=>True) (fun a _=>by
  by_cases c:(a == m)=true
  ·rw [if_pos c];exact hp
  ·rw [if_neg c]
   by_cases c2:a>1
   ·rw [if_pos c2]
    refine⟨hp.1 _,hp.1 _,fun b => ?_⟩
    cases b with
    | true=>exact hp
    | false=>exact qEa h0 (hp.perm h0 (qC0 _ _ _)) _ _
   ·rw [if_neg c2];exact qEa h0 hp _ _) (qHj h0 hp _ _)
theorem qEh {p:Array Nat} (hp:Ok n p) (k:Nat) : ∀(f l r:Nat),Ends' n (fun _=>True) (kas_place p k f l r)
 | 0,_,_=>trivial
 | f+1,l,r=>by
  unfold kas_place
  by_cases c:l>=r
  ·rw [if_pos c];exact trivial
  ·rw [if_neg c]
   refine⟨hp.1 _,hp.1 _,fun b => ?_⟩
   cases b with
   | true=>exact qEh hp k f _ _
   | false=>exact qEh hp k f _ _
theorem qKr : ∀(f:Nat) (p:Array Nat) (k:Nat),Ok n p->Ends' n (fun _=>True) (kas_bin f p k)
 | 0,_,_,_=>trivial
 | f+1,p,k,hp=>qCn (P:=fun _=>True) (fun l _=>qKr f _ _ (hp.perm h0 (bubble_perm _ _ _))) (qEh h0 hp k _ _ _)
theorem sort_ends:Ends' n (fun _=>True) (kas_sort n):=by
 have hp:Ok n (List.toArray (List.range n)):=Bd.of h0 (Array.Perm.refl _) (fun x hx=>by simpa using hx)
 refine qCn (P:=fun r=>Ok n r.2) (fun a ha => ?_) (qLh h0 hp n)
 by_cases c:a.1<n
 ·rw [if_pos c];exact qKr h0 _ _ _ ha
 ·rw [if_neg c];exact trivial
end
theorem wp_run_in {α : Type} {n:Nat} {lt:Nat->Nat->Bool} {cmp:Nat->Nat->(Bool->Shared->Prop)->Shared->Prop} {s:Shared} {Q : α -> Shared->Prop} {P : α -> Prop} (h : ∀i j C,i<n->j<n->C (lt i j) s->cmp i j C s) :
  ∀t:KasT α,Ends' n P t->Q (run lt t) s->t.kasWp cmp Q s
 | .ret _,_,q=>q
 | .ask i j k,e,q=>h i j _ e.1 e.2.1 (wp_run_in h (k (lt i j)) (e.2.2 _) q)
end Srt
namespace L2
open PySem PySem.Spec PyProof.Rows
theorem HOk.gone {P:Program} {w:World} {H:Hp} {h:Heap} {D:Addr} (x:HOk P w H h) (hD:h.get? D=none):H D=none:=by
 cases q:H D with
 | none=>rfl
 | some u =>
  have z : ∃ob,h.get? D=some ob:=by
   have:=x D u q
   cases u with
   | lst xs=>obtain⟨_,_,_,_,e⟩:=this;exact⟨_,e⟩
   | tup xs=>obtain⟨_,_,_,ob,e,_⟩:=this;exact⟨_,e⟩
   | dK kvs=>obtain⟨_,_,_,_,o,_,_,e,_⟩:=this;exact⟨_,e⟩
   | dT kvs=>obtain⟨_,_,_,_,o,_,_,e,_⟩:=this;exact⟨_,e⟩
   | set S n=>obtain⟨o,_,_,_,e,_⟩:=this;exact⟨_,e⟩
   | ins C dx fs=>obtain⟨_,_,_,e,_⟩:=this;exact⟨_,e⟩
   | own y=>obtain⟨_,e⟩:=this;exact⟨_,e⟩
   | xd fs=>obtain⟨_,⟨_,_,_,e,_⟩,_⟩:=this;exact⟨_,e⟩
   | rng lo hi=>obtain⟨_,_,_,e⟩:=this;exact⟨_,e⟩
   | frz ob u=>obtain⟨e,_⟩:=this;exact⟨_,e⟩
   | tbl ps=>exact⟨_,this⟩
   | met f y=>exact⟨_,this⟩
   | ext φ =>obtain⟨_,⟨_,e⟩,_⟩:=this;exact⟨_,e⟩
  obtain⟨ob,z⟩:=z
  rw [hD] at z;cases z
theorem Inv.ledgerLaid {X:Cx} {pins:List (Addr×Obj)} {σ : St} {H:Hp} {s:Shared} {h':Heap} {t':Nat} {D:Addr} {o:HO} {m:Str->Option Value} (I:Inv X pins σ H s) (F:Fr X.base X.env.locals s.heap m) (F':Fr X.base X.env.locals h' m)
  (N:News X.base X.env.locals h' (qDy X.base s.heap X.env.locals)) (hD:s.heap.get? D=none) (hDL:D≠X.env.locals) (new:ObjOk X.prog X.w (upd H D o) h' D o):Inv X pins σ (upd H D o) { s with heap:=h',toks:=t' }:=by
 have k : ∀b u,b≠X.env.locals->s.heap.get? b=some u->h'.get? b=some u:=fun b u hb e=>by
  cases q:X.base.get? b with
  | some v =>
   have:=I.bk b v q
   rw [e] at this;cases this
   exact F'.keep b _ q
  | none=>exact (N (b,u) (qDt hb q e)).1
 have hn:H D=none:=I.hok.gone hD
 have neD : ∀b u,s.heap.get? b=some u->b≠D:=fun b u e z=>by rw [z,hD] at e;cases e
 refine I.step (g':=s.gens) (d':=s.drawn) (ch :=[]) (fun _ z=>nomatch z) (fun b u hb _ _ e _=>k b u hb e) (fun b u hb _ _ e _=>⟨u.slots,k b u hb e⟩) (fun b u _ e n=>by rw [qA6 (neD b u e)];exact n)
  (fun b u _ e => ?_) (fun b xs e=>by rw [qA6 (qA5 e hn)];exact e) (fun b ob xs e=>by rw [qA6 (qA5 e hn)];exact e) (fun b ps e=>⟨#[],by rw [qA6 (qA5 e hn),e];simp⟩) (fun m' hm => ?_) (fun b u e => ?_) I.bare
 ·by_cases hb:b=X.env.locals
  ·obtain⟨oL,_,_,hL,_⟩:=F'.ns
   exact⟨oL,by rw [hb];exact hL⟩
  ·exact⟨u,k b u hb e⟩
 ·have:m'=m:=by
   obtain⟨o1,es1,ep1,e1,d1,_,f1⟩:=hm
   obtain⟨o2,es2,ep2,e2,d2,_,f2⟩:=F.ns
   rw [e1] at e2;cases e2
   rw [d1] at d2;cases d2
   funext x;rw [<-f1,<-f2]
  rw [this];exact F'.ns
 ·by_cases hb:b=D
  ·subst hb;rw [qA1] at e;cases e;exact new
  ·rw [qA6 hb] at e
   refine (I.hok b u e).stay (fun c v hc q=>k c v ?_ q) (fun c q=>by rw [qA6 (qA5 q hn)];exact q) fun c xs q=>by rw [qA6 (qA5 q hn)];exact q
   intro z
   rcases hc with y | y
   ·rw [<-y,z,I.free] at e;cases e
   ·rw [z,I.free] at y;cases y
section
variable {X:Cx}
def qUh (K:PySem.W.Frag):List V->Hp->VK->Prop:=fun xs H Q => ∃(a:Addr) (ns:List Int),xs = [.ref a]/\SqL K H a (ns.map V.int)/\ns.length<64 /\ ∀(l:Addr) (ns':List Int),H l=none->ns'.Perm ns->ns'.Pairwise (· <= ·)->Q (.ref l) (upd H l (.lst (ns'.map V.int)))
theorem qLj:CallR X (.builtin "sorted") (qUh X.K):=by
 intro pins s σ H xs us Q I r h
 obtain⟨a,ns,rfl,hq,hz,q⟩:=h
 obtain⟨u,rfl,ru⟩:=vals1 r
 cases ru
 obtain⟨its,rv,pl,_⟩:=I.list hq
 have hl:=rv.length
 rw [List.length_map] at hl
 refine sorted_ints pl.isList (qEk rv) (by omega) fun out ns' a1 a2 a3 => ?_
 obtain⟨e,he⟩:=sortedAll_at s.heap its out
 have hlen:=a2.length_eq
 have hn:H (s.heap.objs.size+1)=none:=I.hok.fresh (Nat.le_succ _)
 have rv':Vals (ns'.map V.int) out.toList:=qHm a1
 refine⟨.ref (s.heap.objs.size+1),_,I.laid (t':=s.toks) (o :=.lst (ns'.map V.int)) (fun b u e=>sortedAll_old e) (Nat.le_succ _) ⟨?_,out.toList,e,rv',by simpa using he⟩,rfl,q _ ns' hn a2 a3⟩
 rw [List.length_map,sizeLine_eq];omega
end
end L2
namespace Srt
open PySem PySem.W PyProof.Rows
theorem qKj : ∀a b:List Int,HT.lexLt a b=true->HT.lexLt b a=false
 | [],[],h=>by simp [HT.lexLt] at h
 | [],_::_,_=>rfl
 | _::_,[],h=>by simp [HT.lexLt] at h
 | x::xs,y::ys,h=>by
  rw [HT.lexLt_cons] at h ⊢
  by_cases e:x=y
  ·subst e
   simp only [if_true] at h ⊢
   exact qKj xs ys h
  ·rw [if_neg e] at h
   rw [if_neg (fun z=>e z.symm)]
   have:x<y:=of_decide_eq_true h
   exact decide_eq_false (by omega)
theorem qIa : ∀a b c:List Int,HT.lexLt b a=false->HT.lexLt c b=false->HT.lexLt c a=false
 | a,[],[],h,_=>by cases a <;> first | rfl | exact h
 | [],_,_::_,_,_=>rfl
 | _,_::_,[],_,h=>by simp [HT.lexLt] at h
 | _::_,[],_::_,h,_=>by simp [HT.lexLt] at h
 | x::xs,y::ys,z::zs,h1,h2=>by
  rw [HT.lexLt_cons] at h1 h2 ⊢
  by_cases e1:y=x
  ·subst e1
   simp only [if_true] at h1
   by_cases e2:z=y
   ·subst e2
    simp only [if_true] at h2 ⊢
    exact qIa xs ys zs h1 h2
   ·rw [if_neg e2] at h2 ⊢;exact h2
  ·rw [if_neg e1] at h1
   have g1 : ¬y<x:=of_decide_eq_false h1
   by_cases e2:z=y
   ·subst e2
    rw [if_neg e1];exact h1
   ·rw [if_neg e2] at h2
    have g2 : ¬z<y:=of_decide_eq_false h2
    rw [if_neg (by omega)]
    exact decide_eq_false (by omega)
theorem lex_ord (ts:List (List Int)):Ord (fun i j=>HT.lexLt (ts.getD i []) (ts.getD j [])):=⟨fun _ _=>qKj _ _,fun _ _ _=>qIa _ _ _⟩
theorem katlex {prog:Program} {w:World} {A:Around} {s:Shared} {Q:Bool->Shared->Prop} {fin:Bool} : ∀ {ns ms:List Int} {us ws:List Value} {i:Nat},IntsAre us ns->IntsAre ws ms->fin=decide (ns.length<ms.length)->Q (HT.lexLt ns ms) s ->
  KatLex prog w A true fin Q (us.zip ws) i s
 | [],[],_,_,_,.nil,.nil,hf,q=>by subst hf;exact q
 | [],_::_,_,_,_,.nil,.cons _ _ _,hf,q=>by subst hf;exact q
 | _::_,[],_,_,_,.cons _ _ _,.nil,hf,q=>by
  subst hf
  exact q
 | n::ns,m::ms,_,_,i,.cons _ t h1,.cons _ t' h2,hf,q=>by
  rw [HT.lexLt_cons] at q
  refine kat_cons (wpAny_eqBool_int ?_)
  by_cases e:n=m
  ·subst e
   rw [beq_self_eq_true]
   rw [if_pos rfl] at q
   exact kat_yes (katlex h1 h2 (by subst hf;simp) q)
  ·rw [if_neg e] at q
   have:(n == m)=false:=beq_eq_false_iff_ne.mpr e
   rw [this]
   refine kat_no ?_
   cases b:(true&&i == 0) with
   | true=>exact oneLt_int q
   | false=>exact kat_one _ _ (lt_int (show PySem.W.BoolBack Q (.bool (decide (n<m))) s from q))
def TupAt (h:Heap):List Value->List (List Int)->Prop:=Paired fun u t => ∃a o xs k,u=Value.ref a/\h.get? a=some o/\o.cls = .type "tuple" /\ o.data = .seq xs k/\IntsAre xs.toList t
theorem TupAt.get {h:Heap} : ∀ {us:List Value} {ts:List (List Int)} (i:Nat),TupAt h us ts->i<ts.length -> ∃a o xs k,us.getD i Value.none=Value.ref a/\h.get? a=some o/\o.data = .seq xs k/\IntsAre xs.toList (ts.getD i [])
 | _,_,_,.nil,hi=>absurd hi (by simp)
 | _,_,0,.cons ⟨a,o,xs,k,e,h1,h2,h3,h4⟩ _,_=>⟨a,o,xs,k,e,h1,h3,h4⟩
 | _::us,_::ts,i+1,.cons _ r,hi=>TupAt.get i r (by simpa using hi)
theorem TupAt.firsts {h:Heap} : ∀ {us:List Value} {ts:List (List Int)},TupAt h us ts->(∀t∈ts,t ≠ []) -> ∃fs:List Value,KatTups h us fs/\fs.length=us.length /\ ∀v∈fs,∃i t,v=Value.int i t
 | _,_,.nil,_=>⟨[],trivial,rfl,fun _ h=>nomatch h⟩
 | _::us,t::ts,.cons ⟨a,o,xs,k,e,h1,h2,h3,h4⟩ r,hn=>by
  obtain⟨fs,a1,a2,a3⟩:=TupAt.firsts r fun t ht=>hn t (List.mem_cons_of_mem _ ht)
  have hne:=hn t List.mem_cons_self
  obtain⟨l⟩:=xs
  have h4:IntsAre l t:=h4
  cases h4 with
  | nil=>exact absurd rfl hne
  | cons n tk hr =>
   subst e
   refine⟨Value.int n tk::fs,KatTups.cons h1 h2 h3 rfl a1,by simp [a2],fun v hv => ?_⟩
   rcases List.mem_cons.mp hv with z | z
   ·exact⟨n,tk,z⟩
   ·exact a3 v z
end Srt
namespace L2
open PySem PySem.Spec PyProof.Rows
def TupI (K:PySem.W.Frag) (H:Hp):List V->List (List Int)->Prop:=Paired fun v t => ∃a,v = .ref a/\SqT K H a (t.map V.int)
theorem TupI.len {K:PySem.W.Frag} {H:Hp} {vs:List V} {ts:List (List Int)} (h:TupI K H vs ts):vs.length=ts.length:=Paired.length h
section
variable {X:Cx} {pins:List (Addr×Obj)} {σ : St} {H:Hp} {s:Shared}
theorem TupI.at (I:Inv X pins σ H s) : ∀ {vs:List V} {us:List Value} {ts:List (List Int)},TupI X.K H vs ts->Vals vs us->Srt.TupAt s.heap us ts
 | _,_,_,.nil,.nil =>.nil
 | _,_,_,.cons ⟨a,e,hq⟩ r,.cons ru rr=>by
  subst e
  cases ru
  obtain⟨its,rv,⟨o,h1,h2,n,h3⟩,_⟩:=I.tuple hq
  exact .cons ⟨a,o,its.toArray,n,rfl,h1,h2,h3,by simpa using qEk rv⟩ (TupI.at I r rr)
theorem qG0 {h h':Heap} {L:Addr} (hL : ∀o,h.get? L=some o -> ∃es ep,o.data = .dict es ep) (k : ∀b u,b≠L->h.get? b=some u->h'.get? b=some u) : ∀ {us:List Value} {ts:List (List Int)},Srt.TupAt h us ts->Srt.TupAt h' us ts
 | _,_,.nil =>.nil
 | _,_,.cons ⟨a,o,xs,n,e,h1,h2,h3,h4⟩ r =>.cons ⟨a,o,xs,n,e,k a o (fun z=>by
   rw [z] at h1
   obtain⟨es,ep,d⟩:=hL o h1
   rw [h3] at d;cases d) h1,h2,h3,h4⟩ (qG0 hL k r)
end
theorem qLm {vs:List V} {us:List Value} (r:Vals vs us) (i:Nat):RelV (vs.getD i .non) (us.getD i Value.none):=by
 cases e:vs[i]? with
 | none =>
  have e2:=r.none_of e
  rw [List.getD_eq_getElem?_getD,List.getD_eq_getElem?_getD,e,e2];rfl
 | some x =>
  obtain⟨u,hu,ru⟩:=r.get e
  rw [List.getD_eq_getElem?_getD,List.getD_eq_getElem?_getD,e,hu];exact ru
theorem qJp {vs:List V} {us:List Value} (r:Vals vs us) : ∀l:List Nat,Vals (l.map fun i=>vs.getD i .non) (l.map fun i=>us.getD i Value.none)
 | [] =>.nil
 | i::l =>.cons (qLm r i) (qJp r l)
theorem qHd {α β : Type} (da : α) (db : β) : ∀(vs:List α) (ts:List β),vs.length=ts.length->(List.range vs.length).map (fun i=>(vs.getD i da,ts.getD i db))=vs.zip ts:=by
 intro vs ts h
 refine List.ext_getElem? fun i => ?_
 rw [List.getElem?_map]
 by_cases hi:i<vs.length
 ·have h2:i<ts.length:=by omega
  have hz:i<(vs.zip ts).length:=by rw [List.length_zip];omega
  rw [List.getElem?_range hi,List.getElem?_eq_getElem hz,List.getElem_zip]
  simp [List.getD_eq_getElem?_getD,hi,h2]
 ·rw [List.getElem?_eq_none (by simpa using hi),List.getElem?_eq_none (by rw [List.length_zip];omega)];rfl
section
variable {X:Cx}
def qUg (K:PySem.W.Frag):List V->Hp->VK->Prop:=fun xs H Q => ∃(a:Addr) (vs:List V) (ts:List (List Int)),xs = [.ref a]/\SqL K H a vs/\TupI K H vs ts/\(∀t∈ts,t ≠ [])/\ts.length<64 /\
 ∀(l:Addr) (ps:List (V×List Int)),H l=none->ps.Perm (vs.zip ts)->(ps.map (·.2)).Pairwise (fun a b=>HT.lexLt b a=false)->Q (.ref l) (upd H l (.lst (ps.map (·.1))))
theorem qL5 {prog:Program} {w:World} {A:Around} {E:Value->Shared->Prop} {s:Shared} {l:Addr} {v:Value} {Q:Value->Shared->Prop} (hl:s.heap.IsList l [v].toArray)
  (h : ∀h' c,(∀b o,s.heap.get? b=some o->h'.get? b=some o)->h'.get? (s.heap.objs.size+1)=some (seqObj "list" #[v] c)->Q (.ref (s.heap.objs.size+1)) { s with heap:=h' }):wpAny (model prog w) A (call (.builtin "sorted") [.ref l]) Q E s:=by
 refine Calls.call_function_entry kind_sorted plain_sorted entry_sorted (args_sorted1 _) ?_
 unfold Builtin.«sorted»
 refine wpAny_bind (m:=checkCount "sorted" 1 1 _) (wpAny_pure (wpAny_bind (collect_list hl (wpAny_bind (wpAny_newList ?_)))))
 generalize hh:(s.heap.push (seqObj "list" #[] 0)).update s.heap.objs.size (Obj.mapSeq (· ++ [v].toArray))=h1
 have z1:h1.objs.size=s.heap.objs.size+1:=by rw [<-hh,Heap.size_update,size_push']
 have k1 : ∀b o,s.heap.get? b=some o->h1.get? b=some o:=fun b o e=>by
  have hb:b<s.heap.objs.size:=Heap.lt_size e
  rw [<-hh,Heap.get?_update_ne _ _ _ _ (Nat.ne_of_lt hb),Heap.get?_push_ne _ _ _ (Nat.ne_of_lt hb)];exact e
 have g2:(h1.push (seqObj "list" [v].toArray 0)).get? h1.objs.size=some (seqObj "list" [v].toArray 0):=Heap.get?_push_size _ rfl
 show wpAny _ _ _ _ _ { s with heap:=h1.push (seqObj "list" [v].toArray 0) }
 rw [z1] at g2 ⊢
 refine wpAny_bind (wpAny_holding (wpAny_call_entry slot_list_sort ⟨_,g2,rfl⟩ entry_list_sort ?_ (args_list_sort _)))
 rw [list_sort_plain]
 obtain⟨e1,g3⟩ : ∃e1,((h1.push (seqObj "list" [v].toArray 0)).update (s.heap.objs.size+1) (Obj.mapSeq fun _ => #[])).get? (s.heap.objs.size+1)=some (seqObj "list" #[] e1):=⟨_,get?_update_seq g2 fun _ => #[]⟩
 refine wpAny_bind (listItems_at g2 rfl (wpAny_bind (listUpdate_at g2 rfl (wpAny_bind (seqEpoch_at g3 rfl (wpAny_bind (wpAny_newTuple (wpAny_bind (wpAny_newList (wpAny_holding ?_)))))))))) 
 dsimp only
 rw [if_pos (by simp),if_pos (by simp)]
 refine wpAny_bind (wpAny_pure ?_)
 rw [StateT.run_pure]
 refine wpAny_bind (wpAny_pure ?_)
 dsimp only
 have z2:((h1.push (seqObj "list" [v].toArray 0)).update (s.heap.objs.size+1) (Obj.mapSeq fun _=>(#[]:Array Value))).objs.size=s.heap.objs.size+2:=by rw [Heap.size_update,size_push',z1]
 have g4:((((h1.push (seqObj "list" [v].toArray 0)).update (s.heap.objs.size+1) (Obj.mapSeq fun _=>(#[]:Array Value))).push (seqObj "tuple" [v].toArray 0)).push (seqObj "list" #[] 0)).get? (s.heap.objs.size+1)=some (seqObj "list" #[] e1):=by
  rw [Heap.get?_push_ne _ _ _ (Nat.ne_of_lt (by rw [size_push',z2];exact Nat.lt_succ_of_lt (Nat.lt_succ_self _))),Heap.get?_push_ne _ _ _ (Nat.ne_of_lt (by rw [z2];exact Nat.lt_succ_self _))];exact g3
 have ha:Array.map (fun x:Keyed=>x.snd) (arrOf (SortSt.mk' general' ([v].toArray.zip [v].toArray) #[] 7 none)) = #[v]:=by
  show Array.map (fun x:Keyed=>x.snd) ([v].toArray.zip [v].toArray) = #[v]
  simp
 rw [ha]
 refine wpAny_bind (seqEpoch_at g4 rfl (wpAny_bind (listUpdate_at g4 rfl ?_ (hsz2:=by show 1<=_;decide))))
 simp only [bne_self_eq_false,Bool.false_eq_true,if_false]
 obtain⟨c,g5⟩ : ∃c,(((((h1.push (seqObj "list" [v].toArray 0)).update (s.heap.objs.size+1) (Obj.mapSeq fun _=>(#[]:Array Value))).push (seqObj "tuple" [v].toArray 0)).push (seqObj "list" #[] 0)).update (s.heap.objs.size+1) (Obj.mapSeq fun _ => #[v])).get? (s.heap.objs.size+1)=some (seqObj "list" #[v] c):=⟨_,get?_update_seq g4 fun _ => #[v]⟩
 refine wpAny_pure ⟨_,rfl,wpAny_pure ⟨_,rfl,h (((((h1.push (seqObj "list" [v].toArray 0)).update (s.heap.objs.size+1) (Obj.mapSeq fun _=>(#[]:Array Value))).push (seqObj "tuple" [v].toArray 0)).push (seqObj "list" #[] 0)).update (s.heap.objs.size+1) (Obj.mapSeq fun _ => #[v])) c (fun b o e => ?_) g5⟩⟩
 have hb:b<s.heap.objs.size:=Heap.lt_size e
 have l1:b<s.heap.objs.size+1:=Nat.lt_succ_of_lt hb
 rw [Heap.get?_update_ne _ _ _ _ (Nat.ne_of_lt l1),Heap.get?_push_ne _ _ _ (Nat.ne_of_lt (by rw [size_push',z2];exact Nat.lt_succ_of_lt (Nat.lt_succ_of_lt l1))),Heap.get?_push_ne _ _ _ (Nat.ne_of_lt (by rw [z2];exact Nat.lt_succ_of_lt l1)),Heap.get?_update_ne _ _ _ _ (Nat.ne_of_lt l1),Heap.get?_push_ne _ _ _ (Nat.ne_of_lt (by rw [z1];exact l1))]
 exact k1 b o e
theorem qLi:CallR X (.builtin "sorted") (qUg X.K):=by
 intro pins s σ H xs us Q I r h
 obtain⟨a,vs,ts,rfl,hq,hT,hne,hz,q⟩:=h
 obtain⟨u,rfl,ru⟩:=vals1 r
 cases ru
 obtain⟨its,rv,pl,_⟩:=I.list hq
 have hl:=rv.length
 have hlT:=hT.len
 have big:ts.length<=sizeLine:=by rw [sizeLine_eq];omega
 by_cases h0:its.length=0
 ·have e0:its = []:=List.eq_nil_of_length_eq_zero h0
  subst e0
  cases rv
  cases hT
  refine sorted_ints (ns :=[]) pl.isList .nil (by simp) fun out ns' a1 a2 a3 => ?_
  have:ns' = []:=a2.eq_nil
  subst this
  obtain⟨e,he⟩:=sortedAll_at s.heap [] out
  have ho:out.toList = []:=by cases a1':out.toList with
   | nil=>rfl
   | cons x l=>rw [a1'] at a1;cases a1
  have hout:out = #[]:=by apply Array.toList_inj.mp;rw [ho]
  subst hout
  refine⟨.ref (s.heap.objs.size+1),_,I.laid (t':=s.toks) (o :=.lst []) (fun b u e=>sortedAll_old e) (Nat.le_succ _) ⟨Nat.zero_le _,[],e,.nil,he⟩,rfl,q _ [] (I.hok.fresh (Nat.le_succ _)) List.Perm.nil List.Pairwise.nil⟩
 ·by_cases h1:its.length=1
  ·obtain⟨v1,rfl⟩:=List.length_eq_one_iff.mp h1
   obtain⟨x1,rfl⟩:=List.length_eq_one_iff.mp (hl.trans h1)
   obtain⟨t1,rfl⟩:=List.length_eq_one_iff.mp (hlT.symm.trans (hl.trans h1))
   refine qL5 pl.isList fun h' c k g => ?_
   refine⟨.ref (s.heap.objs.size+1),_,I.laid (t':=s.toks) (o :=.lst [x1]) k (Nat.le_succ _) ⟨by show 1<=sizeLine;decide,[v1],c,rv,g⟩,rfl,q _ [(x1,t1)] (I.hok.fresh (Nat.le_succ _)) (List.Perm.refl _) (List.pairwise_singleton _ _)⟩
  ·obtain⟨m,F⟩:=I.fr
   have hLd : ∀o,s.heap.get? X.env.locals=some o -> ∃es ep,o.data = .dict es ep:=fun o e=>by
    obtain⟨o2,es,ep,e2,d,_⟩:=F.ns
    rw [e] at e2;cases e2
    exact⟨es,ep,d⟩
   have TA:=TupI.at I hT rv
   refine PySem.W.kat_sorted F qPh pl.isList (by omega) (by omega) fun D e1 h' F' N' hlt => ?_
   have Nn:News X.base X.env.locals h' (qDy X.base s.heap X.env.locals):=fun p hp=>N' p (List.mem_cons_of_mem _ hp)
   have k : ∀b u,b≠X.env.locals->s.heap.get? b=some u->h'.get? b=some u:=fun b u hb e=>by
    cases q:X.base.get? b with
    | some v =>
     have:=I.bk b v q
     rw [e] at this;cases this
     exact F'.keep b _ q
    | none=>exact (Nn (b,u) (qDt hb q e)).1
   obtain⟨dObj,hDL,hDb⟩:=N' (D,_) List.mem_cons_self
   have hD:s.heap.get? D=none:=by
    cases e:s.heap.get? D with
    | none=>rfl
    | some o=>exact absurd (hlt (D,o) (qDt hDL hDb e)) (Nat.lt_irrefl _)
   have TA':Srt.TupAt h' its ts:=qG0 hLd k TA
   obtain⟨fs,kt,hfl,hfi⟩:=TA'.firsts hne
   refine PySem.W.kat_kind (T :=.type "int") (fs:=fs) kt (by omega) (fun v hv => ?_) rfl ?_
   ·obtain⟨i,t,rfl⟩:=hfi v hv
    exact PySem.W.Looks.of_pure rfl
   ·obtain⟨p,hp,perm,hsz,up⟩:=Srt.sort_ok (Srt.lex_ord ts) (n:=its.length) (by omega)
    refine Srt.wp_run_in (n:=its.length) (lt:=fun i j=>HT.lexLt (ts.getD i []) (ts.getD j [])) (fun i j C hi hj hC => ?_) _ (Srt.sort_ends (by omega)) ?_
    ·obtain⟨a1,o1,xs1,k1,b1,b2,b3,b4⟩:=TA'.get i (by omega)
     obtain⟨a2,o2,xs2,k2,c1,c2,c3,c4⟩:=TA'.get j (by omega)
     unfold PySem.W.kas_ask
     rw [b1,c1]
     exact PySem.W.kat_lt b2 b3 c2 c3 (Srt.katlex b4 c4 (by
      have e1:=b4.length
      have e2:=c4.length
      simp only [Array.length_toList] at e1 e2
      rw [e1,e2]) hC)
    ·rw [hp]
     refine PySem.W.KasFin.intro F' N' (.head fun p hp=>Nat.ne_of_lt (hlt p hp)) fun h2 c F2 N2 => ?_
     have ob:=(N2 (D,_) List.mem_cons_self).1
     have N2':News X.base X.env.locals h2 (qDy X.base s.heap X.env.locals):=fun p hp=>N2 p (List.mem_cons_of_mem _ hp)
     have perm':p.toList.Perm (List.range its.length):=by
      have:=Array.perm_iff_toList_perm.mp perm
      simpa using this
     have hps:(p.toList.map fun i=>(vs.getD i .non,ts.getD i [])).Perm (vs.zip ts):=by
      rw [<-qHd V.non [] vs ts hlT,hl]
      exact perm'.map _
     have e1:(p.toList.map fun i=>(vs.getD i V.non,ts.getD i [])).map (·.1)=p.toList.map fun i=>vs.getD i V.non:=by rw [List.map_map];rfl
     have hlen:(p.toList.map fun i=>vs.getD i V.non).length<=sizeLine:=by
      rw [List.length_map,perm'.length_eq,List.length_range];omega
     refine⟨.ref D,_,I.ledgerLaid (t':=s.toks) (o :=.lst (p.toList.map fun i=>vs.getD i V.non)) F F2 N2' hD hDL ⟨hlen,_,c,qJp rv p.toList,ob⟩,rfl,?_⟩
     have hn:H D=none:=I.hok.gone hD
     have:=q D _ hn hps ?_
     ·rw [e1] at this;exact this
     ·rw [List.map_map,List.pairwise_iff_getElem]
      intro i j hi hj hij
      have hj':j<p.size:=by simpa using hj
      have hi':i<p.size:=by simpa using hi
      have u:=up i j (Nat.le_of_lt hij) (by omega)
      have g1:Srt.at' p i=p[i]:=by simp [Srt.at',Array.getD,hi']
      have g2:Srt.at' p j=p[j]:=by simp [Srt.at',Array.getD,hj']
      rw [g1,g2] at u
      simpa using u
end
theorem Same.seqT {K:PySem.W.Frag} {H H':Hp} {a:Addr} {xs:List V} (e:Same H H') (h:SqT K H a xs):SqT K H' a xs:=by
 rcases h with (h | ⟨o,h⟩) | h
 ·exact .inl (.inl (e _ _ h))
 ·exact .inl (.inr ⟨o,e _ _ h⟩)
 ·exact .inr h
mutual
def Den (K:PySem.W.Frag) (G:Hp):PyData->V->Prop
 | .none,v=>v = .non
 | .bool b,v=>v = .bl b
 | .int i,v=>v = .int i
 | .str x,v=>v = .str x
 | .list ds,v => ∃a vs,v = .ref a/\SqL K G a vs/\DenL K G ds vs
 | .tuple ds,v => ∃a vs,v = .ref a/\SqT K G a vs/\DenL K G ds vs
 | .dict _,_=>False
def DenL (K:PySem.W.Frag) (G:Hp):List PyData->List V->Prop
 | [],vs=>vs = []
 | d::ds,vs => ∃v r,vs=v::r/\Den K G d v/\DenL K G ds r
end
section
variable {K:PySem.W.Frag} {G G':Hp}
mutual
theorem Den.mono (h:Same G G') : ∀ {d:PyData} {v:V},Den K G d v->Den K G' d v
 | .none,_,e=>by simp only [Den] at e ⊢;exact e
 | .bool _,_,e=>by simp only [Den] at e ⊢;exact e
 | .int _,_,e=>by simp only [Den] at e ⊢;exact e
 | .str _,_,e=>by simp only [Den] at e ⊢;exact e
 | .list ds,_,e=>by
  simp only [Den] at e ⊢
  obtain⟨a,vs,e1,e2,e3⟩:=e
  exact⟨a,vs,e1,h.seq e2,DenL.mono h e3⟩
 | .tuple ds,_,e=>by
  simp only [Den] at e ⊢
  obtain⟨a,vs,e1,e2,e3⟩:=e
  exact⟨a,vs,e1,h.seqT e2,DenL.mono h e3⟩
 | .dict _,_,e=>by simp only [Den] at e
theorem DenL.mono (h:Same G G') : ∀ {ds:List PyData} {vs:List V},DenL K G ds vs->DenL K G' ds vs
 | [],_,e=>by simp only [DenL] at e ⊢;exact e
 | d::ds,_,e=>by
  simp only [DenL] at e ⊢
  obtain⟨v,r,e1,e2,e3⟩:=e
  exact⟨v,r,e1,Den.mono h e2,DenL.mono h e3⟩
end
theorem DenL.len : ∀ {ds:List PyData} {vs:List V},DenL K G ds vs->vs.length=ds.length
 | [],_,e=>by simp only [DenL] at e;rw [e];rfl
 | d::ds,_,e=>by
  simp only [DenL] at e
  obtain⟨v,r,rfl,_,e3⟩:=e
  simp [DenL.len e3]
theorem DenL.nil:DenL K G [] []:=by simp only [DenL]
theorem DenL.cons {d:PyData} {ds:List PyData} {v:V} {vs:List V} (h1:Den K G d v) (h2:DenL K G ds vs):DenL K G (d::ds) (v::vs):=by
 simp only [DenL];exact⟨v,vs,rfl,h1,h2⟩
theorem DenL.append : ∀ {ds es:List PyData} {vs ws:List V},DenL K G ds vs->DenL K G es ws->DenL K G (ds++es) (vs++ws)
 | [],_,_,_,e,f=>by simp only [DenL] at e;subst e;exact f
 | d::ds,_,_,_,e,f=>by
  simp only [DenL] at e
  obtain⟨v,r,rfl,e2,e3⟩:=e
  exact .cons e2 (DenL.append e3 f)
theorem DenL.get : ∀ {ds:List PyData} {vs:List V} {i:Nat} {v:V},DenL K G ds vs->vs[i]? = some v -> ∃d,ds[i]? = some d/\Den K G d v
 | [],_,_,_,e,h=>by simp only [DenL] at e;subst e;simp at h
 | d::ds,_,0,_,e,h=>by
  simp only [DenL] at e
  obtain⟨v,r,rfl,e2,e3⟩:=e
  simp at h;subst h
  exact⟨d,rfl,e2⟩
 | d::ds,_,i+1,_,e,h=>by
  simp only [DenL] at e
  obtain⟨v,r,rfl,e2,e3⟩:=e
  exact DenL.get (i:=i) e3 (by simpa using h)
theorem DenL.get' : ∀ {ds:List PyData} {vs:List V} {i:Nat} {d:PyData},DenL K G ds vs->ds[i]? = some d -> ∃v,vs[i]? = some v/\Den K G d v
 | [],_,_,_,e,h=>by simp at h
 | d::ds,_,0,_,e,h=>by
  simp only [DenL] at e
  obtain⟨v,r,rfl,e2,e3⟩:=e
  simp at h;subst h
  exact⟨v,rfl,e2⟩
 | d::ds,_,i+1,_,e,h=>by
  simp only [DenL] at e
  obtain⟨v,r,rfl,e2,e3⟩:=e
  exact DenL.get' (i:=i) e3 (by simpa using h)
theorem Den.int {i:Int}:Den K G (.int i) (.int i):=by simp only [Den]
theorem Den.str {i:Str}:Den K G (.str i) (.str i):=by simp only [Den]
theorem Den.list {ds:List PyData} {a:Addr} {vs:List V} (h:SqL K G a vs) (e:DenL K G ds vs):Den K G (.list ds) (.ref a):=by simp only [Den];exact⟨a,vs,rfl,h,e⟩
theorem Den.tuple {ds:List PyData} {a:Addr} {vs:List V} (h:SqT K G a vs) (e:DenL K G ds vs):Den K G (.tuple ds) (.ref a):=by simp only [Den];exact⟨a,vs,rfl,h,e⟩
theorem Den.ofInt {i:Int} {v:V} (h:Den K G (.int i) v):v = .int i:=by simpa only [Den] using h
theorem Den.ofStr {i:Str} {v:V} (h:Den K G (.str i) v):v = .str i:=by simpa only [Den] using h
theorem Den.ofList {ds:List PyData} {v:V} (h:Den K G (.list ds) v) : ∃a vs,v = .ref a/\SqL K G a vs/\DenL K G ds vs:=by simpa only [Den] using h
theorem Den.ofTuple {ds:List PyData} {v:V} (h:Den K G (.tuple ds) v) : ∃a vs,v = .ref a/\SqT K G a vs/\DenL K G ds vs:=by simpa only [Den] using h
theorem DenL.ofCons {d:PyData} {ds:List PyData} {vs:List V} (h:DenL K G (d::ds) vs) : ∃v r,vs=v::r/\Den K G d v/\DenL K G ds r:=by simpa only [DenL] using h
theorem DenL.ofNil {vs:List V} (h:DenL K G [] vs):vs = []:=by simpa only [DenL] using h
theorem DenL.ints : ∀ {ns:List Int} {vs:List V},DenL K G (ns.map PyData.int) vs->vs=ns.map V.int
 | [],_,e=>e.ofNil
 | n::ns,_,e=>by
  obtain⟨v,r,rfl,e2,e3⟩:=DenL.ofCons e
  rw [e2.ofInt,DenL.ints e3];rfl
theorem DenL.ofInts : ∀ns:List Int,DenL K G (ns.map PyData.int) (ns.map V.int)
 | [] =>.nil
 | n::ns =>.cons .int (DenL.ofInts ns)
end
section
variable {X:Cx} {pins:List (Addr×Obj)} {σ : St} {H:Hp} {s:Shared}
mutual
theorem Den.reads (I:Inv X pins σ H s) : ∀ {d:PyData} {v:V} {u:Value},Den X.K H d v->RelV v u -> ∃as,Reads s.heap u d as
 | .none,_,_,e,r=>by simp only [Den] at e;subst e;cases r;exact⟨_,.none⟩
 | .bool b,_,_,e,r=>by simp only [Den] at e;subst e;cases r;exact⟨_,.bool b⟩
 | .int i,_,_,e,r=>by simp only [Den] at e;subst e;obtain⟨t,rfl⟩:=r;exact⟨_,.int i t⟩
 | .str x,_,_,e,r=>by simp only [Den] at e;subst e;obtain⟨t,rfl⟩:=r;exact⟨_,.str x t⟩
 | .list ds,_,_,e,r=>by
  simp only [Den] at e
  obtain⟨a,vs,rfl,e2,e3⟩:=e
  cases r
  obtain⟨its,rv,⟨o,n,h1,h2,h3,h4⟩,_⟩:=I.list e2
  obtain⟨as,ra⟩:=DenL.reads I e3 rv
  exact⟨_,.list h1 h2 h4 (by simpa using ra)⟩
 | .tuple ds,_,_,e,r=>by
  simp only [Den] at e
  obtain⟨a,vs,rfl,e2,e3⟩:=e
  cases r
  obtain⟨its,rv,⟨o,h1,h2,n,h4⟩,_⟩:=I.tuple e2
  obtain⟨as,ra⟩:=DenL.reads I e3 rv
  exact⟨_,.tuple h1 h2 h4 (by simpa using ra)⟩
 | .dict _,_,_,e,_=>by simp only [Den] at e
theorem DenL.reads (I:Inv X pins σ H s) : ∀ {ds:List PyData} {vs:List V} {us:List Value},DenL X.K H ds vs->Vals vs us -> ∃as,ReadsAll s.heap us ds as
 | [],_,_,e,r=>by simp only [DenL] at e;subst e;cases r;exact⟨_,.nil⟩
 | d::ds,_,_,e,r=>by
  simp only [DenL] at e
  obtain⟨v,vr,rfl,e2,e3⟩:=e
  cases r with
  | cons r1 r2 =>
   obtain⟨as,ra⟩:=Den.reads I e2 r1
   obtain⟨bs,rb⟩:=DenL.reads I e3 r2
   exact⟨_,.cons ra rb⟩
end
end
mutual
theorem qEm {K:PySem.W.Frag} {G:Hp} : ∀ {d:PyData} {v:V},Den K G d v->d.hasDict=false
 | .none,_,_=>by simp only [PyData.hasDict]
 | .bool _,_,_=>by simp only [PyData.hasDict]
 | .int _,_,_=>by simp only [PyData.hasDict]
 | .str _,_,_=>by simp only [PyData.hasDict]
 | .list ds,_,e=>by
  simp only [Den] at e
  obtain⟨a,vs,rfl,e2,e3⟩:=e
  simp only [PyData.hasDict];exact qDw e3
 | .tuple ds,_,e=>by
  simp only [Den] at e
  obtain⟨a,vs,rfl,e2,e3⟩:=e
  simp only [PyData.hasDict];exact qDw e3
 | .dict _,_,e=>by simp only [Den] at e
theorem qDw {K:PySem.W.Frag} {G:Hp} : ∀ {ds:List PyData} {vs:List V},DenL K G ds vs->PyData.hasDictAll ds=false
 | [],_,_=>by simp only [PyData.hasDictAll]
 | d::ds,_,e=>by
  simp only [DenL] at e
  obtain⟨v,vr,rfl,e2,e3⟩:=e
  simp only [PyData.hasDictAll,qEm e2,qDw e3,Bool.or_false]
end
section
variable {X:Cx} {k:Nat}
def rRepr (K:PySem.W.Frag):List V->Hp->VK->Prop:=fun xs H Q => ∃(a:Addr) (d:PyData),xs = [.ref a]/\Den K H d (.ref a)/\d.showable=true/\d.depth<=100/\d.shown.length<=sizeLine/\Q (.str d.shown) H
theorem qIm (hr:Room k X.A):CallR X (.builtin "repr") (rRepr X.K):=by
 intro pins s σ H xs us Q I r h
 obtain⟨a,d,rfl,hd,h1,h2,h3,q⟩:=h
 obtain⟨u,rfl,ru⟩:=vals1 r
 cases ru
 obtain⟨as,ra⟩:=Den.reads I hd (show RelV (.ref a) (Value.ref a) from rfl)
 have hu:=hr.un
 exact repr_of_reads' ra h1 (fun z=>by rw [qEm hd] at z;cases z) hr.gd (by omega) (fun _ _ e=>e) (fun h' u tk kk=>⟨.str d.shown,H,I.kept (t':=tk) kk,⟨_,rfl⟩,q⟩) h3
def rEqD (K:PySem.W.Frag) (neg:Bool):R2:=fun x y H Q => ∃da db,Den K H da x/\Den K H db y/\SeqAt.shaped da=true/\SeqAt.shaped db=true/\Q (.bl (if neg then !PyData.eqv da db else PyData.eqv da db)) H
theorem qQz (hr:Room k X.A):OpR X (compareOp .Eq) (rEqD X.K false):=by
 intro pins s σ H x y v u Q I rx ry h
 obtain⟨da,db,ha,hb,h1,h2,q⟩:=h
 obtain⟨as,ra⟩:=Den.reads I ha rx
 obtain⟨bs,rb⟩:=Den.reads I hb ry
 exact SeqAt.compareEq_shaped ra rb h1 h2 hr.units ⟨.bl _,H,I,rfl,q⟩
theorem qUu (hr:Room k X.A):OpR X (compareOp .NotEq) (rEqD X.K true):=by
 intro pins s σ H x y v u Q I rx ry h
 obtain⟨da,db,ha,hb,h1,h2,q⟩:=h
 obtain⟨as,ra⟩:=Den.reads I ha rx
 obtain⟨bs,rb⟩:=Den.reads I hb ry
 exact SeqAt.compareNe_shaped ra rb h1 h2 hr.units ⟨.bl _,H,I,rfl,q⟩
end
mutual
theorem qKn : ∀d:PyData,d.hasDict=false->PyData.eqv d d=true
 | .none,_=>by simp only [PyData.eqv]
 | .bool _,_=>by simp only [PyData.eqv,beq_self_eq_true]
 | .int _,_=>by simp only [PyData.eqv,beq_self_eq_true]
 | .str _,_=>by simp only [PyData.eqv,beq_self_eq_true]
 | .list ds,h=>by simp only [PyData.eqv];exact qDv ds (by simpa only [PyData.hasDict] using h)
 | .tuple ds,h=>by simp only [PyData.eqv];exact qDv ds (by simpa only [PyData.hasDict] using h)
 | .dict _,h=>by simp [PyData.hasDict] at h
theorem qDv : ∀ds:List PyData,PyData.hasDictAll ds=false->PyData.eqvAll ds ds=true
 | [],_=>by simp only [PyData.eqvAll]
 | d::ds,h=>by
  simp only [PyData.hasDictAll,Bool.or_eq_false_iff] at h
  simp only [PyData.eqvAll,qKn d h.1,qDv ds h.2,Bool.and_self]
end
end L2
namespace Miss
open PySem PySem.Spec PyProof.Rows
theorem qT2:typeLookup (.type "list") "keys" = pure none:=am_miss_of_fast (by decide +kernel)
theorem qVw:typeLookup (.type "list") "__getattr__" = pure none:=am_miss_of_fast (by decide +kernel)
section
variable {prog:Program} {w:World} {A:Around} {E:Value->Shared->Prop} {a:Addr} {its:Array Value} {n:Nat}
theorem entry {u:Tok}:Meets (Builtin.«object.__getattribute__» ⟨[.ref a,.str "keys" u],[]⟩) (fun A R s=>s.heap.get? a=some { cls :=.type "list",dict:=none,data :=.seq its n,slots := #[] }/\raisesAttr (.ref a) "keys" A R s) :=
 Meets.of_wp fun prog w A R s hs=>by
  obtain⟨hp,g,d,tk,os⟩:=s
  obtain⟨hx,hs⟩:=hs
  have hT:(⟨hp,g,d,tk,os⟩:Shared).TypeIs (.ref a) "list" :=⟨_,hx,rfl⟩
  have f4:=qT2
  unfold Builtin.«object.__getattribute__»
  repeat (any_goals (first | assumption | wp_step))
  exact wpAny_raiseAttrError hs.1 hs.2 (attrMsg_fits (by decide +kernel) (by rw [sizeLine_eq];decide +kernel))
theorem no_keys {s:Shared} {Q:Option Value->Shared->Prop} (hA:A.handled=none) (hx:s.heap.get? a=some { cls :=.type "list",dict:=none,data :=.seq its n,slots := #[] })
  (h : ∀h' tk,(∀b o,s.heap.get? b=some o->h'.get? b=some o)->Q none { s with heap:=h',toks:=tk }):wpAny (model prog w) A (getAttr? (.ref a) "keys") Q E s:=by
 obtain⟨hp,g,d,tk,os⟩:=s
 have hT : ∀tk,(⟨hp,g,d,tk,os⟩:Shared).TypeIs (.ref a) "list" :=fun _=>⟨_,hx,rfl⟩
 have f1:=sub_AttributeError
 have f3:=F.slot_list_getattribute.lookup
 have f4:=F.slot_list_getattribute.bind (.ref a)
 have f5:=qVw
 unfold getAttr? getAttrBy? getAttrBy
 repeat (any_goals (first | assumption | ((with_reducible show wpAny _ _ (call (Value.builtin "list.__getattribute__") _ _) _ _ _);refine call_meets F.slot_list_getattribute (hT _) F.entry_list_ga (F.args_list_getattribute_2 _ _) (entry (its:=its) (n:=n)) ⟨hx,hA,fun h' tk' e x => ?_⟩) | wp_step))
 obtain⟨t',u',he⟩:=x.there
 show wpAny _ _ (getattributeRaised _ _ (Value.type "list") _ _ _ _) _ _ _
 unfold getattributeRaised
 repeat (any_goals (first | assumption | wp_step))
 exact h _ _ x.keeps
theorem entry_loop:entryFor table "dict.update.loop" = some Builtin.«dict.update.loop» :=entryFor_of_tree (by kernel_rfl)
theorem plain_loop:plainId "dict.update.loop" = true:=by decide +kernel
end
end Miss
namespace L2
open PySem PySem.Spec PyProof.Rows
def ePut (tk tv:TE) (l:Addr):TB:=fun σ H Q=>tk σ H fun x H1=>tv σ H1 fun y H2 => ∃kvs k,x=kV k/\H2 l=some (.dK kvs)/\kvs.length<sizeLine/\Q σ (upd H2 l (.dK (putK kvs k y)))
def Itd (d:Addr) (o:Obj) (kvs:List (Key×V)):It :=
 ⟨fun i H=>H d=some (.frz o (.dK kvs))/\i<kvs.length,fun i H x H'=>H'=H /\ ∃k v,kvs[i]? = some (k,v)/\x=kV k,fun i H=>H d=some (.frz o (.dK kvs))/\kvs.length<=i⟩
section
variable {X:Cx} {tg:Expr}
def iDict (td:TE):TI:=fun σ H R=>td σ H fun x H1 => ∃d kvs,x = .ref d/\H1 d=some (.dK kvs) /\ ∀o,R (Itd d o kvs) (upd H1 d (.frz o (.dK kvs)))
end
def PairsAt (H:Hp):List V->List (Key×V)->Prop:=Paired fun v kv => ∃a,v = .ref a/\H a=some (.tup [kV kv.1,kv.2])
theorem PairsAt.mono {H H':Hp} (h : ∀b xs,H b=some (.tup xs)->H' b=some (.tup xs)) {vs:List V} {kvs:List (Key×V)} (p:PairsAt H vs kvs):PairsAt H' vs kvs:=Paired.mapP p fun _ _ ⟨a,e,q⟩=>⟨a,e,h _ _ q⟩
theorem qQa {X:Cx} {pins:List (Addr×Obj)} {σ : St} {l d it:Addr} (hh:X.A.handled=none) : ∀ {more:List (Key×V)} {items:List V} {i:Nat} {A:Around} {H:Hp} {s:Shared} {kvs:List (Key×V)} {R:Result->Shared->Prop},A.handled=none->Inv X pins σ H s->s.heap.IsListIter it l i->FpOk X pins H it ->
  H l=some (.lst items)->H d=some (.dK kvs)->l≠d->PairsAt H (items.drop i) more->kvs.length+more.length<=sizeLine->(∀s',Inv X pins σ (upd H d (.dK (qDm kvs more))) s'->R (.ok (.ret .none)) s') ->
  codeAny (model X.prog X.w) A (.builtin "dict.update.loop" ⟨[.ref d,.ref it,rawInt i,.none],[]⟩) R s
 | [],items,i,A,H,s,kvs,R,hA,I,st,hf,hl,hd,hne,hp,hz,h=>by
  refine codeAny_builtin Miss.entry_loop ?_
  rw [Around.under_plainId Miss.plain_loop _]
  obtain⟨its,n,r,ho,_⟩:=I.lst hl
  have hlen:items.length<=i:=by
   have:=Paired.length hp
   rw [List.length_drop] at this
   have e:([]:List (Key×V)).length=0:=rfl
   omega
  have hl2:=r.length
  show wpAny _ _ (pyNext (.ref it) >>= _) _ _ s
  obtain⟨f0,f1,f2,f3,f4,f5⟩:=hf
  refine wpAny_bind (wpAny_pyNext_list_end (show A.in1.handled=none from hA) st (l:=l) (items:=its.toArray) ⟨_,ho,rfl,n,rfl⟩ (by simp;omega) fun h' eb => ?_)
  have I1:Inv X pins σ H { s with heap:=h' }:=I.turned (t':=s.toks) (fun b ob hb e=>eb b ob hb e) f0 f1 f3 f4 f5
  have e1:upd H d (.dK (qDm kvs []))=H:=by
   funext b
   by_cases hb:b=d
   ·subst hb;rw [qA1,hd];rfl
   ·rw [qA6 hb]
  rw [e1] at h
  show wpAny _ _ (Builtin.Dict.addKeywords d [] >>= _) _ _ _
  exact wpAny_bind (wpAny_pure (wpAny_pure (h _ I1)))
 | (k,w)::more,items,i,A,H,s,kvs,R,hA,I,st,hf,hl,hd,hne,hp,hz,h=>by
  refine codeAny_builtin Miss.entry_loop ?_
  rw [Around.under_plainId Miss.plain_loop _]
  obtain⟨its,n,r,ho,_⟩:=I.lst hl
  have hl2:=r.length
  cases e0:items.drop i with
  | nil=>rw [e0] at hp;cases hp
  | cons v rest =>
   rw [e0] at hp
   cases hp with
   | cons hv hr =>
    obtain⟨a,rfl,ha⟩:=hv
    have hi:items[i]? = some (.ref a):=by rw [<-List.head?_drop,e0];rfl
    obtain⟨u,hu,ru⟩:=r.get hi
    cases ru
    obtain⟨f0,f1,f2,f3,f4,f5⟩:=id hf
    show wpAny _ _ (pyNext (.ref it) >>= _) _ _ s
    refine wpAny_bind (wpAny_pyNext_list_item st (l:=l) (items:=its.toArray) ⟨_,ho,rfl,n,rfl⟩ (x :=.ref a) (by simpa using hu) fun h' st' sb => ?_)
    have I1:Inv X pins σ H { s with heap:=h' }:=I.turned (t':=s.toks) (fun b ob hb e=>(sb.2 b hb).trans e) f0 f1 f3 f4 f5
    obtain⟨_,its2,rt,ob,ho2,hc2,n2,hd2⟩:=(show ObjOk X.prog X.w H h' a (.tup [kV k,w]) from I1.hok a _ ha)
    obtain⟨uk,uw,rfl,rk,rw'⟩:=vals2 rt
    refine wpAny_bind (wpAny_holding (wpAny_bind (wpAny_tryCatch ?_)))
    unfold Builtin.Dict.pairItems
    refine wpAny_bind (wpAny_typeOf (T := "tuple") ⟨ob,ho2,hc2⟩ ?_)
    rw [if_pos (by decide)]
    refine wpAny_bind (wpAny_seqItems ho2 hd2 (wpAny_pure ?_))
    show wpAny _ _ (holding [uk,uw] (dictSet d uk uw)) _ _ _
    obtain⟨z,hs,vs,rel,dd⟩:=qQ2 I1.hok hd
    have hz2:kvs.length+(more.length+1)<=sizeLine:=hz
    have hl3:(putK kvs k w).length<=kvs.length+1:=qC8 kvs k w
    refine wpAny_holding (wpAny_dictSet_pairs (qId rk) dd (fun h2 dd' sb2=>wpAny_pure ?_) (by rw [<-rel.length];exact z))
    have he : ∃q,h2.get? d=some q:=let ⟨q,_,_,hq,_⟩:=dd';⟨q,hq⟩
    have I2:Inv X pins σ (upd H d (.dK (putK kvs k w))) { s with heap:=h2,toks:=s.toks+1 }:=qFw (s :={ s with heap:=h' }) (t':=s.toks+1) I1 (by rw [hd];exact True.intro) sb2 he (qNf (by omega) hs (rel.put k rw') dd')
    have hitd:it≠d:=fun z=>by rw [z,hd] at f0;cases f0
    have tk : ∀b xs,H b=some (.tup xs)->upd H d (.dK (putK kvs k w)) b=some (.tup xs):=fun b xs q=>by
     rw [qA6 (qL8 q hd (by intro z;cases z))];exact q
    refine⟨plainId_quiet Miss.plain_loop _,?_⟩
    have e3:(i:Int)+1=((i+1:Nat):Int):=by omega
    rw [e3]
    refine qQa hh (more:=more) (items:=items) (i:=i+1) (kvs:=putK kvs k w) hA I2 (st'.extBut sb2.extBut hitd) ⟨by rw [qA6 hitd];exact f0,f1,f2,f3,f4,f5⟩ (by rw [qA6 hne];exact hl) qA1 hne ?_ (by omega) fun s' I'=>h s' ?_
    ·have e4:items.drop (i+1)=rest:=by rw [<-List.tail_drop,e0];rfl
     rw [e4]
     exact PairsAt.mono tk hr
    ·rw [qRe] at I'
     exact I'
def qMh:V->List V->Hp->VK->Prop:=fun x vs H Q => ∃d l kvs items more,x = .ref d/\vs = [.ref l]/\H d=some (.dK kvs)/\H l=some (.lst items)/\PairsAt H items more/\kvs.length+more.length<=sizeLine/\Q .non (upd H d (.dK (qDm kvs more)))
theorem qN1 {X:Cx} (hc:X.calm=true):MtM X "dict.update" qMh:=by
 intro pins s σ H x vs v us Q I rx rv h
 obtain⟨d,l,kvs,items,more,rfl,rfl,hd,hl,hp,hz,q⟩:=h
 cases rx
 obtain⟨u,rfl,ru⟩:=rv.one
 cases ru
 have hne:l≠d:=qL8 hl hd (by intro z;cases z)
 obtain⟨z,hs,ws,rel,dd⟩:=qQ2 I.hok hd
 obtain⟨its,n,r,ho,_⟩:=I.lst hl
 have hA:=I.ok.hd hc
 refine wpAny_call (codeAny_call_builtin PySem.F.slot_dict_update.plain PySem.F.entry_dict_update (PySem.F.slot_dict_update.check _ _ _ _ _ _ _ _ dd.typeIs (PySem.F.args_dict_update_2 _ _) ?_))
 unfold Builtin.«dict.update»
 refine wpAny_bind ?_
 unfold Builtin.Dict.selfAndRest
 refine wpAny_bind (wpAny_notOrdered_dict dd.typeIs ?_)
 show wpAny _ _ (pure (d,[Value.ref l])) _ _ s
 refine wpAny_pure ?_
 show wpAny _ _ (Builtin.Dict.updateFrom "dict.update" d (.ref l) [] .none) _ _ s
 unfold Builtin.Dict.updateFrom
 refine wpAny_bind (wpAny_typeOf (T := "list") ⟨_,ho,rfl⟩ ?_)
 rw [if_pos (by decide)]
 refine wpAny_bind (Miss.no_keys hA ho fun h' tk kp => ?_)
 have I1:Inv X pins σ H { s with heap:=h',toks:=tk }:=I.kept kp
 show wpAny _ _ (if true=true then _ else _) _ _ _
 rw [if_pos rfl]
 refine wpAny_bind (wpAny_rule ?_)
 refine wpAny_bind (wpAny_pyIter_list (l:=l) (items:=its.toArray) ⟨_,kp _ _ ho,rfl,n,rfl⟩ ?_)
 have I2:Inv X pins σ H { s with heap:=h'.push { cls :=.type "list_iterator",data :=.fields #[.ref l,.int 0 0] },toks:=tk }:=I1.kept (t':=tk) fun b ob e=>Heap.get?_push_of_some _ e
 refine wpAny_pure ⟨plainId_quiet Miss.plain_loop _,?_⟩
 exact qQa (i:=0) hA hA I2 ⟨_,Heap.get?_push_size _ rfl,rfl,rfl⟩ (I1.fpOk (Nat.le_refl _) (I1.hok.fresh (Nat.le_refl _))) hl hd hne hp hz fun s' I'=>⟨.non,_,I',rfl,q⟩
def wo (ts:List Addr) (H:Hp):Hp:=fun b=>if b∈ts then none else H b
theorem qO2 {ts:List Addr} {H:Hp} {b:Addr} (h:b∈ts):wo ts H b=none:=if_pos h
theorem qF2 {ts:List Addr} {H:Hp} {b:Addr} (h:b∉ts):wo ts H b=H b:=if_neg h
theorem qRb (ts:List Addr) (H:Hp):Same (wo ts H) H:=fun b o e=>by
 by_cases h:b∈ts
 ·rw [qO2 h] at e;cases e
 ·rw [qF2 h] at e;exact e
def Ext (ts:List Addr) (H H':Hp):Prop := ∀b o,b∉ts->H b=some o->H' b=some o
theorem Ext.refl (ts:List Addr) (H:Hp):Ext ts H H:=fun _ _ _ h=>h
theorem Ext.trans {ts:List Addr} {H H1 H2:Hp} (a:Ext ts H H1) (b:Ext ts H1 H2):Ext ts H H2:=fun c o h e=>b c o h (a c o h e)
theorem Ext.same {ts:List Addr} {H H':Hp} (a:Ext ts H H'):Same (wo ts H) (wo ts H'):=fun b o e=>by
 by_cases h:b∈ts
 ·rw [qO2 h] at e;cases e
 ·rw [qF2 h] at e ⊢;exact a b o h e
theorem Ext.put {ts:List Addr} {H:Hp} {t:Addr} {o:HO} (h:t∈ts):Ext ts H (upd H t o):=fun b u hb e=>by
 have ne:b≠t:=fun z=>hb (by rw [z];exact h)
 rw [qA6 ne];exact e
theorem Ext.laid {ts:List Addr} {H:Hp} {l:Addr} {o:HO} (h:H l=none):Ext ts H (upd H l o):=fun b u _ e=>by
 rw [qA6 (qA5 e h)];exact e
theorem Ext.mono {ts us:List Addr} {H H':Hp} (a:Ext ts H H') (h : ∀b∈ts,b∈us):Ext us H H':=fun b o hb e=>a b o (fun z=>hb (h b z)) e
theorem Ext.drop {ts:List Addr} {l:Addr} {H H':Hp} (a:Ext (l::ts) H H') (h:H l=none):Ext ts H H':=fun b o hb e=>a b o (fun z=>by
 rcases List.mem_cons.mp z with y | y
 ·rw [y,h] at e;cases e
 ·exact hb y) e
def yo (H0:Hp) (ts:List Addr) (H:Hp):Hp:=fun b=>match H0 b with
 | some _=>none
 | none=>wo ts H b
theorem qAz {H0:Hp} {ts:List Addr} {H:Hp} {b:Addr} (h0:H0 b=none) (h:b∉ts):yo H0 ts H b=H b:=by
 unfold yo;rw [h0];exact qF2 h
theorem qCo {H0:Hp} {ts:List Addr} {H:Hp} {b:Addr} {o:HO} (h:yo H0 ts H b=some o):H0 b=none/\b∉ts/\H b=some o:=by
 unfold yo at h
 cases z:H0 b with
 | some _=>rw [z] at h;cases h
 | none =>
  rw [z] at h
  have h:wo ts H b=some o:=h
  by_cases hb:b∈ts
  ·rw [qO2 hb] at h;cases h
  ·rw [qF2 hb] at h;exact⟨rfl,hb,h⟩
theorem Ext.none {ts:List Addr} {H H':Hp} {b:Addr} (a:Ext ts H H') (h:b∉ts) (e:H' b=none):H b=none:=by
 cases z:H b with
 | none=>rfl
 | some o=>rw [a _ _ h z] at e;cases e
theorem Ext.young {H0:Hp} {ts:List Addr} {H H':Hp} (a:Ext ts H H'):Same (yo H0 ts H) (yo H0 ts H'):=fun b o e=>by
 obtain⟨h0,h1,h2⟩:=qCo e
 rw [qAz h0 h1];exact a b o h1 h2
theorem qGt {H0:Hp} {ts us:List Addr} {H:Hp} (h : ∀b∈ts,b∈us):Same (yo H0 us H) (yo H0 ts H):=fun b o e=>by
 obtain⟨h0,h1,h2⟩:=qCo e
 rw [qAz h0 (fun z=>h1 (h b z))];exact h2
theorem yo_same {H0:Hp} {ts:List Addr} {H:Hp}:Same (yo H0 ts H) H:=fun b o e=>(qCo e).2.2
theorem qO1 {H0 H1:Hp} {ts us:List Addr} {H:Hp} (a:Ext ts H0 H1) (h : ∀b∈ts,b∈us):Same (yo H1 us H) (yo H0 us H):=fun b o e=>by
 obtain⟨h0,h1,h2⟩:=qCo e
 rw [qAz (a.none (fun z=>h1 (h b z)) h0) h1];exact h2
theorem qJo {H0 H1:Hp} {ts us:List Addr} {H:Hp} (h : ∀b∈us,b∈ts\/H1 b≠none):Same (yo H1 ts H) (yo H1 us H):=fun b o e=>by
 obtain⟨h0,h1,h2⟩:=qCo e
 rw [qAz h0 (fun z=>(h b z).elim h1 (fun y=>y h0))];exact h2
def Tape (H:Hp) (t:Addr) (k:Nat):Prop := ∃(a b c:Int),H t=some (.lst [.int a,.int b,.int c])/\0<=a/\0<=b/\b<2^62/\0<=c/\c<=k
theorem Tape.mono {H:Hp} {t:Addr} {k j:Nat} (h:Tape H t k) (hk:k<=j):Tape H t j:=by
 obtain⟨a,b,c,h1,h2,h3,h4,h5,h6⟩:=h
 exact⟨a,b,c,h1,h2,h3,h4,h5,by omega⟩
theorem Tape.ext {H H':Hp} {t:Addr} {k:Nat} {ts:List Addr} (h:Tape H t k) (e:Ext ts H H') (ht:t∉ts):Tape H' t k:=by
 obtain⟨a,b,c,h1,r⟩:=h
 exact⟨a,b,c,e _ _ ht h1,r⟩
theorem Tape.ne {H:Hp} {t l:Addr} {k:Nat} (h:Tape H t k) (hl:H l=none):l≠t:=by
 obtain⟨a,b,c,h1,_⟩:=h
 exact (qA5 h1 hl).symm
def qD2:Sp:=fun vs H Q _ => ∃(t:Addr) (k:Nat) (n:Int),vs = [.ref t,.int n]/\Tape H t k/\k<=2^40/\0<n/\n<2^24 /\ ∀(r:Int) (H':Hp),0<=r->r<n->Tape H' t (k+1)->Ext [t] H H'->(∀b,b≠t->H' b=H b)->Q (.int r) H'
section
variable {K:PySem.W.Frag} {σ : St} {H:Hp} {Q:VK} {p:Addr} {xs:List V} {i j:Int} {v:V} {ta tb te to ti:TE} {r:R2} {t u:TS} {D:Ends} {n m:Nat} {tt t2:TT} {tl tr:TA}
theorem qW4 (h:ta σ H fun x H1=>tb σ H1 fun y H2=>r x y H2 Q):tOp r ta tb σ H Q:=h
theorem qKy (h : σ[n]? = some (some v)) (q:Q v H):tVar n σ H Q:=⟨v,h,q⟩
theorem r_c (q:Q v H):tC v σ H Q:=q
theorem qW5 {g:Int->Int->V} (q:Q (g i j) H):rI0 g (.int i) (.int j) H Q:=⟨i,j,rfl,rfl,q⟩
theorem qJ6 (c:(-(2^64)<i/\i<2^64)\/(-(2^64)<j/\j<2^64)) (q:Q (.int (i*j)) H):rI CMul (fun i j =>.int (i*j)) (.int i) (.int j) H Q:=⟨i,j,rfl,rfl,c,q⟩
theorem qKz (c1:0<=j) (c2:j<=1000000) (c3:i.natAbs<2^64) (q:Q (.int (i^j.toNat)) H):rI CPow (fun i j =>.int (i^j.toNat)) (.int i) (.int j) H Q:=⟨i,j,rfl,rfl,⟨c1,c2,c3⟩,q⟩
theorem qU9 (c1:0<j) (c2:j<1073741824) (q:Q (.int (i / j)) H):rI CDiv (fun i j =>.int (i / j)) (.int i) (.int j) H Q:=⟨i,j,rfl,rfl,⟨c1,c2⟩,q⟩
theorem qFi (c:0<j) (q:Q (.int (i%j)) H):rI (fun _ j=>0<j) (fun i j =>.int (i%j)) (.int i) (.int j) H Q:=⟨i,j,rfl,rfl,c,q⟩
theorem qW0 {g:Int->V} (h:ta σ H fun x H1=>rU g x H1 Q):tUn (rU g) ta σ H Q:=h
theorem r_u {g:Int->V} (q:Q (g i) H):rU g (.int i) H Q:=⟨i,rfl,q⟩
theorem qAq (h:SqL K H p xs) (e:atI xs i=some v) (q:Q v H):rIxL K (.ref p) (.int i) H Q:=⟨p,xs,i,v,rfl,rfl,h,e,q⟩
theorem qCi (h:SqT K H p xs) (e:atI xs i=some v) (q:Q v H):rIxT K (.ref p) (.int i) H Q:=⟨p,xs,i,v,rfl,rfl,h,e,q⟩
theorem qOk (h:t { D with nx:=u D } σ H):tSeq t u D σ H:=h
theorem qUe {g:TG} (h:te σ H fun x H1=>g x σ H1 D.nx):tAsg te g D σ H:=h
theorem qIu {R:St->Hp->Prop} (q:R (σ.set n (some v)) H):gName n v σ H R:=q
theorem qTx (h:te σ H D.rt):tRet te D σ H:=h
theorem qK1 (h:te σ H fun _ H1=>D.nx σ H1):tDrop te D σ H:=h
theorem qFh (h:D.nx σ H):tNext D σ H:=h
theorem qVq (h:tt σ H fun b H1=>if b=true then t D σ H1 else u D σ H1):tIfS tt t u D σ H:=h
theorem qQj {R:Bool->Hp->Prop} (h:te σ H fun x H' => ∃k,x = .bl k/\R k H'):tTest te σ H R:=h
theorem qW1 {R:Bool->Hp->Prop} (h:te σ H fun x H' => ∃k,x = .bl k/\R k H'):tB te σ H R:=h
theorem qVs {b:Bool} {R:Bool->Prop} (q:R b) : ∃k,V.bl b = .bl k/\R k:=⟨b,rfl,q⟩
theorem qQq {ts:TSet} {R:St->Hp->Prop} (h:to σ H fun o H1=>ti σ H1 fun i H2=>ts o i v H2 fun H3=>R σ H3):gSub to ti ts v σ H R:=h
theorem qCc {R:Hp->Prop} (h:H p=some (.lst xs)) (e:ixN xs.length i=some n) (q:R (upd H p (.lst (xs.set n v)))):rSetL (.ref p) (.int i) v H R:=⟨p,xs,i,n,rfl,rfl,h,e,q⟩
theorem qL0 {R:List V->Hp->Prop} (q:R [] H):tNil σ H R:=q
theorem qK3 {R:List V->Hp->Prop} (h:ta σ H fun x H1=>tr σ H1 fun xs H2=>R (x::xs) H2):tCons ta tr σ H R:=h
theorem qTv (h:tl σ H fun xs H1=>xs.length<=sizeLine /\ ∀p,H1 p=none->Q (.ref p) (upd H1 p (.tup xs))):tTup tl σ H Q:=h
theorem qU4 (h:tl σ H fun xs H1=>xs.length<=sizeLine /\ ∀p,H1 p=none->Q (.ref p) (upd H1 p (.lst xs))):tLst tl σ H Q:=h
theorem qQu {sp:Sp} {dvs:List V} {E:XK} (h:tl σ H fun vs H1=>sp (vs++dvs) H1 Q E):tCall sp dvs E tl σ H Q:=h
theorem qW6 {rr:List V->Hp->VK->Prop} (h:tl σ H fun vs H1=>rr vs H1 Q):tCB rr tl σ H Q:=h
theorem qU6 (h:tt σ H fun b H1=>if b=true then ta σ H1 Q else tb σ H1 Q):tIf tt ta tb σ H Q:=h
theorem qUf {R:Bool->Hp->Prop} (h:tt σ H fun c H1=>if c=true then t2 σ H1 R else R false H1):tAnd tt t2 σ H R:=h
theorem qW3 {R:Bool->Hp->Prop} (h:tt σ H fun c H1=>if c=true then R true H1 else t2 σ H1 R):tOr tt t2 σ H R:=h
theorem qU0 {R:Bool->Hp->Prop} (h:tt σ H fun c H1=>R (!c) H1):tNot tt σ H R:=h
theorem qTz (h:tl σ H fun vs H1 => ∃v w,vs = [v,w]/\D.nx ((σ.set n (some v)).set m (some w)) H1):tPar n m tl D σ H:=h
end
section
variable {K:PySem.W.Frag} {σ : St} {H:Hp} {Q:VK} {l t:Addr} {xs:List V} {i j n:Int} {v y:V} {k:Nat} {E:XK}
theorem qB6 (hT:Tape H t k) (hk:k<=2^40) (h0:0<n) (h1:n<2^24) (q : ∀r H',0<=r->r<n->Tape H' t (k+1)->Ext [t] H H'->(∀b,b≠t->H' b=H b)->Q (.int r) H'):qD2 ([.ref t,.int n] ++ []) H Q E:=⟨t,k,n,rfl,hT,hk,h0,h1,q⟩
theorem qC1 (q:Q (.bl (decide (i=j))) H):rEq (.int i) (.int j) H Q:=⟨rfl,by
 have e:decide (V.int i=V.int j)=decide (i=j):=by rw [Bool.eq_iff_iff];simp
 rw [e];exact q⟩
theorem qRt (q:Q (.bl (!decide (i=j))) H):rNe (.int i) (.int j) H Q:=⟨rfl,by
 have e:decide (V.int i=V.int j)=decide (i=j):=by rw [Bool.eq_iff_iff];simp
 rw [e];exact q⟩
theorem qB5 {a b:Str} (q:Q (.bl (decide (a=b))) H):rEq (.str a) (.str b) H Q:=⟨rfl,by
 have e:decide (V.str a=V.str b)=decide (a=b):=by rw [Bool.eq_iff_iff];simp
 rw [e];exact q⟩
theorem qOl {a b:Str} (q:Q (.bl (!decide (a=b))) H):rNe (.str a) (.str b) H Q:=⟨rfl,by
 have e:decide (V.str a=V.str b)=decide (a=b):=by rw [Bool.eq_iff_iff];simp
 rw [e];exact q⟩
theorem qCz {R:Prop} (h:H l=some (.lst xs)) (q:R):tyV K "list" (.ref l) H/\R:=⟨.inl ⟨rfl,_,SqL.of h⟩,q⟩
theorem qDl (h:H l=some (.lst xs)) (hz:xs.length<sizeLine) (q:Q .non (upd H l (.lst (xs ++ [y])))):qH3 (.ref l) [y] H Q:=⟨l,xs,y,rfl,rfl,h,hz,q⟩
theorem bit01 (b:Bool):0<=(if b=true then (1:Int) else 0)/\(if b=true then (1:Int) else 0)<=1:=by cases b <;> decide
end
theorem len2 {n:Nat} (h:n<=1000):n<=sizeLine:=Nat.le_trans h (by decide)
theorem qBp {CX:CXT} {P:Program} {w:World} {K:PySem.W.Frag} {mg:Str->Option Value} {base:Heap} {N:List Str} {qual:Str} {scope:Scope} {f:Addr} {cd:Value} {A:Around} {outer:List Env} {s:Shared} {H:Hp} {E:XK}:(cxOf CX P w K mg base N qual scope f cd A outer s H E).nox.K=K:=rfl
theorem qB9 {X:Cx} {own:List Str} {cap:List Nat} {scope:Scope} {cl:List (Str×Addr)} {s:Shared} {H:Hp} {ex:List Addr}:(qAw X own cap scope cl s H ex).K=X.K:=rfl
def Has (P:Program) (w:World) (K:PySem.W.Frag) (mg:Str->Option Value) (base:Heap) (x:Str) (k:Nat) (ps:List Str) (sp:Sp):Prop :=
 ∃f fd,FnOk P w K mg base CX0 k f fd ps sp/\mg x=some (.ref f)/\PySem.W.keepIn K (.ref f)=true/\Binds K fd ps []
theorem qAy {X:Cx} {x:Str} {k j:Nat} {ps:List Str} {sp:Sp} {e:Expr} {es:List Expr} {t:TA} {p pos:Pos} (h:Has X.prog X.w X.K X.mg X.base x k ps sp) (hr:Room j X.A) (hj:k<=j) (ha:PA X (e::es) t) (hg:Gl X x:=by rfl)
  (hdb:(x == ("__debug__" : Str))=false:=by decide) (he:starEach (e::es) X.env=(false,eval e X.env)::starEach es X.env:=by rfl) (hpl:(backTo pos (starEach es X.env)).any (·.1)=false:=by rfl) :
  PE X (.Call (.Name x p) (e::es) [] pos) (tCall sp [] E0 t):=by
 obtain⟨f,fd,G,hm,hk,hb⟩:=h
 exact qSb G (hr.mono hj) hg hm hk hb .nil pass0 ha hdb he hpl
def qLx (K:PySem.W.Frag):Sp:=fun vs H Q _ => ∃(a:Addr) (ns:List Int) (k:Nat),vs = [.ref a,.int k]/\SqL K H a (ns.map V.int)/\k<=100 /\ ∀(t:Addr) (H':Hp),H t=none->Tape H' t 0->Same H H'->Q (.ref t) H'
def qRi (c:Nat) (lo hi:Int):Sp:=fun vs H Q _ => ∃(t:Addr) (k:Nat),vs = [.ref t]/\Tape H t k/\k+c<=2^40 /\ ∀(r:Int) (H':Hp),lo<=r->r<=hi->Tape H' t (k+c)->Ext [t] H H'->Q (.int r) H'
abbrev qM0:Sp:=qRi 3 1 12
abbrev qEx:Sp:=qRi 3 (-(10^12)) (10^12)
def chk (X:Cx) (own:List Str) (cap:List Nat) (scope:Scope):Bool :=
 decide (scope.kind = .function)&&(scope.names.all fun x=>decide (x.2 ≠ .cell))&&(scope.names.all fun x => !decide (x.2 = .local)||decide (scope.names.lookup x.1=some .local)) &&
 (scope.names.all fun x => !decide (x.2 = .free)||(decide (X.env.scope.names.lookup x.1=some .cell)||decide (X.env.scope.names.lookup x.1=some .free)))&&(own.all fun x=>decide (scope.names.lookup x=some .local)) &&
 (cap.all fun j=>decide (scope.names.lookup (X.N.getD j "")=some .free)&&decide (j<X.N.length))
theorem CompScope.of {X:Cx} {own:List Str} {cap:List Nat} {scope:Scope} (h:chk X own cap scope=true):CompScope X own cap scope:=by
 unfold chk at h
 simp only [Bool.and_eq_true,List.all_eq_true,decide_eq_true_eq,Bool.or_eq_true,Bool.not_eq_true',decide_eq_false_iff_not] at h
 obtain⟨⟨⟨⟨⟨h1,h2⟩,h3⟩,h4⟩,h5⟩,h6⟩:=h
 exact⟨h1,fun x hx=>h2 x hx,fun x hx e=>(h3 x hx).resolve_left (fun z=>z e),fun x hx e=>(h4 x hx).resolve_left (fun z=>z e),h5,fun j hj=>h6 j hj⟩
section
variable {K:PySem.W.Frag} {a:Addr} {xs:List V} {g:TG} {tt:TT} {B:TB} {σ : St} {H:Hp} {Q:St->Hp->Prop}
theorem qFo {J:It} {n:Nat} (Pv:Nat->St->Hp->Prop) (h0:Pv 0 σ H) (hgo : ∀i σ H,i<n->Pv i σ H->J.go i H) (hst : ∀ σ H,Pv n σ H->J.stop n H)
  (hs : ∀i σ H (R:St->Hp->Prop),i<n->Pv i σ H->(∀ σ' H',Pv (i+1) σ' H'->R σ' H') -> ∀x H',J.yld i H x H'->g x σ H' fun σ2 H2=>tt σ2 H2 fun b H3=>if b=true then B σ2 H3 R else R σ2 H3)
  (hd : ∀ σ H,Pv n σ H->Q σ H):LoopT J g tt B σ H Q:=by
 refine⟨fun i m σ H=>m=n - i/\i<=n/\Pv i σ H,⟨n,by simp,Nat.zero_le _,h0⟩,?_⟩
 rintro i m σ H ⟨rfl,hi,p⟩
 by_cases hlt:i<n
 ·refine .inr ⟨hgo i σ H hlt p,fun x H' y => ?_⟩
  exact hs i σ H _ hlt p (fun σ' H' p'=>⟨n - (i+1),by omega,rfl,hlt,p'⟩) x H' y
 ·have e:i=n:=by omega
  subst e
  exact .inl ⟨hst σ H p,hd σ H p⟩
theorem qBx (Pv:Nat->St->Hp->Prop) (h0:Pv 0 σ H) (hl : ∀i σ H,i<=xs.length->Pv i σ H->SqL K H a xs)
  (hs : ∀i x σ H (R:St->Hp->Prop),xs[i]? = some x->Pv i σ H->(∀ σ' H',Pv (i+1) σ' H'->R σ' H')->g x σ H fun σ2 H2=>tt σ2 H2 fun b H3=>if b=true then B σ2 H3 R else R σ2 H3)
  (hd : ∀ σ H,Pv xs.length σ H->Q σ H):LoopT (Itl K a) g tt B σ H Q:=by
 refine qFo (n:=xs.length) Pv h0 (fun i σ H hi p=>⟨xs,xs[i],hl i σ H (Nat.le_of_lt hi) p,by simp [hi]⟩) (fun σ H p=>⟨xs,hl _ σ H (Nat.le_refl _) p,Nat.le_refl _⟩) (fun i σ H R hi p hR x H' y => ?_) hd
 obtain⟨e,y⟩:=y
 subst e
 exact hs i x σ _ R (y xs (hl i σ _ (Nat.le_of_lt hi) p)) p hR
theorem qDj {lo:Int} {n:Nat} (Pv:Nat->St->Hp->Prop) (h0:Pv 0 σ H)
  (hs : ∀i σ H (R:St->Hp->Prop),i<n->Pv i σ H->(∀ σ' H',Pv (i+1) σ' H'->R σ' H')->g (.int (lo+i)) σ H fun σ2 H2=>tt σ2 H2 fun b H3=>if b=true then B σ2 H3 R else R σ2 H3)
  (hd : ∀ σ H,Pv n σ H->Q σ H):LoopT (Itr lo n) g tt B σ H Q:=by
 refine qFo (n:=n) Pv h0 (fun i σ H hi p=>hi) (fun σ H p=>Nat.le_refl _) (fun i σ H R hi p hR x H' y => ?_) hd
 obtain⟨e,y⟩:=y
 subst e y
 exact hs i σ _ R hi p hR
theorem qI8 (Pv:Nat->St->Hp->Prop) (h0:Pv 0 σ H) (hl : ∀i σ H,i<=xs.length->Pv i σ H->SqL K H a xs)
  (hs : ∀i x σ H p (R:St->Hp->Prop),xs[i]? = some x->Pv i σ H->H p=none->(∀ σ' H',Pv (i+1) σ' H'->R σ' H')->g (.ref p) σ (upd H p (.tup [.int i,x])) fun σ2 H2=>tt σ2 H2 fun b H3=>if b=true then B σ2 H3 R else R σ2 H3)
  (hd : ∀ σ H,Pv xs.length σ H->Q σ H):LoopT (Ite K a) g tt B σ H Q:=by
 refine qFo (n:=xs.length) Pv h0 (fun i σ H hi p=>⟨xs,xs[i],hl i σ H (Nat.le_of_lt hi) p,by simp [hi]⟩) (fun σ H p=>⟨xs,hl _ σ H (Nat.le_refl _) p,Nat.le_refl _⟩) (fun i σ H R hi p hR x H' y => ?_) hd
 obtain⟨q,y,e,hq,hy,e2⟩:=y
 subst e e2
 exact hs i y σ H q R (hy xs (hl i σ H (Nat.le_of_lt hi) p)) p hq hR
end
theorem qKm {K:PySem.W.Frag} {a:Addr} {xs:List V} {g:TG} {tb:TS} {D:Ends} {σ : St} {H:Hp} (Pv:Nat->St->Hp->Prop) (h0:Pv 0 σ H) (hl : ∀i σ H,i<=xs.length->Pv i σ H->SqL K H a xs)
  (hs : ∀i x σ H p,xs[i]? = some x->Pv i σ H->H p=none->g (.ref p) σ (upd H p (.tup [.int i,x])) fun σ2 H2=>tb { D with nx:=Pv (i+1),ct:=Pv (i+1),bk:=D.nx } σ2 H2) (hd : ∀ σ H,Pv xs.length σ H->D.nx σ H) :
  ∃W:Nat->Nat->St->Hp->Prop,(∃m,W 0 m σ H) /\ ∀i m σ H,W i m σ H ->
   ((Ite K a).stop i H/\D.nx σ H)\/((Ite K a).go i H /\ ∃N:St->Hp->Prop,(∀ σ' H',N σ' H' -> ∃m',m'<m/\W (i+1) m' σ' H') /\ ∀x H',(Ite K a).yld i H x H'->g x σ H' fun σ2 H2=>tb { D with nx:=N,ct:=N,bk:=D.nx } σ2 H2):=by
 refine⟨fun i m σ H=>m=xs.length - i/\i<=xs.length/\Pv i σ H,⟨xs.length,by simp,Nat.zero_le _,h0⟩,?_⟩
 rintro i m σ H ⟨rfl,hi,p⟩
 have q:=hl i σ H hi p
 by_cases hlt:i<xs.length
 ·refine .inr ⟨⟨xs,xs[i],q,by simp [hlt]⟩,Pv (i+1),fun σ' H' p'=>⟨xs.length - (i+1),by omega,rfl,hlt,p'⟩,fun x H' y => ?_⟩
  obtain⟨r,y,e,hr,hy,e2⟩:=y
  subst e e2
  exact hs i y σ H r (hy xs q) p hr
 ·have e:i=xs.length:=by omega
  subst e
  exact .inl ⟨⟨xs,q,Nat.le_refl _⟩,hd σ H p⟩
abbrev intsD (ns:List Int):PyData :=.list (ns.map .int)
def NxOk (m:Int) (nx:List (List Int)):Prop:=(nx.length:Int)=m /\ ∀ns∈nx,ns = []\/(∃x,ns = [x]/\1<=x/\x<m) \/ ∃x y,ns = [x,y]/\x≠y/\1<=x/\x<m/\1<=y/\y<m
def qIz (K:PySem.W.Frag):Sp:=fun vs H Q _ => ∃(t:Addr) (k:Nat) (m:Int),vs = [.ref t,.int m]/\Tape H t k/\k+30<=2^40/\1<=m/\m<=12 /\
 ∀(l:Addr) (nx:List (List Int)) (H':Hp),H l=none->Tape H' t (k+30)->Ext [t] H H'->NxOk m nx->Den K (yo H [t] H') (.list (nx.map intsD)) (.ref l)->Q (.ref l) H'
section
variable {K:PySem.W.Frag} {σ : St} {H:Hp} {Q:VK} {l d:Addr} {xs:List V} {i j:Int} {v y:V} {to ta tb te td ty tk tv tx:TE} {tl:TA} {wi:TI} {g:TG} {tts:List TT} {D:Ends} {tb2:TS}
theorem qVn {T:String} {r:V->List V->Hp->VK->Prop} (h:to σ H fun x H1=>tyV K T x H1/\tl σ H1 fun xs H2=>r x xs H2 Q):tBM K T r to tl σ H Q:=h
theorem qUc {T:String} {r:V->List V->Hp->VK->Prop} (h:to σ H fun x H1=>tyV K T x H1/\r x [] H1 Q):tBM0 K T r to σ H Q:=h
theorem qVp {R:Prop} {kvs:List (Key×V)} (h:H d=some (.dK kvs)) (q:R):tyV K "dict" (.ref d) H/\R:=⟨.inr (.inr (.inl ⟨rfl,.inl ⟨_,h⟩⟩)),q⟩
theorem qMg {own:List Str} {cap:List Nat} {o:HO} {Bof:Addr->TB} (h:wi σ H fun J H1 => ∀l,H1 l=none->LoopT J g (tAll tts) (Bof l) (qEr own cap σ) (upd H1 l o) fun _ H2=>Q (.ref l) H2):tComp own cap o wi g tts Bof σ H Q:=h
theorem qJ7 {R:It->Hp->Prop} (h:te σ H fun x H1 => ∃a,x = .ref a/\(∃xs,SqL K H1 a xs)/\R (Itl K a) H1):iList K te σ H R:=h
theorem qMc {R:It->Hp->Prop} (h:tl σ H fun vs H1 => ∃a,vs = [.ref a]/\(∃xs,SqL K H1 a xs)/\R (Ite K a) H1):iEnum K tl σ H R:=h
theorem qMd {R:It->Hp->Prop} (h:te σ H fun x H1 => ∃d kvs,x = .ref d/\H1 d=some (.dK kvs) /\ ∀o,R (Itd d o kvs) (upd H1 d (.frz o (.dK kvs)))):iDict te σ H R:=h
theorem qQp {R:It->Hp->Prop} (h:te σ H fun x H1 => ∃a,x = .ref a/\(∃xs,SqT K H1 a xs)/\R (Itt K a) H1):iTup K te σ H R:=h
theorem qQm {R:It->Hp->Prop} (h:tl σ H fun vs H1 => ∃j:Int,vs = [.int j] /\ -(2^62)<=j/\j<2^62/\R (Itr 0 j.toNat) H1):iRng1 tl σ H R:=h
theorem qU8 (h:wi σ H fun J H1 => ∃W:Nat->Nat->St->Hp->Prop,(∃m,W 0 m σ H1) /\ ∀i m σ H,W i m σ H ->
 (J.stop i H/\D.nx σ H)\/(J.go i H /\ ∃N:St->Hp->Prop,(∀ σ' H',N σ' H' -> ∃m',m'<m/\W (i+1) m' σ' H') /\ ∀x H',J.yld i H x H'->g x σ H' fun σ2 H2=>tb2 { D with nx:=N,ct:=N,bk:=D.nx } σ2 H2)):tFor wi g tb2 D σ H:=h
theorem qH2 (h : ∀p,H p=none->Q (.ref p) (upd H p (.dK []))):qQe σ H Q:=h
theorem qUb (h:ty σ H fun y H1=>td σ H1 fun x H2 => ∃a o,x = .ref a/\DGet H2 a y o/\Q (.bl o.isSome) H2):tDIn ty td σ H Q:=h
theorem qK2 (h:ty σ H fun y H1=>td σ H1 fun x H2 => ∃a o,x = .ref a/\DGet H2 a y o/\Q (.bl (!o.isSome)) H2):qLs ty td σ H Q:=h
theorem qQt (h:td σ H fun x H1=>ty σ H1 fun y H2 => ∃a v,x = .ref a/\DGet H2 a y (some v)/\Q v H2):tDGet td ty σ H Q:=h
theorem qMf (h:td σ H fun x H1 => ∃a,x = .ref a/\IsD H1 a/\ty σ H1 fun y H2=>tx σ H2 fun z H3 => ∃o,DGet H3 a y o/\Q (o.getD z) H3):qQg td ty tx σ H Q:=h
theorem qQs (h:tv σ H fun v H1=>td σ H1 fun x H2=>ty σ H2 fun y H3 => ∃a H4,x = .ref a/\DPut H3 a y v H4/\D.nx σ H4):sDPut td ty tv D σ H:=h
theorem qQv {R:St->Hp->Prop} (h:te σ H fun v H1 => ∃vs,H1 l=some (.lst vs)/\vs.length<sizeLine/\R σ (upd H1 l (.lst (vs ++ [v])))):eApp te l σ H R:=h
theorem qQn {R:St->Hp->Prop} (h:tk σ H fun x H1=>tv σ H1 fun y H2 => ∃kvs k,x=kV k/\H2 l=some (.dK kvs)/\kvs.length<sizeLine/\R σ (upd H2 l (.dK (putK kvs k y)))):ePut tk tv l σ H R:=h
theorem qQx {R:Bool->Hp->Prop} (h:R true H):tAll [] σ H R:=h
theorem qQw {tt:TT} {R:Bool->Hp->Prop} (h:tt σ H fun b H1=>if b=true then R true H1 else R false H1):tAll [tt] σ H R:=h
theorem qD3 {n:Nat} {t:TGs} {R:St->Hp->Prop} (h:SqT K H l xs) (hn:xs.length=n) (q:t xs σ H R):gTup K n t (.ref l) σ H R:=⟨l,xs,rfl,h,hn,q⟩
theorem qMe {t:TG} {u:TGs} {R:St->Hp->Prop} (h:t v σ H fun σ' H'=>u xs σ' H' R):gCons t u (v::xs) σ H R:=⟨v,xs,rfl,h⟩
theorem qQr {R:St->Hp->Prop} (h:R σ H):gNil [] σ H R:=⟨rfl,h⟩
theorem qW2 {r:V->Option Int->Option Int->Hp->VK->Prop} {t1 t2:TO} (h:te σ H fun x H1=>t1 σ H1 fun l H2=>t2 σ H2 fun u H3=>r x l u H3 Q):tSl r te t1 t2 σ H Q:=h
theorem qU1 {R:Option Int->Hp->Prop} (h:R none H):qLr σ H R:=h
theorem qQo {R:Option Int->Hp->Prop} (h:te σ H fun x H1 => ∃i,x = .int i/\R (some i) H1):tPart te σ H R:=h
end
def Nx (N A:St->Hp->Prop):Prop := ∀ σ H,A σ H->N σ H
theorem qBq {N A:St->Hp->Prop} {σ : St} {H:Hp} (h:Nx N A) (q:A σ H):N σ H:=h σ H q
def NxV (Q' Q:VK):Prop := ∀v H,Q v H->Q' v H
theorem qVe {Q' Q:VK} {v:V} {H:Hp} (h:NxV Q' Q) (q:Q v H):Q' v H:=h v H q
theorem qIf {K:PySem.W.Frag} {a:Addr} {xs:List V} {g:TG} {tb:TS} {D:Ends} {σ : St} {H:Hp} (Pv:Nat->St->Hp->Prop) (h0:Pv 0 σ H) (hl : ∀i σ H,i<=xs.length->Pv i σ H->SqL K H a xs)
  (hs : ∀i x σ H,xs[i]? = some x->Pv i σ H -> ∀(N B C:St->Hp->Prop) (R:VK),Nx N (Pv (i+1))->Nx C (Pv (i+1))->NxV R D.rt->g x σ H fun σ2 H2=>tb ⟨N,R,B,C⟩ σ2 H2) (hd : ∀ σ H,Pv xs.length σ H->D.nx σ H) :
  ∃W:Nat->Nat->St->Hp->Prop,(∃m,W 0 m σ H) /\ ∀i m σ H,W i m σ H ->
   ((Itl K a).stop i H/\D.nx σ H)\/((Itl K a).go i H /\ ∃N:St->Hp->Prop,(∀ σ' H',N σ' H' -> ∃m',m'<m/\W (i+1) m' σ' H') /\ ∀x H',(Itl K a).yld i H x H'->g x σ H' fun σ2 H2=>tb { D with nx:=N,ct:=N,bk:=D.nx } σ2 H2) :=
 qPx Pv h0 hl (fun i x σ H hx hp=>hs i x σ H hx hp _ _ _ _ (fun _ _ h=>h) (fun _ _ h=>h) (fun _ _ h=>h)) hd
theorem qC3 {lo:Int} {n:Nat} {g:TG} {tb:TS} {D:Ends} {σ : St} {H:Hp} (Pv:Nat->St->Hp->Prop) (h0:Pv 0 σ H)
  (hs : ∀i σ H,i<n->Pv i σ H -> ∀(N B C:St->Hp->Prop) (R:VK),Nx N (Pv (i+1))->Nx C (Pv (i+1))->NxV R D.rt->g (.int (lo+i)) σ H fun σ2 H2=>tb ⟨N,R,B,C⟩ σ2 H2) (hd : ∀ σ H,Pv n σ H->D.nx σ H) :
  ∃W:Nat->Nat->St->Hp->Prop,(∃m,W 0 m σ H) /\ ∀i m σ H,W i m σ H ->
   ((Itr lo n).stop i H/\D.nx σ H)\/((Itr lo n).go i H /\ ∃N:St->Hp->Prop,(∀ σ' H',N σ' H' -> ∃m',m'<m/\W (i+1) m' σ' H') /\ ∀x H',(Itr lo n).yld i H x H'->g x σ H' fun σ2 H2=>tb { D with nx:=N,ct:=N,bk:=D.nx } σ2 H2) :=
 qNd Pv h0 (fun i σ H hx hp=>hs i σ H hx hp _ _ _ _ (fun _ _ h=>h) (fun _ _ h=>h) (fun _ _ h=>h)) hd
theorem qQk {t u:TS} {D:Ends} {σ : St} {H:Hp} (h : ∀N:St->Hp->Prop,Nx N (u D)->t ⟨N,D.rt,D.bk,D.ct⟩ σ H):tSeq t u D σ H:=h _ fun _ _ h=>h
theorem qU7 {tt:TT} {A B:TS} {D:Ends} {σ : St} {H:Hp} (h : ∀A' B':St->Hp->Prop,Nx A' (A D)->Nx B' (B D)->tt σ H fun c H1=>if c=true then A' σ H1 else B' σ H1):tIfS tt A B D σ H:=h _ _ (fun _ _ h=>h) fun _ _ h=>h
theorem hide {B:Prop} (h : ∀G:Prop,(B->G)->G):B:=h B id
inductive Deed where
 | set (b n:Int)
 | add (b o:Int)
 | tell (b:Int)
 | call (c:Int)
 | save (b:Int)
 | back (b:Int)
def deedD:Deed->PyData
 | .set b n =>.tuple [.str "set",.int b,.int n]
 | .add b o =>.tuple [.str "add",.int b,.int o]
 | .tell b =>.tuple [.str "tell",.int b]
 | .call c =>.tuple [.str "call",.int c]
 | .save b =>.tuple [.str "save",.int b]
 | .back b =>.tuple [.str "back",.int b]
def qIt (works:Int):Deed->Prop
 | .set b n=>0<=b/\b<8 /\ -(10^12)<=n/\n<=10^12
 | .add b o=>0<=b/\b<8/\0<=o/\o<8
 | .tell b=>0<=b/\b<8
 | .call c=>0<=c/\c<works
 | .save b=>0<=b/\b<8
 | .back b=>0<=b/\b<8
def endD:List Int->PyData
 | [] =>.tuple [.str "out"]
 | [x] =>.tuple [.str "go",.int x]
 | x::y::_ =>.tuple [.str "fork",.int x,.int y]
structure Blk where
 ds:List Deed
 ns:List Int
def blkD (b:Blk):PyData :=.tuple [.list (b.ds.map deedD),endD b.ns]
def workD (w:List Blk):PyData :=.list (w.map blkD)
def NsOk (m:Int) (ns:List Int):Prop:=ns = []\/(∃x,ns = [x]/\1<=x/\x<m) \/ ∃x y,ns = [x,y]/\x≠y/\1<=x/\x<m/\1<=y/\y<m
structure BlkOk (m works:Int) (b:Blk):Prop where
 ns:NsOk m b.ns
 ds : ∀d∈b.ds,qIt works d
 few:b.ds.length<=20
structure WorkOk (m works:Int) (w:List Blk):Prop where
 len:(w.length:Int)=m
 blk : ∀b∈w,BlkOk m works b
structure BsOk (bs:List Int):Prop where
 one:1<=bs.length
 few:bs.length<=8
 all : ∀b∈bs,0<=b/\b<8
theorem qU5 {k c:Nat} {lo hi:Int} {t:Addr} {H:Hp} {Q:VK} {E:XK} (hT:Tape H t k) (hk:k+c<=2^40) (q : ∀r H',lo<=r->r<=hi->Tape H' t (k+c)->Ext [t] H H'->Q (.int r) H'):qRi c lo hi ([.ref t] ++ []) H Q E:=⟨t,k,rfl,hT,hk,q⟩
theorem qEc {ns:List Int} {r:Int} (h0:0<=r) (h1:r<ns.length) : ∃n,n∈ns/\atI (ns.map V.int) r=some (.int n):=by
 obtain⟨j,rfl⟩:=Int.eq_ofNat_of_zero_le h0
 have hj:j<ns.length:=by exact_mod_cast h1
 refine⟨ns[j],List.getElem_mem hj,?_⟩
 have:=qBf (xs:=ns.map V.int) (j:=j) (by rw [List.getElem?_map,List.getElem?_eq_getElem hj];rfl)
 exact this
section
variable {X:Cx}
def qUi:List V->Hp->VK->Prop:=fun xs H Q => ∃j:Int,xs = [.int j] /\ ∀l,H l=none->Q (.ref l) (upd H l (.rng 0 j))
theorem qJn:CallR X (.type "range") qUi:=by
 intro pins s σ H xs us Q I r h
 obtain⟨j,rfl,q⟩:=h
 obtain⟨u,rfl,t,rfl⟩:=vals1 r
 refine call_range_1 ⟨.ref s.heap.objs.size,_,?_,rfl,q _ (I.hok.fresh (Nat.le_refl _))⟩
 exact I.laid (fun b o e=>Heap.get?_push_of_some _ e) (Nat.le_refl _) ⟨_,_,_,Heap.get?_push_size _ rfl⟩
def qOn:List V->Hp->VK->Prop:=fun xs H Q => ∃(p:Addr) (j:Nat),xs = [.ref p]/\H p=some (.rng 0 j)/\j<=1000 /\ ∀l,H l=none->Q (.ref l) (upd H l (.lst ((List.range j).map fun (i:Nat)=>V.int (i:Int))))
theorem qHi (hh:X.A.handled=none):CallR X (.type "list") qOn:=by
 intro pins s σ H xs us Q I r h
 obtain⟨p,j,rfl,hp,hj,q⟩:=h
 obtain⟨u,rfl,rx⟩:=vals1 r
 cases rx
 obtain⟨t,u,v,e⟩ : ∃t u v,s.heap.get? p=some { cls :=.type "range",data :=.fields #[.int 0 t,.int (j:Int) u,.int 1 v] }:=I.hok p _ hp
 refine call_list_range hh e (small_one (by decide) (by decide) (by omega) (by omega)) (n:=j) (by rw [rangeSize_one];split <;> omega) (by omega) fun h' tk acc c kp hS hI => ?_
 refine⟨.ref s.heap.objs.size,_,I.laid (o :=.lst ((List.range j).map fun (i:Nat)=>V.int (i:Int))) kp (Nat.le_refl _) (show _/\_ from⟨?_,acc.toList,c,?_,?_⟩),rfl,q _ (I.hok.fresh (Nat.le_refl _))⟩
 ·rw [List.length_map,List.length_range];exact len2 hj
 ·have hl:acc.toList.length=j:=by rw [Array.length_toList];exact hI.1
  have hv : ∀(i:Nat) v,acc.toList[i]? = some v -> ∃t,v=Value.int (i:Int) t:=fun i v hv=>by
   obtain⟨t,h⟩:=hI.2 i v (by rw [<-hv,Array.getElem?_toList])
   exact⟨t,by rw [h];congr 1;omega⟩
  generalize acc.toList=us at hl hv
  subst hl
  have key : ∀(us:List Value) (k:Nat),(∀(i:Nat) v,us[i]? = some v -> ∃t,v=Value.int ((k+i:Nat):Int) t)->Vals ((List.range' k us.length).map fun (i:Nat)=>V.int (i:Int)) us:=by
   intro us
   induction us with
   | nil=>intro k _;exact .nil
   | cons u us ih =>
    intro k h
    obtain⟨t,rfl⟩:=h 0 u rfl
    refine .cons ⟨t,rfl⟩ (ih (k+1) fun i v e => ?_)
    obtain⟨t,e⟩:=h (i+1) v e
    exact⟨t,by rw [e];congr 1;omega⟩
  have:=key us 0 (fun i v e=>by obtain⟨t,h⟩:=hv i v e;exact⟨t,by rw [h];congr 1;omega⟩)
  rwa [<-List.range_eq_range'] at this
 ·rw [Array.toArray_toList];exact hS
variable {K:PySem.W.Frag}
theorem qCf (K:PySem.W.Frag) (hK:X.K=K):IxR X (rIxL K):=hK▸qAa
theorem qN8 (K:PySem.W.Frag) (hK:X.K=K):IxR X (rIxT K):=hK▸qAm
theorem qRk (K:PySem.W.Frag) (hK:X.K=K):SlR X (rSlT K):=hK▸qQh
theorem qPr (K:PySem.W.Frag) (hK:X.K=K):CallR X (.builtin "len") (fun xs H Q => ∃p ys,xs = [.ref p]/\(SqL K H p ys\/SqT K H p ys)/\Q (.int ys.length) H):=hK▸qAf
theorem qPp (K:PySem.W.Frag) (hK:X.K=K):CallR X (.type "list") (fun xs H Q => ∃p ys,xs = [.ref p]/\(SqL K H p ys\/SqT K H p ys) /\ ∀l,H l=none->Q (.ref l) (upd H l (.lst ys))):=hK▸qBi
theorem qK8 (K:PySem.W.Frag) (hK:X.K=K) {tg l:Expr} {tl:TE} (hl:PE X l tl):PI X tg l (iList K tl):=hK▸qCs hl
theorem qEi (K:PySem.W.Frag) (hK:X.K=K) {es:List Expr} {pos:Pos} {k:Nat} {t:TGs} {n:Nat} (hc:X.calm=true) (h:PGs X es t)
  (hn:(assignEach es X.env).length=n:=by rfl) (hst:(assignEach es X.env).findIdx? (·.1)=none:=by rfl):PG X (.Tuple es k pos) (gTup K n t):=hK▸qGk hc h hn hst
theorem qUq (K:PySem.W.Frag) (hK:X.K=K) {T:String} {name:Str} {id:String} {r:V->List V->Hp->VK->Prop} {o e:Expr} {es:List Expr} {to:TE} {t:TA} {apos cpos:Pos} (pa:PlainAttrs T) (slot:Slot T name id) (hty:typeOf (.builtin id)=pure (.type "method_descriptor")) (hm:MtR X id r) (ho:PE X o to) (ha:PA X (e::es) t)
  (hbase:attributeBase o name X.env (eval o X.env)=eval o X.env:=by rfl)
  (hfew:((backTo cpos (starEach (e::es) X.env)).all (fun x => !x.1)&&(backToKw cpos (keywordEach [] X.env)).all (fun x=>x.1.isSome)
   && decide ((e::es).length+([]:List Keyword).length+(if ([]:List Keyword).isEmpty then 0 else 1)<30))=true:=by rfl)
  (hline:(apos.endLine == cpos.line)=true:=by rfl) (hs:starEach (e::es) X.env=(false,eval e X.env)::starEach es X.env:=by rfl) (hplain:(backTo cpos (starEach es X.env)).any (·.1)=false:=by rfl) :
  PE X (.Call (.Attribute o name apos) (e::es) [] cpos) (tBM K T r to t):=hK▸qDs pa slot hty hm ho ha hbase hfew hline hs hplain
theorem qTm {j n:Nat} (h:j<n):seqIndex? (j:Int) n=some j:=by
 show (if (decide (0<=if (j:Int)<0 then (j:Int)+n else j)&&decide ((if (j:Int)<0 then (j:Int)+n else j)<n))=true then some (if (j:Int)<0 then (j:Int)+n else (j:Int)).toNat else none)=some j
 have e:(if (j:Int)<0 then (j:Int)+n else (j:Int))=j:=if_neg (by omega)
 rw [e,decide_eq_true (show (0:Int)<=j by omega),decide_eq_true (show (j:Int)<n by omega)]
 rfl
theorem qI7 {α β : Type} {f : α -> β} : ∀(l:List α) (n:Nat),(l.eraseIdx n).map f=(l.map f).eraseIdx n
 | [],_=>rfl
 | _::_,0=>rfl
 | a::l,n+1=>congrArg (f a :: ·) (qI7 l n)
end
abbrev nexD (w:List Blk):PyData :=.list (w.map fun b=>intsD b.ns)
def qM5 (K:PySem.W.Frag):Sp:=fun vs H Q _ => ∃(a:Addr) (w:List Blk),vs = [.ref a]/\Den K H (workD w) (.ref a)/\(∀b∈w,b.ns.length<=2)/\w.length<=12 /\
 ∀(l:Addr) (H':Hp),H l=none->Ext [] H H'->Den K (yo H [] H') (nexD w) (.ref l)->Q (.ref l) H'
theorem qT8 {ns:List Int} (h:ns.length<=2) : ∃w:Str,endD ns = .tuple (.str w::ns.map .int):=by
 match ns,h with
 | [],_=>exact⟨_,rfl⟩
 | [x],_=>exact⟨_,rfl⟩
 | [x,y],_=>exact⟨_,rfl⟩
theorem Ext.toSame {H H':Hp} (e:Ext [] H H'):Same H H':=fun b o h=>e b o (by simp) h
abbrev pairD (p:Int×Int):PyData :=.tuple [.int p.1,.int p.2]
abbrev qUs (ps:List (Int×Int)):PyData :=.list (ps.map pairD)
def srt:List Int->List Int
 | [x,y]=>if x<=y then [x,y] else [y,x]
 | l=>l
def outs (m i:Int) (ns:List Int):List (Int×Int):=(srt ns).map (fun x=>(i,x))++(if ns = [] then [(i,m)] else [])
def qAi (w:List Blk):Nat->List (Int×Int)
 | 0 =>[(-1,0)]
 | i+1=>qAi w i++outs w.length i ((w[i]?.map Blk.ns).getD [])
def qHp (K:PySem.W.Frag):Sp:=fun vs H Q _ => ∃(a:Addr) (w:List Blk) (m works:Int),vs = [.ref a]/\Den K H (workD w) (.ref a)/\WorkOk m works w/\m<=12 /\
 ∀(l:Addr) (H':Hp),H l=none->Ext [] H H'->Den K (yo H [] H') (qUs (qAi w w.length)) (.ref l)->Q (.ref l) H'
theorem NsOk.few {m:Int} {ns:List Int} (h:NsOk m ns):ns.length<=2:=by
 rcases h with h | ⟨x,h,_⟩ | ⟨x,y,h,_⟩ <;> subst h <;> simp
theorem NsOk.range {m:Int} {ns:List Int} (h:NsOk m ns) : ∀x∈ns,1<=x/\x<m:=by
 rcases h with h | ⟨x,h,h1,h2⟩ | ⟨x,y,h,_,h1,h2,h3,h4⟩ <;> subst h <;> intro z hz
 ·cases hz
 ·rw [List.mem_singleton.mp hz];exact⟨h1,h2⟩
 ·rcases List.mem_cons.mp hz with e | e
  ·rw [e];exact⟨h1,h2⟩
  ·rw [List.mem_singleton.mp e];exact⟨h3,h4⟩
theorem qTl {m:Int} {ns ns':List Int} (h:NsOk m ns) (hp:ns'.Perm ns) (hs:ns'.Pairwise (· <= ·)):ns'=srt ns:=by
 rcases h with h | ⟨x,h,_⟩ | ⟨x,y,h,hne,_⟩ <;> subst h
 ·exact List.perm_nil.mp hp
 ·exact List.perm_singleton.mp hp
 ·match ns',hp.length_eq with
  | [a,b],_ =>
   have ha:a=x\/a=y:=by simpa using hp.subset (List.mem_cons_self ..)
   have hb:b=x\/b=y:=by simpa using hp.subset (List.mem_cons_of_mem _ (List.mem_singleton.mpr rfl))
   have hx:x=a\/x=b:=by simpa using hp.symm.subset (List.mem_cons_self ..)
   have hy:y=a\/y=b:=by simpa using hp.symm.subset (List.mem_cons_of_mem _ (List.mem_singleton.mpr rfl))
   have hab:a<=b:=by simpa using hs
   show [a,b]=if x<=y then [x,y] else [y,x]
   split
   ·have:a=x/\b=y:=by omega
    rw [this.1,this.2]
   ·have:a=y/\b=x:=by omega
    rw [this.1,this.2]
theorem qLw {ns:List Int}:(srt ns).length=ns.length:=by
 unfold srt
 split
 ·split <;> rfl
 ·rfl
theorem qOz {m i:Int} {ns:List Int} (h:ns.length<=2):(outs m i ns).length<=2:=by
 unfold outs
 rw [List.length_append,List.length_map,qLw]
 split
 ·next h=>subst h;exact Nat.le_succ 1
 ·simp;omega
theorem qBr {w:List Blk} (h : ∀b∈w,b.ns.length<=2) : ∀i,(qAi w i).length<=1+2*i
 | 0=>Nat.le_refl _
 | i+1=>by
  have:=qBr h i
  have h2:((w[i]?.map Blk.ns).getD []).length<=2:=by
   cases z:w[i]? with
   | none=>decide
   | some b=>exact h b (List.mem_of_getElem? z)
  have:=qOz (m:=w.length) (i:=i) h2
  show (qAi w i++outs _ _ _).length<=_
  rw [List.length_append];omega
theorem qIi (ns:List Int):PyData.eqv (intsD ns) (.list [])=decide (ns = []):=by
 cases ns with
 | nil=>rfl
 | cons x r=>rfl
theorem qM6 {m:Int} {ns:List Int} (h:NsOk m ns):SeqAt.shaped (intsD ns)=true:=by
 rcases h with h | ⟨x,h,_⟩ | ⟨x,y,h,_⟩ <;> subst h <;> rfl
theorem inK {X:Cx} (K:PySem.W.Frag) (hK:X.K=K):OpR X (compareOp .In) (rIn K false):=hK▸qI3
theorem qJh {α β : Type} {f : α -> β} {l:List α} {i:Nat} {y : β} (h:(l.map f)[i]? = some y) : ∃x,l[i]? = some x/\y=f x:=by
 rw [List.getElem?_map] at h
 cases z:l[i]? with
 | none=>rw [z] at h;cases h
 | some x=>rw [z] at h;exact⟨x,rfl,(Option.some.inj h).symm⟩
theorem qO5 {α : Type} {l:List α} {i:Nat} {x : α} (h:l[i]? = some x):l.take (i+1)=l.take i ++ [x]:=by rw [List.take_add_one,h];rfl
def nxt (w:List Blk) (i:Int):List Int:=if 0<=i then ((w[i.toNat]?).map Blk.ns).getD [] else []
theorem qR1 {m works:Int} {w:List Blk} (h:WorkOk m works w) (i:Int):NsOk m (nxt w i):=by
 unfold nxt
 split
 ·cases z:w[i.toNat]? with
  | none=>exact .inl rfl
  | some b=>exact (h.blk b (List.mem_of_getElem? z)).ns
 ·exact .inl rfl
section
variable (nx:Int->List Int) (a:Int)
def lay:Nat->List Int×List Int
 | 0=>([],[a])
 | j+1=>let f:=(lay j).2.flatMap fun b=>(nx b).filter fun x => !decide (x∈(lay j).1);((lay j).1++f,f)
variable {nx a}
end
def ltP (p q:Int×Int):Prop:=p.1<q.1\/(p.1=q.1/\p.2<q.2)
theorem ltP.irr {p:Int×Int} : ¬ltP p p:=by rintro (h | ⟨_,h⟩) <;> omega
theorem ltP.trans {p q r:Int×Int} (h1:ltP p q) (h2:ltP q r):ltP p r:=by
 rcases h1 with h1 | ⟨h1,h1'⟩ <;> rcases h2 with h2 | ⟨h2,h2'⟩ <;> first | (left;omega) | (right;omega)
theorem qHu : ∀ {l1 l2:List (Int×Int)},l1.Pairwise ltP->l2.Pairwise ltP->(∀p,p∈l1↔p∈l2)->l1=l2
 | [],[],_,_,_=>rfl
 | [],q::l2,_,_,h=>absurd ((h q).mpr (List.mem_cons_self ..)) (by simp)
 | p::l1,[],_,_,h=>absurd ((h p).mp (List.mem_cons_self ..)) (by simp)
 | p::l1,q::l2,h1,h2,h=>by
  rw [List.pairwise_cons] at h1 h2
  have e:p=q:=by
   rcases List.mem_cons.mp ((h p).mp (List.mem_cons_self ..)) with z | z
   ·exact z
   ·rcases List.mem_cons.mp ((h q).mpr (List.mem_cons_self ..)) with y | y
    ·exact y.symm
    ·exact absurd ((h2.1 p z).trans (h1.1 q y)) ltP.irr
  subst e
  refine congrArg (p :: ·) (qHu h1.2 h2.2 fun x=>⟨fun hx => ?_,fun hx => ?_⟩)
  ·rcases List.mem_cons.mp ((h x).mp (List.mem_cons_of_mem _ hx)) with z | z
   ·rw [z] at hx;exact absurd (h1.1 p hx) ltP.irr
   ·exact z
  ·rcases List.mem_cons.mp ((h x).mpr (List.mem_cons_of_mem _ hx)) with z | z
   ·rw [z] at hx;exact absurd (h2.1 p hx) ltP.irr
   ·exact z
def tOf (p:Int×Int):List Int :=[p.1,p.2]
def pOf (t:List Int):Int×Int:=(t.getD 0 0,t.getD 1 0)
theorem qJ9 (p:Int×Int):pOf (tOf p)=p:=rfl
theorem qPq {p q:Int×Int} (h:HT.lexLt (tOf q) (tOf p)=false) (hne:p≠q):ltP p q:=by
 obtain⟨a,b⟩:=p
 obtain⟨c,d⟩:=q
 have h:HT.lexLt [c,d] [a,b]=false:=h
 rw [HT.lexLt_cons,HT.lexLt_cons] at h
 have hne : ¬(a=c/\b=d):=fun z=>hne (by rw [z.1,z.2])
 show a<c\/(a=c/\b<d)
 by_cases h1:c=a
 ·rw [if_pos h1] at h
  by_cases h2:d=b
  ·exact absurd ⟨h1.symm,h2.symm⟩ hne
  ·rw [if_neg h2] at h
   have:=of_decide_eq_false h
   omega
 ·rw [if_neg h1] at h
  have:=of_decide_eq_false h
  omega
theorem DenL.ofAll {K:PySem.W.Frag} {G:Hp} {α : Type} {f : α -> PyData} {g : α -> V} : ∀ {l:List α},(∀x∈l,Den K G (f x) (g x))->DenL K G (l.map f) (l.map g)
 | [],_ =>.nil
 | _::_,h =>.cons (h _ (List.mem_cons_self ..)) (DenL.ofAll fun x hx=>h x (List.mem_cons_of_mem _ hx))
theorem qLp {K:PySem.W.Frag} {G H:Hp} (e:Same G H) : ∀ {ps:List (Int×Int)} {vs:List V},DenL K G (ps.map pairD) vs->TupI K H vs (ps.map tOf)
 | [],vs,h=>by have:=h.ofNil;subst this;exact .nil
 | p::ps,vs,h=>by
  obtain⟨v,r,rfl,h1,h2⟩:=h.ofCons
  obtain⟨a,us,rfl,hs,hd⟩:=h1.ofTuple
  have hd:DenL K G ([p.1,p.2].map PyData.int) us:=hd
  have:=hd.ints
  subst this
  exact .cons ⟨a,rfl,e.seqT hs⟩ (qLp e h2)
theorem qNg {K:PySem.W.Frag} {G:Hp} : ∀ {ps:List (Int×Int)} {vs:List V},DenL K G (ps.map pairD) vs -> ∀x∈vs.zip (ps.map tOf),∃p,p∈ps/\x.2=tOf p/\Den K G (pairD p) x.1
 | [],vs,h=>by have:=h.ofNil;subst this;intro x hx;cases hx
 | p::ps,vs,h=>by
  obtain⟨v,r,rfl,h1,h2⟩:=h.ofCons
  intro x hx
  rcases List.mem_cons.mp (show x∈(v,tOf p)::r.zip (ps.map tOf) from hx) with z | z
  ·rw [z];exact⟨p,List.mem_cons_self ..,rfl,h1⟩
  ·obtain⟨p',hp,h3,h4⟩:=qNg h2 x z
   exact⟨p',List.mem_cons_of_mem _ hp,h3,h4⟩
theorem qHr {K:PySem.W.Frag} {G:Hp} {ps:List (Int×Int)} {vs:List V} {res:List (V×List Int)} (hd:DenL K G (ps.map pairD) vs) (hn:ps.Nodup) (hp:res.Perm (vs.zip (ps.map tOf))) (hs:(res.map (·.2)).Pairwise (fun a b=>HT.lexLt b a=false)) :
  ∃ps':List (Int×Int),DenL K G (ps'.map pairD) (res.map (·.1))/\ps'.Pairwise ltP /\ ∀p,p∈ps'↔p∈ps:=by
 have hall : ∀x∈res,∃p,p∈ps/\x.2=tOf p/\Den K G (pairD p) x.1:=fun x hx=>qNg hd x (hp.mem_iff.mp hx)
 have hlen:vs.length=(ps.map tOf).length:=by rw [hd.len,List.length_map,List.length_map]
 have hperm:(res.map fun x=>pOf x.2).Perm ps:=by
  have h1:=hp.map fun x=>pOf x.2
  have h2:(vs.zip (ps.map tOf)).map (fun x=>pOf x.2)=ps:=by
   rw [show (vs.zip (ps.map tOf)).map (fun x=>pOf x.2)=((vs.zip (ps.map tOf)).map (fun x=>x.2)).map pOf by rw [List.map_map];rfl]
   rw [show (vs.zip (ps.map tOf)).map (fun x=>x.2)=ps.map tOf from List.map_snd_zip (by omega)]
   rw [List.map_map]
   exact List.map_id' ps
  rw [h2] at h1
  exact h1
 refine⟨res.map fun x=>pOf x.2,?_,?_,fun p=>hperm.mem_iff⟩
 ·rw [List.map_map]
  refine DenL.ofAll fun x hx => ?_
  obtain⟨p,_,h2,h3⟩:=hall x hx
  show Den K G (pairD (pOf x.2)) x.1
  rw [h2,qJ9];exact h3
 ·have hnd:(res.map fun x=>pOf x.2).Nodup:=hperm.nodup_iff.mpr hn
  have hs':(res.map fun x=>pOf x.2).Pairwise (fun p q=>HT.lexLt (tOf q) (tOf p)=false):=by
   rw [List.pairwise_map] at hs ⊢
   refine hs.imp_of_mem fun {x y} hx hy h => ?_
   obtain⟨p,_,h2,_⟩:=hall x hx
   obtain⟨q,_,h3,_⟩:=hall y hy
   rw [h2,h3,qJ9,qJ9]
   rw [h2,h3] at h
   exact h
  exact (hs'.and hnd).imp fun {p q} h=>qPq h.1 h.2
def qFf (w:List Blk):Nat->List (Int×Int)
 | 0 =>[]
 | i+1=>qFf w i++outs w.length i ((w[i]?.map Blk.ns).getD [])
theorem qHk (w:List Blk) : ∀i,qAi w i=(-1,0)::qFf w i
 | 0=>rfl
 | i+1=>by
  show qAi w i++_=_
  rw [qHk w i];rfl
theorem qR2 (w:List Blk) (i:Nat):(w[i]?.map Blk.ns).getD []=nxt w (i:Int):=by
 unfold nxt
 rw [if_pos (by omega),Int.toNat_natCast]
theorem srt_mem {ns:List Int} {x:Int}:x∈srt ns↔x∈ns:=by
 unfold srt
 split
 ·split
  ·rfl
  ·simp only [List.mem_cons,List.not_mem_nil,or_false];constructor <;> (intro h;rcases h with h | h <;> simp [h])
 ·rfl
theorem mem_outs {m i:Int} {ns:List Int} {p:Int×Int}:p∈outs m i ns↔p.1=i/\(p.2∈ns\/(ns = []/\p.2=m)):=by
 unfold outs
 rw [List.mem_append,List.mem_map]
 constructor
 ·rintro (⟨x,hx,rfl⟩ | h)
  ·exact⟨rfl,.inl (srt_mem.mp hx)⟩
  ·split at h
   ·next e=>rw [List.mem_singleton.mp h];exact⟨rfl,.inr ⟨e,rfl⟩⟩
   ·cases h
 ·rintro⟨h1,h2 | ⟨h2,h3⟩⟩
  ·exact .inl ⟨p.2,srt_mem.mpr h2,by rw [<-h1]⟩
  ·refine .inr ?_
   rw [if_pos h2,List.mem_singleton,<-h1,<-h3]
theorem in_rest {w:List Blk} {p:Int×Int} : ∀ {n:Nat},p∈qFf w n ↔ ∃i:Nat,i<n/\p∈outs w.length i (nxt w i)
 | 0=>by
  constructor
  ·intro h;cases h
  ·rintro⟨i,h,_⟩;omega
 | n+1=>by
  show p∈qFf w n++outs _ _ _↔_
  rw [List.mem_append,in_rest,qR2]
  constructor
  ·rintro (⟨i,h1,h2⟩ | h)
   ·exact⟨i,by omega,h2⟩
   ·exact⟨n,by omega,h⟩
  ·rintro⟨i,h1,h2⟩
   by_cases e:i=n
   ·subst e;exact .inr h2
   ·exact .inl ⟨i,by omega,h2⟩
theorem qJa {m M i:Int} {ns:List Int} (h:NsOk M ns):(outs m i ns).Pairwise ltP:=by
 rcases h with h | ⟨x,h,_⟩ | ⟨x,y,h,hne,_⟩ <;> subst h
 ·show List.Pairwise ltP [(i,m)];simp
 ·show List.Pairwise ltP [(i,x)];simp
 ·show List.Pairwise ltP ((srt [x,y]).map (fun x=>(i,x)) ++ [])
  rw [List.append_nil]
  show List.Pairwise ltP ((if x<=y then [x,y] else [y,x]).map (fun x=>(i,x)))
  split
  ·simp only [List.map_cons,List.map_nil,List.pairwise_cons,List.mem_singleton,List.not_mem_nil,false_implies,implies_true,List.Pairwise.nil,and_true]
   rintro q rfl;exact .inr ⟨rfl,by show x<y;omega⟩
  ·simp only [List.map_cons,List.map_nil,List.pairwise_cons,List.mem_singleton,List.not_mem_nil,false_implies,implies_true,List.Pairwise.nil,and_true]
   rintro q rfl;exact .inr ⟨rfl,by show y<x;omega⟩
theorem qFe {m works:Int} {w:List Blk} (h:WorkOk m works w) : ∀n,(qFf w n).Pairwise ltP
 | 0 =>.nil
 | n+1=>by
  show (qFf w n++outs _ _ _).Pairwise ltP
  rw [qR2,List.pairwise_append]
  refine⟨qFe h n,qJa (qR1 h n),fun p hp q hq =>.inl ?_⟩
  obtain⟨i,hi,h2⟩:=in_rest.mp hp
  have:=(mem_outs.mp h2).1
  have:=(mem_outs.mp hq).1
  omega
theorem qHv {m works:Int} {w:List Blk} (h:WorkOk m works w) {p:Int×Int} (hp:p∈qFf w w.length):0<=p.1/\p.1<m/\1<=p.2/\p.2<=m/\(p.2<m->p.2∈nxt w p.1):=by
 have hl:=h.len
 obtain⟨i,hi,h2⟩:=in_rest.mp hp
 obtain⟨h3,h4⟩:=mem_outs.mp h2
 rcases h4 with h4 | ⟨h4,h5⟩
 ·have:=(qR1 h i).range _ h4
  exact⟨by omega,by omega,by omega,by omega,fun _=>by rw [h3];exact h4⟩
 ·exact⟨by omega,by omega,by omega,by omega,fun _=>by omega⟩
theorem cut1 (x:V) (xs:List V):cutV (x::xs) (some 1) none=xs:=by
 unfold cutV HT.sIx
 simp
theorem qC5 {X:Cx} {a:Expr} {ta:TE} (K:PySem.W.Frag) (hK:X.K=K) (ha:PE X a ta) (he : ∀whole,isTrue a X.env whole=(do let v <-whole;standAt a.pos;holding [v] (truthy v))) :
  PT X a (fun σ H Q=>ta σ H fun x H' => ∃k,TruV K x H' k/\Q k H'):=hK▸qOo ha he
def WorksAt (K:PySem.W.Frag) (G H:Hp) (as:List Addr) (ws:List (List Blk)):Prop:=Paired (fun a w => ∃bs,H a=some (.lst bs)/\DenL K G (w.map blkD) bs) as ws
theorem WorksAt.len {K:PySem.W.Frag} {G H:Hp} {as:List Addr} {ws:List (List Blk)} (h:WorksAt K G H as ws):as.length=ws.length:=Paired.length h
theorem WorksAt.mono {K:PySem.W.Frag} {G G' H H':Hp} (g:Same G G') : ∀ {as:List Addr} {ws:List (List Blk)},WorksAt K G H as ws->(∀a∈as,∀o,H a=some o->H' a=some o)->WorksAt K G' H' as ws
 | _,_,.nil,_ =>.nil
 | _,_,.cons ⟨bs,e,d⟩ r,k =>.cons ⟨bs,k _ (by simp) _ e,d.mono g⟩ (WorksAt.mono g r fun a ha o e=>k a (by simp [ha]) o e)
theorem WorksAt.get {K:PySem.W.Frag} {G H:Hp} : ∀ {as:List Addr} {ws:List (List Blk)} {i:Nat} {a:Addr},WorksAt K G H as ws->as[i]? = some a -> ∃w bs,ws[i]? = some w/\H a=some (.lst bs)/\DenL K G (w.map blkD) bs
 | _,_,_,_,.nil,e=>by simp at e
 | _,_,0,_,.cons ⟨bs,e,d⟩ _,h=>by simp at h;subst h;exact⟨_,bs,rfl,e,d⟩
 | _,_,i+1,a,.cons _ r,h=>by
  obtain⟨w,bs,h1,h2⟩:=WorksAt.get (i:=i) (a:=a) r (by simpa using h)
  exact⟨w,bs,by simpa using h1,h2⟩
theorem WorksAt.snoc {K:PySem.W.Frag} {G H:Hp} {a:Addr} {w:List Blk} {bs:List V} : ∀ {as:List Addr} {ws:List (List Blk)},WorksAt K G H as ws->H a=some (.lst bs)->DenL K G (w.map blkD) bs->WorksAt K G H (as ++ [a]) (ws ++ [w])
 | _,_,.nil,e,d =>.cons ⟨bs,e,d⟩ .nil
 | _,_,.cons h r,e,d =>.cons h (WorksAt.snoc r e d)
structure AllOk (works:Int) (ws:List (List Blk)):Prop where
 all : ∀w∈ws,∃m:Int,1<=m/\m<=12/\WorkOk m works w
 one:1<=ws.length
 few:ws.length<=10
section
variable {K:PySem.W.Frag} {a:Addr} {xs:List V} {g:TG} {tt:TT} {B:TB} {σ : St} {H:Hp} {Q:St->Hp->Prop}
theorem qPo (Pv:Nat->St->Hp->Prop) (h0:Pv 0 σ H) (hl : ∀i σ H,i<=xs.length->Pv i σ H->SqT K H a xs)
  (hs : ∀i x σ H (R:St->Hp->Prop),xs[i]? = some x->Pv i σ H->(∀ σ' H',Pv (i+1) σ' H'->R σ' H')->g x σ H fun σ2 H2=>tt σ2 H2 fun b H3=>if b=true then B σ2 H3 R else R σ2 H3)
  (hd : ∀ σ H,Pv xs.length σ H->Q σ H):LoopT (Itt K a) g tt B σ H Q:=by
 refine qFo (n:=xs.length) Pv h0 (fun i σ H hi p=>⟨xs,xs[i],hl i σ H (Nat.le_of_lt hi) p,by simp [hi]⟩) (fun σ H p=>⟨xs,hl _ σ H (Nat.le_refl _) p,Nat.le_refl _⟩) (fun i σ H R hi p hR x H' y => ?_) hd
 obtain⟨e,y⟩:=y
 subst e
 exact hs i x σ _ R (y xs (hl i σ _ (Nat.le_of_lt hi) p)) p hR
end
def qEp (m i:Int) (ns:List Int):List (Int×Int):=if ns = [] then [(i,m)] else ns.map fun x=>(i,x)
def rawTo (w:List Blk):Nat->List (Int×Int)
 | 0 =>[(-1,0)]
 | i+1=>rawTo w i++qEp w.length i ((w[i]?.map Blk.ns).getD [])
theorem qFg {M m i:Int} {ns:List Int} (h:NsOk M ns):(qEp m i ns).Perm (outs m i ns):=by
 unfold qEp outs
 rcases h with z | ⟨x,z,_⟩ | ⟨x,y,z,_⟩ <;> subst z
 ·exact .refl _
 ·exact .refl _
 ·rw [if_neg (by simp),if_neg (by simp),List.append_nil]
  refine List.Perm.map _ ?_
  unfold srt
  dsimp only
  split
  ·exact .refl _
  ·exact List.Perm.swap _ _ _
theorem qDd {m works:Int} {w:List Blk} (h:WorkOk m works w) : ∀n,(rawTo w n).Perm (qAi w n)
 | 0 =>.refl _
 | i+1=>by
  show (rawTo w i++qEp _ _ _).Perm (qAi w i++outs w.length i ((w[i]?.map Blk.ns).getD []))
  refine (qDd h i).append ?_
  cases e:w[i]? with
  | none=>exact qFg (M:=m) (.inl rfl)
  | some b=>exact qFg (h.blk b (List.mem_of_getElem? e)).ns
theorem qDo {m works:Int} {w:List Blk} (h:WorkOk m works w):(qAi w w.length).Pairwise ltP:=by
 rw [qHk]
 refine List.pairwise_cons.mpr ⟨fun p hp => ?_,qFe h _⟩
 have:=(qHv h hp).1
 exact .inl (by show (-1:Int)<p.1;omega)
theorem qHt {l:List (Int×Int)} (h:l.Pairwise ltP):l.Nodup:=h.imp fun {a b} hl e=>by subst e;exact ltP.irr hl
theorem qJ5 {m works:Int} {w:List Blk} (h:WorkOk m works w):(rawTo w w.length).Nodup:=(qDd h _).nodup_iff.mpr (qHt (qDo h))
theorem qHw {m works:Int} {w:List Blk} (h:WorkOk m works w) (i:Nat):(rawTo w i).length<=1+2*i:=by
 rw [(qDd h i).length_eq];exact qBr (fun b hb=>(h.blk b hb).ns.few) i
def qGx (K:PySem.W.Frag):Sp:=fun vs H Q _ => ∃(a:Addr) (w:List Blk) (m works:Int),vs = [.ref a]/\Den K H (workD w) (.ref a)/\WorkOk m works w/\m<=12 /\
 ∀(l:Addr) (us:List V) (H':Hp),H l=none->Ext [] H H'->H' l=some (.lst us)->DenL K (yo H [l] H') ((qAi w w.length).map pairD) us->Q (.ref l) H'
def wr:Deed->Option Int
 | .set b _=>some b
 | .add b _=>some b
 | _=>none
def qRa (w:List Blk):List Int:=w.flatMap fun b=>b.ds.filterMap wr
def boxes (w:List Blk):List Int:=((List.range 8).map fun (n:Nat)=>(n:Int)).filter fun b=>decide (b∈qRa w)
mutual
def tame:PyData->Bool
 | .int i=>decide (i.natAbs<10^13)
 | .str x=>x.cps.all (· < 0x110000)&&decide (x.cps.size<=10)
 | .list xs=>qBg xs
 | .tuple xs=>qBg xs
 | .none=>false
 | .bool _=>false
 | .dict _=>false
def qBg:List PyData->Bool
 | []=>true
 | x::xs=>tame x&&qBg xs
end
mutual
def cells:PyData->Nat
 | .list xs=>qCw xs
 | .tuple xs=>qCw xs
 | .int _=>0
 | .str _=>0
 | .none=>0
 | .bool _=>0
 | .dict _=>0
def qCw:List PyData->Nat
 | []=>0
 | x::xs=>cells x+1+qCw xs
end
theorem qR4 {n:Nat} (h:n<10^13):n.log2<44:=by
 by_cases hn:n=0
 ·subst hn;decide
 ·exact (Nat.log2_lt hn).mpr (Nat.lt_of_lt_of_le h (by decide))
mutual
theorem qHo : ∀d:PyData,tame d=true->PyData.showable d=true
 | .int i,h=>by
  have h1:i.natAbs<10^13:=by simpa only [tame,decide_eq_true_eq] using h
  have:=qR4 h1
  simp only [PyData.showable,decide_eq_true_eq];omega
 | .str x,_=>rfl
 | .list xs,h=>qD1 xs (by simpa only [tame] using h)
 | .tuple xs,h=>qD1 xs (by simpa only [tame] using h)
theorem qD1 : ∀ds:List PyData,qBg ds=true->PyData.showableAll ds=true
 | [],_=>rfl
 | x::xs,h=>by
  have h1:(tame x&&qBg xs)=true:=by simpa only [qBg] using h
  rw [Bool.and_eq_true] at h1
  simp only [PyData.showableAll,qHo x h1.1,qD1 xs h1.2,Bool.and_self]
end
mutual
theorem qGv : ∀d:PyData,tame d=true->PyData.canLay0 d=true
 | .int i,h=>rfl
 | .str x,h=>by
  have h1:(x.cps.all (· < 0x110000)&&decide (x.cps.size<=10))=true:=by simpa only [tame] using h
  rw [Bool.and_eq_true] at h1
  simpa only [PyData.canLay0,PyData.strOk] using h1.1
 | .list xs,h=>qDq xs (by simpa only [tame] using h)
 | .tuple xs,h=>qDq xs (by simpa only [tame] using h)
theorem qDq : ∀ds:List PyData,qBg ds=true->PyData.canLayAll0 ds=true
 | [],_=>rfl
 | x::xs,h=>by
  have h1:(tame x&&qBg xs)=true:=by simpa only [qBg] using h
  rw [Bool.and_eq_true] at h1
  simp only [PyData.canLayAll0,qGv x h1.1,qDq xs h1.2,Bool.and_self]
end
mutual
theorem qG5 : ∀d:PyData,tame d=true->PyData.intsShort 14 d=true
 | .int i,h=>by
  have h1:i.natAbs<10^13:=by simpa only [tame,decide_eq_true_eq] using h
  have e:=int_text_length_le10 (k:=13) (by decide) h1
  simp only [PyData.intsShort,decide_eq_true_eq]
  show (Str.ofString (toString i)).length<=14
  rw [PySem.ofString_length];exact e
 | .str x,h=>rfl
 | .list xs,h=>qCp xs (by simpa only [tame] using h)
 | .tuple xs,h=>qCp xs (by simpa only [tame] using h)
theorem qCp : ∀ds:List PyData,qBg ds=true->PyData.intsShortAll 14 ds=true
 | [],_=>rfl
 | x::xs,h=>by
  have h1:(tame x&&qBg xs)=true:=by simpa only [qBg] using h
  rw [Bool.and_eq_true] at h1
  simp only [PyData.intsShortAll,qG5 x h1.1,qCp xs h1.2,Bool.and_self]
end
mutual
theorem qF5 : ∀d:PyData,tame d=true->PyData.weight d<=46*cells d+45
 | .int i,h=>by
  have h1:i.natAbs<10^13:=by simpa only [tame,decide_eq_true_eq] using h
  have:=qR4 h1
  simp only [PyData.weight,cells]
  split <;> omega
 | .str x,h=>by
  have h1:(x.cps.all (· < 0x110000)&&decide (x.cps.size<=10))=true:=by simpa only [tame] using h
  rw [Bool.and_eq_true,decide_eq_true_eq] at h1
  simp only [PyData.weight,cells];omega
 | .list xs,h=>by
  have:=qCh xs (by simpa only [tame] using h)
  simp only [PyData.weight,cells];omega
 | .tuple xs,h=>by
  have:=qCh xs (by simpa only [tame] using h)
  simp only [PyData.weight,cells];omega
theorem qCh : ∀ds:List PyData,qBg ds=true->PyData.weightAll ds<=46*qCw ds
 | [],_=>Nat.le_refl _
 | x::xs,h=>by
  have h1:(tame x&&qBg xs)=true:=by simpa only [qBg] using h
  rw [Bool.and_eq_true] at h1
  have h2:=qF5 x h1.1
  have h3:=qCh xs h1.2
  simp only [PyData.weightAll,qCw];omega
end
theorem qIw {d:PyData} (h:tame d=true) (hd:d.depth<=64) (hs : ∃xs,d = .list xs):SeqAt.shaped d=true:=by
 obtain⟨xs,rfl⟩:=hs
 have h1:=qGv _ h
 have h1:PyData.canLayAll0 xs=true:=by simpa only [PyData.canLay0] using h1
 show (PyData.canLayAll0 xs&&decide (PyData.depth (.list xs)<=64))=true
 rw [h1,decide_eq_true hd];rfl
theorem qDp {α : Type} {f : α -> PyData} : ∀ {l:List α},(∀x∈l,tame (f x)=true)->qBg (l.map f)=true
 | [],_=>rfl
 | x::r,h=>by
  simp only [List.map_cons,qBg,h x (List.mem_cons_self ..),qDp fun y hy=>h y (List.mem_cons_of_mem _ hy),Bool.and_self]
theorem qDa {α : Type} {f : α -> PyData} {n:Nat} : ∀ {l:List α},(∀x∈l,cells (f x)<=n)->qCw (l.map f)<=(n+1)*l.length
 | [],_=>Nat.zero_le _
 | x::r,h=>by
  have h1:=h x (List.mem_cons_self ..)
  have h2:=qDa (l:=r) fun y hy=>h y (List.mem_cons_of_mem _ hy)
  simp only [List.map_cons,qCw,List.length_cons,Nat.mul_add];omega
theorem qD9 {α : Type} {f : α -> PyData} {n:Nat} : ∀ {l:List α},(∀x∈l,(f x).depth<=n)->PyData.depthAll (l.map f)<=n
 | [],_=>Nat.zero_le _
 | x::r,h=>by
  have h1:=h x (List.mem_cons_self ..)
  have h2:=qD9 (l:=r) fun y hy=>h y (List.mem_cons_of_mem _ hy)
  simp only [List.map_cons,PyData.depthAll];omega
abbrev Pl:=Int×Int
inductive RT (N:Pl->List Pl) (a:Pl):Pl->Prop
 | refl:RT N a a
 | step {b c:Pl}:RT N a b->c∈N b->RT N a c
def dargs:Deed->List Int
 | .set b n =>[b,n]
 | .add b o =>[b,o]
 | .tell b =>[b]
 | .call b =>[b]
 | .save b =>[b]
 | .back b =>[b]
def darg:Deed->Int
 | .set b _=>b
 | .add b _=>b
 | .tell b=>b
 | .call b=>b
 | .save b=>b
 | .back b=>b
def wrB (x:Int) (d:Deed):Bool:=(wr d).isSome&&decide (darg d=x)
def qVa:Deed->Bool
 | .add _ _=>true
 | .tell _=>true
 | _=>false
def rdB (x:Int) (d:Deed):Bool:=qVa d&&decide (x∈dargs d)
def till (x:Int):List Deed->List Deed
 | [] =>[]
 | d::r=>if wrB x d=true then [d] else d::till x r
def wrote (x:Int) (ds:List Deed):Bool:=ds.any (wrB x)
def qVk:Deed->Option Int
 | .call c=>some c
 | _=>none
abbrev qD0 (ws:List (List Blk)):PyData :=.list (ws.map workD)
def blkAt (ws:List (List Blk)) (p:Pl):Option Blk:=if 0<=p.1/\0<=p.2 then (ws[p.1.toNat]?).bind fun w=>w[p.2.toNat]? else none
def qTc (x:Int) (b:Blk):List Pl:=((till x b.ds).filterMap qVk).map fun c=>(c,0)
def metB (x n:Int) (b:Blk):List Pl:=qTc x b++(if wrote x b.ds=true then [] else b.ns.map fun t=>(n,t))
def metOf (ws:List (List Blk)) (x:Int) (p:Pl):List Pl:=match blkAt ws p with
 | none =>[]
 | some b=>metB x p.1 b
def readB (x:Int) (b:Blk):Bool:=(till x b.ds).any (rdB x)
def qTt (ws:List (List Blk)) (x:Int) (p:Pl):Bool:=match blkAt ws p with
 | none=>false
 | some b=>readB x b
def Asks (ws:List (List Blk)) (x:Int) (p:Pl):Prop := ∃q,RT (metOf ws x) p q/\qTt ws x q=true
structure WsOk (ws:List (List Blk)):Prop where
 all : ∀w∈ws,∃m:Int,1<=m/\m<=12/\WorkOk m (ws.length:Int) w
 one:1<=ws.length
 few:ws.length<=25
def qAo (X:Cx) (own:List Str) (cap:List Nat) (scope:Scope) (y:Str) (cl:List (Str×Addr)) (s:Shared) (H:Hp) (ex:List Addr):Cx :=
 { qAw X own cap scope ((y,s.heap.objs.size+1)::cl) s H ex with fn:=fun x=>x == y }
theorem qNq {X:Cx} {own:List Str} {cap:List Nat} {scope:Scope} {y:Str} {cl:List (Str×Addr)} {s:Shared} {H:Hp} {ex:List Addr}:(qAo X own cap scope y cl s H ex).K=X.K:=rfl
structure CompScopeC (X:Cx) (own:List Str) (cap:List Nat) (scope:Scope) (y:Str):Prop where
 kind:scope.kind = .function
 one:scope.names.filter (fun x=>x.2 == .cell) = [(y,.cell)]
 look:scope.names.lookup y=some .cell
 names : ∀x∈scope.names,x.2 = .local->scope.names.lookup x.1=some .local
 free : ∀x∈scope.names,x.2 = .free->X.env.kindOf x.1=some .cell\/X.env.kindOf x.1=some .free
 caps : ∀j∈cap,scope.names.lookup (X.N.getD j "")=some .free/\j<X.N.length
theorem CompScopeC.only {X:Cx} {own:List Str} {cap:List Nat} {scope:Scope} {y:Str} (S:CompScopeC X own cap scope y) (x:Str) (h:(x,NameKind.cell)∈scope.names):x=y:=by
 have hm:(x,NameKind.cell)∈scope.names.filter (fun x=>x.2 == .cell):=List.mem_filter.mpr ⟨h,rfl⟩
 rw [S.one] at hm
 exact (Prod.mk.inj (List.mem_singleton.mp hm)).1
theorem qKe : ∀(names:List (Str×NameKind)) (n:Nat) (acc:List (Str×Addr)) (h:Heap),names.filter (fun x=>x.2 == .cell) = []->cellsFrom n names acc=acc/\pushCells h names=h
 | [],_,_,_,_=>⟨rfl,rfl⟩
 | (x,k)::r,n,acc,h,e=>by
  rw [List.filter_cons] at e
  by_cases hk:(k == NameKind.cell)=true
  ·rw [if_pos hk] at e;cases e
  ·rw [if_neg hk] at e
   unfold cellsFrom pushCells
   rw [if_neg hk,if_neg hk]
   exact qKe r n acc h e
theorem qKb {y:Str} : ∀(names:List (Str×NameKind)) (n:Nat) (acc:List (Str×Addr)) (h:Heap),names.filter (fun x=>x.2 == .cell) = [(y,.cell)]->cellsFrom n names acc=(y,n)::acc/\pushCells h names=h.push { cls :=.type "cell",data :=.cell none }
 | [],_,_,_,e=>by cases e
 | (x,k)::r,n,acc,h,e=>by
  rw [List.filter_cons] at e
  by_cases hk:(k == NameKind.cell)=true
  ·rw [if_pos hk] at e
   obtain⟨e1,e2⟩:=List.cons.inj e
   have ex:x=y:=(Prod.mk.inj e1).1
   subst ex
   unfold cellsFrom pushCells
   rw [if_pos hk,if_pos hk]
   exact qKe r _ _ _ e2
  ·rw [if_neg hk] at e
   unfold cellsFrom pushCells
   rw [if_neg hk,if_neg hk]
   exact qKb r n acc h e
theorem qJc {M:Model} {A:Around} {E:Value->Shared->Prop} {s:Shared} {scope:Scope} {globals:Addr} {closure:List (Str×Addr)} {qual:Str} {outer:Env} {y:Str} {Q:Env->Shared->Prop} (hc:scope.names.filter (fun x=>x.2 == .cell) = [(y,.cell)])
  (hQ : ∀h',h'.Ns s.heap.objs.size (fun x=>([]:List (Str×Value)).reverse.lookup x)->(∀b u,s.heap.get? b=some u->h'.get? b=some u)->h'.IsCell (s.heap.objs.size+1) none ->
   Q (newEnv scope s.heap.objs.size globals ((y,s.heap.objs.size+1)::closure) qual none .none (some outer) builtinsNs) { s with heap:=h',toks:=s.toks+([]:List (Str×Value)).length }) :
  wpAny M A (newFunctionEnv scope globals closure [] qual none .none (some outer)) Q E s:=by
 simp only [newFunctionEnv,Option.isSome_some,if_true]
 refine wpAny_bind (wpAny_alloc ?_)
 refine wpAny_bind (wpAny_layCells _ (fun name kind cells=>by cases hkc:kind == NameKind.cell <;> simp [hkc]) _ _ _ _ ?_)
 rw [show ({ s with heap:=s.heap.push { cls :=.type "dict",data :=.dict #[] } }:Shared).heap.objs.size=s.heap.objs.size+1 from Heap.size_push ..]
 obtain⟨e1,e2⟩:=qKb scope.names (s.heap.objs.size+1) closure (s.heap.push { cls :=.type "dict",data :=.dict #[] }) hc
 rw [e1,e2]
 refine wpAny_bind (wpAny_pure (wpAny_pure ?_))
 refine hQ _ ((Heap.Ns.new s.heap (.type "dict")).keeps fun b o e=>Heap.get?_push_of_some _ e) (fun b u e=>Heap.get?_push_of_some _ (Heap.get?_push_of_some _ e)) ⟨{ cls :=.type "cell",data :=.cell none },?_,rfl⟩
 have:=Heap.get?_push_size (h:=s.heap.push { cls :=.type "dict",data :=.dict #[] }) (o :={ cls :=.type "cell",data :=.cell none }) rfl
 rw [Heap.size_push] at this
 exact this
theorem qNp {X:Cx} {own:List Str} {cap:List Nat} {scope:Scope} {cl:List (Str×Addr)} {pins:List (Addr×Obj)} {σ : St} {H:Hp} {s:Shared} {fp:List Addr} {h':Heap} {tk:Nat} {y:Str} (S:CompScopeC X own cap scope y)
  (I:Inv X pins σ H s) (hcl : ∀x c,cl.lookup x=some c->X.env.cells.lookup x=some c) (hfr : ∀x,(x,NameKind.free)∈scope.names -> ∃c,cl.lookup x=some c)
  (hf : ∀b∈fp,FpOk X pins H b) (hlt : ∀b∈fp,b<s.heap.objs.size) (hns:h'.Ns s.heap.objs.size (fun x=>([]:List (Str×Value)).reverse.lookup x)) (hk : ∀b u,s.heap.get? b=some u->h'.get? b=some u) (hy:h'.IsCell (s.heap.objs.size+1) none) :
  Inv (qAo X own cap scope y cl s H fp) [] (qEr own cap σ) H { s with heap:=h',toks:=tk }:=by
 have lt : ∀x c,cl.lookup x=some c->c<s.heap.objs.size:=fun x c e=>by
  obtain⟨v,o,ho,_⟩:=I.cell x c (hcl x c e)
  exact Heap.lt_size ho
 have lk : ∀x c,((y,s.heap.objs.size+1)::cl).lookup x=some c->(x=y/\c=s.heap.objs.size+1)\/(x≠y/\cl.lookup x=some c):=fun x c e=>by
  rw [List.lookup_cons] at e
  by_cases hx:x=y
  ·subst hx
   rw [beq_self_eq_true] at e
   exact .inl ⟨rfl,(Option.some.inj e).symm⟩
  ·rw [beq_eq_false_iff_ne.mpr hx] at e
   exact .inr ⟨hx,e⟩
 have lo : ∀x c,x≠y->cl.lookup x=some c->((y,s.heap.objs.size+1)::cl).lookup x=some c:=fun x c hx e=>by
  rw [List.lookup_cons,beq_eq_false_iff_ne.mpr hx];exact e
 have kc : ∀x k,(relabel scope X.env).names.lookup x=some k->(k = .cell\/k = .free)->x=y\/(x,NameKind.free)∈scope.names:=by
  intro x k e hk
  rw [qCe] at e
  cases q:scope.names.lookup x with
  | none=>rw [q] at e;cases e
  | some k0 =>
   rw [q] at e
   have e':relK X.env x k0=k:=Option.some.inj e
   have hm:=PySem.mem_of_lookup q
   by_cases hc0:k0 = .cell
   ·subst hc0;exact .inl (S.only x hm)
   have h0:k0 ≠ .cell:=hc0
   right
   have:k0 = .free:=by
    unfold relK at e'
    by_cases hb:(k0 == NameKind.free&&X.env.scope.kind == .function&&X.env.kindOf x == some .cell)=true
    ·simp only [Bool.and_eq_true,beq_iff_eq] at hb
     exact hb.1.1
    ·rw [if_neg hb] at e'
     rcases hk with z | z
     ·exact absurd (e'.trans z) h0
     ·exact e'.trans z
   rw [this] at hm
   exact hm
 have ok:(qAo X own cap scope y cl s H fp).Ok :={
  mod:=I.ok.mod
  kind:=S.kind
  glob:=I.ok.glob
  blt:=I.ok.blt
  above:=Nat.le_refl _
  inj:=fun x z c e1 e2=>by
   rcases lk x c e1 with ⟨h1,h2⟩ | ⟨h1,h2⟩ <;> rcases lk z c e2 with ⟨h3,h4⟩ | ⟨h3,h4⟩
   ·rw [h1,h3]
   ·exact absurd (lt z c h4) (by rw [h2];exact Nat.not_lt.mpr (Nat.le_succ _))
   ·exact absurd (lt x c h2) (by rw [h4];exact Nat.not_lt.mpr (Nat.le_succ _))
   ·exact I.ok.inj x z c (hcl x c h2) (hcl z c h4)
  has:=fun x hx=>by
   have key:x=y\/(x,NameKind.free)∈scope.names:=by
    rcases hx with hx | hx
    ·exact kc x _ hx (.inl rfl)
    ·exact kc x _ hx (.inr rfl)
   by_cases hxy:x=y
   ·subst hxy
    exact⟨_,by show ((x,s.heap.objs.size+1)::cl).lookup x=some (s.heap.objs.size+1);rw [List.lookup_cons,beq_self_eq_true]⟩
   ·obtain⟨c,hc⟩:=hfr x (key.resolve_left hxy)
    exact⟨c,lo x c hxy hc⟩
  cab:=fun x c h e=>by
   have hx:x=y:=beq_iff_eq.mp h
   rcases lk x c e with ⟨h1,h2⟩ | ⟨h1,h2⟩
   ·rw [h2];exact Nat.le_succ _
   ·exact absurd hx h1
  hd:=I.ok.hd
  frames:=I.ok.frames
  stk :=.inl rfl
  exf:=fun b hb=>⟨Nat.ne_of_lt (hlt b hb),fun x c e=>by
   rcases lk x c e with ⟨h1,h2⟩ | ⟨h1,h2⟩
   ·rw [h2];exact Nat.ne_of_gt (Nat.lt_succ_of_lt (hlt b hb))
   ·exact (hf b hb).2.2.2.2.1 x c (hcl x c h2)⟩
  bs:=I.bs
  bsz:=Nat.le_trans I.ok.bsz I.sz
  noex:=fun b o e hb=>by
   rcases (hf b hb).2.2.2.1 with z | z
   ·exact I.ok.noex b o e z
   ·exact absurd (Nat.lt_of_lt_of_le (Heap.lt_size e) (Nat.le_trans I.ok.bsz z)) (Nat.lt_irrefl _)
  exfs:=fun b hb hm=>by
   rcases List.mem_cons.mp (I.stkSub b hm) with z | z
   ·exact (hf b hb).2.1 z
   ·exact (hf b hb).2.2.1 z
  funs:=I.stack
  frf:=I.stkFree }
 refine⟨ok,rfl,I.bare,Un.kept hk,⟨_,hns,fun i x v e1 e2 e3 => ?_⟩,fun x c e => ?_,I.hok.fresh (Nat.le_refl _),fun x c e=>(by rcases lk x c e with ⟨h1,h2⟩ | ⟨h1,h2⟩;(rw [h2];exact I.hok.fresh (Nat.le_succ _));exact I.freeC x c (hcl x c h2)),fun p hp=>absurd (show p∈([]:List (Addr×Obj)) from hp) (by simp),I.hok.kept hk,?_⟩
 ·have e1:(own++cap.map (fun j=>X.N.getD j ""))[i]? = some x:=e1
  have e2:(own.map (fun _=>(none:Option V))++cap.map (fun j=>(σ[j]?).join))[i]? = some (some v):=e2
  by_cases hi:i<own.length
  ·rw [List.getElem?_append_left (by simpa using hi),List.getElem?_map] at e2
   cases q:own[i]? with
   | none=>rw [q] at e2;cases e2
   | some y=>rw [q] at e2;cases e2
  ·rw [List.getElem?_append_right (by simpa using hi),List.getElem?_map] at e1
   rw [List.getElem?_append_right (by simpa using hi),List.getElem?_map,List.length_map] at e2
   cases q:cap[i - own.length]? with
   | none=>rw [q] at e2;cases e2
   | some j =>
    rw [q] at e1 e2
    have e1':X.N.getD j "" = x:=Option.some.inj e1
    have e2':(σ[j]?).join=some v:=Option.some.inj e2
    obtain⟨hj,hlj⟩:=S.caps j (List.mem_of_getElem? q)
    rw [e1'] at hj
    have hNj:X.N[j]? = some x:=by
     rw [List.getElem?_eq_getElem hlj,<-e1',List.getD_eq_getElem?_getD,List.getElem?_eq_getElem hlj];rfl
    have hσ : σ[j]? = some (some v):=by
     cases z : σ[j]? with
     | none=>rw [z] at e2';cases e2'
     | some o=>rw [z] at e2';rw [show o=some v from e2']
    obtain⟨m,hn,hl⟩:=I.loc
    have hm:=PySem.mem_of_lookup hj
    have hkx:=S.free _ hm rfl
    have vis:Vis X.env.scope x:=by
     rcases hkx with z | z
     ·exact .inr (.inl z)
     ·exact .inr (.inr z)
    obtain⟨u,r,l⟩:=hl j x v hNj hσ vis
    refine⟨u,r,.inr ?_⟩
    rcases l with ⟨kl,_⟩ | ⟨_,c,hc,z⟩
    ·rcases hkx with z | z
     ·rw [kl] at z;cases z
     ·rw [kl] at z;cases z
    ·obtain⟨c',hc'⟩:=hfr x hm
     have:=hcl x c' hc'
     rw [hc] at this;cases this
     have hxy:x≠y:=fun z=>by rw [z,S.look] at hj;cases hj
     refine⟨?_,c,lo x c hxy hc',?_⟩
     ·have q:(relabel scope X.env).names.lookup x=some (relK X.env x .free):=by rw [qCe,hj];rfl
      show (relabel scope X.env).names.lookup x=some .cell\/(relabel scope X.env).names.lookup x=some .free
      rw [q]
      unfold relK
      split
      ·exact .inl rfl
      ·exact .inr rfl
     ·obtain⟨o,ho,hd⟩:=z
      exact⟨o,hk c o ho,hd⟩
 ·rcases lk x c e with ⟨h1,h2⟩ | ⟨h1,h2⟩
  ·rw [h2];exact⟨none,hy⟩
  ·obtain⟨v,o,ho,hd⟩:=I.cell x c (hcl x c h2)
   exact⟨v,o,hk c o ho,hd⟩
 ·show (own.map (fun _=>(none:Option V))++cap.map (fun j=>(σ[j]?).join)).length=(own++cap.map (fun j=>X.N.getD j "")).length
  simp only [List.length_append,List.length_map]
theorem qVj {X:Cx} {own:List Str} {cap:List Nat} {scope:Scope} {cl:List (Str×Addr)} {pins:List (Addr×Obj)} {σ : St} {H:Hp} {s:Shared} {y:Str} {fp:List Addr} {b:Addr} (S:CompScopeC X own cap scope y) (I:Inv X pins σ H s) (hcl : ∀x c,cl.lookup x=some c->X.env.cells.lookup x=some c)
  (lt : ∀b∈fp,b<s.heap.objs.size) (hb:b∈fp) (a4 : ∀x c,X.env.cells.lookup x=some c->c≠b) (x:Str) (c:Addr) (e:((y,s.heap.objs.size+1)::cl).lookup x=some c):c≠b:=by
 rw [List.lookup_cons] at e
 by_cases hx:x=y
 ·subst hx
  rw [beq_self_eq_true] at e
  rw [<-Option.some.inj e]
  exact Nat.ne_of_gt (Nat.lt_succ_of_lt (lt b hb))
 ·rw [beq_eq_false_iff_ne.mpr hx] at e
  exact a4 x c (hcl x c e)
theorem qGr {X:Cx} {e:Expr} {tg iter:Expr} {ifs:List Expr} {scope:Scope} {own:List Str} {cap:List Nat} {newAcc:Sem Value} {o:HO} {cl:List (Str×Addr)} {behOf:Value->Env->Sem Unit} {g:TG} {tts:List TT} {Bof:Addr->TB}
  (hc:X.calm=true) {y:Str} (S:CompScopeC X own cap scope y) (hcl : ∀x c,cl.lookup x=some c->X.env.cells.lookup x=some c) (hfr : ∀x,(x,NameKind.free)∈scope.names -> ∃c,cl.lookup x=some c)
  (hacc:qG2 X newAcc o)
  (hC : ∀s H ex l,ClauseAt (qAo X own cap scope y cl s H ex) e 0 (.ref l) tg iter ifs (behOf (.ref l) (qAo X own cap scope y cl s H ex).env))
  (hg : ∀s H ex,PG (qAo X own cap scope y cl s H ex) tg g) (ht : ∀s H ex,PTs (qAo X own cap scope y cl s H ex) ifs tts)
  (hb : ∀s H ex l,PB (qAo X own cap scope y cl s H ex) (behOf (.ref l) (qAo X own cap scope y cl s H ex).env) (Bof l))
  {pins:List (Addr×Obj)} {σ : St} {s2:Shared} {itv:Value} {Q:Addr->Hp->Prop} {E:Value->Shared->Prop} {R:Value->Addr->Result->Shared->Prop}
  (h:PIE X pins σ tg (fun J H1 => ∀l,H1 l=none->LoopT J g (tAll tts) (Bof l) (qEr own cap σ) (upd H1 l o) fun _ H2=>Q l H2) itv s2)
  (hR : ∀l C s' H',Inv X pins σ H' s'->FpOk X pins H' C->(∃m,s'.heap.Ns C m)->Q l H'->R (.ref l) C (.ok .next) s')
  (hok : ∀acc C f s',R acc C (.ok .next) s'->R acc C (.ok f) s') :
  wpAny (model X.prog X.w) X.A newAcc (fun acc s₃ =>wpAny (model X.prog X.w) X.A (newFunctionEnv scope X.env.globals cl [] X.env.qual none .none (some X.env)) (fun cenv s₄ =>
   codeAny (model X.prog X.w) X.A (.compStart e 0 itv acc { cenv with scope:=relabel scope X.env }) (R acc cenv.locals) s₄) E s₃) E s2:=by
 obtain⟨it,fp,tn,J,H2,rfl,I2,T,st2,f2,q⟩:=h
 have lt2 : ∀b∈fp,b<s2.heap.objs.size:=fun b hb=>by
  obtain⟨ob,e,_⟩:=T.obj _ _ st2 b hb
  exact Heap.lt_size e
 refine hacc pins s2 σ H2 E _ I2 fun l s3 hl hn I3 k3 => ?_
 have q':=q l hn
 have f3 : ∀b∈fp,FpOk X pins (upd H2 l o) b:=fun b hb=>by
  obtain⟨a1,a2⟩:=f2 b hb
  refine⟨?_,a2⟩
  rw [qA6 (Nat.ne_of_lt (Nat.lt_of_lt_of_le (lt2 b hb) hl))];exact a1
 have lt3 : ∀b∈fp,b<s3.heap.objs.size:=fun b hb=>by
  obtain⟨ob,e,_⟩:=T.obj _ _ st2 b hb
  exact Heap.lt_size (k3 b ob e)
 refine qJc S.one (fun h1 hns k4 hy => ?_)
 have I4:Inv (qAo X own cap scope y cl s3 (upd H2 l o) fp) [] (qEr own cap σ) (upd H2 l o) { s3 with heap:=h1,toks:=s3.toks+([]:List (Str×Value)).length }:=qNp S I3 hcl hfr f3 lt3 hns k4 hy
 have st4:tn 0 h1:=T.keep _ _ _ st2 fun b hb ob e=>k4 b ob (k3 b ob e)
 have f4 : ∀b∈fp,FpOk (qAo X own cap scope y cl s3 (upd H2 l o) fp) [] (upd H2 l o) b:=fun b hb=>by
  obtain⟨a0,a1,a2,a3,a4,a5⟩:=f3 b hb
  refine⟨a0,Nat.ne_of_lt (lt3 b hb),fun hm => ?_,.inl hb,fun x c ex=>qVj S I3 hcl lt3 hb a4 x c ex,fun p hp=>absurd (show p∈([]:List (Addr×Obj)) from hp) (by simp)⟩
  rcases List.mem_cons.mp (I3.stkSub b hm) with z | z
  ·exact a1 z
  ·exact a2 z
 have fin : ∀(r:Result) (s':Shared),CompR (qAo X own cap scope y cl s3 (upd H2 l o) fp) [] (fun _ H2=>Q l H2) r s'->R (.ref l) s3.heap.objs.size r s':=by
  intro r s' hr
  cases r with
  | error x=>exact (show False from hr).elim
  | ok f =>
   obtain⟨σ5,H5,I5,q5⟩:=(show ∃ σ' H',Inv (qAo X own cap scope y cl s3 (upd H2 l o) fp) [] σ' H' s'/\Q l H' from hr)
   have I6:Inv X pins σ H5 s':=I3.call' (ch:=fp) I5.os I5.base I5.hok I5.bare fun b hb=>(f3 b hb).2.2.2 |> fun ⟨z1,z2,z3⟩=>⟨z1,(f3 b hb).2.1,z2,z3⟩
   refine hok _ _ _ _ (hR l _ s' H5 I6 (I3.fpOk (Nat.le_refl _) I5.free) ?_ q5)
   obtain⟨m,hm,_⟩:=I5.loc
   exact⟨m,hm⟩
 have loop : ∀s4:Shared,s4 = { s3 with heap:=h1,toks:=s3.toks+([]:List (Str×Value)).length } ->
   codeAny (model X.prog X.w) X.A (.compLoop e 0 (.ref it) (.ref l) (qAo X own cap scope y cl s3 (upd H2 l o) fp).env) (R (.ref l) s3.heap.objs.size) s4:=by
  rintro s4 rfl
  exact codeAny_mono (qIj (X:=qAo X own cap scope y cl s3 (upd H2 l o) fp) rfl hc (hC _ _ _ _) T (hg _ _ _) (ht _ _ _) (hb _ _ _ l) I4 st4 f4 q') fin
 exact (hC s3 (upd H2 l o) fp l).start (.ref it) _ _ (loop _ rfl) (T.self _ 0 _ _ _ st4 (loop _ rfl))
section
variable {X:Cx} {e:Expr} {tg iter:Expr} {ifs:List Expr} {gs:List Comprehension} {scope:Scope} {own:List Str} {cap:List Nat} {newAcc:Sem Value} {o:HO} {behOf:Value->Env->Sem Unit} {wi:TI} {g:TG} {tts:List TT} {Bof:Addr->TB} {cpos:Pos}
theorem qNn (hc:X.calm=true) {y:Str} (S:CompScopeC X own cap scope y) (hcl:clausesOf e=⟨tg,iter,ifs,0⟩::gs) (hi:PI X tg iter wi) (hacc:qG2 X newAcc o)
  (hC : ∀cl s H ex l,ClauseAt (qAo X own cap scope y cl s H ex) e 0 (.ref l) tg iter ifs (behOf (.ref l) (qAo X own cap scope y cl s H ex).env))
  (hg : ∀cl s H ex,PG (qAo X own cap scope y cl s H ex) tg g) (ht : ∀cl s H ex,PTs (qAo X own cap scope y cl s H ex) ifs tts)
  (hb : ∀cl s H ex l,PB (qAo X own cap scope y cl s H ex) (behOf (.ref l) (qAo X own cap scope y cl s H ex).env) (Bof l)) (hs : ∀x,foldedSetIterable iter X.env x=pure x) :
  ∀(pins:List (Addr×Obj)) (s:Shared) (σ : St) (H:Hp) (Q:VK),Inv X pins σ H s->tComp own cap o wi g tts Bof σ H Q ->
   wpAny (model X.prog X.w) X.A (comprehension e scope X.env cpos newAcc false (eval iter X.env)) (EP X pins σ Q) X.xe s:=by
 intro pins s σ H Q I h
 obtain⟨cl,hclos,h1,h2⟩:=qDk (scope:=scope) (env:=X.env) fun x hx hf=>I.ok.has x.1 (S.free x hx hf)
 refine wpAny_comprehension_free (use:=none) hcl hs hclos S.kind S.names (thn (hi pins s σ H _ I h) fun v s1 q1=>thn q1 fun itv s2 q2 => ?_)
 refine qGr (R:=fun acc C=>compPost (model X.prog X.w) X.A X.xe none (EP X pins σ Q) acc C) hc S h1 h2 hacc (hC cl) (hg cl) (ht cl) (hb cl) q2 (fun l C s' H' I' fC hm q => ?_) (fun acc C f s' z=>z)
 obtain⟨m,hm⟩:=hm
 refine⟨m,hm,fun h' sb=>⟨.ref l,H',I'.turned (t':=s'.toks) (fun b o hb e=>(sb.2 b hb).trans e) fC.1 fC.2.1 fC.2.2.2.1 fC.2.2.2.2.1 fC.2.2.2.2.2,rfl,q⟩⟩
theorem qNo {i:Nat} {x:Str} {px:Pos} (hc:X.calm=true) {y:Str} (S:CompScopeC X own cap scope y) (hcl:clausesOf e=⟨tg,iter,ifs,0⟩::gs) (hi:PI X tg iter wi) (hacc:qG2 X newAcc o)
  (hC : ∀cl s H ex l,ClauseAt (qAo X own cap scope y cl s H ex) e 0 (.ref l) tg iter ifs (behOf (.ref l) (qAo X own cap scope y cl s H ex).env))
  (hg : ∀cl s H ex,PG (qAo X own cap scope y cl s H ex) tg g) (ht : ∀cl s H ex,PTs (qAo X own cap scope y cl s H ex) ifs tts)
  (hb : ∀cl s H ex l,PB (qAo X own cap scope y cl s H ex) (behOf (.ref l) (qAo X own cap scope y cl s H ex).env) (Bof l)) (hs : ∀x,foldedSetIterable iter X.env x=pure x)
  (hN:X.N.Nodup) (hix:X.N[i]? = some x) (hx:Loc X.env.scope x) (hf:X.fn x=true\/X.env.scope.names.lookup x=some .local) :
  ∀(pins:List (Addr×Obj)) (s:Shared) (σ : St) (H:Hp) (D:Ends),Inv X pins σ H s->tComp own cap o wi g tts Bof σ H (fun v H1=>D.nx (σ.set i (some v)) H1) ->
   wpAny (model X.prog X.w) X.A (comprehension e scope X.env cpos newAcc false (eval iter X.env) (some (assign (.Name x px) X.env))) (fun _ s'=>SP X pins D .next s') X.xe s:=by
 intro pins s σ H D I h
 obtain⟨cl,hclos,h1,h2⟩:=qDk (scope:=scope) (env:=X.env) fun x hx hf=>I.ok.has x.1 (S.free x hx hf)
 refine wpAny_comprehension_free (use:=some (assign (.Name x px) X.env)) hcl hs hclos S.kind S.names (thn (hi pins s σ H _ I h) fun v s1 q1=>thn q1 fun itv s2 q2 => ?_)
 refine qGr (R:=fun acc C=>compPost (model X.prog X.w) X.A X.xe (some (assign (.Name x px) X.env)) (fun _ s'=>SP X pins D .next s') acc C) hc S h1 h2 hacc (hC cl) (hg cl) (ht cl) (hb cl) q2 (fun l C s' H' I' fC hm q => ?_) (fun acc C f s' z=>z)
 obtain⟨m,hm⟩:=hm
 show wpAny (model X.prog X.w) X.A (assign (.Name x px) X.env (.ref l)) _ X.xe s'
 refine wpAny_assign_Name (qF7 (v :=.ref l) I' hN hix hx rfl (fun s'' I'' hq_ => ?_) hf)
 obtain⟨a,sa,ha⟩:=hq_
 have hCa:C≠a:=by
  rcases ha with z | z
  ·rw [z];exact fC.2.1
  ·exact Ne.symm (fC.2.2.2.2.1 x a z)
 refine⟨m,hm.sameBut sa hCa,fun h' sb=>⟨_,H',I''.turned (t':=s''.toks) (fun b o hb e=>(sb.2 b hb).trans e) fC.1 fC.2.1 fC.2.2.2.1 fC.2.2.2.2.1 fC.2.2.2.2.2,q⟩⟩
end
section
variable {X:Cx} {elt tg iter tg2 iter2:Expr} {ifs ifs2:List Expr} {scope:Scope} {own:List Str} {cap:List Nat} {wi wi2:TI} {g g2:TG} {tts tts2:List TT} {te:TE} {pos:Pos}
theorem qUp (own:List Str) (cap:List Nat) (y:Str) (hc:X.calm=true) (S:CompScopeC X own cap scope y) (hi:PI X tg iter wi) (hg : ∀cl s H ex,PG (qAo X own cap scope y cl s H ex) tg g)
  (ht : ∀cl s H ex,PTs (qAo X own cap scope y cl s H ex) ifs tts) (he : ∀cl s H ex,PE (qAo X own cap scope y cl s H ex) elt te) (hs : ∀x,foldedSetIterable iter X.env x=pure x:=by intro _;rfl) :
  PE X (.ListComp elt [⟨tg,iter,ifs,0⟩] scope pos) (tComp own cap (.lst []) wi g tts (eApp te)):=by
 intro pins s σ H Q I h
 exact qNn (behOf:=qEo elt) hc S rfl hi qF1 (fun _ _ _ _ _=>qCv) hg ht (fun cl s H ex l=>qH9 (he cl s H ex)) hs pins s σ H Q I h
theorem qUl {i:Nat} {x:Str} {px spos:Pos} (own:List Str) (cap:List Nat) (y:Str) (hc:X.calm=true) (S:CompScopeC X own cap scope y) (hN:X.N.Nodup) (hix:X.N[i]? = some x) (hx:Loc X.env.scope x)
  (hi:PI X tg iter wi) (hg : ∀cl s H ex,PG (qAo X own cap scope y cl s H ex) tg g)
  (ht : ∀cl s H ex,PTs (qAo X own cap scope y cl s H ex) ifs tts) (he : ∀cl s H ex,PE (qAo X own cap scope y cl s H ex) elt te)
  (hsw:swapsWith (.ListComp elt [⟨tg,iter,ifs,0⟩] scope pos) (some (.Name x px)) spos.line X.env=pure true:=by rfl) (hs : ∀x,foldedSetIterable iter X.env x=pure x:=by intro _;rfl)
  (hf:X.fn x=true\/X.env.scope.names.lookup x=some .local:=by first | exact .inl rfl | exact .inr rfl | assumption) :
  PS X (.Assign [.Name x px] (.ListComp elt [⟨tg,iter,ifs,0⟩] scope pos) spos) (tAsg (tComp own cap (.lst []) wi g tts (eApp te)) (gName i)):=by
 intro pins s σ H D I h
 rw [exec_Assign_Name_used _ _ _ _ hsw]
 refine wpAny_bind (wpAny_standAt (wpAny_bind ?_))
 show wpAny _ X.A (do let _ <-comprehension (.ListComp elt [⟨tg,iter,ifs,0⟩] scope pos) scope X.env _ (newList []) false (eval iter X.env) (some (assign (.Name x px) X.env))) _ _ s
 refine wpAny_bind (thn (qNo (behOf:=qEo elt) hc S rfl hi qF1 (fun _ _ _ _ _=>qCv) hg ht (fun cl s H ex l=>qH9 (he cl s H ex)) hs hN hix hx hf pins s σ H D I h) fun _ s' hq => ?_)
 exact wpAny_pure (wpAny_pure hq)
end
def chkC (X:Cx) (own:List Str) (cap:List Nat) (scope:Scope) (y:Str):Bool :=
 decide (scope.kind = .function)&&decide (scope.names.filter (fun x=>x.2 == .cell) = [(y,.cell)])&&decide (scope.names.lookup y=some .cell)&&(scope.names.all fun x => !decide (x.2 = .local)||decide (scope.names.lookup x.1=some .local)) &&
 (scope.names.all fun x => !decide (x.2 = .free)||(decide (X.env.scope.names.lookup x.1=some .cell)||decide (X.env.scope.names.lookup x.1=some .free)))&&(cap.all fun j=>decide (scope.names.lookup (X.N.getD j "")=some .free)&&decide (j<X.N.length))
theorem CompScopeC.of {X:Cx} {own:List Str} {cap:List Nat} {scope:Scope} {y:Str} (h:chkC X own cap scope y=true):CompScopeC X own cap scope y:=by
 unfold chkC at h
 simp only [Bool.and_eq_true,List.all_eq_true,decide_eq_true_eq,Bool.or_eq_true,Bool.not_eq_true',decide_eq_false_iff_not] at h
 obtain⟨⟨⟨⟨⟨h1,h2⟩,h3⟩,h4⟩,h5⟩,h6⟩:=h
 exact⟨h1,h2,h3,fun x hx e=>(h4 x hx).resolve_left (fun z=>z e),fun x hx e=>(h5 x hx).resolve_left (fun z=>z e),fun j hj=>h6 j hj⟩
section
variable {X:Cx}
def rSumI (K:PySem.W.Frag):List V->Hp->VK->Prop:=fun xs H Q => ∃(a:Addr) (ns:List Int),xs = [.ref a]/\SqL K H a (ns.map V.int)/\Q (.int ns.sum) H
theorem qIl (hh:X.A.handled=none):CallR X (.builtin "sum") (rSumI X.K):=by
 intro pins s σ H xs us Q I r h
 obtain⟨a,ns,rfl,hq,q⟩:=h
 obtain⟨u,rfl,ru⟩:=vals1 r
 cases ru
 obtain⟨its,rv,pl,_⟩:=I.list hq
 have hi:=qEk rv
 obtain⟨xs,hx⟩:=hi.allInts.items
 have hl':s.heap.IsList a (intItems xs):=hx▸pl.isList
 refine sum_intListG hh hl' fun h' tk t' hk => ?_
 have e1:ns=xs.toList.map (·.1):=by
  rw [<-nums_intItems,<-hx]
  exact (show numsOf its.toArray.toList=ns from hi.numsOf).symm
 have e2:preSum (numAt xs) xs.size=ns.sum:=by rw [preSum_eq,List.take_of_length_le (by simp),e1]
 rw [e2]
 exact⟨.int ns.sum,H,I.kept (t':=tk) hk,⟨t',rfl⟩,q⟩
end
mutual
def noI:PyData->Bool
 | .list ds=>noIs ds&&(match ds with | .int _::_=>false | _=>true)
 | .tuple ds=>noIs ds
 | _=>true
def noIs:List PyData->Bool
 | []=>true
 | d::ds=>noI d&&noIs ds
end
section
variable {K:PySem.W.Frag} {H:Hp} {t:Addr} {x:Int} {r:List V}
theorem qJz {a:Addr} {o:HO} (h:a≠t) (e:Rd H a o):Rd (wo [t] H) a o:=by
 have hn:a ∉ [t]:=by simpa using h
 rcases e with e | ⟨u,e⟩
 ·exact .inl (by rw [qF2 hn];exact e)
 ·exact .inr ⟨u,by rw [qF2 hn];exact e⟩
mutual
theorem Den.off (ht:H t=some (.lst (.int x::r))) : ∀ {d:PyData} {v:V},noI d=true->Den K H d v->Den K (wo [t] H) d v
 | .none,_,_,e=>by simp only [Den] at e ⊢;exact e
 | .bool _,_,_,e=>by simp only [Den] at e ⊢;exact e
 | .int _,_,_,e=>by simp only [Den] at e ⊢;exact e
 | .str _,_,_,e=>by simp only [Den] at e ⊢;exact e
 | .list ds,_,hn,e=>by
  simp only [Den] at e ⊢
  obtain⟨a,vs,e1,e2,e3⟩:=e
  simp only [noI,Bool.and_eq_true] at hn
  refine⟨a,vs,e1,?_,DenL.off ht hn.1 e3⟩
  rcases e2 with e2 | e2
  ·refine .inl (qJz (fun h => ?_) e2)
   subst h
   rcases e2 with e2 | ⟨o,e2⟩
   ·rw [ht] at e2
    cases e2
    cases ds with
    | nil=>have:=e3.ofNil;cases this
    | cons d ds =>
     obtain⟨v,r',e4,e5,_⟩:=e3.ofCons
     cases e4
     cases d with
     | int i=>simp at hn
     | none=>simp only [Den] at e5;cases e5
     | bool=>simp only [Den] at e5;cases e5
     | str=>simp only [Den] at e5;cases e5
     | list=>simp only [Den] at e5;obtain⟨_,_,z,_⟩:=e5;cases z
     | tuple=>simp only [Den] at e5;obtain⟨_,_,z,_⟩:=e5;cases z
     | dict=>simp only [Den] at e5
   ·rw [ht] at e2;cases e2
  ·exact .inr e2
 | .tuple ds,_,hn,e=>by
  simp only [Den] at e ⊢
  obtain⟨a,vs,e1,e2,e3⟩:=e
  simp only [noI] at hn
  refine⟨a,vs,e1,?_,DenL.off ht hn e3⟩
  rcases e2 with e2 | e2
  ·refine .inl (qJz (fun h => ?_) e2)
   subst h
   rcases e2 with e2 | ⟨o,e2⟩
   ·rw [ht] at e2;cases e2
   ·rw [ht] at e2;cases e2
  ·exact .inr e2
 | .dict _,_,_,e=>by simp only [Den] at e
theorem DenL.off (ht:H t=some (.lst (.int x::r))) : ∀ {ds:List PyData} {vs:List V},noIs ds=true->DenL K H ds vs->DenL K (wo [t] H) ds vs
 | [],_,_,e=>by simp only [DenL] at e ⊢;exact e
 | d::ds,_,hn,e=>by
  simp only [DenL] at e ⊢
  simp only [noIs,Bool.and_eq_true] at hn
  obtain⟨v,r,e1,e2,e3⟩:=e
  exact⟨v,r,e1,Den.off ht hn.1 e2,DenL.off ht hn.2 e3⟩
end
end
theorem qF0 {α : Type} {f : α -> PyData} : ∀ {l:List α},(∀a∈l,noI (f a)=true)->noIs (l.map f)=true
 | [],_=>rfl
 | a::l,h=>by
  simp only [List.map_cons,noIs,Bool.and_eq_true]
  exact⟨h a (List.mem_cons_self ..),qF0 fun b hb=>h b (List.mem_cons_of_mem _ hb)⟩
theorem qPf (d:Deed):noI (deedD d)=true:=by cases d <;> rfl
theorem qSu (ns:List Int):noI (endD ns)=true:=by
 match ns with
 | []=>rfl
 | [x]=>rfl
 | x::y::_=>rfl
theorem qSv (b:Blk):noI (blkD b)=true:=by
 simp only [blkD,noI,noIs,qSu,Bool.and_true,Bool.and_eq_true]
 refine⟨qF0 fun d _=>qPf d,?_⟩
 cases b.ds with
 | nil=>rfl
 | cons d ds=>cases d <;> rfl
theorem qPe (w:List Blk):noI (workD w)=true:=by
 simp only [workD,noI,Bool.and_eq_true]
 refine⟨qF0 fun d _=>qSv d,?_⟩
 cases w <;> rfl
theorem qMz (ws:List (List Blk)):noI (qD0 ws)=true:=by
 simp only [qD0,noI,Bool.and_eq_true]
 refine⟨qF0 fun d _=>qPe d,?_⟩
 cases ws <;> rfl
theorem Tape.works {K:PySem.W.Frag} {H:Hp} {t:Addr} {k:Nat} {ws:List (List Blk)} {v:V} (T:Tape H t k) (h:Den K H (qD0 ws) v):Den K (wo [t] H) (qD0 ws) v:=by
 obtain⟨a,b,c,h1,_⟩:=T
 exact Den.off h1 (qMz ws) h
structure Fr where
 n:Nat
 w0:Int
 w1:Int
 pos:Int
 bx:List Int
 as:List (Int×Int)
structure Ms where
 held:List Int
 told:List Int
 flt:List (Int×Int)
 sv:Int
 bk:Int
 steps:Int
 taken:Int
 log:List (Int×Int×Int)
 st:List Fr
def getB (l:List Int) (b:Int):Int:=l.getD b.toNat 0
def putB (l:List Int) (b v:Int):List Int:=l.set b.toNat v
def putA (as:List (Int×Int)) (b v:Int):List (Int×Int):=if (as.any fun p=>decide (p.1=b))=true then as.map (fun p=>if p.1=b then (p.1,v) else p) else as ++ [(b,v)]
def qB1 (ch:List Int) (taken len:Int):List Int->Int×Int
 | []=>(len,taken)
 | [x]=>(x,taken)
 | x::y::_=>(if taken+1>ch.length\/getB ch taken=0 then x else y,taken+1)
structure Gv where
 mean:Bool
 ws:List (List Blk)
 ch:List Int
 most:Int
def mine (g:Gv) (m:Ms) (f:Fr):List Int:=if g.mean=true then f.bx else m.held
def setMine (g:Gv) (m:Ms) (f:Fr) (rest:List Fr) (l:List Int):Ms:=if g.mean=true then { m with st :={ f with bx:=l }::rest } else { m with held:=l,st:=f::rest }
def badB (m:Ms) (f:Fr):List Int:=((List.range 8).map fun (b:Nat)=>(b:Int)).filter fun b => !decide (getB m.held b=getB f.bx b)
def mdeed (g:Gv) (m:Ms) (f:Fr) (rest:List Fr):Deed->Ms×Nat
 | .save b=>({ m with sv:=m.sv+1,st :={ f with as:=putA f.as b (getB m.held b) }::rest },0)
 | .back b=>match f.as.lookup b with
  | none=>({ m with st:=f::rest },3)
  | some v=>({ m with held:=putB m.held b v,bk:=m.bk+1,st:=f::rest },0)
 | .call c=>if m.steps=g.most then ({ m with st:=f::rest },1) else if rest.length+1=20 then ({ m with st:=f::rest },2) else
  ({ m with steps:=m.steps+1,st:=⟨c.toNat,-1,0,-1,mine g m f,[]⟩::f::rest },0)
 | .tell b=>if m.steps=g.most then ({ m with st:=f::rest },1) else ({ m with steps:=m.steps+1,told:=m.told ++ [getB (mine g m f) b],st:=f::rest },0)
 | .set b v=>if m.steps=g.most then ({ m with st:=f::rest },1) else (setMine g { m with steps:=m.steps+1 } f rest (putB (mine g m f) b v),0)
 | .add b o=>if m.steps=g.most then ({ m with st:=f::rest },1) else (setMine g { m with steps:=m.steps+1 } f rest (putB (mine g m f) b (getB (mine g m f) b+getB (mine g m f) o)),0)
def mstep (g:Gv) (m:Ms):Option (Ms×Nat):=match m.st with
 | []=>none
 | f::rest=>match g.ws[f.n]? with
  | none=>none
  | some wk=>if f.w1=(wk.length:Int) then some ({ m with log:=m.log ++ [((f.n:Int),f.w0,f.w1)],flt:=if g.mean=true then m.flt else m.flt++(badB m f).map fun b=>((f.n:Int),b),st:=rest },0)
   else match wk[f.w1.toNat]? with
    | none=>none
    | some b=>if f.pos<0 then if m.steps=g.most then some (m,1) else some ({ m with steps:=m.steps+1,log:=m.log ++ [((f.n:Int),f.w0,f.w1)],st :={ f with pos:=0 }::rest },0)
     else match b.ds[f.pos.toNat]? with
      | none=>some ({ m with taken:=(qB1 g.ch m.taken wk.length b.ns).2,st :={ f with w0:=f.w1,w1:=(qB1 g.ch m.taken wk.length b.ns).1,pos := -1 }::rest },0)
      | some d=>some (mdeed g m { f with pos:=f.pos+1 } rest d)
inductive Go (g:Gv):Ms->Ms->Prop
 | refl {m:Ms}:Go g m m
 | step {m m1 m2:Ms}:mstep g m=some (m1,0)->Go g m1 m2->Go g m m2
theorem Go.trans {g:Gv} {a b c:Ms} (h:Go g a b) (k:Go g b c):Go g a c:=by
 induction h with
 | refl=>exact k
 | step e _ ih=>exact .step e (ih k)
theorem Go.one {g:Gv} {a b:Ms} (h:mstep g a=some (b,0)):Go g a b :=.step h .refl
inductive Fi (g:Gv):Ms->Nat->Ms->Prop
 | done {m:Ms}:m.st = []->Fi g m 0 m
 | stop {m m':Ms} {c:Nat}:mstep g m=some (m',c)->c≠0->Fi g m c m'
 | step {m m1 m':Ms} {c:Nat}:mstep g m=some (m1,0)->Fi g m1 c m'->Fi g m c m'
theorem Fi.of {g:Gv} {a b c:Ms} {n:Nat} (h:Go g a b) (k:Fi g b n c):Fi g a n c:=by
 induction h with
 | refl=>exact k
 | step e _ ih=>exact .step e (ih k)
theorem qE6 {g:Gv} {m:Ms} (h:m.st = []):mstep g m=none:=by unfold mstep;rw [h]
theorem Fi.det {g:Gv} {a b c:Ms} {n k:Nat} (h:Fi g a n b) (h':Fi g a k c):n=k/\b=c:=by
 induction h with
 | done e =>
  cases h' with
  | done=>exact⟨rfl,rfl⟩
  | stop e2=>rw [qE6 e] at e2;cases e2
  | step e2=>rw [qE6 e] at e2;cases e2
 | stop e hc =>
  cases h' with
  | done e2=>rw [qE6 e2] at e;cases e
  | stop e2=>rw [e] at e2;cases e2;exact⟨rfl,rfl⟩
  | step e2=>rw [e] at e2;cases e2;exact absurd rfl hc
 | step e _ ih =>
  cases h' with
  | done e2=>rw [qE6 e2] at e;cases e
  | stop e2 hc=>rw [e] at e2;cases e2;exact absurd rfl hc
  | step e2 k=>rw [e] at e2;cases e2;exact ih k
structure FrOk (g:Gv) (f:Fr):Prop where
 bx:f.bx.length=8
 wk : ∃wk,g.ws[f.n]? = some wk/\0<=f.w1/\f.w1<=wk.length
 pos : -1<=f.pos/\f.pos<=20
 as:(f.as.map (·.1)).Nodup /\ ∀p∈f.as,0<=p.1/\p.1<8
structure MsOk (g:Gv) (m:Ms):Prop where
 held:m.held.length=8
 steps:0<=m.steps/\m.steps<=g.most
 told:(m.told.length:Int)<=m.steps
 flt:(m.flt.length:Int)+8*m.st.length<=8*(m.steps+1)
 log:(m.log.length:Int)+m.st.length<=2*m.steps+1
 taken:0<=m.taken
 st : ∀f∈m.st,FrOk g f
 deep:m.st.length<=20
structure GvOk (g:Gv):Prop where
 ws:WsOk g.ws
 most:0<=g.most/\g.most<=20000
 plain:g.mean=true -> ∀w∈g.ws,∀b∈w,∀d∈b.ds,(∀x,d ≠ .save x) /\ ∀x,d ≠ .back x
 ch:g.ch.length<=1000
abbrev K3:=Int×Int×Int
section
variable {P:Program} {w:World}
def IsNest (P:Program) (w:World) (h:Heap) (k:K3) (p:Addr):Prop := ∃o items m q t,h.get? p=some o/\o.cls = .type "tuple" /\ o.data = .seq items m/\items.toList = [Value.int k.1 t,Value.ref q]/\IsTupleKey (qAt P w) h [Sum.inl k.2.1,Sum.inl k.2.2] q
def qHc (P:Program) (w:World) (k:K3):Int:=reduceHash (Builtin.Tuple.tupleHashOf [hashInt k.1,tupleKeyHash (qAt P w) [Sum.inl k.2.1,Sum.inl k.2.2]])
theorem IsNest.typeIs {s:Shared} {k:K3} {p:Addr} (x:IsNest P w s.heap k p):s.TypeIs (.ref p) "tuple" :=let ⟨o,_,_,_,_,ho,hc,_⟩:=x;⟨o,ho,hc⟩
theorem IsNest.inj {h:Heap} {p:Addr} {x y:K3} (hx:IsNest P w h x p) (hy:IsNest P w h y p):x=y:=by
 obtain⟨o,items,m,q,t,ho,_,hd,hi,hq⟩:=hx
 obtain⟨o',items',m',q',t',ho',_,hd',hi',hq'⟩:=hy
 obtain rfl:o=o':=Option.some.inj (ho.symm.trans ho')
 rw [hd] at hd'
 injection hd' with h1 _
 subst h1
 rw [hi] at hi'
 injection hi' with e1 e2
 injection e1 with e1 _
 injection e2 with e2 _
 injection e2 with e2
 subst e2
 have:=hq.inj hq'
 obtain⟨x1,x2,x3⟩:=x
 obtain⟨y1,y2,y3⟩:=y
 simp at this e1
 simp [this,e1]
theorem IsNest.keeps {h h':Heap} {k:K3} {p d:Addr} {o:Obj} {es ep} (x:IsNest P w h k p) (ho:h.get? d=some o) (hd:o.data = .dict es ep) (hs:Heap.SameBut d h h'):IsNest P w h' k p:=by
 obtain⟨o',items,m,q,t,ho',hc,hd',hi,hq⟩:=x
 have hne:p≠d:=by
  rintro rfl
  obtain rfl:o'=o:=Option.some.inj (ho'.symm.trans ho)
  rw [hd] at hd';exact nomatch hd'
 exact⟨o',items,m,q,t,(hs.2 p hne).trans ho',hc,hd',hi,hq.keeps ho hd hs⟩
variable {A:Around} {E:Value->Shared->Prop} {s:Shared}
theorem qJ8 {k:K3} {p:Addr} {Q:Int->Shared->Prop} (hu:A.units+5<cLine) (hk:IsNest P w s.heap k p) (h:Q (qHc P w k) { s with toks:=s.toks+5 }):wpAny (model P w) A (pyHash (.ref p)) Q E s:=by
 have hT:=hk.typeIs
 obtain⟨o,items,m,q,t,ho,_,hd,hi,hq⟩:=hk
 unfold pyHash
 first | unfold pyHashByItsType | skip
 first | refine wpAny_bind (wpAny_cRoomFor_or (.inr (by omega)) ?_) | skip
 refine wpAny_bind (wpAny_specialOf hT F.slot_tuple_hash.lookup ?_)
 show wpAny _ _ (if (some (Value.builtin "tuple.__hash__") == some Value.none)=true then _ else _) Q E s
 rw [if_neg (by rw [beq_builtin_none];exact Bool.false_ne_true)]
 refine wpAny_bind (wpAny_specialOf hT F.slot_tuple_hash.lookup ?_)
 show wpAny _ _ (callSpecialIfBoundUnlessNone? (.ref p) "__hash__" _ >>= _) Q E s
 refine wpAny_bind (wpAny_callSpecialIfBoundUnlessNone?_slot hT F.slot_tuple_hash (wpAny_call_entry F.slot_tuple_hash hT F.entry_tuple_hash ?_ (F.args_tuple_hash_1 _)))
 show wpAny _ _ (Builtin.Tuple.tupleItemsOf (.ref p) >>= _) _ _ s
 refine wpAny_bind (wpAny_tupleItemsOf ho hd ?_)
 refine wpAny_bind ?_
 rw [<-Array.forIn_toList,hi]
 refine wpAny_forIn_list _ (fun rest (b:Array Int) s'=>(rest = [Value.int k.1 t,Value.ref q]/\b.toList = []/\s'=s)\/(rest = [Value.ref q]/\b.toList = [hashInt k.1]/\s' = { s with toks:=s.toks+1 })\/(rest = []/\b.toList = [hashInt k.1,tupleKeyHash (qAt P w) [Sum.inl k.2.1,Sum.inl k.2.2]]/\s' = { s with toks:=s.toks+4 })) _ ?_ ?_ _ _ (.inl ⟨rfl,rfl,rfl⟩)
 ·rintro x rest b s' (⟨e1,e2,rfl⟩ | ⟨e1,e2,rfl⟩ | ⟨e1,e2,rfl⟩)
  ·cases e1
   refine wpAny_bind ((qAt P w).pyHash (k:=Sum.inl k.1) (qCt P w _ _) ?_)
   first
    | exact wpAny_pure (.inr (.inl ⟨rfl,by simp [e2];rfl,rfl⟩))
    | exact wpAny_bind (wpAny_pure (wpAny_pure (.inr (.inl ⟨rfl,by simp [e2];rfl,rfl⟩))))
  ·cases e1
   refine wpAny_bind (wpAny_pyHash_tuple (s :={ s with toks:=s.toks+1 }) (by show A.units+1<cLine;omega) hq ?_)
   first
    | exact wpAny_pure (.inr (.inr ⟨rfl,by simp [e2],by simp [Nat.add_assoc]⟩))
    | exact wpAny_bind (wpAny_pure (wpAny_pure (.inr (.inr ⟨rfl,by simp [e2],by simp [Nat.add_assoc]⟩))))
  ·cases e1
 ·rintro b s' (⟨e1,e2,rfl⟩ | ⟨e1,e2,rfl⟩ | ⟨e1,hb,rfl⟩)
  ·cases e1
  ·cases e1
  ·show wpAny _ _ (retInt (Builtin.Tuple.tupleHashOf b.toList)) _ _ _
   rw [hb]
   generalize hT0:Builtin.Tuple.tupleHashOf [hashInt k.1,tupleKeyHash (qAt P w) [Sum.inl k.2.1,Sum.inl k.2.2]]=T0
   unfold qHc at h
   rw [hT0] at h
   refine wpAny_ret_mkInt ?_
   show wpAny _ _ (if (decide (-(2:Int)^63<=T0)&&decide (T0<2^63))=true then _ else _) Q E _
   unfold reduceHash at h
   by_cases hr:(decide (-(2:Int)^63<=T0)&&decide (T0<2^63))=true
   ·rw [if_pos hr]
    rw [if_pos hr] at h
    exact wpAny_pure (by simpa [Nat.add_assoc] using h)
   ·rw [if_neg hr]
    rw [if_neg hr] at h
    exact wpAny_bind (wpAny_rule (wpAny_pure (by simpa [Nat.add_assoc] using h)))
theorem qI5 {x y:K3} {a b:Addr} {R:Fin->Shared->Prop} (hu:A.units+5<cLine) (hx:IsNest P w s.heap x a) (hy:IsNest P w s.heap y b) (h:R (.done (.ret (.bool (decide (x=y))))) s) :
  wpAny (model P w) A (Builtin.«tuple.__eq__» ⟨[.ref a,.ref b],[]⟩) R E s:=by
 have hTb:=hy.typeIs
 obtain⟨oa,xs,na,qa,ta,hoa,_,hda,hia,hqa⟩:=hx
 obtain⟨ob,ys,nb,qb,tb,hob,_,hdb,hib,hqb⟩:=hy
 show wpAny _ _ (isInstance (.ref b) (.type "tuple") >>= _) _ _ s
 refine wpAny_bind (wpAny_isInstance hTb isSubtype_tuple_tuple ?_)
 simp only [Bool.not_true,Bool.false_eq_true,if_false]
 refine wpAny_bind (wpAny_tupleItemsOf hoa hda ?_)
 refine wpAny_bind (wpAny_tupleItemsOf hob hdb ?_)
 have hsz:(xs.size == ys.size)=true:=by
  have h1:xs.size=2:=by rw [<-Array.length_toList,hia];rfl
  have h2:ys.size=2:=by rw [<-Array.length_toList,hib];rfl
  rw [h1,h2];rfl
 refine wpAny_bind ?_
 refine wpAny_forIn_list _ (fun rest r s'=>r.1=none/\s'=s/\(rest = [(Value.int x.1 ta,Value.int y.1 tb),(Value.ref qa,Value.ref qb)]\/(rest = [(Value.ref qa,Value.ref qb)]/\x.1=y.1)\/(rest = []/\x=y))) _ ?_ ?_ _ _ ⟨rfl,rfl,.inl (by rw [hia,hib];rfl)⟩
 ·rintro⟨u,v⟩ rest r s' ⟨hr,rfl,z | ⟨z,hxy⟩ | ⟨z,_⟩⟩
  ·cases z
   refine wpAny_bind ((qAt P w).eqBool (a:=Sum.inl x.1) (b:=Sum.inl y.1) (qCt P w _ _) (qCt P w _ _) ?_)
   by_cases hk:x.1=y.1
   ·rw [decide_eq_true (show (Sum.inl x.1:Key)=Sum.inl y.1 by rw [hk])]
    simp only [Bool.not_true,Bool.false_eq_true,if_false]
    exact wpAny_pure ⟨rfl,rfl,.inr (.inl ⟨by first | rfl | trivial,hk⟩)⟩
   ·rw [decide_eq_false (show ¬(Sum.inl x.1:Key)=Sum.inl y.1 from fun z=>hk (Sum.inl.inj z))]
    simp only [Bool.not_false,if_true]
    have hf:decide (x=y)=false:=decide_eq_false fun z=>hk (by rw [z])
    rw [hf] at h
    exact wpAny_bind (wpAny_pure (wpAny_pure (wpAny_pure h)))
  ·cases z
   refine wpAny_bind (wpAny_eqBool_tuple (by omega) hqa hqb ?_)
   by_cases hk:([Sum.inl x.2.1,Sum.inl x.2.2]:List Key) = [Sum.inl y.2.1,Sum.inl y.2.2]
   ·rw [decide_eq_true hk]
    simp only [Bool.not_true,Bool.false_eq_true,if_false]
    refine wpAny_pure ⟨rfl,rfl,.inr (.inr ⟨by first | rfl | trivial,?_⟩)⟩
    obtain⟨x1,x2,x3⟩:=x
    obtain⟨y1,y2,y3⟩:=y
    simp at hk hxy
    simp [hk,hxy]
   ·rw [decide_eq_false hk]
    simp only [Bool.not_false,if_true]
    have hf:decide (x=y)=false:=decide_eq_false fun z=>hk (by rw [z])
    rw [hf] at h
    exact wpAny_bind (wpAny_pure (wpAny_pure (wpAny_pure h)))
  ·cases z
 ·rintro⟨r1,r2⟩ s' ⟨hr,rfl,z | ⟨z,_⟩ | ⟨z,hxy⟩⟩
  ·cases z
  ·cases z
  ·simp only at hr
   subst hr
   refine wpAny_pure ?_
   show R (.done (.ret (.bool (xs.size == ys.size)))) s'
   rw [hsz]
   rw [decide_eq_true hxy] at h
   exact h
theorem qJk {x y:K3} {a b:Addr} {Q:Bool->Shared->Prop} (hu:A.units+7<cLine) (hx:IsNest P w s.heap x a) (hy:IsNest P w s.heap y b) (h:Q (decide (x=y)) s):wpAny (model P w) A (eqBool (.ref a) (.ref b)) Q E s:=by
 unfold eqBool
 try with_reducible refine wpAny_holding ?_
 show wpAny _ _ (if (Value.ref a == Value.ref b)=true then _ else _) Q E s
 by_cases hab:(Value.ref a == Value.ref b)=true
 ·rw [if_pos hab]
  have e:a=b:=by have:=eq_of_beq hab;injection this
  subst e
  obtain rfl:=hx.inj hy
  exact wpAny_bind (wpAny_rule (wpAny_pure (by simpa using h)))
 ·rw [if_neg hab]
  exact wpAny_bind (wpAny_richCompare_same_room (op :=.Eq) hx.typeIs hy.typeIs F.slot_tuple_eq
   (wpAny_call_entry F.slot_tuple_eq hx.typeIs F.entry_tuple_eq (qI5 (by show A.units+1+5<cLine;omega) hx hy ⟨_,rfl,(fun e=>nomatch e),wpAny_truthy_bool h⟩) (F.args_tuple_eq_2 _ _)) (by omega))
theorem qL2 {ks:List Key} {a:Addr} {n:Nat} {Q:Bool->Shared->Prop} (hk:IsTupleKey (qAt P w) s.heap ks a) (h:Q true s):wpAny (model P w) A (eqIsQuiet (n+1) (.ref a)) Q E s:=by
 have hT:=hk.typeIs
 obtain⟨o,items,m,ho,_,hd,hi⟩:=hk
 unfold eqIsQuiet
 refine wpAny_bind (wpAny_specialOf hT F.slot_tuple_eq.lookup ?_)
 show wpAny _ _ (isInstance (.ref a) (.type "tuple") >>= _) _ _ s
 refine wpAny_bind (wpAny_isInstance hT isSubtype_tuple_tuple ?_)
 simp only [Bool.not_true,Bool.false_eq_true,if_false]
 refine wpAny_bind (wpAny_seqItems ho hd ?_)
 refine wpAny_bind ?_
 show wpAny _ _ (forIn items _ _) _ _ s
 rw [<-Array.forIn_toList]
 refine wpAny_forIn_list _ (fun rest r s'=>r.1=none/\s'=s /\ ∀v∈rest,carriedByValue v=true) _ ?_ ?_ _ _ ⟨rfl,rfl,hi.byValue⟩
 ·rintro v rest r s' ⟨hr,rfl,hall⟩
  rw [eqIsQuiet_byValue _ (hall v List.mem_cons_self)]
  refine wpAny_bind (wpAny_pure ?_)
  simp only [Bool.not_true,Bool.false_eq_true,if_false]
  exact wpAny_pure ⟨rfl,rfl,fun u hu'=>hall u (List.mem_cons_of_mem _ hu')⟩
 ·rintro⟨r1,r2⟩ s' ⟨hr,rfl,_⟩
  simp only at hr
  subst hr
  exact wpAny_pure h
theorem qL1 {k:K3} {a:Addr} {Q:Bool->Shared->Prop} (hk:IsNest P w s.heap k a) (h:Q true s):wpAny (model P w) A (eqIsQuiet 8 (.ref a)) Q E s:=by
 have hT:=hk.typeIs
 obtain⟨o,items,m,q,t,ho,_,hd,hi,hq⟩:=hk
 unfold eqIsQuiet
 refine wpAny_bind (wpAny_specialOf hT F.slot_tuple_eq.lookup ?_)
 show wpAny _ _ (isInstance (.ref a) (.type "tuple") >>= _) _ _ s
 refine wpAny_bind (wpAny_isInstance hT isSubtype_tuple_tuple ?_)
 simp only [Bool.not_true,Bool.false_eq_true,if_false]
 refine wpAny_bind (wpAny_seqItems ho hd ?_)
 refine wpAny_bind ?_
 show wpAny _ _ (forIn items _ _) _ _ s
 rw [<-Array.forIn_toList,hi]
 refine wpAny_forIn_list _ (fun rest r s'=>r.1=none/\s'=s/\(rest = [Value.int k.1 t,Value.ref q]\/rest = [Value.ref q]\/rest = [])) _ ?_ ?_ _ _ ⟨rfl,rfl,.inl rfl⟩
 ·rintro v rest r s' ⟨hr,rfl,z | z | z⟩
  ·cases z
   rw [eqIsQuiet_byValue _ rfl]
   refine wpAny_bind (wpAny_pure ?_)
   simp only [Bool.not_true,Bool.false_eq_true,if_false]
   exact wpAny_pure ⟨rfl,rfl,.inr (.inl (by first | rfl | trivial))⟩
  ·cases z
   refine wpAny_bind (qL2 (n:=6) hq ?_)
   simp only [Bool.not_true,Bool.false_eq_true,if_false]
   exact wpAny_pure ⟨rfl,rfl,.inr (.inr (by first | rfl | trivial))⟩
  ·cases z
 ·rintro⟨r1,r2⟩ s' ⟨hr,rfl,_⟩
  simp only at hr
  subst hr
  exact wpAny_pure h
def qDg (P:Program) (w:World):HeapKind P w K3 where
 is:=IsNest P w
 hash:=qHc P w
 draws:=fun _=>5
 room:=fun A=>A.units+7<cLine
 inj:=fun hx hy=>hx.inj hy
 keeps:=fun x ho hd hs=>x.keeps ho hd hs
 pyHash:=fun hu hk h=>qJ8 (by omega) hk h
 eqBool:=fun hu hx hy h=>qJk hu hx hy h
 quiet:=fun hk h=>qL1 hk h
end
abbrev N3:=K3×Addr×Int
def lookN (ks:List N3) (k:K3):Option Int:=(ks.find? fun x=>decide (x.1=k)).map (·.2.2)
def putN (ks:List N3) (k:K3) (p:Addr) (n:Int):List N3:=if (lookN ks k).isSome=true then ks.map fun x=>if x.1=k then (x.1,x.2.1,n) else x else ks ++ [(k,p,n)]
theorem qBs (x:N3) (ks:List N3) (k:K3):lookN (x::ks) k=if x.1=k then some x.2.2 else lookN ks k:=by
 unfold lookN
 rw [List.find?_cons]
 by_cases h:x.1=k
 ·rw [decide_eq_true h,if_pos h];rfl
 ·rw [decide_eq_false h,if_neg h]
theorem qI9 (ks:List N3) (x:N3) (k:K3) (h:lookN ks x.1=none):lookN (ks ++ [x]) k=if x.1=k then some x.2.2 else lookN ks k:=by
 induction ks with
 | nil=>rw [List.nil_append,qBs]
 | cons y r ih =>
  rw [qBs] at h
  by_cases e:y.1=x.1
  ·rw [if_pos e] at h;cases h
  ·rw [if_neg e] at h
   rw [List.cons_append,qBs,qBs,ih h]
   by_cases e2:y.1=k
   ·rw [if_pos e2,if_pos e2,if_neg (fun z=>e (e2.trans z.symm))]
   ·rw [if_neg e2,if_neg e2]
theorem qN2 (ks:List N3) (k k':K3) (n:Int):lookN (ks.map fun x=>if x.1=k then (x.1,x.2.1,n) else x) k'=if k'=k then (lookN ks k).map fun _=>n else lookN ks k':=by
 induction ks with
 | nil=>unfold lookN;simp
 | cons y r ih =>
  rw [List.map_cons,qBs,ih,qBs,qBs]
  by_cases e:y.1=k
  ·rw [if_pos e]
   by_cases e2:k'=k
   ·subst e2
    rw [if_pos e,if_pos rfl,if_pos e];rfl
   ·have : ¬y.1=k':=fun z=>e2 (z.symm.trans e)
    rw [if_neg this,if_neg e2,if_neg e2,if_neg this]
  ·rw [if_neg e]
   by_cases e2:k'=k
   ·subst e2
    rw [if_neg e,if_pos rfl,if_pos rfl,if_neg e]
   ·rw [if_neg e2,if_neg e2]
theorem qLd (ks:List N3) (k k':K3) (p:Addr) (n:Int):lookN (putN ks k p n) k'=if k'=k then some n else lookN ks k':=by
 unfold putN
 cases h:lookN ks k with
 | some v =>
  rw [if_pos (by rfl),qN2,h];rfl
 | none =>
  rw [if_neg (by simp),qI9 _ _ _ h]
  by_cases e:k'=k
  ·subst e;rw [if_pos rfl]
  ·rw [if_neg e,if_neg (fun z=>e z.symm)]
theorem qPk {ks:List N3} {k:K3} {p:Addr} {n:Int} {x:N3} (h:x∈putN ks k p n):(∃y∈ks,x.1=y.1/\x.2.1=y.2.1)\/(x.1=k/\x.2.1=p):=by
 unfold putN at h
 split at h
 ·obtain⟨y,hy,rfl⟩:=List.mem_map.mp h
  refine .inl ⟨y,hy,?_⟩
  split <;> exact⟨rfl,rfl⟩
 ·rcases List.mem_append.mp h with z | z
  ·exact .inl ⟨x,z,rfl,rfl⟩
  ·rw [List.mem_singleton.mp z];exact .inr ⟨rfl,rfl⟩
theorem qKk (ks:List N3) (k:K3) (p:Addr) (n:Int):(putN ks k p n).length<=ks.length+1:=by
 unfold putN
 split
 ·rw [List.length_map];omega
 ·rw [List.length_append];exact Nat.le_refl _
def GRel:List N3->List (K3×Addr×Value)->Prop:=Paired fun (k:N3) (x:K3×Addr×Value)=>x.1=k.1/\x.2.1=k.2.1 /\ ∃t,x.2.2=Value.int k.2.2 t
theorem GRel.find : ∀ {ks:List N3} {xs:List (K3×Addr×Value)},GRel ks xs -> ∀k:K3,(lookN ks k=none/\atKey xs k=none) \/ ∃n p t,lookN ks k=some n/\atKey xs k=some (p,Value.int n t)
 | _,_,.nil,_ =>.inl ⟨rfl,rfl⟩
 | _,_,.cons (a:=x) (b:=y) h r,k=>by
  obtain⟨h1,h2,t,h3⟩:=h
  rw [qBs]
  unfold atKey
  rw [List.find?_cons,h1]
  by_cases e:x.1=k
  ·rw [decide_eq_true e,if_pos e]
   exact .inr ⟨_,_,t,rfl,by rw [<-h3];rfl⟩
  ·rw [decide_eq_false e,if_neg e]
   exact GRel.find r k
theorem GRel.len {ks:List N3} {xs:List (K3×Addr×Value)} (h:GRel ks xs):ks.length=xs.length:=Paired.length h
theorem GRel.map {k:K3} {n:Int} {t:Tok} : ∀ {ks:List N3} {xs:List (K3×Addr×Value)},GRel ks xs->GRel (ks.map fun x=>if x.1=k then (x.1,x.2.1,n) else x) (xs.map (putAt k (Value.int n t)))
 | _,_,.nil =>.nil
 | _,_,.cons (a:=x) (b:=y) h r=>by
  refine .cons ?_ (GRel.map r)
  obtain⟨h1,h2,t',h3⟩:=h
  unfold putAt
  rw [h1]
  by_cases e:x.1=k
  ·dsimp only
   rw [if_pos e,if_pos e];exact⟨rfl,h2,t,rfl⟩
  ·dsimp only
   rw [if_neg e,if_neg e];exact⟨h1,h2,t',h3⟩
theorem GRel.put {k:K3} {p:Addr} {n:Int} {t:Tok} {ks:List N3} {xs:List (K3×Addr×Value)} (h:GRel ks xs):GRel (putN ks k p n) (storedH xs k p (Value.int n t)):=by
 unfold putN storedH
 rcases h.find k with ⟨a,b⟩ | ⟨v,q,t',a,b⟩
 ·rw [a,b,if_neg (by simp),if_neg (by simp)]
  exact Paired.snoc h ⟨rfl,rfl,t,rfl⟩
 ·rw [a,b,if_pos (by rfl),if_pos (by rfl)]
  exact h.map
def gO (P:Program) (w:World) (ks:List N3):HO :=.ext fun a h=>(a == sysModules)=false/\ks.length<=sizeLine /\ ∃xs,GRel ks xs /\ ∃o es ep,h.get? a=some o/\o.ExactDict/\o.data = .dict es ep/\es.toList=xs.map (entryOfKey (qDg P w))/\(xs.map (·.1)).Nodup
def NestAt (H:Hp) (k:K3) (p:Addr):Prop := ∃q,H p=some (.tup [.int k.1,.ref q])/\H q=some (.tup [.int k.2.1,.int k.2.2])
def qBv (H:Hp) (ks:List N3):Prop := ∀x∈ks,NestAt H x.1 x.2.1
theorem NestAt.mono {H H':Hp} {k:K3} {p:Addr} {ts:List Addr} (e:Ext ts H H') (ht : ∀t∈ts,∀xs,H t≠some (.tup xs)) (h:NestAt H k p):NestAt H' k p:=by
 obtain⟨q,h1,h2⟩:=h
 exact⟨q,e _ _ (fun z=>ht _ z _ h1) h1,e _ _ (fun z=>ht _ z _ h2) h2⟩
theorem qJd {P:Program} {w:World} {H:Hp} {h:Heap} {k:K3} {p:Addr} (ok:HOk P w H h) (e:NestAt H k p):IsNest P w h k p:=by
 obtain⟨q,e1,e2⟩:=e
 obtain⟨_,its,r,o,h1,h2,n,h3⟩:=(show ObjOk P w H h p (.tup [.int k.1,.ref q]) from ok p _ e1)
 have k2:=qFs (ks :=[Sum.inl k.2.1,Sum.inl k.2.2]) ok e2
 cases r with
 | cons a r =>
  cases r with
  | cons b r =>
   cases r
   obtain⟨t,rfl⟩:=a
   cases b
   exact⟨o,_,n,q,t,h1,h2,h3,by simp,k2⟩
section
variable {X:Cx} {pins:List (Addr×Obj)} {σ : St} {H:Hp} {s:Shared} {a:Addr}
theorem qT6 {ks:List N3} (I:Inv X pins σ H s) (e:H a=some (gO X.prog X.w ks)) (hn:qBv H ks):(a == sysModules)=false/\ks.length<=sizeLine /\ ∃xs,GRel ks xs/\s.heap.DictOfH (qDg X.prog X.w) a xs:=by
 obtain⟨h1,h2,xs,hr,o,es,ep,q1,q2,q3,q4,q5⟩:=(I.hok a _ e).1
 refine⟨h1,h2,xs,hr,o,es,ep,q1,q2,q3,q4,fun x hx => ?_,q5⟩
 have all : ∀ {l:List N3} {m:List (K3×Addr×Value)},GRel l m->qBv H l -> ∀x∈m,IsNest X.prog X.w s.heap x.1 x.2.1:=by
  intro l m q
  induction q with
  | nil=>intro _ x hx;cases hx
  | @cons p q ps qs hq t ih =>
   intro hl x hx
   rcases List.mem_cons.mp hx with e | hx
   ·subst e
    rw [hq.1,hq.2.1]
    exact qJd I.hok (hl p (List.mem_cons_self ..))
   ·exact ih (fun y hy=>hl y (List.mem_cons_of_mem _ hy)) x hx
 exact all hr hn x hx
theorem qVf {P:Program} {w:World} {H':Hp} {h':Heap} {ks:List N3} {xs:List (K3×Addr×Value)} (h1:(a == sysModules)=false) (h2:ks.length<=sizeLine) (hr:GRel ks xs) (d:h'.DictOfH (qDg P w) a xs):ObjOk P w H' h' a (gO P w ks):=by
 obtain⟨o,es,ep,q1,q2,q3,q4,_,q5⟩:=d
 refine⟨⟨h1,h2,xs,hr,o,es,ep,q1,q2,q3,q4,q5⟩,⟨o,q1⟩,?_⟩
 rintro g1 g2 ⟨a1,a2,xs',r',o',es',ep',b1,b2⟩ k
 exact⟨a1,a2,xs',r',o',es',ep',k _ b1,b2⟩
def qQd (P:Program) (w:World):TE:=fun _ H Q => ∀p,H p=none->Q (.ref p) (upd H p (gO P w []))
theorem qOv {pos:Pos}:PE X (.Dict [] [] pos) (qQd X.prog X.w):=fun pins s σ H Q I h=>by
 refine wpAny_Dict_empty ⟨.ref s.heap.objs.size,_,I.laid (a:=s.heap.objs.size) (o:=gO X.prog X.w []) (t':=s.toks) (fun _ _ q=>Heap.get?_push_of_some _ q) (Nat.le_refl _) ?_,rfl,h _ (I.hok.fresh (Nat.le_refl _))⟩
 refine qVf ?_ (Nat.zero_le _) .nil ⟨_,#[],_,Heap.get?_push_size _ rfl,⟨rfl,rfl,rfl⟩,rfl,by rfl,(fun x hx=>nomatch hx),List.nodup_nil⟩
 have:=I.big
 exact beq_eq_false_iff_ne.mpr (Nat.ne_of_gt this)
def qQf (P:Program) (w:World) (td ty tx:TE):TE:=fun σ H Q=>td σ H fun x H1 => ∃a ks,x = .ref a/\H1 a=some (gO P w ks)/\ty σ H1 fun y H2=>tx σ H2 fun z H3 => ∃ks' k p,y = .ref p/\H3 a=some (gO P w ks')/\qBv H3 ks'/\NestAt H3 k p/\Q ((lookN ks' k).elim z V.int) H3
theorem qOy {o e f:Expr} {apos cpos:Pos} {td ty tx:TE} (hu:X.A.units+20<cLine) (ho:PE X o td) (he:PE X e ty) (hf:PE X f tx) (m:M2 X o "get" apos e f cpos):PE X (.Call (.Attribute o "get" apos) [e,f] [] cpos) (qQf X.prog X.w td ty tx):=by
 intro pins s σ H Q I h
 refine wpAny_Call_method m.base m.few m.line PySem.F.plainAttrs_dict PySem.F.slot_dict_get PySem.F.type_dict_get (thn (ho pins s σ H _ I h) fun u s1 hq_ => ?_)
 obtain⟨x,H1,I1,rx,a,ks,ex,d,q1⟩:=hq_
 subst ex
 obtain rfl:u=Value.ref a:=rx
 obtain⟨_,_,_,_,o1,es,ep,b1,b2,_⟩:=(I1.hok a _ d).1
 refine⟨⟨o1,b1,b2.1⟩,fun b q => ?_,?_⟩
 ·cases q;exact⟨o1,b1,b2.2.1⟩
 rw [m.trees]
 refine Calls.callWith_builtin rfl (Calls.evalArgs_plain (Calls.spliced_cons (thn (he pins s1 σ H1 _ I1 q1) fun iv s2 hq_ => ?_)))
 obtain⟨y,H2,I2,ry,q2⟩:=hq_
 refine Calls.spliced_cons (thn (hf pins s2 σ H2 _ I2 q2) fun fv s3 hq_ => ?_)
 obtain⟨z,H3,I3,rz,ks',k,p,ey,g,hn,hk,q3⟩:=hq_
 refine Calls.spliced_nil ?_
 subst ey
 cases (show iv=Value.ref p from ry)
 obtain⟨hd,hz,xs,hr,dd⟩:=qT6 I3 g hn
 refine call_meetsIn PySem.F.slot_dict_get dd.typeIs PySem.F.entry_dict_get (PySem.F.args_dict_get_3 _ _ _) (meetsH_dict_get_default (qDg X.prog X.w) a p hd fv) ⟨by show X.A.units+1+7<cLine;omega,k,xs,qJd I3.hok hk,dd,_,H3,I3.tok _,?_,q3⟩
 rcases hr.find k with ⟨a1,b1⟩ | ⟨n,p',t,a1,b1⟩
 ·rw [a1,b1];exact rz
 ·rw [a1,b1];exact⟨t,rfl⟩
def qQi (P:Program) (w:World) (td ty tv:TE):TS:=fun D σ H=>tv σ H fun v H1=>td σ H1 fun x H2=>ty σ H2 fun y H3 => ∃a ks k p n,x = .ref a/\y = .ref p/\v = .int n/\H3 a=some (gO P w ks)/\qBv H3 ks/\NestAt H3 k p/\ks.length<sizeLine/\D.nx σ (upd H3 a (gO P w (putN ks k p n)))
theorem qOq {o i value:Expr} {pos pos':Pos} {td ty tv:TE} (hu:X.A.units+20<cLine) (ho:PE X o td) (hi:PE X i ty) (hv:PE X value tv) (hs:swapsWith value (some (.Subscript o i pos')) pos.line X.env=pure false) :
  PS X (.Assign [.Subscript o i pos'] value pos) (qQi X.prog X.w td ty tv):=by
 intro pins s σ H D I h
 refine wpAny_Assign_Subscript (thn (hv pins s σ H _ I h) fun r s1 hq_ => ?_) hs
 obtain⟨v,H1,I1,rv,q1⟩:=hq_
 refine thn (ho pins s1 σ H1 _ I1 q1) fun u s2 hq_ => ?_
 obtain⟨x,H2,I2,rx,q2⟩:=hq_
 refine thn (hi pins s2 σ H2 _ I2 q2) fun iv s3 hq_ => ?_
 obtain⟨y,H3,I3,ry,a,ks,k,p,n,ex,ey,ev,g,hn,hk,hl,q3⟩:=hq_
 subst ex ey ev
 obtain rfl:u=Value.ref a:=rx
 cases (show iv=Value.ref p from ry)
 obtain⟨t,rfl⟩:=(show ∃t,r=Value.int n t from rv)
 obtain⟨hd,hz,xs,hr,dd⟩:=qT6 I3 g hn
 refine wpAny_setItem_heap (knd:=qDg X.prog X.w) (hsz:=by rw [<-hr.len];exact hz) (by show X.A.units+1+7<cLine;omega) (qJd I3.hok hk) dd fun h' dd' hs=>⟨σ,_,?_,q3⟩
 have hl2:=qKk ks k p n
 exact qFw I3 (by rw [g];exact True.intro) hs (let ⟨q,_,_,hq,_⟩:=dd';⟨q,hq⟩) (qVf hd (by omega) hr.put dd')
end
structure RA where
 self:Addr
 dx:Addr
 wa:Addr
 ba:Addr
 ca:Addr
 ta:Addr
 fa:Addr
 ga:Addr
 C:Addr
 CC:Addr
def rflds (r:RA) (most:Int) (sh:Bool) (state:Str) (steps forks depth sv bk:Int):List (Str×V) :=
 [("works",.ref r.wa),("boxes",.ref r.ba),("choices",.ref r.ca),("most",.int most),("sharing",.bl sh),("state",.str state),("steps",.int steps),("forks",.int forks),("depth",.int depth),("told",.ref r.ta),("faults",.ref r.fa),("saves",.int sv),("backs",.int bk),("gone",.ref r.ga)]
section
variable (r:RA) (most:Int) (sh:Bool) (state:Str) (steps forks depth sv bk v:Int)
theorem qJx:(rflds r most sh state steps forks depth sv bk).lookup ("works" : Str)=some (V.ref r.wa):=by rfl
theorem qOh:(rflds r most sh state steps forks depth sv bk).lookup ("boxes" : Str)=some (.ref r.ba):=by rfl
theorem qGi:(rflds r most sh state steps forks depth sv bk).lookup ("choices" : Str)=some (.ref r.ca):=by rfl
theorem qRs:(rflds r most sh state steps forks depth sv bk).lookup ("most" : Str)=some (.int most):=by rfl
theorem qKx:(rflds r most sh state steps forks depth sv bk).lookup ("sharing" : Str)=some (.bl sh):=by rfl
theorem qJy:(rflds r most sh state steps forks depth sv bk).lookup ("steps" : Str)=some (.int steps):=by rfl
theorem qH0:(rflds r most sh state steps forks depth sv bk).lookup ("forks" : Str)=some (.int forks):=by rfl
theorem qH1:(rflds r most sh state steps forks depth sv bk).lookup ("depth" : Str)=some (.int depth):=by rfl
theorem qRr:(rflds r most sh state steps forks depth sv bk).lookup ("told" : Str)=some (.ref r.ta):=by rfl
theorem qMa:(rflds r most sh state steps forks depth sv bk).lookup ("faults" : Str)=some (.ref r.fa):=by rfl
theorem qOg:(rflds r most sh state steps forks depth sv bk).lookup ("saves" : Str)=some (.int sv):=by rfl
theorem qOi:(rflds r most sh state steps forks depth sv bk).lookup ("backs" : Str)=some (.int bk):=by rfl
theorem qJ4:(rflds r most sh state steps forks depth sv bk).lookup ("gone" : Str)=some (.ref r.ga):=by rfl
theorem qOe:putF ("forks" : Str) (.int v) (rflds r most sh state steps forks depth sv bk)=rflds r most sh state steps v depth sv bk:=by rfl
theorem qJw:putF ("depth" : Str) (.int v) (rflds r most sh state steps forks depth sv bk)=rflds r most sh state steps forks v sv bk:=by rfl
theorem qOd:putF ("saves" : Str) (.int v) (rflds r most sh state steps forks depth sv bk)=rflds r most sh state steps forks depth v bk:=by rfl
theorem qOf:putF ("backs" : Str) (.int v) (rflds r most sh state steps forks depth sv bk)=rflds r most sh state steps forks depth sv v:=by rfl
theorem qOc (s2:Str):putF ("state" : Str) (.str s2) (rflds r most sh state steps forks depth sv bk)=rflds r most sh s2 steps forks depth sv bk:=by rfl
end
def cflds (n:Int) (hb hg ha:Addr):List (Str×V) :=[("number",.int n),("boxes",.ref hb),("begun",.ref hg),("aside",.ref ha)]
theorem qEb (n:Int) (hb hg ha:Addr):(cflds n hb hg ha).lookup ("number" : Str)=some (.int n):=by rfl
theorem qCg (n:Int) (hb hg ha:Addr):(cflds n hb hg ha).lookup ("boxes" : Str)=some (.ref hb):=by rfl
theorem qQ8 (n:Int) (hb hg ha:Addr):(cflds n hb hg ha).lookup ("begun" : Str)=some (.ref hg):=by rfl
theorem qHh (n:Int) (hb hg ha:Addr):(cflds n hb hg ha).lookup ("aside" : Str)=some (.ref ha):=by rfl
def cntL (log:List K3) (k:K3):Option Int:=if log.count k=0 then none else some (log.count k:Int)
theorem qFy (log:List K3) (k k':K3):cntL (log ++ [k]) k'=if k'=k then some ((cntL log k).getD 0+1) else cntL log k':=by
 unfold cntL
 rw [List.count_append,List.count_singleton]
 by_cases e:k'=k
 ·subst e
  rw [if_pos rfl]
  simp only [beq_self_eq_true,if_true]
  rw [if_neg (by omega)]
  by_cases h:log.count k'=0
  ·rw [if_pos h,h];rfl
  ·rw [if_neg h]
   show some _=some _
   congr 1
 ·have:(k == k')=false:=beq_eq_false_iff_ne.mpr (Ne.symm e)
  rw [if_neg e,this]
  simp
def PrsAt (H:Hp):List V->List (Int×Int)->Prop:=Paired fun v p => ∃a,v = .ref a/\H a=some (.tup [.int p.1,.int p.2])
theorem PrsAt.mono {H H':Hp} {ts:List Addr} (e:Ext ts H H') (ht : ∀t∈ts,∀xs,H t≠some (.tup xs)) {vs:List V} {ps:List (Int×Int)} (h:PrsAt H vs ps):PrsAt H' vs ps:=Paired.mapP h fun _ _ ⟨a,x,y⟩=>⟨a,x,e _ _ (fun z=>ht _ z _ y) y⟩
def asD (as:List (Int×Int)):List (Key×V):=as.map fun p=>((Sum.inl p.1:Key),V.int p.2)
theorem qFz (b:Int) : ∀as:List (Int×Int),valV (asD as) (Sum.inl b)=(as.lookup b).map V.int
 | []=>rfl
 | (c,x)::r=>by
  show valV (((Sum.inl c:Key),V.int x)::asD r) (Sum.inl b)=_
  by_cases e:c=b
  ·subst e
   rw [qBk rfl,List.lookup_cons];simp
  ·rw [qBl (fun z=>e (Sum.inl.inj z)),qFz b r,List.lookup_cons]
   have:(b == c)=false:=beq_eq_false_iff_ne.mpr (Ne.symm e)
   rw [this]
theorem qNy (b:Int) : ∀as:List (Int×Int),((asD as).any fun kv=>decide (kv.1=(Sum.inl b:Key)))=as.any fun p=>decide (p.1=b)
 | []=>rfl
 | p::r=>by
  have ih:=qNy b r
  show (decide ((Sum.inl p.1:Key)=Sum.inl b)||((asD r).any fun kv=>decide (kv.1=(Sum.inl b:Key))))=_
  rw [ih,List.any_cons]
  congr 1
  simp
theorem qNx (b v:Int) (as:List (Int×Int)):putK (asD as) (Sum.inl b) (V.int v)=asD (putA as b v):=by
 unfold putK putA
 rw [qNy]
 split
 ·unfold asD
  rw [List.map_map,List.map_map]
  congr 1
  funext p
  show (if (Sum.inl p.1:Key)=Sum.inl b then ((Sum.inl p.1:Key),V.int v) else ((Sum.inl p.1:Key),V.int p.2))=((Sum.inl (if p.1=b then (p.1,v) else p).1:Key),V.int (if p.1=b then (p.1,v) else p).2)
  by_cases e:p.1=b
  ·rw [if_pos e,if_pos (by rw [e])]
  ·rw [if_neg e,if_neg (fun z=>e (Sum.inl.inj z))]
 ·unfold asD
  rw [List.map_append];rfl
def HasM (P:Program) (w:World) (K:PySem.W.Frag) (mg:Str->Option Value) (base:Heap) (C:Addr) (m:Str) (k:Nat) (ps:List Str) (sp:Sp):Prop :=
 ∃f fd,FnOk P w K mg base CX0 k f fd ps sp/\Meth K C m f/\Binds K fd ps []
theorem qH7 {X:Cx} {C:Addr} {m:Str} {k j:Nat} {ps:List Str} {sp:Sp} {o e:Expr} {es:List Expr} {ta:TE} {t:TA} {apos pos:Pos} {pl:Sem Bool} (h:HasM X.prog X.w X.K X.mg X.base C m k ps sp) (c:Cls X.K C) (hr:Room j X.A) (hj:k<=j) (he:PE X o ta) (ha:PA X (e::es) t)
  (hst:starEach (e::es) X.env=(false,eval e X.env)::starEach es X.env:=by rfl) (hpl:(backTo pos (starEach es X.env)).any (·.1)=false:=by rfl)
  (ht:eval (.Call (.Attribute o m apos) (e::es) [] pos) X.env=(do
   let ov <-eval o X.env
   standAt apos.atName
   let (f,first) <-holding [ov] (getMethod ov m pl)
   callWith pos f first (backTo pos (starEach (e::es) X.env)) (backToKw pos (keywordEach [] X.env))):=by rfl) :
  PE X (.Call (.Attribute o m apos) (e::es) [] pos) (tMeth C m sp [] E0 ta t):=by
 obtain⟨f,fd,G,hm,hb⟩:=h
 exact qS7 he c hm G (hr.mono hj) hb .nil pass0 ha hst hpl ht
theorem qMp {X:Cx} {C:Addr} {m:Str} {k j:Nat} {ps:List Str} {sp:Sp} {o:Expr} {ta:TE} {apos pos:Pos} {pl:Sem Bool} (h:HasM X.prog X.w X.K X.mg X.base C m k ps sp) (c:Cls X.K C) (hr:Room j X.A) (hj:k<=j) (he:PE X o ta)
  (ht:eval (.Call (.Attribute o m apos) [] [] pos) X.env=(do
   let ov <-eval o X.env
   standAt apos.atName
   let (f,first) <-holding [ov] (getMethod ov m pl)
   callWith pos f first (backTo pos (starEach [] X.env)) (backToKw pos (keywordEach [] X.env))):=by rfl) :
  PE X (.Call (.Attribute o m apos) [] [] pos) (tMeth C m sp [] E0 ta tNil):=by
 obtain⟨f,fd,G,hm,hb⟩:=h
 exact qOt he c hm G (hr.mono hj) hb .nil pass0 ht
def HasC (P:Program) (w:World) (K:PySem.W.Frag) (mg:Str->Option Value) (base:Heap) (x:Str) (C:Addr) (k:Nat) (ps:List Str) (sp:Sp):Prop :=
 ∃f fd,FnOk P w K mg base CX0 k f fd ps sp/\Mk K C f/\Binds K fd ps []/\mg x=some (.ref C)
theorem qUo {X:Cx} {C:Addr} {x:Str} {k j:Nat} {ps:List Str} {sp:Sp} {e:Expr} {es:List Expr} {t:TA} {p pos:Pos} (h:HasC X.prog X.w X.K X.mg X.base x C k ps sp) (hr:Room j X.A) (hj:k+1<=j) (ha:PA X (e::es) t) (hg:Gl X x:=by rfl)
  (hdb:(x == ("__debug__" : Str))=false:=by decide) (he:starEach (e::es) X.env=(false,eval e X.env)::starEach es X.env:=by rfl) (hpl:(backTo pos (starEach es X.env)).any (·.1)=false:=by rfl) :
  PE X (.Call (.Name x p) (e::es) [] pos) (tMake C sp [] E0 t):=by
 obtain⟨f,fd,G,M,hb,hm⟩:=h
 exact qS8 M G (hr.mono hj) hg hm hb .nil pass0 ha hdb he hpl
section
variable {K:PySem.W.Frag} {σ : St} {H:Hp} {Q:VK} {ta tv te:TE} {tl:TA} {D:Ends} {f:Str}
theorem qVr (h:ta σ H fun x H1 => ∃a C dx fs v,x = .ref a/\H1 a=some (.ins C dx fs)/\Cls K C/\NoAttr K C f/\fs.lookup f=some v/\Q v H1):tFld K ta f σ H Q:=h
theorem qTw (h:tv σ H fun y H1=>ta σ H1 fun x H2 => ∃a C dx fs,x = .ref a/\H2 a=some (.ins C dx fs)/\Cls K C/\NoAttr K C f/\fs.length<1000/\D.nx σ (upd H2 a (.ins C dx (putF f y fs)))):sFld K ta tv f D σ H:=h
theorem qMb {rd:V->V->Hp->VK->Prop} (h:ta σ H fun x H1 => ∃a C dx fs v,x = .ref a/\H1 a=some (.ins C dx fs)/\Cls K C/\NoAttr K C f/\fs.lookup f=some v /\
 tv σ H1 fun y H2=>rd v y H2 fun z H3 => ∃dx' fs',H3 a=some (.ins C dx' fs')/\fs'.length<1000/\D.nx σ (upd H3 a (.ins C dx' (putF f z fs')))):qJ3 K ta tv rd f D σ H:=h
theorem qU2 {C:Addr} {m:Str} {sp:Sp} {dvs:List V} {E:XK} (h:ta σ H fun x H1 => ∃a dx fs,x = .ref a/\H1 a=some (.ins C dx fs)/\fs.lookup m=none/\tl σ H1 fun vs H2=>sp (x::(vs++dvs)) H2 Q E):tMeth C m sp dvs E ta tl σ H Q:=h
theorem qU3 {C:Addr} {sp:Sp} {dvs:List V} {E:XK} (h:tl σ H fun vs H1 => ∀x dx,H1 x=none->H1 dx=none->dx≠x->sp (.ref x::(vs++dvs)) (upd (upd H1 dx (.own x)) x (.ins C dx [])) (fun v H2=>v = .non/\Q (.ref x) H2) E):tMake C sp dvs E tl σ H Q:=h
end
structure RTx (K:PySem.W.Frag) (C CC:Addr):Prop where
 cl:Cls K C
 works:NoAttr K C "works"
 boxes:NoAttr K C "boxes"
 choices:NoAttr K C "choices"
 most:NoAttr K C "most"
 sharing:NoAttr K C "sharing"
 state:NoAttr K C "state"
 steps:NoAttr K C "steps"
 forks:NoAttr K C "forks"
 depth:NoAttr K C "depth"
 told:NoAttr K C "told"
 faults:NoAttr K C "faults"
 saves:NoAttr K C "saves"
 backs:NoAttr K C "backs"
 gone:NoAttr K C "gone"
 ccl:Cls K CC
 number:NoAttr K CC "number"
 cboxes:NoAttr K CC "boxes"
 begun:NoAttr K CC "begun"
 aside:NoAttr K CC "aside"
structure RaOk (K:PySem.W.Frag) (g:Gv) (r:RA) (G0:Hp):Prop where
 tx:RTx K r.C r.CC
 works:Den K G0 (qD0 g.ws) (.ref r.wa)
 ch:SqL K G0 r.ca (g.ch.map V.int)
 nself:G0 r.self=none
 nta:G0 r.ta=none
 nfa:G0 r.fa=none
 nba:G0 r.ba=none
 nga:G0 r.ga=none
 tf:r.ta≠r.fa
 tb:r.ta≠r.ba
 fb:r.fa≠r.ba
structure RunAt (P:Program) (w:World) (g:Gv) (r:RA) (G0 H:Hp) (m:Ms) (steps forks depth:Int):Prop where
 ob:H r.self=some (.ins r.C r.dx (rflds r g.most (!g.mean) "ended" steps forks depth m.sv m.bk))
 told:H r.ta=some (.lst (m.told.map V.int))
 flt : ∃fl,H r.fa=some (.lst fl)/\(fl.length:Int)+8*m.st.length<=8*(m.steps+1)/\(g.mean=false->PrsAt H fl m.flt)
 held:H r.ba=some (.lst (m.held.map V.int))
 gone : ∃ks,H r.ga=some (gO P w ks)/\qBv H ks/\ks.length<=m.log.length /\ ∀k,lookN ks k=cntL m.log k
 old:Ext [] G0 H
structure CallAt (g:Gv) (r:RA) (G0 H:Hp) (m:Ms) (f:Fr) (hp hb hg ha:Addr):Prop where
 ob : ∃hdx,H hp=some (.ins r.CC hdx (cflds f.n hb hg ha))
 bx:H hb=some (.lst ((mine g m f).map V.int))
 sh:g.mean=false->hb=r.ba
 ow:g.mean=true->hb≠r.ba
 bg : ∃bl:List Int,H hg=some (.lst (bl.map V.int))/\bl.length=8/\(g.mean=false->bl=f.bx)
 as:H ha=some (.dK (asD f.as))
 nt:hb≠r.ta
 nf:hb≠r.fa
 gb:hg≠hb
 gt:hg≠r.ta
 gf:hg≠r.fa
 gr:hg≠r.ba
 nb:G0 hb=none
 na:G0 ha=none
def mutR (g:Gv) (r:RA):List Addr:=r.self::r.ta::r.fa::r.ga::(if g.mean=true then [] else [r.ba])
def codeS:Nat->Str
 | 1 => "going"
 | 2 => "deep"
 | _ => "bare"
theorem qVi (r:RA) (most:Int) (sh:Bool) (state:Str) (a b c d e n:Int) (x y z:Addr):cflds n x y z≠rflds r most sh state a b c d e:=fun h=>by
 have:=congrArg List.length h
 simp [cflds,rflds] at this
section
variable {P:Program} {w:World} {g:Gv} {r:RA} {G0 H H':Hp} {m m':Ms} {f:Fr} {hp hb hg ha:Addr} {s t d:Int}
theorem CallAt.nself (c:CallAt g r G0 H m f hp hb hg ha) (R:RunAt P w g r G0 H m s t d):hp≠r.self:=fun z=>by
 obtain⟨hdx,e⟩:=c.ob
 have e2:=R.ob
 rw [z,e2] at e
 injection e with e
 injection e with _ _ e
 exact qVi _ _ _ _ _ _ _ _ _ _ _ _ _ e.symm
theorem CallAt.after (c:CallAt g r G0 H m f hp hb hg ha) (R:RunAt P w g r G0 H m s t d) {s' t' d':Int} (R':RunAt P w g r G0 H' m' s' t' d') (e:Ext (mutR g r) H H'):CallAt g r G0 H' m' f hp hb hg ha:=by
 have hself:=c.nself R
 obtain⟨hdx,hob⟩:=c.ob
 obtain⟨bl,hg1,hg2,hg3⟩:=c.bg
 have R2:=R.ob
 obtain⟨fl,R3,_⟩:=R.flt
 obtain⟨ks,R4,_⟩:=R.gone
 have R5:=R.held
 have R6:=R.told
 have ins : ∀ {a:Addr} {C dx:Addr} {fs:List (Str×V)},H a=some (.ins C dx fs)->a≠r.self->a∉mutR g r:=by
  intro a C dx fs ea hs hm
  unfold mutR at hm
  rcases List.mem_cons.mp hm with z | hm
  ·exact hs z
  ·rcases List.mem_cons.mp hm with z | hm
   ·rw [z,R6] at ea;cases ea
   ·rcases List.mem_cons.mp hm with z | hm
    ·rw [z,R3] at ea;cases ea
    ·rcases List.mem_cons.mp hm with z | hm
     ·rw [z,R4] at ea;cases ea
     ·split at hm
      ·cases hm
      ·rw [List.mem_singleton.mp hm,R5] at ea;cases ea
 have lst : ∀ {a:Addr} {xs:List V},H a=some (.lst xs)->a≠r.ta->a≠r.fa->(g.mean=false->a≠r.ba)->a∉mutR g r:=by
  intro a xs ea h1 h2 h3 hm
  unfold mutR at hm
  rcases List.mem_cons.mp hm with z | hm
  ·rw [z,R2] at ea;cases ea
  ·rcases List.mem_cons.mp hm with z | hm
   ·exact h1 z
   ·rcases List.mem_cons.mp hm with z | hm
    ·exact h2 z
    ·rcases List.mem_cons.mp hm with z | hm
     ·rw [z,R4] at ea;cases ea
     ·split at hm
      ·cases hm
      ·rename_i hn
       exact h3 (by simpa using hn) (List.mem_singleton.mp hm)
 have dk:ha∉mutR g r:=by
  intro hm
  have ea:=c.as
  unfold mutR at hm
  rcases List.mem_cons.mp hm with z | hm
  ·rw [z,R2] at ea;cases ea
  ·rcases List.mem_cons.mp hm with z | hm
   ·rw [z,R6] at ea;cases ea
   ·rcases List.mem_cons.mp hm with z | hm
    ·rw [z,R3] at ea;cases ea
    ·rcases List.mem_cons.mp hm with z | hm
     ·rw [z,R4] at ea;cases ea
     ·split at hm
      ·cases hm
      ·rw [List.mem_singleton.mp hm,R5] at ea;cases ea
 refine⟨⟨hdx,e _ _ (ins hob hself) hob⟩,?_,c.sh,c.ow,⟨bl,e _ _ (lst hg1 c.gt c.gf fun _=>c.gr) hg1,hg2,hg3⟩,e _ _ dk c.as,c.nt,c.nf,c.gb,c.gt,c.gf,c.gr,c.nb,c.na⟩
 cases hm:g.mean with
 | true =>
  have h1:=c.bx
  unfold mine at h1 ⊢
  rw [hm,if_pos rfl] at h1 ⊢
  exact e _ _ (lst h1 c.nt c.nf fun z=>by rw [hm] at z;cases z) h1
 | false =>
  have h1:=R'.held
  unfold mine
  rw [hm,if_neg Bool.false_ne_true,c.sh hm]
  exact h1
end
abbrev selfO (r:RA) (most:Int) (sh:Bool) (state:Str) (steps forks depth sv bk:Int):HO :=.ins r.C r.dx (rflds r most sh state steps forks depth sv bk)
theorem qFd (r:RA) (most:Int) (sh:Bool) (state:Str) (a b c d e:Int):(rflds r most sh state a b c d e).length<1000:=by show 14<1000;decide
def qHq (C:Addr):Sp:=fun vs H Q _ => ∃(r:RA) (most:Int) (sh:Bool) (state:Str) (steps forks depth sv bk:Int),vs = [.ref r.self]/\r.C=C/\H r.self=some (selfO r most sh state steps forks depth sv bk) /\
 (most<=steps->Q (.str "going") H)/\(steps<most->Q .non (upd H r.self (selfO r most sh state (steps+1) forks depth sv bk)))
def qJ0 (K:PySem.W.Frag) (C:Addr):Sp:=fun vs H Q _ => ∃(r:RA) (most:Int) (sh:Bool) (state:Str) (steps k depth sv bk:Int) (ch:List Int),vs = [.ref r.self]/\r.C=C/\H r.self=some (selfO r most sh state steps k depth sv bk)/\SqL K H r.ca (ch.map V.int)/\0<=k/\ch.length<=1000 /\
 Q (.int (getB ch k)) (upd H r.self (selfO r most sh state steps (k+1) depth sv bk))
def qGy (K:PySem.W.Frag) (C:Addr):Sp:=fun vs H Q _ => ∃(r:RA) (most:Int) (sh:Bool) (state:Str) (steps k depth sv bk:Int) (ch ns:List Int) (ve:V) (len m:Int),vs = [.ref r.self,ve,.int len]/\r.C=C/\H r.self=some (selfO r most sh state steps k depth sv bk)/\SqL K H r.ca (ch.map V.int)/\0<=k/\ch.length<=1000/\Den K H (endD ns) ve/\NsOk m ns /\
 ∀H':Hp,H' r.self=some (selfO r most sh state steps (qB1 ch k len ns).2 depth sv bk)->(∀b,b≠r.self->H' b=H b)->Q (.int (qB1 ch k len ns).1) H'
theorem qRm {K:PySem.W.Frag} {H:Hp} {a p C dx:Addr} {fs:List (Str×V)} {xs:List V} {o:HO} (hp:H p=some (.ins C dx fs)) (h:SqL K H a xs):SqL K (upd H p o) a xs:=by
 rcases h with (h | ⟨u,h⟩) | h
 ·exact .inl (.inl (by rw [qA6 (fun z=>by rw [z,hp] at h;cases h)];exact h))
 ·exact .inl (.inr ⟨u,by rw [qA6 (fun z=>by rw [z,hp] at h;cases h)];exact h⟩)
 ·exact .inr h
theorem qO9 {K:PySem.W.Frag} {H:Hp} {a p C dx:Addr} {fs:List (Str×V)} {xs:List V} {o:HO} (hp:H p=some (.ins C dx fs)) (h:SqT K H a xs):SqT K (upd H p o) a xs:=by
 rcases h with (h | ⟨u,h⟩) | h
 ·exact .inl (.inl (by rw [qA6 (fun z=>by rw [z,hp] at h;cases h)];exact h))
 ·exact .inl (.inr ⟨u,by rw [qA6 (fun z=>by rw [z,hp] at h;cases h)];exact h⟩)
 ·exact .inr h
theorem qS0 {P:Program} {w:World} {σ : St} {H:Hp} {Q:VK} {td ty tx:TE} (h:td σ H fun x H1 => ∃a ks,x = .ref a/\H1 a=some (gO P w ks)/\ty σ H1 fun y H2=>tx σ H2 fun z H3 => ∃ks' k p,y = .ref p/\H3 a=some (gO P w ks')/\qBv H3 ks'/\NestAt H3 k p/\Q ((lookN ks' k).elim z V.int) H3):qQf P w td ty tx σ H Q:=h
theorem qRv {P:Program} {w:World} {σ : St} {H:Hp} {D:Ends} {td ty tv:TE} (h:tv σ H fun v H1=>td σ H1 fun x H2=>ty σ H2 fun y H3 => ∃a ks k p n,x = .ref a/\y = .ref p/\v = .int n/\H3 a=some (gO P w ks)/\qBv H3 ks/\NestAt H3 k p/\ks.length<sizeLine/\D.nx σ (upd H3 a (gO P w (putN ks k p n)))):qQi P w td ty tv D σ H:=h
def qF8 (P:Program) (w:World) (K:PySem.W.Frag) (C CC:Addr):Sp:=fun vs H Q _ => ∃(r:RA) (most:Int) (sh:Bool) (state:Str) (steps forks depth sv bk:Int) (hp hdx hb hg ha wy:Addr) (n w0 w1:Int) (ks:List N3),vs = [.ref r.self,.ref hp,.ref wy]/\r.C=C/\r.CC=CC /\
 H r.self=some (selfO r most sh state steps forks depth sv bk)/\H hp=some (.ins CC hdx (cflds n hb hg ha))/\H wy=some (.tup [.int w0,.int w1])/\H r.ga=some (gO P w ks)/\qBv H ks/\ks.length<=100000 /\
 ∀(p:Addr) (H':Hp),H p=none->Ext [r.ga] H H'->H' r.ga=some (gO P w (putN ks (n,w0,w1) p ((lookN ks (n,w0,w1)).getD 0+1)))->NestAt H' (n,w0,w1) p->Q .non H'
theorem qI4 : ∀(m:Nat) {ns:List Int},ns.Nodup->(∀n∈ns,0<=n/\n<(m:Int))->ns.length<=m
 | 0,ns,_,h=>by
  cases ns with
  | nil=>exact Nat.le_refl _
  | cons a r=>have:=h a (List.mem_cons_self ..);omega
 | m+1,ns,hn,h=>by
  have ih:=qI4 m (ns:=ns.erase (m:Int)) (hn.erase _) fun n hn'=>by
   have h1:=(hn.mem_erase_iff).mp hn'
   have h2:=h n h1.2
   have h3:=h1.1
   omega
  by_cases hm:(m:Int)∈ns
  ·rw [List.length_erase_of_mem hm] at ih;omega
  ·rw [List.erase_of_not_mem hm] at ih;omega
theorem qH4 (l:List Int) (b v:Int):(putB l b v).length=l.length:=by unfold putB;rw [List.length_set]
theorem qMj (as:List (Int×Int)) (b v:Int):((putA as b v).map (·.1))=if (as.any fun p=>decide (p.1=b))=true then as.map (·.1) else as.map (·.1) ++ [b]:=by
 unfold putA
 split
 ·rw [List.map_map]
  congr 1
  funext p
  show (if p.1=b then (p.1,v) else p).1=p.1
  split <;> rfl
 ·rw [List.map_append];rfl
theorem qS3 {as:List (Int×Int)} {b v:Int} (h:(as.map (·.1)).Nodup /\ ∀p∈as,0<=p.1/\p.1<8) (hb:0<=b/\b<8):((putA as b v).map (·.1)).Nodup /\ ∀p∈putA as b v,0<=p.1/\p.1<8:=by
 have hk:=qMj as b v
 have hr : ∀y∈(putA as b v).map (·.1),0<=y/\y<8:=by
  intro y hy
  rw [hk] at hy
  split at hy
  ·obtain⟨p,hp,rfl⟩:=List.mem_map.mp hy;exact h.2 p hp
  ·rcases List.mem_append.mp hy with z | z
   ·obtain⟨p,hp,rfl⟩:=List.mem_map.mp z;exact h.2 p hp
   ·rw [List.mem_singleton.mp z];exact hb
 refine⟨?_,fun p hp=>hr p.1 (List.mem_map.mpr ⟨p,hp,rfl⟩)⟩
 rw [hk]
 split
 ·exact h.1
 ·rename_i hn
  refine List.nodup_append.mpr ⟨h.1,by simp,fun x hx y hy e => ?_⟩
  have hy:=List.mem_singleton.mp hy
  subst hy
  subst e
  obtain⟨p,hp,rfl⟩:=List.mem_map.mp hx
  exact hn (List.any_eq_true.mpr ⟨p,hp,decide_eq_true rfl⟩)
theorem qR9 {as:List (Int×Int)} (h:(as.map (·.1)).Nodup /\ ∀p∈as,0<=p.1/\p.1<8):as.length<=8:=by
 have:=qI4 8 h.1 fun n hn=>by obtain⟨p,hp,rfl⟩:=List.mem_map.mp hn;exact h.2 p hp
 rwa [List.length_map] at this
theorem qL7 {ch ns:List Int} {taken m:Int} (h:NsOk m ns) (hm:1<=m):0<=(qB1 ch taken m ns).1/\(qB1 ch taken m ns).1<=m/\taken<=(qB1 ch taken m ns).2:=by
 rcases h with e | ⟨x,e,h1,h2⟩ | ⟨x,y,e,hxy,h1,h2,h3,h4⟩
 ·subst e;exact⟨by show 0<=m;omega,Int.le_refl _,Int.le_refl _⟩
 ·subst e;exact⟨by show 0<=x;omega,by show x<=m;omega,Int.le_refl _⟩
 ·subst e
  refine⟨?_,?_,by show taken<=taken+1;omega⟩
  ·show 0<=(if _ then x else y)
   split <;> omega
  ·show (if _ then x else y)<=m
   split <;> omega
theorem qDh {g:Gv} {m:Ms} {f:Fr} (h:MsOk g m) (hf:FrOk g f):(mine g m f).length=8:=by unfold mine;split;exact hf.bx;exact h.held
section
variable {g:Gv} {m m':Ms} {f:Fr} {rest:List Fr} {c:Nat}
theorem MsOk.tail (h:MsOk g m) (e:m.st=f::rest) : ∀x∈rest,FrOk g x:=fun x hx=>h.st x (by rw [e];exact List.mem_cons_of_mem _ hx)
theorem MsOk.top (h:MsOk g m) (e:m.st=f::rest):FrOk g f:=h.st f (by rw [e];exact List.mem_cons_self ..)
theorem qRh (hf:FrOk g f) (hr : ∀x∈rest,FrOk g x) : ∀x∈f::rest,FrOk g x:=fun x hx=>by
 rcases List.mem_cons.mp hx with z | z
 ·rw [z];exact hf
 ·exact hr x z
theorem MsOk.same (h:MsOk g m) (e:m.st=f::rest) {f':Fr} (hf:FrOk g f') (h1:m'.held.length=8) (h2:m'.steps=m.steps\/(m'.steps=m.steps+1/\m.steps≠g.most)) (h3:(m'.told.length:Int)<=m'.steps) (h4:m'.flt=m.flt) (h5:(m'.log.length:Int)<=m.log.length+(m'.steps - m.steps)) (h6:m.taken<=m'.taken) (h7:m'.st=f'::rest):MsOk g m':=by
 have a1:=h.steps
 have a2:=h.flt
 have a3:=h.log
 have a4:=h.taken
 have a5:=h.deep
 have el:m'.st.length=m.st.length:=by rw [h7,e];rfl
 refine⟨h1,by omega,h3,by rw [h4,el];omega,by rw [el];omega,by omega,by rw [h7];exact qRh hf (h.tail e),by rw [el];exact a5⟩
theorem qPm (hg:GvOk g) (h:MsOk g m) (e:m.st=f::rest) {f':Fr} (hf:FrOk g f') {d:Deed} (hd:qIt (g.ws.length:Int) d) (es:mdeed g m f' rest d=(m',c)):MsOk g m':=by
 have a1:=h.steps
 have a3:=h.told
 have hml:=qDh h hf
 have stop : ∀ {k:Nat},(({ m with st:=f'::rest }:Ms),k)=(m',c)->MsOk g m':=by
  intro k ez
  cases ez
  exact h.same e hf h.held (.inl rfl) a3 rfl (by simp) (Int.le_refl _) rfl
 have setM:m.steps≠g.most -> ∀l:List Int,l.length=8->(setMine g { m with steps:=m.steps+1 } f' rest l,0)=(m',c)->MsOk g m':=by
  intro hs l hl ez
  unfold setMine at ez
  split at ez
  ·cases ez
   exact h.same e (f' :={ f' with bx:=l }) ⟨hl,hf.wk,hf.pos,hf.as⟩ h.held (.inr ⟨rfl,hs⟩) (by show (m.told.length:Int)<=m.steps+1;omega) rfl (by show (m.log.length:Int)<=m.log.length+(m.steps+1 - m.steps);omega) (Int.le_refl _) rfl
  ·cases ez
   exact h.same e hf hl (.inr ⟨rfl,hs⟩) (by show (m.told.length:Int)<=m.steps+1;omega) rfl (by show (m.log.length:Int)<=m.log.length+(m.steps+1 - m.steps);omega) (Int.le_refl _) rfl
 cases d with
 | save b =>
  cases es
  exact h.same e (f' :={ f' with as:=putA f'.as b (getB m.held b) }) ⟨hf.bx,hf.wk,hf.pos,qS3 hf.as hd⟩ h.held (.inl rfl) a3 rfl (by simp) (Int.le_refl _) rfl
 | back b =>
  simp only [mdeed] at es
  cases hl:f'.as.lookup b with
  | none=>rw [hl] at es;exact stop es
  | some v =>
   rw [hl] at es
   cases es
   exact h.same e hf (by show (putB m.held b v).length=8;rw [qH4];exact h.held) (.inl rfl) a3 rfl (by simp) (Int.le_refl _) rfl
 | call x =>
  simp only [mdeed] at es
  split at es
  ·exact stop es
  ·rename_i hs
   split at es
   ·exact stop es
   ·rename_i hn
    cases es
    obtain⟨d1,d2⟩:=hd
    have b1:=h.flt
    have b2:=h.log
    have b3:=h.deep
    have el:(m.st.length:Int)=rest.length+1:=by rw [e];simp
    refine⟨h.held,by show 0<=m.steps+1/\m.steps+1<=g.most;omega,by show (m.told.length:Int)<=m.steps+1;omega,?_,?_,h.taken,?_,?_⟩
    ·show (m.flt.length:Int)+8*((_::f'::rest).length:Int)<=8*(m.steps+1+1)
     simp only [List.length_cons];push_cast;omega
    ·show (m.log.length:Int)+((_::f'::rest).length:Int)<=2*(m.steps+1)+1
     simp only [List.length_cons];push_cast;omega
    ·refine qRh ⟨hml,?_,⟨by show (-1:Int) <= -1;decide,by show (-1:Int)<=20;decide⟩,.nil,fun p hp=>by cases hp⟩ (qRh hf (h.tail e))
     refine⟨_,List.getElem?_eq_getElem (show x.toNat<g.ws.length by omega),Int.le_refl _,by show (0:Int)<=_;omega⟩
    ·show (_::f'::rest).length<=20
     rw [e] at b3
     simp only [List.length_cons] at b3 ⊢
     omega
 | tell b =>
  simp only [mdeed] at es
  split at es
  ·exact stop es
  ·rename_i hs
   cases es
   exact h.same e hf h.held (.inr ⟨rfl,hs⟩) (by show ((m.told ++ [_]).length:Int)<=m.steps+1;rw [List.length_append];simp;omega) rfl (by show (m.log.length:Int)<=m.log.length+(m.steps+1 - m.steps);omega) (Int.le_refl _) rfl
 | set b v =>
  simp only [mdeed] at es
  split at es
  ·exact stop es
  ·rename_i hs
   exact setM hs _ (by rw [qH4];exact hml) es
 | add b o =>
  simp only [mdeed] at es
  split at es
  ·exact stop es
  ·rename_i hs
   exact setM hs _ (by rw [qH4];exact hml) es
theorem qE5 (hg:GvOk g) (h:MsOk g m) (es:mstep g m=some (m',c)):MsOk g m':=by
 unfold mstep at es
 cases e:m.st with
 | nil=>rw [e] at es;cases es
 | cons f rest =>
  rw [e] at es
  dsimp only at es
  have hf:=h.top e
  have a1:=h.steps
  have a2:=h.flt
  have a3:=h.log
  have a4:=h.told
  have a5:=h.deep
  have el:(m.st.length:Int)=rest.length+1:=by rw [e];simp
  obtain⟨wk,hwk,w1,w2⟩:=hf.wk
  rw [hwk] at es
  dsimp only at es
  obtain⟨mm,hm1,hm2,hOk⟩:=hg.ws.all wk (List.mem_of_getElem? hwk)
  have hlen:=hOk.len
  split at es
  ·cases es
   refine⟨h.held,a1,a4,?_,?_,h.taken,h.tail e,by show rest.length<=20;omega⟩
   ·show ((if g.mean=true then m.flt else m.flt++_).length:Int)+8*(rest.length:Int)<=8*(m.steps+1)
    split
    ·omega
    ·rw [List.length_append,List.length_map]
     have:(badB m f).length<=8:=by
      unfold badB
      refine Nat.le_trans (List.length_filter_le _ _) ?_
      simp
     push_cast
     omega
   ·show ((m.log ++ [_]).length:Int)+(rest.length:Int)<=2*m.steps+1
    rw [List.length_append];simp;omega
  ·rename_i hne
   obtain⟨b,hb⟩ : ∃b,wk[f.w1.toNat]? = some b:=⟨_,List.getElem?_eq_getElem (by omega)⟩
   rw [hb] at es
   dsimp only at es
   have hbok:=hOk.blk b (List.mem_of_getElem? hb)
   split at es
   ·split at es
    ·cases es;exact h
    ·rename_i hs
     cases es
     refine h.same e (f' :={ f with pos:=0 }) ⟨hf.bx,hf.wk,⟨by show (-1:Int)<=0;decide,by show (0:Int)<=20;decide⟩,hf.as⟩ h.held (.inr ⟨rfl,hs⟩) (by show (m.told.length:Int)<=m.steps+1;omega) rfl ?_ (Int.le_refl _) rfl
     show ((m.log ++ [_]).length:Int)<=m.log.length+(m.steps+1 - m.steps)
     rw [List.length_append];simp;omega
   ·rename_i hp
    cases hd:b.ds[f.pos.toNat]? with
    | none =>
     rw [hd] at es
     dsimp only at es
     cases es
     have hn:=qL7 (ch:=g.ch) (taken:=m.taken) (m:=mm) hbok.ns hm1
     rw [<-hlen] at hn
     exact h.same e (f' :={ f with w0:=f.w1,w1:=(qB1 g.ch m.taken wk.length b.ns).1,pos := -1 }) ⟨hf.bx,⟨wk,hwk,hn.1,hn.2.1⟩,⟨by show (-1:Int) <= -1;decide,by show (-1:Int)<=20;decide⟩,hf.as⟩ h.held (.inl rfl) a4 rfl (by simp) hn.2.2 rfl
    | some d =>
     rw [hd] at es
     dsimp only at es
     have hpl:f.pos.toNat<b.ds.length:=(List.getElem?_eq_some_iff.mp hd).1
     have hfew:=hbok.few
     exact qPm hg h e (f' :={ f with pos:=f.pos+1 }) ⟨hf.bx,hf.wk,by show -1<=f.pos+1/\f.pos+1<=20;have:=hf.pos;omega,hf.as⟩ (hbok.ds d (List.mem_of_getElem? hd)) (Option.some.inj es)
theorem Go.ok (hg:GvOk g) (h:MsOk g m) (k:Go g m m'):MsOk g m':=by
 induction k with
 | refl=>exact h
 | step e _ ih=>exact ih (qE5 hg h e)
end
section
variable {P:Program} {w:World} {K:PySem.W.Frag} {g:Gv} {r:RA} {G0 H H':Hp} {m m':Ms} {s t d:Int}
structure Apart (r:RA):Prop where
 st:r.self≠r.ta
 sf:r.self≠r.fa
 sb:r.self≠r.ba
 sg:r.self≠r.ga
 tf:r.ta≠r.fa
 tb:r.ta≠r.ba
 tg:r.ta≠r.ga
 fb:r.fa≠r.ba
 fg:r.fa≠r.ga
 bg:r.ba≠r.ga
theorem RunAt.apart (R:RunAt P w g r G0 H m s t d) (o:RaOk K g r G0):Apart r:=by
 have h1:=R.ob
 have h2:=R.told
 obtain⟨fl,h3,_⟩:=R.flt
 have h4:=R.held
 obtain⟨ks,h5,_⟩:=R.gone
 refine⟨fun z => ?_,fun z => ?_,fun z => ?_,fun z => ?_,o.tf,o.tb,fun z => ?_,o.fb,fun z => ?_,fun z => ?_⟩
 ·rw [z,h2] at h1;cases h1
 ·rw [z,h3] at h1;cases h1
 ·rw [z,h4] at h1;cases h1
 ·rw [z,h5] at h1;cases h1
 ·rw [z,h5] at h2;cases h2
 ·rw [z,h5] at h3;cases h3
 ·rw [z,h5] at h4;cases h4
theorem RunAt.other (R:RunAt P w g r G0 H m s t d) {x:Addr} (e:Ext [x] H H') (nt : ∀xs,H x≠some (.tup xs)) (hx:x≠r.self/\x≠r.ta/\x≠r.fa/\x≠r.ba/\x≠r.ga) (hn:G0 x=none):RunAt P w g r G0 H' m s t d:=by
 obtain⟨n1,n2,n3,n4,n5⟩:=hx
 obtain⟨fl,f1,f2,f3⟩:=R.flt
 obtain⟨ks,k1,k2,k3,k4⟩:=R.gone
 have nt' : ∀z ∈ [x],∀xs,H z≠some (.tup xs):=fun z hz=>by rw [List.mem_singleton.mp hz];exact nt
 refine⟨e _ _ (by simpa using n1.symm) R.ob,e _ _ (by simpa using n2.symm) R.told,⟨fl,e _ _ (by simpa using n3.symm) f1,f2,fun z=>(f3 z).mono e nt'⟩,e _ _ (by simpa using n4.symm) R.held,⟨ks,e _ _ (by simpa using n5.symm) k1,fun y hy=>(k2 y hy).mono e nt',k3,k4⟩,?_⟩
 exact ((R.old.mono (by simp)).trans e).drop hn
theorem RunAt.fresh (R:RunAt P w g r G0 H m s t d) (e:Ext [] H H'):RunAt P w g r G0 H' m s t d:=by
 obtain⟨fl,f1,f2,f3⟩:=R.flt
 obtain⟨ks,k1,k2,k3,k4⟩:=R.gone
 exact⟨e _ _ (by simp) R.ob,e _ _ (by simp) R.told,⟨fl,e _ _ (by simp) f1,f2,fun z=>(f3 z).mono e (by simp)⟩,e _ _ (by simp) R.held,⟨ks,e _ _ (by simp) k1,fun y hy=>(k2 y hy).mono e (by simp),k3,k4⟩,R.old.trans e⟩
theorem RunAt.setSelf (R:RunAt P w g r G0 H m s t d) (o:RaOk K g r G0) (s' t' d' sv bk:Int):RunAt P w g r G0 (upd H r.self (selfO r g.most (!g.mean) "ended" s' t' d' sv bk)) { m with sv:=sv,bk:=bk } s' t' d':=by
 have a:=R.apart o
 obtain⟨fl,f1,f2,f3⟩:=R.flt
 obtain⟨ks,k1,k2,k3,k4⟩:=R.gone
 have e:Ext [r.self] H (upd H r.self (selfO r g.most (!g.mean) "ended" s' t' d' sv bk)) :=.put (by simp)
 have nt' : ∀z ∈ [r.self],∀xs,H z≠some (.tup xs):=fun z hz xs h=>by rw [List.mem_singleton.mp hz,R.ob] at h;cases h
 refine⟨qA1,e _ _ (by simpa using a.st.symm) R.told,⟨fl,e _ _ (by simpa using a.sf.symm) f1,f2,fun z=>(f3 z).mono e nt'⟩,e _ _ (by simpa using a.sb.symm) R.held,⟨ks,e _ _ (by simpa using a.sg.symm) k1,fun y hy=>(k2 y hy).mono e nt',k3,k4⟩,?_⟩
 exact ((R.old.mono (by simp)).trans e).drop o.nself
theorem RunAt.same (R:RunAt P w g r G0 H m s t d) (h1:m'.told=m.told) (h2:m'.flt=m.flt) (h3:m'.sv=m.sv) (h4:m'.bk=m.bk) (h5:m'.held=m.held) (h6:m'.log=m.log) (h7:m.steps - m.st.length<=m'.steps - m'.st.length):RunAt P w g r G0 H m' s t d:=by
 obtain⟨fl,f1,f2,f3⟩:=R.flt
 obtain⟨ks,k1,k2,k3,k4⟩:=R.gone
 exact⟨by rw [h3,h4];exact R.ob,by rw [h1];exact R.told,⟨fl,f1,by omega,by rw [h2];exact f3⟩,by rw [h5];exact R.held,⟨ks,k1,k2,by rw [h6];exact k3,by rw [h6];exact k4⟩,R.old⟩
theorem RunAt.setTold (R:RunAt P w g r G0 H m s t d) (o:RaOk K g r G0) (v:Int):RunAt P w g r G0 (upd H r.ta (.lst (m.told.map V.int ++ [.int v]))) { m with told:=m.told ++ [v] } s t d:=by
 have a:=R.apart o
 obtain⟨fl,f1,f2,f3⟩:=R.flt
 obtain⟨ks,k1,k2,k3,k4⟩:=R.gone
 have e:Ext [r.ta] H (upd H r.ta (.lst (m.told.map V.int ++ [.int v]))) :=.put (by simp)
 have nt' : ∀z ∈ [r.ta],∀xs,H z≠some (.tup xs):=fun z hz xs h=>by rw [List.mem_singleton.mp hz,R.told] at h;cases h
 refine⟨e _ _ (by simpa using a.st) R.ob,by rw [qA1,List.map_append];rfl,⟨fl,e _ _ (by simpa using a.tf.symm) f1,f2,fun z=>(f3 z).mono e nt'⟩,e _ _ (by simpa using a.tb.symm) R.held,⟨ks,e _ _ (by simpa using a.tg.symm) k1,fun y hy=>(k2 y hy).mono e nt',k3,k4⟩,?_⟩
 exact ((R.old.mono (by simp)).trans e).drop o.nta
theorem RunAt.setHeld (R:RunAt P w g r G0 H m s t d) (o:RaOk K g r G0) (l:List Int):RunAt P w g r G0 (upd H r.ba (.lst (l.map V.int))) { m with held:=l } s t d:=by
 have a:=R.apart o
 obtain⟨fl,f1,f2,f3⟩:=R.flt
 obtain⟨ks,k1,k2,k3,k4⟩:=R.gone
 have e:Ext [r.ba] H (upd H r.ba (.lst (l.map V.int))) :=.put (by simp)
 have nt' : ∀z ∈ [r.ba],∀xs,H z≠some (.tup xs):=fun z hz xs h=>by rw [List.mem_singleton.mp hz,R.held] at h;cases h
 refine⟨e _ _ (by simpa using a.sb) R.ob,e _ _ (by simpa using a.tb) R.told,⟨fl,e _ _ (by simpa using a.fb) f1,f2,fun z=>(f3 z).mono e nt'⟩,qA1,⟨ks,e _ _ (by simpa using a.bg.symm) k1,fun y hy=>(k2 y hy).mono e nt',k3,k4⟩,?_⟩
 exact ((R.old.mono (by simp)).trans e).drop o.nba
theorem RunAt.setGone (R:RunAt P w g r G0 H m s t d) (o:RaOk K g r G0) {ks:List N3} {k:K3} {p:Addr} (hks:H r.ga=some (gO P w ks)) (k2:qBv H ks) (k3:ks.length<=m.log.length) (k4 : ∀k,lookN ks k=cntL m.log k) (e:Ext [r.ga] H H') (h1:H' r.ga=some (gO P w (putN ks k p ((lookN ks k).getD 0+1)))) (h2:NestAt H' k p):RunAt P w g r G0 H' { m with log:=m.log ++ [k] } s t d:=by
 have a:=R.apart o
 obtain⟨fl,f1,f2,f3⟩:=R.flt
 have nt' : ∀z ∈ [r.ga],∀xs,H z≠some (.tup xs):=fun z hz xs h=>by rw [List.mem_singleton.mp hz,hks] at h;cases h
 refine⟨e _ _ (by simpa using a.sg) R.ob,e _ _ (by simpa using a.tg) R.told,⟨fl,e _ _ (by simpa using a.fg) f1,f2,fun z=>(f3 z).mono e nt'⟩,e _ _ (by simpa using a.bg) R.held,⟨_,h1,fun y hy => ?_,?_,fun k' => ?_⟩,?_⟩
 ·rcases qPk hy with ⟨z,hz,e1,e2⟩ | ⟨e1,e2⟩
  ·rw [e1,e2];exact (k2 z hz).mono e nt'
  ·rw [e1,e2];exact h2
 ·have:=qKk ks k p ((lookN ks k).getD 0+1)
  show _<=(m.log ++ [k]).length
  rw [List.length_append,List.length_singleton];omega
 ·rw [qLd]
  show _=cntL (m.log ++ [k]) k'
  rw [qFy,k4,k4]
 ·exact ((R.old.mono (by simp)).trans e).drop o.nga
theorem RunAt.setFlt (R:RunAt P w g r G0 H m s t d) (o:RaOk K g r G0) {fl us:List V} {fs:List (Int×Int)} (hf:H r.fa=some (.lst fl)) (hu:PrsAt H us fs) (hb:((fl++us).length:Int)+8*m'.st.length<=8*(m'.steps+1)) (hp:g.mean=false->PrsAt H fl m.flt) (h1:m'.told=m.told) (h2:m'.flt=if g.mean=true then m.flt else m.flt++fs) (h3:m'.sv=m.sv) (h4:m'.bk=m.bk) (h5:m'.held=m.held) (h6:m'.log=m.log):RunAt P w g r G0 (upd H r.fa (.lst (fl++us))) m' s t d:=by
 have a:=R.apart o
 obtain⟨ks,k1,k2,k3,k4⟩:=R.gone
 have e:Ext [r.fa] H (upd H r.fa (.lst (fl++us))) :=.put (by simp)
 have nt' : ∀z ∈ [r.fa],∀xs,H z≠some (.tup xs):=fun z hz xs h=>by rw [List.mem_singleton.mp hz,hf] at h;cases h
 refine⟨by rw [h3,h4];exact e _ _ (by simpa using a.sf) R.ob,by rw [h1];exact e _ _ (by simpa using a.tf) R.told,⟨_,qA1,hb,fun z => ?_⟩,by rw [h5];exact e _ _ (by simpa using a.fb.symm) R.held,⟨ks,e _ _ (by simpa using a.fg.symm) k1,fun y hy=>(k2 y hy).mono e nt',by rw [h6];exact k3,by rw [h6];exact k4⟩,?_⟩
 ·rw [h2,z,if_neg Bool.false_ne_true]
  have app : ∀ {a b:List V} {x y:List (Int×Int)},PrsAt (upd H r.fa (.lst (fl++us))) a x->PrsAt (upd H r.fa (.lst (fl++us))) b y->PrsAt (upd H r.fa (.lst (fl++us))) (a++b) (x++y):=by
   intro a b x y h
   induction h with
   | nil=>intro k;exact k
   | cons q _ ih=>intro k;exact .cons q (ih k)
  exact app ((hp z).mono e nt') (hu.mono e nt')
 ·exact ((R.old.mono (by simp)).trans e).drop o.nfa
end
section
variable {P:Program} {w:World} {K:PySem.W.Frag} {g:Gv} {r:RA} {G0 H H':Hp} {m m':Ms} {f f':Fr} {hp hb hg ha:Addr} {s t d:Int}
theorem CallAt.eq (c:CallAt g r G0 H m f hp hb hg ha) (h1:f'.n=f.n) (h2:f'.bx=f.bx) (h3:f'.as=f.as) (h4:m'.held=m.held):CallAt g r G0 H m' f' hp hb hg ha:=by
 refine⟨by rw [h1];exact c.ob,?_,c.sh,c.ow,by rw [h2];exact c.bg,by rw [h3];exact c.as,c.nt,c.nf,c.gb,c.gt,c.gf,c.gr,c.nb,c.na⟩
 have:=c.bx
 unfold mine at this ⊢
 rw [h2,h4];exact this
theorem CallAt.nha (c:CallAt g r G0 H m f hp hb hg ha):hp≠ha/\hb≠ha/\hg≠ha:=by
 obtain⟨hdx,e⟩:=c.ob
 obtain⟨bl,e2,_⟩:=c.bg
 refine⟨fun z => ?_,fun z => ?_,fun z => ?_⟩
 ·rw [z,c.as] at e;cases e
 ·have:=c.bx;rw [z,c.as] at this;cases this
 ·rw [z,c.as] at e2;cases e2
theorem CallAt.nhb (c:CallAt g r G0 H m f hp hb hg ha):hp≠hb:=by
 obtain⟨hdx,e⟩:=c.ob
 intro z
 rw [z,c.bx] at e;cases e
theorem CallAt.setAs (c:CallAt g r G0 H m f hp hb hg ha) (as:List (Int×Int)):CallAt g r G0 (upd H ha (.dK (asD as))) m { f with as:=as } hp hb hg ha:=by
 obtain⟨n1,n2,n3⟩:=c.nha
 obtain⟨hdx,e⟩:=c.ob
 obtain⟨bl,e2,e3⟩:=c.bg
 exact⟨⟨hdx,by rw [qA6 n1];exact e⟩,by rw [qA6 n2];exact c.bx,c.sh,c.ow,⟨bl,by rw [qA6 n3];exact e2,e3⟩,qA1,c.nt,c.nf,c.gb,c.gt,c.gf,c.gr,c.nb,c.na⟩
theorem CallAt.setBx (c:CallAt g r G0 H m f hp hb hg ha) (l:List Int) (h:mine g m' f'=l) (h1:f'.n=f.n) (h2:g.mean=false->f'.bx=f.bx) (h3:f'.as=f.as):CallAt g r G0 (upd H hb (.lst (l.map V.int))) m' f' hp hb hg ha:=by
 obtain⟨n1,n2,n3⟩:=c.nha
 obtain⟨hdx,e⟩:=c.ob
 obtain⟨bl,e2,e3,e4⟩:=c.bg
 exact⟨⟨hdx,by rw [qA6 c.nhb,h1];exact e⟩,by rw [qA1,h],c.sh,c.ow,⟨bl,by rw [qA6 c.gb];exact e2,e3,fun z=>by rw [h2 z];exact e4 z⟩,by rw [qA6 n2.symm,h3];exact c.as,c.nt,c.nf,c.gb,c.gt,c.gf,c.gr,c.nb,c.na⟩
theorem CallAt.fresh (c:CallAt g r G0 H m f hp hb hg ha) (e:Ext [] H H'):CallAt g r G0 H' m f hp hb hg ha:=by
 obtain⟨hdx,e1⟩:=c.ob
 obtain⟨bl,e2,e3⟩:=c.bg
 exact⟨⟨hdx,e _ _ (by simp) e1⟩,e _ _ (by simp) c.bx,c.sh,c.ow,⟨bl,e _ _ (by simp) e2,e3⟩,e _ _ (by simp) c.as,c.nt,c.nf,c.gb,c.gt,c.gf,c.gr,c.nb,c.na⟩
theorem qCd:r.self∈mutR g r:=by simp [mutR]
theorem qV0:r.ta∈mutR g r:=by simp [mutR]
theorem qR3:r.ga∈mutR g r:=by simp [mutR]
theorem qV1 (h:g.mean=false):r.ba∈mutR g r:=by simp [mutR,h]
end
def DeedAt (g:Gv) (f:Fr) (d:Deed):Prop := ∃wk b,g.ws[f.n]? = some wk/\f.w1≠(wk.length:Int)/\wk[f.w1.toNat]? = some b/\0<=f.pos/\b.ds[f.pos.toNat]? = some d
theorem qGm {g:Gv} {m:Ms} {f:Fr} {rest:List Fr} {d:Deed} (e:m.st=f::rest) (h:DeedAt g f d):mstep g m=some (mdeed g m { f with pos:=f.pos+1 } rest d):=by
 obtain⟨wk,b,h1,h2,h3,h4,h5⟩:=h
 unfold mstep
 rw [e]
 dsimp only
 rw [h1]
 dsimp only
 rw [if_neg h2,h3]
 dsimp only
 rw [if_neg (by omega),h5]
theorem DeedAt.ok {g:Gv} {f:Fr} {d:Deed} (hg:GvOk g) (h:DeedAt g f d):qIt (g.ws.length:Int) d:=by
 obtain⟨wk,b,h1,h2,h3,h4,h5⟩:=h
 obtain⟨mm,_,_,hOk⟩:=hg.ws.all wk (List.mem_of_getElem? h1)
 exact (hOk.blk b (List.mem_of_getElem? h3)).ds d (List.mem_of_getElem? h5)
theorem DeedAt.plain {g:Gv} {f:Fr} {d:Deed} (hg:GvOk g) (h:DeedAt g f d) (hd:(∃b,d = .save b) \/ ∃b,d = .back b):g.mean=false:=by
 obtain⟨wk,b,h1,h2,h3,h4,h5⟩:=h
 cases hm:g.mean with
 | false=>rfl
 | true =>
  obtain⟨p1,p2⟩:=hg.plain hm wk (List.mem_of_getElem? h1) b (List.mem_of_getElem? h3) d (List.mem_of_getElem? h5)
  rcases hd with ⟨x,e⟩ | ⟨x,e⟩
  ·exact absurd e (p1 x)
  ·exact absurd e (p2 x)
structure Pre (P:Program) (w:World) (K:PySem.W.Frag) (C CC:Addr) (g:Gv) (r:RA) (G0 H:Hp) (m:Ms) (f:Fr) (rest:List Fr) (hp hb hg ha:Addr):Prop where
 gv:GvOk g
 ra:RaOk K g r G0
 ms:MsOk g m
 run:RunAt P w g r G0 H m m.steps m.taken m.st.length
 cal:CallAt g r G0 H m f hp hb hg ha
 st:m.st=f::rest
 c:r.C=C
 cc:r.CC=CC
def Goes (P:Program) (w:World) (g:Gv) (r:RA) (G0 H:Hp) (m:Ms) (f:Fr) (rest:List Fr) (hp hb hg ha:Addr) (pos:Int) (Q:VK):Prop := ∀(m':Ms) (f':Fr) (H':Hp),Go g m m'->m'.st=f'::rest->f'.n=f.n->f'.w0=f.w0->f'.w1=f.w1->f'.pos=pos->RunAt P w g r G0 H' m' m'.steps m'.taken m'.st.length->CallAt g r G0 H' m' f' hp hb hg ha->Ext (hb::ha::mutR g r) H H'->Q .non H'
def Stops (P:Program) (w:World) (g:Gv) (r:RA) (G0:Hp) (m:Ms) (Q:VK):Prop := ∀(m':Ms) (c:Nat) (mid:Ms) (H':Hp) (s t d:Int),Go g m mid->mstep g mid=some (m',c)->c≠0->RunAt P w g r G0 H' m' s t d->Q (.str (codeS c)) H'
def qO6 (P:Program) (w:World) (K:PySem.W.Frag) (C CC:Addr):Sp:=fun vs H Q _ => ∃(r:RA) (g:Gv) (G0:Hp) (m:Ms) (f:Fr) (rest:List Fr) (hp hb hg ha:Addr) (dv:V) (d:Deed),vs = [.ref r.self,.ref hp,dv]/\Pre P w K C CC g r G0 H m f rest hp hb hg ha/\Den K H (deedD d) dv/\DeedAt g f d/\((∃b,d = .save b) \/ ∃b,d = .back b) /\
 Goes P w g r G0 H m f rest hp hb hg ha (f.pos+1) Q/\Stops P w g r G0 m Q
def qRj (P:Program) (w:World) (K:PySem.W.Frag) (C CC:Addr) (N:Nat):Sp:=fun vs H Q _ => ∃(r:RA) (g:Gv) (G0:Hp) (m:Ms) (f:Fr) (rest:List Fr) (hp hb hg ha:Addr) (dv:V) (d:Deed),vs = [.ref r.self,.ref hp,dv]/\Pre P w K C CC g r G0 H m f rest hp hb hg ha/\Den K H (deedD d) dv/\DeedAt g f d/\(∀b,d ≠ .save b)/\(∀b,d ≠ .back b)/\20<=m.st.length+N /\
 Goes P w g r G0 H m f rest hp hb hg ha (f.pos+1) Q/\Stops P w g r G0 m Q
def qIy (P:Program) (w:World) (K:PySem.W.Frag) (C CC:Addr) (N:Nat):Sp:=fun vs H Q _ => ∃(r:RA) (g:Gv) (G0:Hp) (m:Ms) (f:Fr) (rest:List Fr) (hp hb hg ha wy:Addr) (wk:List Blk) (b:Blk),vs = [.ref r.self,.ref hp,.ref wy]/\Pre P w K C CC g r G0 H m f rest hp hb hg ha/\H wy=some (.tup [.int f.w0,.int f.w1])/\f.pos = -1/\g.ws[f.n]? = some wk/\f.w1≠(wk.length:Int)/\wk[f.w1.toNat]? = some b/\20<=m.st.length+N /\
 Goes P w g r G0 H m f rest hp hb hg ha b.ds.length Q/\Stops P w g r G0 m Q
def qJv (P:Program) (w:World) (K:PySem.W.Frag) (C CC:Addr) (N:Nat):Sp:=fun vs H Q _ => ∃(r:RA) (g:Gv) (G0:Hp) (m:Ms) (f:Fr) (rest:List Fr) (hp hb hg ha:Addr),vs = [.ref r.self,.ref hp]/\Pre P w K C CC g r G0 H m f rest hp hb hg ha/\f.w0 = -1/\f.w1=0/\f.pos = -1/\20<=m.st.length+N /\
 (∀(m':Ms) (H':Hp),Go g m m'->m'.st=rest->RunAt P w g r G0 H' m' m'.steps m'.taken m.st.length->Ext (hb::ha::mutR g r) H H'->Q .non H')/\Stops P w g r G0 m Q
def qB3 (m:Ms) (c:Int) (bl:List Int):Ms :={ m with st:=⟨c.toNat,-1,0,-1,bl,[]⟩::m.st }
def qF9 (P:Program) (w:World) (K:PySem.W.Frag) (C CC:Addr) (N:Nat):Sp:=fun vs H Q _ => ∃(r:RA) (g:Gv) (G0:Hp) (m:Ms) (c:Int) (bb:Addr) (bl:List Int),vs = [.ref r.self,.int c,.ref bb]/\r.C=C/\r.CC=CC/\GvOk g/\RaOk K g r G0/\RunAt P w g r G0 H (qB3 m c bl) m.steps m.taken m.st.length/\m.st.length<=20/\H bb=some (.lst (bl.map V.int))/\bl.length=8/\(g.mean=false->bb=r.ba/\bl=m.held)/\0<=c/\20<=m.st.length+N /\
 (m.st.length=20->Q (.str "deep") H)/\(m.st.length<20->MsOk g (qB3 m c bl) /\
  (∀(m':Ms) (H':Hp),Go g (qB3 m c bl) m'->m'.st=m.st->RunAt P w g r G0 H' m' m'.steps m'.taken m.st.length->Ext (mutR g r) H H'->Q .non H')/\Stops P w g r G0 (qB3 m c bl) Q)
theorem qEj {n j:Nat} (h:j<n):ixN n (j:Int)=some j:=by
 unfold ixN
 rw [if_pos (by omega),if_pos (by omega),Int.toNat_natCast]
theorem qEg {l:List Int} (j:Nat) (v:Int):(l.map V.int).set j (.int v)=(putB l (j:Int) v).map V.int:=by unfold putB;rw [Int.toNat_natCast,List.map_set]
theorem qCb {l:List Int} {b:Int} (h0:0<=b) (h1:b<l.length):atI (l.map V.int) b=some (.int (getB l b)):=by
 obtain⟨j,rfl⟩:=Int.eq_ofNat_of_zero_le h0
 have hj:j<l.length:=by omega
 refine qBf ?_
 unfold getB
 rw [List.getElem?_map,List.getD_eq_getElem?_getD,Int.toNat_natCast,List.getElem?_eq_getElem hj];rfl
def rGetL (K:PySem.W.Frag):V->V->Hp->VK->Prop:=fun o i H Q => ∃p xs k z,o = .ref p/\i = .int k/\0<=k/\SqL K H p xs/\xs[k.toNat]? = some z/\Q z H
theorem qPv {X:Cx}:PGet X (rGetL X.K):=by
 intro pins s σ H o i ov iv Q I ro ri h
 obtain⟨p,xs,k,z,rfl,rfl,hk,hq,he,q⟩:=h
 cases ro
 obtain⟨t,rfl⟩:=ri
 obtain⟨its,r,pl,hz⟩:=I.list hq
 obtain⟨w,ew,rw'⟩:=r.get he
 have hl:=r.length
 have hn:=qGn
 have hlt:k.toNat<xs.length:=(List.getElem?_eq_some_iff.mp he).1
 exact wpAny_getItem_list pl.isList hk (by omega) (by simpa using ew) ⟨z,H,I,rw',q⟩
mutual
theorem Den.offIns {K:PySem.W.Frag} {H:Hp} {t C dx:Addr} {fs:List (Str×V)} (ht:H t=some (.ins C dx fs)) : ∀ {d:PyData} {v:V},Den K H d v->Den K (wo [t] H) d v
 | .none,_,e=>by simp only [Den] at e ⊢;exact e
 | .bool _,_,e=>by simp only [Den] at e ⊢;exact e
 | .int _,_,e=>by simp only [Den] at e ⊢;exact e
 | .str _,_,e=>by simp only [Den] at e ⊢;exact e
 | .list ds,_,e=>by
  simp only [Den] at e ⊢
  obtain⟨a,vs,e1,e2,e3⟩:=e
  refine⟨a,vs,e1,?_,DenL.offIns ht e3⟩
  rcases e2 with e2 | e2
  ·refine .inl (qJz (fun h => ?_) e2)
   subst h
   rcases e2 with e2 | ⟨o,e2⟩ <;> (rw [ht] at e2;cases e2)
  ·exact .inr e2
 | .tuple ds,_,e=>by
  simp only [Den] at e ⊢
  obtain⟨a,vs,e1,e2,e3⟩:=e
  refine⟨a,vs,e1,?_,DenL.offIns ht e3⟩
  rcases e2 with e2 | e2
  ·refine .inl (qJz (fun h => ?_) e2)
   subst h
   rcases e2 with e2 | ⟨o,e2⟩ <;> (rw [ht] at e2;cases e2)
  ·exact .inr e2
 | .dict _,_,e=>by simp only [Den] at e
theorem DenL.offIns {K:PySem.W.Frag} {H:Hp} {t C dx:Addr} {fs:List (Str×V)} (ht:H t=some (.ins C dx fs)) : ∀ {ds:List PyData} {vs:List V},DenL K H ds vs->DenL K (wo [t] H) ds vs
 | [],_,e=>by simp only [DenL] at e ⊢;exact e
 | d::ds,_,e=>by
  simp only [DenL] at e ⊢
  obtain⟨v,r,e1,e2,e3⟩:=e
  exact⟨v,r,e1,Den.offIns ht e2,DenL.offIns ht e3⟩
end
theorem qUd {to ti te:TE} {tget:V->V->Hp->VK->Prop} {tip:TIp} {tset:TSet} {D:Ends} {σ : St} {H:Hp} (h:to σ H fun o H1=>ti σ H1 fun i H2=>tget o i H2 fun x H3=>te σ H3 fun y H4=>tip x y H4 fun z H5=>tset o i z H5 fun H6=>D.nx σ H6):tAugS to ti te tget tip tset D σ H:=h
section
variable {g:Gv} {m m':Ms} {f f':Fr} {rest rest':List Fr} {c:Nat}
theorem qE0 (g:Gv) (m:Ms) (f:Fr) (rest:List Fr) (l:List Int):(setMine g m f rest l).steps=m.steps:=by unfold setMine;split <;> rfl
theorem qJg (d:Deed):m.steps<=(mdeed g m f rest d).1.steps:=by
 cases d with
 | save b=>exact Int.le_refl _
 | back b =>
  simp only [mdeed]
  split <;> exact Int.le_refl _
 | call x =>
  simp only [mdeed]
  split
  ·exact Int.le_refl _
  ·split
   ·exact Int.le_refl _
   ·show m.steps<=m.steps+1;omega
 | tell b =>
  simp only [mdeed]
  split
  ·exact Int.le_refl _
  ·show m.steps<=m.steps+1;omega
 | set b v =>
  simp only [mdeed]
  split
  ·exact Int.le_refl _
  ·rw [qE0];show m.steps<=m.steps+1;omega
 | add b o =>
  simp only [mdeed]
  split
  ·exact Int.le_refl _
  ·rw [qE0];show m.steps<=m.steps+1;omega
theorem qJe (es:mstep g m=some (m',c)):m.steps<=m'.steps:=by
 unfold mstep at es
 split at es
 ·cases es
 ·split at es
  ·cases es
  ·split at es
   ·cases es;exact Int.le_refl _
   ·split at es
    ·cases es
    ·split at es
     ·split at es
      ·cases es;exact Int.le_refl _
      ·cases es;show m.steps<=m.steps+1;omega
     ·split at es
      ·cases es;exact Int.le_refl _
      ·have:=congrArg (fun z=>z.1.steps) (Option.some.inj es)
       rw [<-this]
       exact qJg _
theorem Go.steps (k:Go g m m'):m.steps<=m'.steps:=by
 induction k with
 | refl=>exact Int.le_refl _
 | step e _ ih=>exact Int.le_trans (qJe e) ih
theorem qKu {wk:List Blk} {b:Blk} (est:m.st=f::rest) (hpos:f.pos = -1) (hwk:g.ws[f.n]? = some wk) (hw1:f.w1≠(wk.length:Int)) (hbk:wk[f.w1.toNat]? = some b):mstep g m=if m.steps=g.most then some (m,1) else some ({ m with steps:=m.steps+1,log:=m.log ++ [((f.n:Int),f.w0,f.w1)],st :={ f with pos:=0 }::rest },0):=by
 unfold mstep
 rw [est]
 dsimp only
 rw [hwk]
 dsimp only
 rw [if_neg hw1,hbk]
 dsimp only
 rw [if_pos (by omega)]
theorem Go.moved {wk:List Blk} {b:Blk} (k:Go g m m') (est:m.st=f::rest) (hpos:f.pos = -1) (hwk:g.ws[f.n]? = some wk) (hw1:f.w1≠(wk.length:Int)) (hbk:wk[f.w1.toNat]? = some b) (e:m'.st=f'::rest') (hp:0<=f'.pos):m.steps<m'.steps:=by
 cases k with
 | refl =>
  rw [est] at e
  cases e
  omega
 | step es k =>
  rw [qKu est hpos hwk hw1 hbk] at es
  split at es
  ·cases es
  ·cases es
   have:=k.steps
   have h2:({ m with steps:=m.steps+1,log:=m.log ++ [((f.n:Int),f.w0,f.w1)],st :={ f with pos:=0 }::rest }:Ms).steps=m.steps+1:=rfl
   omega
theorem qN0 {wk:List Blk} {b:Blk} (est:m.st=f::rest) (hpos:f.pos=b.ds.length) (hwk:g.ws[f.n]? = some wk) (hw1:f.w1≠(wk.length:Int)) (hbk:wk[f.w1.toNat]? = some b):mstep g m=some ({ m with taken:=(qB1 g.ch m.taken wk.length b.ns).2,st :={ f with w0:=f.w1,w1:=(qB1 g.ch m.taken wk.length b.ns).1,pos := -1 }::rest },0):=by
 unfold mstep
 rw [est]
 dsimp only
 rw [hwk]
 dsimp only
 rw [if_neg hw1,hbk]
 dsimp only
 rw [if_neg (by omega),List.getElem?_eq_none (by omega)]
theorem qP0 {wk:List Blk} (est:m.st=f::rest) (hwk:g.ws[f.n]? = some wk) (hw1:f.w1=(wk.length:Int)):mstep g m=some ({ m with log:=m.log ++ [((f.n:Int),f.w0,f.w1)],flt:=if g.mean=true then m.flt else m.flt++(badB m f).map fun b=>((f.n:Int),b),st:=rest },0):=by
 unfold mstep
 rw [est]
 dsimp only
 rw [hwk]
 dsimp only
 rw [if_pos hw1]
theorem qMq {X:Cx} {e:Expr} {ta:TE} {f:Str} {pos:Pos} (K:PySem.W.Frag) (hK:X.K=K) (he:PE X e ta) (hb:attributeBase e f X.env (eval e X.env)=eval e X.env):PE X (.Attribute e f pos) (tFld K ta f):=hK▸qB0 he hb
theorem PrsAt.app {H:Hp} {a b:List V} {x y:List (Int×Int)} (h:PrsAt H a x) (k:PrsAt H b y):PrsAt H (a++b) (x++y):=by
 revert k
 induction h with
 | nil=>intro k;exact k
 | cons q _ ih=>intro k;exact .cons q (ih k)
theorem PrsAt.len {H:Hp} {a:List V} {x:List (Int×Int)} (h:PrsAt H a x):a.length=x.length:=by
 induction h with
 | nil=>rfl
 | cons q _ ih=>rw [List.length_cons,List.length_cons,ih]
theorem qLq {P:Program} {w:World} {K:PySem.W.Frag} {r:RA} {G0 G:Hp} {hp hb hg ha wy:Addr} {s t d:Int} {xs:List V} (R:RunAt P w g r G0 G m s t d) (c:CallAt g r G0 G m f hp hb hg ha) (h:G wy=some (.tup xs)):wy∉hb::ha::mutR g r:=by
 have h1:=R.ob
 have h2:=R.told
 obtain⟨fl,h3,_⟩:=R.flt
 have h4:=R.held
 obtain⟨ks,h5,_⟩:=R.gone
 have h6:=c.bx
 have h7:=c.as
 intro z
 have z:wy=hb\/wy=ha\/wy∈mutR g r:=by simpa using z
 have z2:wy=hb\/wy=ha\/wy=r.self\/wy=r.ta\/wy=r.fa\/wy=r.ga\/wy=r.ba:=by
  rcases z with z | z | z
  ·exact .inl z
  ·exact .inr (.inl z)
  ·refine .inr (.inr ?_)
   unfold mutR at z
   rcases List.mem_cons.mp z with z | z
   ·exact .inl z
   rcases List.mem_cons.mp z with z | z
   ·exact .inr (.inl z)
   rcases List.mem_cons.mp z with z | z
   ·exact .inr (.inr (.inl z))
   rcases List.mem_cons.mp z with z | z
   ·exact .inr (.inr (.inr (.inl z)))
   split at z
   ·cases z
   ·exact .inr (.inr (.inr (.inr (List.mem_singleton.mp z))))
 rcases z2 with z | z | z | z | z | z | z
 ·rw [z,h6] at h;cases h
 ·rw [z,h7] at h;cases h
 ·rw [z,h1] at h;cases h
 ·rw [z,h2] at h;cases h
 ·rw [z,h3] at h;cases h
 ·rw [z,h5] at h;cases h
 ·rw [z,h4] at h;cases h
def offB (cur bl:List Int) (i:Nat):List Int:=((List.range i).map fun (b:Nat)=>(b:Int)).filter fun b => !decide (getB cur b=getB bl b)
theorem qE2 (cur bl:List Int) (i:Nat):offB cur bl (i+1)=offB cur bl i++if getB cur (i:Int)=getB bl (i:Int) then [] else [(i:Int)]:=by
 unfold offB
 rw [List.range_succ,List.map_append,List.filter_append]
 congr 1
 show List.filter _ [(i:Int)]=_
 rw [List.filter_cons]
 by_cases h:getB cur (i:Int)=getB bl (i:Int)
 ·rw [if_pos h,if_neg (by simp [h])];rfl
 ·rw [if_neg h,if_pos (by simp [h])];rfl
theorem qE3 (cur bl:List Int) (i:Nat):(offB cur bl i).length<=i:=by
 unfold offB
 refine Nat.le_trans (List.length_filter_le _ _) ?_
 simp
end
def qFa (CC:Addr):Sp:=fun vs H Q _ => ∃(hp hdx hb:Addr) (n:Int) (bl:List Int),vs = [.ref hp,.int n,.ref hb]/\H hp=some (.ins CC hdx [])/\H hb=some (.lst (bl.map V.int))/\bl.length=8 /\
 ∀(hg ha:Addr) (H':Hp),H hg=none->H ha=none->Ext [hp] H H'->H' hp=some (.ins CC hdx (cflds n hb hg ha))->H' hg=some (.lst (bl.map V.int))->H' ha=some (.dK [])->Q .non H'
def qVz:Sp:=fun _ _ _ _=>False
theorem FnOk.no {P:Program} {w:World} {K:PySem.W.Frag} {mg:Str->Option Value} {base:Heap} {k:Nat} {f:Addr} {fd:FuncData} {ps:List Str}:FnOk P w K mg base CX0 k f fd ps qVz:=⟨fun _ _ _ _ h=>h.elim,fun _ _ _ _ _ _ _ _ _ _ _ _ _ h=>h.elim⟩
theorem qIo {P:Program} {w:World} {K:PySem.W.Frag} {g:Gv} {r:RA} {G0 H1 H2:Hp} {m:Ms} {c:Int} {bl:List Int} {hb:Addr} {n:Nat} {Q':VK} {Q'':Addr->VK} {E':XK} (hQ : ∀x H3,qJv P w K r.C r.CC n [.ref r.self,.ref x] H3 Q' E0->Q'' x .non H3) (gv:GvOk g) (ra:RaOk K g r G0) (mok:MsOk g (qB3 m c bl)) (R1:RunAt P w g r G0 H1 (qB3 m c bl) m.steps m.taken ((m.st.length:Int)+1)) (x2:Ext [] H1 H2) (hb2:H2 hb=some (.lst (bl.map V.int))) (hl8:bl.length=8) (hs:g.mean=false->hb=r.ba/\bl=m.held) (ho:g.mean=true->H1 hb=none) (hN:20<=m.st.length+(n+1)) (hc0:0<=c)
  (q : ∀(m':Ms) (H':Hp),Go g (qB3 m c bl) m'->m'.st=m.st->RunAt P w g r G0 H' m' m'.steps m'.taken ((m.st.length:Int)+1)->Ext (mutR g r) H1 H'->Q' .non H') (q2:Stops P w g r G0 (qB3 m c bl) Q') :
  ∀x dx,H2 x=none->H2 dx=none->dx≠x->qFa r.CC [.ref x,.int c,.ref hb] (upd (upd H2 dx (.own x)) x (.ins r.CC dx [])) (Q'' x) E':=by
 intro hp hdx hpn hdn hne
 have hl1:((qB3 m c bl).st.length:Int)=(m.st.length:Int)+1:=by show ((m.st.length+1:Nat):Int)=_;push_cast;rfl
 have x3:Ext [] H2 (upd (upd H2 hdx (.own hp)) hp (.ins r.CC hdx [])):=(Ext.laid hdn).trans (.laid (by rw [qA6 hne.symm];exact hpn))
 have o3:(upd (upd H2 hdx (.own hp)) hp (.ins r.CC hdx [])) hp=some (.ins r.CC hdx []):=qA1
 generalize upd (upd H2 hdx (.own hp)) hp (.ins r.CC hdx [])=H3 at x3 o3 ⊢
 have b3:=x3 _ _ (by simp) hb2
 have nbp:hb≠hp:=fun z=>by rw [z,hpn] at hb2;cases hb2
 have x13:Ext [] H1 H3:=x2.trans x3
 have hp1:H1 hp=none:=x2.none (by simp) hpn
 have R3:=R1.fresh x13
 have hmean:g.mean=false\/g.mean=true:=by cases g.mean <;> simp
 refine⟨hp,hdx,hb,c,bl,rfl,o3,b3,hl8,fun hg ha H4 hgn han x4 o4 g4 a4=>hQ _ _ ?_⟩
 have e14:Ext [] H1 H4:=((x13.mono (us :=[hp]) (by simp)).trans x4).drop hp1
 have R4:=R1.fresh e14
 have b4:H4 hb=some (.lst (bl.map V.int)):=x4 _ _ (by simpa using nbp) b3
 have hbt : ∀ {y:Addr} {o:HO},H1 y=some o->r.ba≠y->hb≠y:=fun {y o} hy ny z=>by
  rcases hmean with hm | hm
  ·exact ny (((hs hm).1).symm.trans z)
  ·rw [<-z,ho hm] at hy;cases hy
 have R1h:=R1.held
 have R1t:=R1.told
 obtain⟨fl,R1f,_⟩:=R1.flt
 have g13 : ∀ {y:Addr} {o:HO},H1 y=some o->hg≠y:=fun {y o} hy z=>by
  have:=x13 _ _ (by simp) hy
  rw [<-z,hgn] at this;cases this
 refine⟨r,g,G0,qB3 m c bl,⟨c.toNat,-1,0,-1,bl,[]⟩,m.st,hp,hb,hg,ha,rfl,⟨gv,ra,mok,by rw [hl1];exact R4,?_,rfl,rfl,rfl⟩,rfl,rfl,rfl,?_,fun m' H' hgo hst RR ee => ?_,q2⟩
 ·refine⟨⟨hdx,?_⟩,?_,fun hm=>(hs hm).1,fun hm z => ?_,⟨bl,g4,hl8,fun _=>rfl⟩,a4,hbt R1t ra.tb.symm,hbt R1f ra.fb.symm,fun z => ?_,g13 R1t,g13 R1f,g13 R1h,?_,?_⟩
  ·show H4 hp=some (.ins r.CC hdx (cflds ((c.toNat:Nat):Int) hb hg ha))
   rw [Int.toNat_of_nonneg hc0];exact o4
  ·unfold mine
   rcases hmean with hm | hm
   ·rw [if_neg (by rw [hm];exact Bool.false_ne_true),b4,(hs hm).2];rfl
   ·rw [if_pos hm];exact b4
  ·rw [<-z,ho hm] at R1h;cases R1h
  ·rw [z,b3] at hgn;cases hgn
  ·rcases hmean with hm | hm
   ·rw [(hs hm).1];exact ra.nba
   ·exact R1.old.none (by simp) (ho hm)
  ·exact (R1.old.trans x13).none (by simp) han
 ·show 20<=m.st.length+1+n
  omega
 ·rw [hl1] at RR
  refine q m' H' hgo hst RR ?_
  have e:Ext (hb::ha::mutR g r) H1 H':=(e14.mono (by simp)).trans ee
  have hna:H1 ha=none:=x13.none (by simp) han
  rcases hmean with hm | hm
  ·have e2:Ext (ha::mutR g r) H1 H':=e.mono fun z hz=>by
    rcases List.mem_cons.mp hz with y | y
    ·rw [y,(hs hm).1];exact List.mem_cons_of_mem _ (qV1 hm)
    ·exact y
   exact e2.drop hna
  ·exact (e.drop (ho hm)).drop hna
theorem qRn {K:PySem.W.Frag} {H H':Hp} {a p C dx:Addr} {fs:List (Str×V)} {xs:List V} (hp:H p=some (.ins C dx fs)) (e:Ext [p] H H') (h:SqL K H a xs):SqL K H' a xs:=by
 rcases h with (h | ⟨u,h⟩) | h
 ·exact .inl (.inl (e _ _ (by simpa using fun z=>by rw [z,hp] at h;cases h) h))
 ·exact .inl (.inr ⟨u,e _ _ (by simpa using fun z=>by rw [z,hp] at h;cases h) h⟩)
 ·exact .inr h
def qLy (P:Program) (w:World) (K:PySem.W.Frag) (C CC:Addr):Sp:=fun vs H Q _ => ∃(self dx wa bx ca:Addr) (most:Int) (sh:Bool) (bl:List Int),vs = [.ref self,.ref wa,.ref bx,.ref ca,.int most,.bl sh]/\H self=some (.ins C dx [])/\SqL K H bx (bl.map V.int)/\bl.length=8 /\
 ∀(r:RA) (H':Hp),r.self=self->r.dx=dx->r.wa=wa->r.ca=ca->r.C=C->r.CC=CC->H r.ba=none->H r.ta=none->H r.fa=none->H r.ga=none->r.ta≠r.fa->r.ta≠r.ba->r.fa≠r.ba->Ext [self] H H' ->
  H' self=some (selfO r most sh "ended" 0 0 0 0 0)->H' r.ba=some (.lst (bl.map V.int))->H' r.ta=some (.lst [])->H' r.fa=some (.lst [])->H' r.ga=some (gO P w [])->Q .non H'
theorem qRx {P:Program} {w:World} {σ : St} {H:Hp} {Q:VK} (h : ∀p,H p=none->Q (.ref p) (upd H p (gO P w []))):qQd P w σ H Q:=h
def ms0 (bl:List Int):Ms:=⟨bl,[],[],0,0,0,0,[],[]⟩
def stS (c:Nat):Str:=if c=0 then "ended" else codeS c
structure EndAt (P:Program) (w:World) (g:Gv) (r:RA) (H:Hp) (m:Ms) (c:Nat):Prop where
 ob : ∃s t d,H r.self=some (selfO r g.most (!g.mean) (stS c) s t d m.sv m.bk)
 told:H r.ta=some (.lst (m.told.map V.int))
 flt : ∃fl,H r.fa=some (.lst fl)/\(g.mean=false->PrsAt H fl m.flt)
 held:H r.ba=some (.lst (m.held.map V.int))
 gone : ∃ks,H r.ga=some (gO P w ks)/\qBv H ks/\ks.length<=m.log.length /\ ∀k,lookN ks k=cntL m.log k
def qM3 (P:Program) (w:World) (K:PySem.W.Frag) (C CC:Addr):Sp:=fun vs H Q _ => ∃(g:Gv) (wa bx ca:Addr) (c:Int) (bl:List Int),vs = [.ref wa,.int c,.ref bx,.ref ca,.int g.most,.bl (!g.mean)]/\GvOk g/\Den K H (qD0 g.ws) (.ref wa)/\SqL K H bx (bl.map V.int)/\bl.length=8/\SqL K H ca (g.ch.map V.int)/\0<=c/\c<g.ws.length /\
 ∀(r:RA) (m':Ms) (cc:Nat) (H':Hp),Fi g (qB3 (ms0 bl) c bl) cc m'->EndAt P w g r H' m' cc->RaOk K g r H->r.C=C->MsOk g m'->Ext [] H H'->Q (.ref r.self) H'
theorem qKg {g:Gv} {c:Int} {bl:List Int} (gv:GvOk g) (h8:bl.length=8) (h0:0<=c) (h1:c<g.ws.length):MsOk g (qB3 (ms0 bl) c bl):=by
 have hm:=gv.most
 refine⟨h8,⟨Int.le_refl _,hm.1⟩,by show ((0:Nat):Int)<=0;decide,by show ((0:Nat):Int)+8*((1:Nat):Int)<=8*(0+1);decide,by show ((0:Nat):Int)+((1:Nat):Int)<=2*0+1;decide,Int.le_refl _,fun f hf => ?_,by show 1<=20;decide⟩
 obtain rfl:f=⟨c.toNat,-1,0,-1,bl,[]⟩:=by simpa [qB3,ms0] using hf
 exact⟨h8,⟨_,List.getElem?_eq_getElem (show c.toNat<g.ws.length by omega),Int.le_refl _,by show (0:Int)<=_;omega⟩,⟨by show (-1:Int) <= -1;decide,by show (-1:Int)<=20;decide⟩,.nil,fun p hp=>by cases hp⟩
theorem EndAt.of {P:Program} {w:World} {g:Gv} {r:RA} {G0 H:Hp} {m:Ms} {s t d:Int} (R:RunAt P w g r G0 H m s t d):EndAt P w g r H m 0:=by
 obtain⟨fl,f1,_,f3⟩:=R.flt
 exact⟨⟨s,t,d,R.ob⟩,R.told,⟨fl,f1,f3⟩,R.held,R.gone⟩
theorem EndAt.stop {P:Program} {w:World} {K:PySem.W.Frag} {g:Gv} {r:RA} {G0 H:Hp} {m:Ms} {s t d:Int} {c:Nat} (R:RunAt P w g r G0 H m s t d) (o:RaOk K g r G0) (hc:c≠0):EndAt P w g r (upd H r.self (selfO r g.most (!g.mean) (codeS c) s t d m.sv m.bk)) m c:=by
 have a:=R.apart o
 obtain⟨fl,f1,_,f3⟩:=R.flt
 obtain⟨ks,k1,k2,k3,k4⟩:=R.gone
 have e:Ext [r.self] H (upd H r.self (selfO r g.most (!g.mean) (codeS c) s t d m.sv m.bk)) :=.put (by simp)
 have nt' : ∀z ∈ [r.self],∀xs,H z≠some (.tup xs):=fun z hz xs h=>by rw [List.mem_singleton.mp hz,R.ob] at h;cases h
 refine⟨⟨s,t,d,?_⟩,e _ _ (by simpa using a.st.symm) R.told,⟨fl,e _ _ (by simpa using a.sf.symm) f1,fun z=>(f3 z).mono e nt'⟩,e _ _ (by simpa using a.sb.symm) R.held,⟨ks,e _ _ (by simpa using a.sg.symm) k1,fun y hy=>(k2 y hy).mono e nt',k3,k4⟩⟩
 rw [qA1]
 unfold stS
 rw [if_neg hc]
def nowD (hd td fd mv:Addr) (st tk:Int):List (Key×V) :=[(.inr "held",.ref hd),(.inr "told",.ref td),(.inr "faults",.ref fd),(.inr "moves",.ref mv),(.inr "steps",.int st),(.inr "taken",.int tk)]
section
variable (hd td fd mv:Addr) (st tk v:Int)
theorem qHb:valV (nowD hd td fd mv st tk) (.inr "held")=some (.ref hd):=by rfl
theorem qJb:valV (nowD hd td fd mv st tk) (.inr "told")=some (.ref td):=by rfl
theorem qFm:valV (nowD hd td fd mv st tk) (.inr "faults")=some (.ref fd):=by rfl
theorem qDf:valV (nowD hd td fd mv st tk) (.inr "moves")=some (.ref mv):=by rfl
theorem qBw:valV (nowD hd td fd mv st tk) (.inr "steps")=some (.int st):=by rfl
theorem qHa:valV (nowD hd td fd mv st tk) (.inr "taken")=some (.int tk):=by rfl
theorem qE4:putK (nowD hd td fd mv st tk) (.inr "steps") (.int v)=nowD hd td fd mv v tk:=by rfl
theorem qPc:putK (nowD hd td fd mv st tk) (.inr "taken") (.int v)=nowD hd td fd mv st v:=by rfl
end
theorem qSt {H:Hp} {now:Addr} {kvs:List (Key×V)} {s:Str} {v:V} (h:H now=some (.dK kvs)) (e:valV kvs (.inr s)=some v):DGet H now (.str s) (some v):=e▸(DGet.k (k :=.inr s) h)
theorem qSs {H:Hp} {now:Addr} {kvs kvs':List (Key×V)} {s:Str} {v:V} (h:H now=some (.dK kvs)) (e:putK kvs (.inr s) v=kvs') (hl:kvs.length<sizeLine):DPut H now (.str s) v (upd H now (.dK kvs')):=e▸(DPut.k (k :=.inr s) h hl)
theorem qO8 {K:PySem.W.Frag} {H:Hp} {a p:Addr} {kvs:List (Key×V)} {xs:List V} {o:HO} (hp:H p=some (.dK kvs)) (h:SqL K H a xs):SqL K (upd H p o) a xs:=by
 rcases h with (h | ⟨u,h⟩) | h
 ·exact .inl (.inl (by rw [qA6 (fun z=>by rw [z,hp] at h;cases h)];exact h))
 ·exact .inl (.inr ⟨u,by rw [qA6 (fun z=>by rw [z,hp] at h;cases h)];exact h⟩)
 ·exact .inr h
theorem qCk {K:PySem.W.Frag} {H:Hp} {a p:Addr} {kvs:List (Key×V)} {xs:List V} {o:HO} (hp:H p=some (.dK kvs)) (h:SqT K H a xs):SqT K (upd H p o) a xs:=by
 rcases h with (h | ⟨u,h⟩) | h
 ·exact .inl (.inl (by rw [qA6 (fun z=>by rw [z,hp] at h;cases h)];exact h))
 ·exact .inl (.inr ⟨u,by rw [qA6 (fun z=>by rw [z,hp] at h;cases h)];exact h⟩)
 ·exact .inr h
def qJ1 (K:PySem.W.Frag):Sp:=fun vs H Q _ => ∃(now wa ca hd td fd mv:Addr) (j:Nat) (st tk m:Int) (wk:List Blk) (b:Blk) (ch:List Int),vs = [.ref now,.ref wa,.int (j:Int),.ref ca]/\H now=some (.dK (nowD hd td fd mv st tk))/\Den K H (workD wk) (.ref wa)/\wk[j]? = some b/\NsOk m b.ns/\SqL K H ca (ch.map V.int)/\0<=tk/\ch.length<=1000 /\
 ∀H':Hp,H' now=some (.dK (nowD hd td fd mv st (qB1 ch tk wk.length b.ns).2))->(∀x,x≠now->H' x=H x)->Q (.int (qB1 ch tk wk.length b.ns).1) H'
theorem qB4 {H:Hp} {now:Addr} {kvs:List (Key×V)} {s:Str} {v:V} {Q:V->Prop} (h:H now=some (.dK kvs)) (e:valV kvs (.inr s)=some v) (q:Q v) : ∃a v',V.ref now = .ref a/\DGet H a (.str s) (some v')/\Q v':=⟨now,v,rfl,qSt h e,q⟩
theorem qGj {H:Hp} {now:Addr} {kvs kvs':List (Key×V)} {s:Str} {v:V} {R:Hp->Prop} (h:H now=some (.dK kvs)) (e:putK kvs (.inr s) v=kvs') (hl:kvs.length<sizeLine) (q:R (upd H now (.dK kvs'))) : ∃a H4,V.ref now = .ref a/\DPut H a (.str s) v H4/\R H4:=⟨now,_,rfl,qSs h e hl,q⟩
theorem qC4 {K:PySem.W.Frag} {H:Hp} {p:Addr} {xs:List V} {Q:List V->Prop} (h:SqL K H p xs) (q:Q xs) : ∃p' ys,[V.ref p] = [.ref p']/\(SqL K H p' ys\/SqT K H p' ys)/\Q ys:=⟨p,xs,rfl,.inl h,q⟩
structure FA where
 fa:Addr
 wy:Addr
 bx:Addr
 as:Addr
def FrAt (H:Hp) (f:Fr) (a:FA):Prop:=H a.fa=some (.lst [.int (f.n:Int),.ref a.wy,.int f.pos,.ref a.bx,.ref a.as])/\H a.wy=some (.tup [.int f.w0,.int f.w1])/\H a.bx=some (.lst (f.bx.map V.int))/\H a.as=some (.dK (asD f.as))
theorem FrAt.mono {H H':Hp} {f:Fr} {a:FA} {ts:List Addr} (h:FrAt H f a) (e:Ext ts H H') (h1:a.fa∉ts) (h2:a.bx∉ts) (h3:a.as∉ts) (ht : ∀t∈ts,∀xs,H t≠some (.tup xs)):FrAt H' f a:=by
 obtain⟨k1,k2,k3,k4⟩:=h
 exact⟨e _ _ h1 k1,e _ _ (fun z=>ht _ z _ k2) k2,e _ _ h2 k3,e _ _ h3 k4⟩
structure LR where
 now:Addr
 hd:Addr
 td:Addr
 fd:Addr
 mv:Addr
 sk:Addr
 gn:Addr
 gs:List Addr
def adrs (fas:List FA):List Addr:=fas.flatMap fun a =>[a.fa,a.bx,a.as]
def LR.all (l:LR) (fas:List FA):List Addr:=l.now::l.hd::l.td::l.fd::l.mv::l.sk::l.gn::(adrs fas++l.gs)
def WayAt (H:Hp) (x:Addr) (log:List K3) (i:Nat):Prop := ∃kvs:List (List Key×V),H x=some (.dT kvs)/\kvs.length<=log.length /\ ∀a b:Int,valV kvs [Sum.inl a,Sum.inl b]=(cntL log ((i:Int),a,b)).map V.int
structure LawAt (g:Gv) (l:LR) (G0 H:Hp) (m:Ms) (fas:List FA):Prop where
 now:H l.now=some (.dK (nowD l.hd l.td l.fd l.mv m.steps m.taken))
 held:H l.hd=some (.lst (m.held.map V.int))
 told:H l.td=some (.lst (m.told.map V.int))
 flt : ∃fl,H l.fd=some (.lst fl)/\PrsAt H fl m.flt
 mv:H l.mv=some (.lst [.int m.sv,.int m.bk])
 sk:H l.sk=some (.lst (fas.reverse.map fun a =>.ref a.fa))
 gn:H l.gn=some (.lst (l.gs.map V.ref))
 gl:l.gs.length=g.ws.length
 gw : ∀i x,l.gs[i]? = some x->WayAt H x m.log i
 frs:Paired (FrAt H) m.st fas
 nd:(l.all fas).Nodup
 old:Ext [] G0 H
 ng : ∀x∈l.all fas,G0 x=none
theorem qQ9 {fas:List FA} {a:FA} (h:a∈fas):a.fa∈adrs fas/\a.bx∈adrs fas/\a.as∈adrs fas:=by
 unfold adrs
 refine⟨List.mem_flatMap.mpr ⟨a,h,by simp⟩,List.mem_flatMap.mpr ⟨a,h,by simp⟩,List.mem_flatMap.mpr ⟨a,h,by simp⟩⟩
theorem qBo {H H':Hp} {ts:List Addr} (e:Ext ts H H') (ht : ∀t∈ts,∀xs,H t≠some (.tup xs)) {st:List Fr} {fas:List FA} (h:Paired (FrAt H) st fas) (hn : ∀t∈ts,t∉adrs fas):Paired (FrAt H') st fas:=by
 induction h with
 | nil=>exact .nil
 | @cons f a fs as r _ ih =>
  have hm:=qQ9 (fas:=a::as) (a:=a) (List.mem_cons_self ..)
  refine .cons (r.mono e (fun z=>hn _ z hm.1) (fun z=>hn _ z hm.2.1) (fun z=>hn _ z hm.2.2) ht) (ih fun t z y=>hn t z ?_)
  unfold adrs at y ⊢
  rw [List.flatMap_cons]
  exact List.mem_append_right _ y
theorem qO0 (a:FA) (fas:List FA):adrs (a::fas)=a.fa::a.bx::a.as::adrs fas:=rfl
theorem all_cons (l:LR) (a:FA) (fas:List FA):l.all (a::fas)=l.now::l.hd::l.td::l.fd::l.mv::l.sk::l.gn::a.fa::a.bx::a.as::(adrs fas++l.gs):=rfl
theorem ndNe {L:List Addr} (h:L.Nodup) {i j:Nat} {x y:Addr} (hij:i≠j) (hi:L[i]? = some x) (hj:L[j]? = some y):x≠y:=by
 rintro rfl
 obtain⟨p,e⟩:=List.getElem?_eq_some_iff.mp hi
 obtain⟨q,e'⟩:=List.getElem?_eq_some_iff.mp hj
 rcases Nat.lt_or_gt_of_ne hij with z | z
 ·exact List.pairwise_iff_getElem.mp h i j p q z (e.trans e'.symm)
 ·exact List.pairwise_iff_getElem.mp h j i q p z (e'.trans e.symm)
theorem qKf {L M:List Addr} (h:(L++M).Nodup) {x:Addr} (hx:x∈L):x∉M:=fun y=>(List.nodup_append.mp h).2.2 x hx x y rfl
section
variable {g:Gv} {l:LR} {G0 H H':Hp} {m:Ms} {fas:List FA} {a:FA}
theorem LawAt.out (L:LawAt g l G0 H m fas) {x:Addr} (hx:x ∈ [l.now,l.hd,l.td,l.fd,l.mv,l.sk,l.gn]):x∉adrs fas/\x∉l.gs:=by
 have h:([l.now,l.hd,l.td,l.fd,l.mv,l.sk,l.gn]++(adrs fas++l.gs)).Nodup:=L.nd
 have:=qKf h hx
 exact⟨fun z=>this (List.mem_append_left _ z),fun z=>this (List.mem_append_right _ z)⟩
theorem LawAt.outT (L:LawAt g l G0 H m (a::fas)) {x:Addr} (hx:x ∈ [l.now,l.hd,l.td,l.fd,l.mv,l.sk,l.gn,a.fa,a.bx,a.as]):x∉adrs fas/\x∉l.gs:=by
 have h:([l.now,l.hd,l.td,l.fd,l.mv,l.sk,l.gn,a.fa,a.bx,a.as]++(adrs fas++l.gs)).Nodup:=L.nd
 have:=qKf h hx
 exact⟨fun z=>this (List.mem_append_left _ z),fun z=>this (List.mem_append_right _ z)⟩
theorem WayAt.mono {x:Addr} {log:List K3} {i:Nat} {ts:List Addr} (h:WayAt H x log i) (e:Ext ts H H') (hx:x∉ts):WayAt H' x log i:=by
 obtain⟨kvs,h1,h2⟩:=h
 exact⟨kvs,e _ _ hx h1,h2⟩
theorem qCa {gs:List Addr} {log:List K3} {ts:List Addr} (h : ∀i x,gs[i]? = some x->WayAt H x log i) (e:Ext ts H H') (hx : ∀t∈ts,t∉gs) : ∀i x,gs[i]? = some x->WayAt H' x log i:=fun i x hi=>(h i x hi).mono e fun z=>hx _ z (List.mem_of_getElem? hi)
theorem LawAt.fresh (L:LawAt g l G0 H m fas) (e:Ext [] H H'):LawAt g l G0 H' m fas:=by
 obtain⟨fl,f1,f2⟩:=L.flt
 have k : ∀ {a o},H a=some o->H' a=some o:=fun h=>e _ _ (by simp) h
 exact⟨k L.now,k L.held,k L.told,⟨fl,k f1,f2.mono e (by simp)⟩,k L.mv,k L.sk,k L.gn,L.gl,qCa L.gw e (by simp),qBo e (by simp) L.frs (by simp),L.nd,L.old.trans e,L.ng⟩
theorem qC7 {x:Addr} {o:HO} (h:Ext [] G0 H) (hx:G0 x=none):Ext [] G0 (upd H x o):=fun b v _ hb=>by
 have:=h b v (by simp) hb
 rw [qA6 (fun z=>by rw [z,hx] at hb;cases hb)];exact this
section
variable (L:LawAt g l G0 H m fas)
include L
theorem LawAt.n7 (i j:Nat) (hij:i≠j) {x y:Addr} (hi:(l.all fas)[i]? = some x) (hj:(l.all fas)[j]? = some y):x≠y:=ndNe L.nd hij hi hj
theorem LawAt.setNow (st tk:Int):LawAt g l G0 (upd H l.now (.dK (nowD l.hd l.td l.fd l.mv st tk))) { m with steps:=st,taken:=tk } fas:=by
 obtain⟨fl,f1,f2⟩:=L.flt
 have e:Ext [l.now] H (upd H l.now (.dK (nowD l.hd l.td l.fd l.mv st tk))) :=.put (by simp)
 have nt : ∀t ∈ [l.now],∀xs,H t≠some (.tup xs):=fun t ht xs h=>by rw [List.mem_singleton.mp ht,L.now] at h;cases h
 have no:=L.out (x:=l.now) (by simp)
 have k : ∀ {a o},a≠l.now->H a=some o->(upd H l.now (.dK (nowD l.hd l.td l.fd l.mv st tk))) a=some o:=fun n h=>by rw [qA6 n];exact h
 exact⟨qA1,k (L.n7 1 0 (by decide) rfl rfl) L.held,k (L.n7 2 0 (by decide) rfl rfl) L.told,⟨fl,k (L.n7 3 0 (by decide) rfl rfl) f1,f2.mono e nt⟩,k (L.n7 4 0 (by decide) rfl rfl) L.mv,k (L.n7 5 0 (by decide) rfl rfl) L.sk,k (L.n7 6 0 (by decide) rfl rfl) L.gn,L.gl,qCa L.gw e (by simpa using no.2),qBo e nt L.frs (by simpa using no.1),L.nd,qC7 L.old (L.ng _ (by simp [LR.all])),L.ng⟩
theorem LawAt.setHeld (v:List Int):LawAt g l G0 (upd H l.hd (.lst (v.map V.int))) { m with held:=v } fas:=by
 obtain⟨fl,f1,f2⟩:=L.flt
 have e:Ext [l.hd] H (upd H l.hd (.lst (v.map V.int))) :=.put (by simp)
 have nt : ∀t ∈ [l.hd],∀xs,H t≠some (.tup xs):=fun t ht xs h=>by rw [List.mem_singleton.mp ht,L.held] at h;cases h
 have no:=L.out (x:=l.hd) (by simp)
 have k : ∀ {a o},a≠l.hd->H a=some o->(upd H l.hd (.lst (v.map V.int))) a=some o:=fun n h=>by rw [qA6 n];exact h
 exact⟨k (L.n7 0 1 (by decide) rfl rfl) L.now,qA1,k (L.n7 2 1 (by decide) rfl rfl) L.told,⟨fl,k (L.n7 3 1 (by decide) rfl rfl) f1,f2.mono e nt⟩,k (L.n7 4 1 (by decide) rfl rfl) L.mv,k (L.n7 5 1 (by decide) rfl rfl) L.sk,k (L.n7 6 1 (by decide) rfl rfl) L.gn,L.gl,qCa L.gw e (by simpa using no.2),qBo e nt L.frs (by simpa using no.1),L.nd,qC7 L.old (L.ng _ (by simp [LR.all])),L.ng⟩
theorem LawAt.setTold (v:List Int):LawAt g l G0 (upd H l.td (.lst (v.map V.int))) { m with told:=v } fas:=by
 obtain⟨fl,f1,f2⟩:=L.flt
 have e:Ext [l.td] H (upd H l.td (.lst (v.map V.int))) :=.put (by simp)
 have nt : ∀t ∈ [l.td],∀xs,H t≠some (.tup xs):=fun t ht xs h=>by rw [List.mem_singleton.mp ht,L.told] at h;cases h
 have no:=L.out (x:=l.td) (by simp)
 have k : ∀ {a o},a≠l.td->H a=some o->(upd H l.td (.lst (v.map V.int))) a=some o:=fun n h=>by rw [qA6 n];exact h
 exact⟨k (L.n7 0 2 (by decide) rfl rfl) L.now,k (L.n7 1 2 (by decide) rfl rfl) L.held,qA1,⟨fl,k (L.n7 3 2 (by decide) rfl rfl) f1,f2.mono e nt⟩,k (L.n7 4 2 (by decide) rfl rfl) L.mv,k (L.n7 5 2 (by decide) rfl rfl) L.sk,k (L.n7 6 2 (by decide) rfl rfl) L.gn,L.gl,qCa L.gw e (by simpa using no.2),qBo e nt L.frs (by simpa using no.1),L.nd,qC7 L.old (L.ng _ (by simp [LR.all])),L.ng⟩
theorem LawAt.setFlt {fl:List V} {v:List (Int×Int)} (hv:PrsAt H fl v):LawAt g l G0 (upd H l.fd (.lst fl)) { m with flt:=v } fas:=by
 obtain⟨fl0,f1,f2⟩:=L.flt
 have e:Ext [l.fd] H (upd H l.fd (.lst fl)) :=.put (by simp)
 have nt : ∀t ∈ [l.fd],∀xs,H t≠some (.tup xs):=fun t ht xs h=>by rw [List.mem_singleton.mp ht,f1] at h;cases h
 have no:=L.out (x:=l.fd) (by simp)
 have k : ∀ {a o},a≠l.fd->H a=some o->(upd H l.fd (.lst fl)) a=some o:=fun n h=>by rw [qA6 n];exact h
 exact⟨k (L.n7 0 3 (by decide) rfl rfl) L.now,k (L.n7 1 3 (by decide) rfl rfl) L.held,k (L.n7 2 3 (by decide) rfl rfl) L.told,⟨fl,qA1,hv.mono e nt⟩,k (L.n7 4 3 (by decide) rfl rfl) L.mv,k (L.n7 5 3 (by decide) rfl rfl) L.sk,k (L.n7 6 3 (by decide) rfl rfl) L.gn,L.gl,qCa L.gw e (by simpa using no.2),qBo e nt L.frs (by simpa using no.1),L.nd,qC7 L.old (L.ng _ (by simp [LR.all])),L.ng⟩
theorem LawAt.setMv (u v:Int):LawAt g l G0 (upd H l.mv (.lst [.int u,.int v])) { m with sv:=u,bk:=v } fas:=by
 obtain⟨fl,f1,f2⟩:=L.flt
 have e:Ext [l.mv] H (upd H l.mv (.lst [.int u,.int v])) :=.put (by simp)
 have nt : ∀t ∈ [l.mv],∀xs,H t≠some (.tup xs):=fun t ht xs h=>by rw [List.mem_singleton.mp ht,L.mv] at h;cases h
 have no:=L.out (x:=l.mv) (by simp)
 have k : ∀ {a o},a≠l.mv->H a=some o->(upd H l.mv (.lst [.int u,.int v])) a=some o:=fun n h=>by rw [qA6 n];exact h
 exact⟨k (L.n7 0 4 (by decide) rfl rfl) L.now,k (L.n7 1 4 (by decide) rfl rfl) L.held,k (L.n7 2 4 (by decide) rfl rfl) L.told,⟨fl,k (L.n7 3 4 (by decide) rfl rfl) f1,f2.mono e nt⟩,qA1,k (L.n7 5 4 (by decide) rfl rfl) L.sk,k (L.n7 6 4 (by decide) rfl rfl) L.gn,L.gl,qCa L.gw e (by simpa using no.2),qBo e nt L.frs (by simpa using no.1),L.nd,qC7 L.old (L.ng _ (by simp [LR.all])),L.ng⟩
end
section
variable {f:Fr} {rest:List Fr} (L:LawAt g l G0 H m (a::fas)) (est:m.st=f::rest)
include L est
theorem LawAt.top:FrAt H f a/\Paired (FrAt H) rest fas:=by
 have:=L.frs
 rw [est] at this
 cases this with
 | cons h r=>exact⟨h,r⟩
theorem LawAt.setFr {wy:Addr} {w0 w1:Int} (pos:Int) (hw:H wy=some (.tup [.int w0,.int w1])):LawAt g l G0 (upd H a.fa (.lst [.int (f.n:Int),.ref wy,.int pos,.ref a.bx,.ref a.as])) { m with st :={ f with w0:=w0,w1:=w1,pos:=pos }::rest } (⟨a.fa,wy,a.bx,a.as⟩::fas):=by
 obtain⟨⟨t1,t2,t3,t4⟩,tr⟩:=L.top est
 obtain⟨fl,f1,f2⟩:=L.flt
 have e:Ext [a.fa] H (upd H a.fa (.lst [.int (f.n:Int),.ref wy,.int pos,.ref a.bx,.ref a.as])) :=.put (by simp)
 have nt : ∀t ∈ [a.fa],∀xs,H t≠some (.tup xs):=fun t ht xs h=>by rw [List.mem_singleton.mp ht,t1] at h;cases h
 have no:=L.outT (x:=a.fa) (by simp)
 have k : ∀ {b o},b≠a.fa->H b=some o->(upd H a.fa (.lst [.int (f.n:Int),.ref wy,.int pos,.ref a.bx,.ref a.as])) b=some o:=fun n h=>by rw [qA6 n];exact h
 exact⟨k (L.n7 0 7 (by decide) rfl rfl) L.now,k (L.n7 1 7 (by decide) rfl rfl) L.held,k (L.n7 2 7 (by decide) rfl rfl) L.told,⟨fl,k (L.n7 3 7 (by decide) rfl rfl) f1,f2.mono e nt⟩,k (L.n7 4 7 (by decide) rfl rfl) L.mv,(k (L.n7 5 7 (by decide) rfl rfl) L.sk).trans (by rw [List.reverse_cons,List.reverse_cons,List.map_append,List.map_append];rfl),k (L.n7 6 7 (by decide) rfl rfl) L.gn,L.gl,qCa L.gw e (by simpa using no.2),
  .cons ⟨qA1,k (fun (z:wy=a.fa)=>nt a.fa (by simp) _ (by rw [<-z];exact hw)) hw,k (L.n7 8 7 (by decide) rfl rfl) t3,k (L.n7 9 7 (by decide) rfl rfl) t4⟩ (qBo e nt tr (by simpa using no.1)),L.nd,qC7 L.old (L.ng _ (by simp [all_cons])),L.ng⟩
theorem LawAt.setBx (v:List Int):LawAt g l G0 (upd H a.bx (.lst (v.map V.int))) { m with st :={ f with bx:=v }::rest } (a::fas):=by
 obtain⟨⟨t1,t2,t3,t4⟩,tr⟩:=L.top est
 obtain⟨fl,f1,f2⟩:=L.flt
 have e:Ext [a.bx] H (upd H a.bx (.lst (v.map V.int))) :=.put (by simp)
 have nt : ∀t ∈ [a.bx],∀xs,H t≠some (.tup xs):=fun t ht xs h=>by rw [List.mem_singleton.mp ht,t3] at h;cases h
 have no:=L.outT (x:=a.bx) (by simp)
 have k : ∀ {b o},b≠a.bx->H b=some o->(upd H a.bx (.lst (v.map V.int))) b=some o:=fun n h=>by rw [qA6 n];exact h
 exact⟨k (L.n7 0 8 (by decide) rfl rfl) L.now,k (L.n7 1 8 (by decide) rfl rfl) L.held,k (L.n7 2 8 (by decide) rfl rfl) L.told,⟨fl,k (L.n7 3 8 (by decide) rfl rfl) f1,f2.mono e nt⟩,k (L.n7 4 8 (by decide) rfl rfl) L.mv,k (L.n7 5 8 (by decide) rfl rfl) L.sk,k (L.n7 6 8 (by decide) rfl rfl) L.gn,L.gl,qCa L.gw e (by simpa using no.2),
  .cons ⟨k (L.n7 7 8 (by decide) rfl rfl) t1,k (fun (z:a.wy=a.bx)=>nt a.bx (by simp) _ (by rw [<-z];exact t2)) t2,qA1,k (L.n7 9 8 (by decide) rfl rfl) t4⟩ (qBo e nt tr (by simpa using no.1)),L.nd,qC7 L.old (L.ng _ (by simp [all_cons])),L.ng⟩
theorem LawAt.setAs (v:List (Int×Int)):LawAt g l G0 (upd H a.as (.dK (asD v))) { m with st :={ f with as:=v }::rest } (a::fas):=by
 obtain⟨⟨t1,t2,t3,t4⟩,tr⟩:=L.top est
 obtain⟨fl,f1,f2⟩:=L.flt
 have e:Ext [a.as] H (upd H a.as (.dK (asD v))) :=.put (by simp)
 have nt : ∀t ∈ [a.as],∀xs,H t≠some (.tup xs):=fun t ht xs h=>by rw [List.mem_singleton.mp ht,t4] at h;cases h
 have no:=L.outT (x:=a.as) (by simp)
 have k : ∀ {b o},b≠a.as->H b=some o->(upd H a.as (.dK (asD v))) b=some o:=fun n h=>by rw [qA6 n];exact h
 exact⟨k (L.n7 0 9 (by decide) rfl rfl) L.now,k (L.n7 1 9 (by decide) rfl rfl) L.held,k (L.n7 2 9 (by decide) rfl rfl) L.told,⟨fl,k (L.n7 3 9 (by decide) rfl rfl) f1,f2.mono e nt⟩,k (L.n7 4 9 (by decide) rfl rfl) L.mv,k (L.n7 5 9 (by decide) rfl rfl) L.sk,k (L.n7 6 9 (by decide) rfl rfl) L.gn,L.gl,qCa L.gw e (by simpa using no.2),
  .cons ⟨k (L.n7 7 9 (by decide) rfl rfl) t1,k (fun (z:a.wy=a.as)=>nt a.as (by simp) _ (by rw [<-z];exact t2)) t2,k (L.n7 8 9 (by decide) rfl rfl) t3,qA1⟩ (qBo e nt tr (by simpa using no.1)),L.nd,qC7 L.old (L.ng _ (by simp [all_cons])),L.ng⟩
theorem LawAt.pop:LawAt g l G0 (upd H l.sk (.lst (fas.reverse.map fun a =>.ref a.fa))) { m with st:=rest } fas:=by
 obtain⟨⟨t1,t2,t3,t4⟩,tr⟩:=L.top est
 obtain⟨fl,f1,f2⟩:=L.flt
 have e:Ext [l.sk] H (upd H l.sk (.lst (fas.reverse.map fun a =>.ref a.fa))) :=.put (by simp)
 have nt : ∀t ∈ [l.sk],∀xs,H t≠some (.tup xs):=fun t ht xs h=>by rw [List.mem_singleton.mp ht,L.sk] at h;cases h
 have no:=L.outT (x:=l.sk) (by simp)
 have k : ∀ {b o},b≠l.sk->H b=some o->(upd H l.sk (.lst (fas.reverse.map fun a =>.ref a.fa))) b=some o:=fun n h=>by rw [qA6 n];exact h
 have sub:List.Sublist (l.all fas) (l.all (a::fas)):=by
  rw [all_cons]
  unfold LR.all
  refine .cons_cons _ (.cons_cons _ (.cons_cons _ (.cons_cons _ (.cons_cons _ (.cons_cons _ (.cons_cons _ (.cons _ (.cons _ (.cons _ (List.Sublist.refl _))))))))))
 exact⟨k (L.n7 0 5 (by decide) rfl rfl) L.now,k (L.n7 1 5 (by decide) rfl rfl) L.held,k (L.n7 2 5 (by decide) rfl rfl) L.told,⟨fl,k (L.n7 3 5 (by decide) rfl rfl) f1,f2.mono e nt⟩,k (L.n7 4 5 (by decide) rfl rfl) L.mv,qA1,k (L.n7 6 5 (by decide) rfl rfl) L.gn,L.gl,qCa L.gw e (by simpa using no.2),
  qBo e nt tr (by simpa using no.1),L.nd.sublist sub,qC7 L.old (L.ng _ (by simp [all_cons])),fun x hx=>L.ng x (sub.subset hx)⟩
end
theorem LawAt.push (L:LawAt g l G0 H m fas) {G1:Hp} (e1:Ext [] H G1) {a:FA} {f:Fr} (hf:FrAt G1 f a) (n1:H a.fa=none) (n2:H a.bx=none) (n3:H a.as=none) (d1:a.fa≠a.bx) (d2:a.fa≠a.as) (d3:a.bx≠a.as) :
  LawAt g l G0 (upd G1 l.sk (.lst ((fas.reverse.map fun a=>V.ref a.fa) ++ [.ref a.fa]))) { m with st:=f::m.st } (a::fas):=by
 have L1:=L.fresh e1
 obtain⟨fl,f1,f2⟩:=L1.flt
 have e:Ext [l.sk] G1 (upd G1 l.sk (.lst ((fas.reverse.map fun a=>V.ref a.fa) ++ [.ref a.fa]))) :=.put (by simp)
 have nt : ∀t ∈ [l.sk],∀xs,G1 t≠some (.tup xs):=fun t ht xs h=>by rw [List.mem_singleton.mp ht,L1.sk] at h;cases h
 have no:=L1.out (x:=l.sk) (by simp)
 have k : ∀ {b o},b≠l.sk->G1 b=some o->(upd G1 l.sk (.lst ((fas.reverse.map fun a=>V.ref a.fa) ++ [.ref a.fa]))) b=some o:=fun n h=>by rw [qA6 n];exact h
 have live : ∀x∈l.all fas,H x≠none:=by
  have fr : ∀ {st:List Fr} {fas:List FA},Paired (FrAt H) st fas -> ∀x∈adrs fas,H x≠none:=by
   intro st fas h
   induction h with
   | nil=>intro x hx;cases hx
   | cons r _ ih =>
    intro x hx
    rw [qO0] at hx
    obtain⟨r1,r2,r3,r4⟩:=r
    rcases List.mem_cons.mp hx with z | hx
    ·rw [z,r1];simp
    ·rcases List.mem_cons.mp hx with z | hx
     ·rw [z,r3];simp
     ·rcases List.mem_cons.mp hx with z | hx
      ·rw [z,r4];simp
      ·exact ih x hx
  intro x hx
  obtain⟨fl,f1,f2⟩:=L.flt
  unfold LR.all at hx
  rcases List.mem_cons.mp hx with z | hx
  ·rw [z,L.now];simp
  rcases List.mem_cons.mp hx with z | hx
  ·rw [z,L.held];simp
  rcases List.mem_cons.mp hx with z | hx
  ·rw [z,L.told];simp
  rcases List.mem_cons.mp hx with z | hx
  ·rw [z,f1];simp
  rcases List.mem_cons.mp hx with z | hx
  ·rw [z,L.mv];simp
  rcases List.mem_cons.mp hx with z | hx
  ·rw [z,L.sk];simp
  rcases List.mem_cons.mp hx with z | hx
  ·rw [z,L.gn];simp
  rcases List.mem_append.mp hx with z | z
  ·exact fr L.frs x z
  ·obtain⟨i,hi⟩:=List.getElem?_of_mem z
   obtain⟨kvs,h1,_⟩:=L.gw i x hi
   rw [h1];simp
 have o1:a.fa∉l.all fas:=fun z=>live _ z n1
 have o2:a.bx∉l.all fas:=fun z=>live _ z n2
 have o3:a.as∉l.all fas:=fun z=>live _ z n3
 have hsk:l.sk∈l.all fas:=by simp [LR.all]
 have perm:(l.all (a::fas)).Perm (a.fa::a.bx::a.as::l.all fas):=by
  show (([l.now,l.hd,l.td,l.fd,l.mv,l.sk,l.gn]++([a.fa,a.bx,a.as]++(adrs fas++l.gs))):List Addr).Perm ([a.fa,a.bx,a.as]++([l.now,l.hd,l.td,l.fd,l.mv,l.sk,l.gn]++(adrs fas++l.gs)))
  generalize adrs fas++l.gs=R
  exact List.perm_append_comm_assoc _ _ _
 have nn:(l.all (a::fas)).Nodup:=by
  refine perm.nodup_iff.mpr ?_
  simp only [List.nodup_cons,List.mem_cons,not_or]
  exact⟨⟨d1,d2,o1⟩,⟨d3,o2⟩,o3,L.nd⟩
 obtain⟨q1,q2,q3,q4⟩:=hf
 have old1:=L.old.trans e1
 have ng : ∀x∈l.all (a::fas),G0 x=none:=by
  intro x hx
  have z0 : ∀ {y},H y=none->G0 y=none:=fun {y} hy=>by
   cases hc:G0 y with
   | none=>rfl
   | some o=>rw [L.old _ _ (by simp) hc] at hy;cases hy
  rcases List.mem_cons.mp (perm.mem_iff.mp hx) with z | hx
  ·rw [z];exact z0 n1
  rcases List.mem_cons.mp hx with z | hx
  ·rw [z];exact z0 n2
  rcases List.mem_cons.mp hx with z | hx
  ·rw [z];exact z0 n3
  exact L.ng x hx
 have ns : ∀ {x},x∉l.all fas->x≠l.sk:=fun hx z=>hx (z▸hsk)
 exact⟨k (L.n7 0 5 (by decide) rfl rfl) L1.now,k (L.n7 1 5 (by decide) rfl rfl) L1.held,k (L.n7 2 5 (by decide) rfl rfl) L1.told,⟨fl,k (L.n7 3 5 (by decide) rfl rfl) f1,f2.mono e nt⟩,k (L.n7 4 5 (by decide) rfl rfl) L1.mv,by rw [qA1,List.reverse_cons,List.map_append];rfl,k (L.n7 6 5 (by decide) rfl rfl) L1.gn,L.gl,qCa L1.gw e (by simpa using no.2),
  .cons ⟨k (ns o1) q1,k (fun (z:a.wy=l.sk)=>nt l.sk (by simp) _ (by rw [<-z];exact q2)) q2,k (ns o2) q3,k (ns o3) q4⟩ (qBo e nt L1.frs (by simpa using no.1)),nn,qC7 old1 (L.ng _ hsk),ng⟩
end
def qLz (n d:Nat) (lo hi:Int):Sp:=fun vs H Q _ => ∃(t:Addr) (k:Nat),vs = [.ref t]/\Tape H t k/\k+d<=2^40 /\
 ∀(l:Addr) (ns:List Int) (H':Hp),H l=none->l≠t->ns.length<=n->(∀x∈ns,lo<=x/\x<=hi)->H' l=some (.lst (ns.map V.int))->Tape H' t (k+d)->Ext [t] H H'->Q (.ref l) H'
def qM2:Sp:=fun vs H Q _ => ∃(t:Addr) (k:Nat),vs = [.ref t]/\Tape H t k/\k+24<=2^40 /\
 ∀(l:Addr) (ns:List Int) (H':Hp),H l=none->l≠t->ns.length=8->(∀x∈ns,-(10^12)<=x/\x<=10^12)->H' l=some (.lst (ns.map V.int))->Tape H' t (k+24)->Ext [t] H H'->Q (.ref l) H'
def qJ2 (K:PySem.W.Frag):Sp:=fun vs H Q _ => ∃(g:Gv) (l:LR) (G0:Hp) (m:Ms) (f:Fr) (rest:List Fr) (a:FA) (fas:List FA) (dv:V) (d:Deed),vs = [.ref l.now,.ref l.sk,dv,.int g.most,.bl g.mean]/\GvOk g/\MsOk g m/\m.st=f::rest/\LawAt g l G0 H m (a::fas)/\Den K G0 (deedD d) dv/\qIt (g.ws.length:Int) d/\(g.mean=true->(∀x,d ≠ .save x) /\ ∀x,d ≠ .back x) /\
 ∀(H':Hp) (fas':List FA),LawAt g l G0 H' (mdeed g m f rest d).1 fas'->Q (.str (stS (mdeed g m f rest d).2)) H'
def qUk (K:PySem.W.Frag):R2:=fun x y H Q => ∃p q xs,x = .ref p/\y = .ref q/\SqL K H p xs/\SqL K H q []/\Q (.bl (!xs.isEmpty)) H
theorem qP1 {X:Cx} {k:Nat} (hr:Room k X.A):OpR X (compareOp .NotEq) (qUk X.K):=by
 intro pins s σ H x y v u Q I rx ry h
 obtain⟨p,q,xs,rfl,rfl,h1,h2,qq⟩:=h
 cases rx
 cases ry
 obtain⟨its,r,pl,hz⟩:=I.list h1
 obtain⟨its',r',pl',hz'⟩:=I.list h2
 have hl:its.length=xs.length:=r.length.symm
 have hl':its'.length=0:=r'.length.symm
 cases xs with
 | nil =>
  have hl:its.length=0:=hl
  have:=SeqAt.RcNeAt.lists (A:=X.A) (s:=s) (e:=fun _=>true) pl.isList pl'.isList (by simp [hl,hl']) hr.units0 (fun j j1 j2=>absurd j1 (by simp [hl]))
  refine this _ _ _ _ ⟨.bl false,H,I,?_,qq⟩
  show Value.bool _=_
  simp [hl]
 | cons a b =>
  have hl:its.length=b.length+1:=hl
  exact SeqAt.RcNeAt.lists_lengths pl.isList pl'.isList (by simp [hl,hl']) hr.units0 _ _ _ _ ⟨.bl true,H,I,rfl,qq⟩
def psi (f:Fr):Nat:=if f.pos<0 then 2 else (23 - f.pos).toNat
def mu (g:Gv) (m:Ms):Nat:=(g.most - m.steps).toNat*1000+(m.st.map psi).sum
theorem qMl (f:Fr):psi f<=23:=by unfold psi;split <;> omega
theorem up200 (f:Fr) (n:Nat):psi f+n<=n+200:=by have:=qMl f;omega
theorem qTg (f f':Fr) (n:Nat):psi f+(psi f'+n)<=n+200:=by have:=qMl f;have:=qMl f';omega
theorem qVu {g:Gv} {m m2:Ms} {f:Fr} {rest:List Fr} (hs:0<=m.steps/\m.steps<=g.most) (est:m.st=f::rest) (e1:m2.steps=m.steps+1) (e2:m.steps≠g.most) (e3:(m2.st.map psi).sum<=(rest.map psi).sum+200):mu g m2<mu g m:=by
 unfold mu
 rw [e1]
 have:(g.most - m.steps).toNat=(g.most - (m.steps+1)).toNat+1:=by omega
 have h3:(rest.map psi).sum<=(m.st.map psi).sum:=by rw [est,List.map_cons,List.sum_cons];omega
 omega
theorem qVv {g:Gv} {m m2:Ms} (e1:m2.steps=m.steps) (e2:(m2.st.map psi).sum<(m.st.map psi).sum):mu g m2<mu g m:=by
 unfold mu
 rw [e1]
 omega
theorem qT9 {p q n:Nat} (h:p<q):p+n<q+n:=Nat.add_lt_add_right h n
section
variable {g:Gv} {m m':Ms} {f:Fr} {rest:List Fr}
theorem qSw (hm:MsOk g m) (h:mstep g m=some (m',0)):mu g m'<mu g m:=by
 have hs:=hm.steps
 unfold mstep at h
 cases est:m.st with
 | nil=>rw [est] at h;cases h
 | cons f rest =>
  rw [est] at h
  dsimp only at h
  have hf:=hm.top est
  have hp:=hf.pos
  have up : ∀ {m2:Ms} {k:Nat},m2.steps=m.steps+1->m.steps≠g.most->(m2.st.map psi).sum<=(rest.map psi).sum+200->mu g m2<mu g m:=fun {m2 k} a b c=>qVu hs est a b c
  have dn : ∀ {m2:Ms},m2.steps=m.steps->(m2.st.map psi).sum<(m.st.map psi).sum->mu g m2<mu g m:=fun {m2} a b=>qVv a b
  clear hs
  cases hw:g.ws[f.n]? with
  | none=>rw [hw] at h;cases h
  | some wk =>
   rw [hw] at h
   dsimp only at h
   split at h
   ·cases h
    refine dn rfl ?_
    show (rest.map psi).sum<_
    rw [est,List.map_cons,List.sum_cons]
    have:0<psi f:=by unfold psi;split <;> omega
    exact Nat.lt_add_of_pos_left this
   ·cases hb:wk[f.w1.toNat]? with
    | none=>rw [hb] at h;cases h
    | some b =>
     rw [hb] at h
     dsimp only at h
     split at h
     ·split at h
      ·cases h
      ·rename_i hne
       cases h
       refine up (k:=0) rfl hne ?_
       show ((({ f with pos:=0 }:Fr)::rest).map psi).sum<=_
       rw [List.map_cons,List.sum_cons]
       exact up200 _ _
     ·rename_i hpos
      cases hd:b.ds[f.pos.toNat]? with
      | none =>
       rw [hd] at h
       cases h
       refine dn rfl ?_
       show ((({ f with w0:=f.w1,w1:=(qB1 g.ch m.taken wk.length b.ns).1,pos := -1 }:Fr)::rest).map psi).sum<_
       rw [est,List.map_cons,List.map_cons,List.sum_cons,List.sum_cons]
       have h1:psi { f with w0:=f.w1,w1:=(qB1 g.ch m.taken wk.length b.ns).1,pos := -1 }=2:=by unfold psi;rfl
       have h2:2<psi f:=by unfold psi;rw [if_neg hpos];omega
       rw [h1]
       exact qT9 h2
      | some d =>
       rw [hd] at h
       have h:=Option.some.inj h
       have p1:psi { f with pos:=f.pos+1 }<psi f:=by
        unfold psi
        rw [if_neg hpos,if_neg (by show ¬f.pos+1<0;omega)]
        show (23 - (f.pos+1)).toNat<_
        omega
       cases d with
       | save b =>
        cases h
        refine dn rfl ?_
        show ((({ f with pos:=f.pos+1,as:=putA f.as b (getB m.held b) }:Fr)::rest).map psi).sum<_
        rw [est,List.map_cons,List.map_cons,List.sum_cons,List.sum_cons]
        exact qT9 p1
       | back b =>
        simp only [mdeed] at h
        split at h
        ·cases h
        ·cases h
         refine dn rfl ?_
         show ((({ f with pos:=f.pos+1 }:Fr)::rest).map psi).sum<_
         rw [est,List.map_cons,List.map_cons,List.sum_cons,List.sum_cons]
         exact qT9 p1
       | call x =>
        simp only [mdeed] at h
        split at h
        ·cases h
        ·rename_i hne
         split at h
         ·cases h
         ·cases h
          refine up (k:=0) rfl hne ?_
          show (((⟨x.toNat,-1,0,-1,mine g m { f with pos:=f.pos+1 },[]⟩:Fr)::({ f with pos:=f.pos+1 }:Fr)::rest).map psi).sum<=_
          rw [List.map_cons,List.map_cons,List.sum_cons,List.sum_cons]
          exact qTg _ _ _
       | tell b =>
        simp only [mdeed] at h
        split at h
        ·cases h
        ·rename_i hne
         cases h
         refine up (k:=0) rfl hne ?_
         show ((({ f with pos:=f.pos+1 }:Fr)::rest).map psi).sum<=_
         rw [List.map_cons,List.sum_cons]
         exact up200 _ _
       | set b v =>
        simp only [mdeed] at h
        split at h
        ·cases h
        ·rename_i hne
         unfold setMine at h
         split at h
         ·cases h
          refine up (k:=0) rfl hne ?_
          show (_::List.map psi rest).sum<=_
          rw [List.sum_cons]
          exact up200 _ _
         ·cases h
          refine up (k:=0) rfl hne ?_
          show ((({ f with pos:=f.pos+1 }:Fr)::rest).map psi).sum<=_
          rw [List.map_cons,List.sum_cons]
          exact up200 _ _
       | add b o =>
        simp only [mdeed] at h
        split at h
        ·cases h
        ·rename_i hne
         unfold setMine at h
         split at h
         ·cases h
          refine up (k:=0) rfl hne ?_
          show (_::List.map psi rest).sum<=_
          rw [List.sum_cons]
          exact up200 _ _
         ·cases h
          refine up (k:=0) rfl hne ?_
          show ((({ f with pos:=f.pos+1 }:Fr)::rest).map psi).sum<=_
          rw [List.map_cons,List.sum_cons]
          exact up200 _ _
end
def lim (m:Ms):Nat:=10^12*2^m.steps.toNat
theorem qG7 {m:Ms} {s:List Fr} (e:m.st=s) : { m with st:=s }=m:=by cases m;cases e;rfl
def maOf (g:Gv) (l:LR) (a:FA):Addr:=if g.mean=true then a.bx else l.hd
section
variable {g:Gv} {l:LR} {G0 H H':Hp} {m:Ms} {fas:List FA} {a:FA} {f:Fr} {rest:List Fr}
theorem LawAt.mineAt (L:LawAt g l G0 H m (a::fas)) (est:m.st=f::rest):H (maOf g l a)=some (.lst ((mine g m f).map V.int)):=by
 unfold maOf mine
 split
 ·exact (L.top est).1.2.2.1
 ·exact L.held
theorem LawAt.setMine (L:LawAt g l G0 H m (a::fas)) (est:m.st=f::rest) (v:List Int):LawAt g l G0 (upd H (maOf g l a) (.lst (v.map V.int))) (setMine g m f rest v) (a::fas):=by
 unfold maOf L2.setMine
 split
 ·exact L.setBx est v
 ·have:=L.setHeld v
  have e:({ m with held:=v }:Ms) = { m with held:=v,st:=f::rest }:=by cases m;cases est;rfl
  rw [e] at this;exact this
theorem LawAt.skA (L:LawAt g l G0 H m (a::fas)):H l.sk=some (.lst ((fas.reverse.map fun a=>V.ref a.fa) ++ [.ref a.fa])):=by rw [L.sk,List.reverse_cons,List.map_append];rfl
theorem LawAt.skLen (L:LawAt g l G0 H m (a::fas)) (est:m.st=f::rest):((fas.reverse.map fun a=>V.ref a.fa) ++ [V.ref a.fa]).length=rest.length+1:=by
 have:=(L.top est).2.length
 rw [List.length_append,List.length_map,List.length_reverse,this];rfl
end
theorem qRu {ta tb:TE} {σ : St} {H:Hp} {Q:VK} {b:Bool} {v:V} (h1:b=true -> ∀R:VK,R v H->ta σ H R) (h2:b=false -> ∀R:VK,R v H->tb σ H R) (q:Q v H):if b=true then ta σ H Q else tb σ H Q:=by
 cases b with
 | true=>rw [if_pos rfl];exact h1 rfl Q q
 | false=>rw [if_neg Bool.false_ne_true];exact h2 rfl Q q
theorem qG4 {K:PySem.W.Frag} {b:Bool} {H:Hp} {R:Bool->Prop} (q:R b) : ∃k,TruV K (.bl b) H k/\R k:=⟨b,by simp [TruV],q⟩
structure Laid (G0 H:Hp) (L:List Addr):Prop where
 nd:L.Nodup
 al : ∀y∈L,H y≠none
 ng : ∀y∈L,G0 y=none
 old:Ext [] G0 H
section
variable {G0 H H':Hp} {L M:List Addr} {x:Addr} {o:HO}
theorem Laid.nil (G0:Hp):Laid G0 G0 []:=⟨.nil,fun _ h=>(List.not_mem_nil h).elim,fun _ h=>(List.not_mem_nil h).elim,.refl _ _⟩
theorem Laid.add (h:Laid G0 H L) (hx:H x=none) (o:HO):Laid G0 (upd H x o) (x::L):=by
 refine⟨List.nodup_cons.mpr ⟨fun z=>h.al x z hx,h.nd⟩,fun y hy => ?_,fun y hy => ?_,h.old.trans (.laid hx)⟩
 ·rcases List.mem_cons.mp hy with z | z
  ·rw [z,qA1];simp
  ·rw [qA6 (fun (e:y=x)=>h.al y z (by rw [e];exact hx))];exact h.al y z
 ·rcases List.mem_cons.mp hy with z | z
  ·rw [z]
   cases hc:G0 x with
   | none=>rfl
   | some v=>rw [h.old _ _ (by simp) hc] at hx;cases hx
  ·exact h.ng y z
theorem Laid.put (h:Laid G0 H L) (hx:x∈L) (o:HO):Laid G0 (upd H x o) L:=by
 refine⟨h.nd,fun y hy => ?_,h.ng,fun b v _ hb => ?_⟩
 ·by_cases e:y=x
  ·rw [e,qA1];simp
  ·rw [qA6 e];exact h.al y hy
 ·rw [qA6 (fun e=>by rw [e,h.ng x hx] at hb;cases hb)];exact h.old _ _ (by simp) hb
theorem Laid.perm (h:Laid G0 H L) (p:L.Perm M):Laid G0 H M:=⟨p.nodup_iff.mp h.nd,fun y hy=>h.al y (p.mem_iff.mpr hy),fun y hy=>h.ng y (p.mem_iff.mpr hy),h.old⟩
theorem qUz {L:List Addr} (h:L.Nodup) (is:List Nat) (hi:is.Nodup) {M:List Addr} (hM:M.map some=is.map (L[·]?)):M.Nodup:=by
 induction is generalizing M with
 | nil=>cases M with
  | nil=>exact .nil
  | cons a r=>cases hM
 | cons i r ih =>
  cases M with
  | nil=>exact .nil
  | cons a t =>
   rw [List.map_cons,List.map_cons] at hM
   injection hM with e1 e2
   rw [List.nodup_cons] at hi
   refine List.nodup_cons.mpr ⟨fun z => ?_,ih hi.2 e2⟩
   have:some a∈r.map (L[·]?):=e2▸List.mem_map.mpr ⟨a,z,rfl⟩
   obtain⟨j,hj,ej⟩:=List.mem_map.mp this
   exact ndNe h (fun (q:i=j)=>hi.1 (by rw [q];exact hj)) e1.symm ej rfl
end
section
variable {g:Gv} {l:LR} {G0 H H':Hp} {m:Ms} {fas:List FA} {a:FA}
theorem LawAt.init {c:Int} {bl:List Int} {wy:Addr} (c0:0<=c) (h:Laid G0 H (l.sk::a.fa::a.as::a.bx::wy::l.gn::l.mv::l.fd::l.td::l.hd::l.now::l.gs))
  (h1:H l.now=some (.dK (nowD l.hd l.td l.fd l.mv 0 0))) (h2:H l.hd=some (.lst (bl.map V.int))) (h3:H l.td=some (.lst [])) (h4:H l.fd=some (.lst [])) (h5:H l.mv=some (.lst [.int 0,.int 0])) (h6:H l.sk=some (.lst [.ref a.fa])) (h7:H l.gn=some (.lst (l.gs.map V.ref))) (h8:l.gs.length=g.ws.length) (h9 : ∀x∈l.gs,H x=some (.dT []))
  (k1:H a.fa=some (.lst [.int c,.ref a.wy,.int (-1),.ref a.bx,.ref a.as])) (k2:H a.wy=some (.tup [.int (-1),.int 0])) (k3:H a.bx=some (.lst (bl.map V.int))) (k4:H a.as=some (.dK [])):LawAt g l G0 H (qB3 (ms0 bl) c bl) [a]:=by
 have hc:((c.toNat:Nat):Int)=c:=by omega
 have nd:(l.all [a]).Nodup:=by
  show ([l.now,l.hd,l.td,l.fd,l.mv,l.sk,l.gn,a.fa,a.bx,a.as]++l.gs).Nodup
  have h0:([l.sk,a.fa,a.as,a.bx,wy,l.gn,l.mv,l.fd,l.td,l.hd,l.now]++l.gs).Nodup:=h.nd
  obtain⟨n1,n2,n3⟩:=List.nodup_append.mp h0
  refine List.nodup_append.mpr ⟨qUz n1 [10,9,8,7,6,0,5,1,3,2] (by decide) rfl,n2,fun x hx y hy=>n3 x ?_ y hy⟩
  simp only [List.mem_cons,List.not_mem_nil,or_false] at hx ⊢
  rcases hx with z | z | z | z | z | z | z | z | z | z <;> simp [z]
 refine⟨h1,h2,h3,⟨[],h4,.nil⟩,h5,h6,h7,h8,fun i x hi=>⟨[],h9 x (List.mem_of_getElem? hi),Nat.le_refl _,fun _ _=>rfl⟩,.cons ⟨?_,k2,k3,k4⟩ .nil,nd,h.old,fun x hx=>h.ng x ?_⟩
 ·show H a.fa=some (.lst [.int ((c.toNat:Nat):Int),.ref a.wy,.int (-1),.ref a.bx,.ref a.as])
  rw [hc];exact k1
 ·have hx:x ∈ [l.now,l.hd,l.td,l.fd,l.mv,l.sk,l.gn,a.fa,a.bx,a.as]++l.gs:=hx
  simp only [List.mem_append,List.mem_cons,List.not_mem_nil,or_false] at hx ⊢
  rcases hx with (z | z | z | z | z | z | z | z | z | z) | z <;> simp [z]
theorem LawAt.logged (L:LawAt g l G0 H m fas) {i:Nat} {x:Addr} {kvs:List (List Key×V)} {w0 w1:Int} (hi:l.gs[i]? = some x) (hk:H x=some (.dT kvs)) (hl:kvs.length<=m.log.length) (hv : ∀a b:Int,valV kvs [Sum.inl a,Sum.inl b]=(cntL m.log ((i:Int),a,b)).map V.int) :
  LawAt g l G0 (upd H x (.dT (putK kvs [Sum.inl w0,Sum.inl w1] (.int ((cntL m.log ((i:Int),w0,w1)).getD 0+1))))) { m with log:=m.log ++ [((i:Int),w0,w1)] } fas:=by
 have hx:=List.mem_of_getElem? hi
 have hxa:x∈l.all fas:=by unfold LR.all;simp [hx]
 obtain⟨fl,f1,f2⟩:=L.flt
 have ns : ∀y ∈ [l.now,l.hd,l.td,l.fd,l.mv,l.sk,l.gn],y≠x:=fun y hy e=>(L.out hy).2 (e▸hx)
 have nf:x∉adrs fas:=fun z=>by
  have h:((l.now::l.hd::l.td::l.fd::l.mv::l.sk::l.gn::adrs fas)++l.gs).Nodup:=L.nd
  exact qKf h (by simp [z]) hx
 have gnd:l.gs.Nodup:=by
  have h:((l.now::l.hd::l.td::l.fd::l.mv::l.sk::l.gn::adrs fas)++l.gs).Nodup:=L.nd
  exact (List.nodup_append.mp h).2.1
 generalize hnv:(V.int ((cntL m.log ((i:Int),w0,w1)).getD 0+1))=nv
 have e:Ext [x] H (upd H x (.dT (putK kvs [Sum.inl w0,Sum.inl w1] nv))) :=.put (by simp)
 have nt : ∀t ∈ [x],∀xs,H t≠some (.tup xs):=fun t ht xs h=>by rw [List.mem_singleton.mp ht,hk] at h;cases h
 have k : ∀ {b o},b≠x->H b=some o->(upd H x (.dT (putK kvs [Sum.inl w0,Sum.inl w1] nv))) b=some o:=fun n h=>by rw [qA6 n];exact h
 refine⟨k (ns _ (by simp)) L.now,k (ns _ (by simp)) L.held,k (ns _ (by simp)) L.told,⟨fl,k (ns _ (by simp)) f1,f2.mono e nt⟩,k (ns _ (by simp)) L.mv,k (ns _ (by simp)) L.sk,k (ns _ (by simp)) L.gn,L.gl,fun j y hj => ?_,qBo e nt L.frs (by simpa using nf),L.nd,qC7 L.old (L.ng _ hxa),L.ng⟩
 by_cases hij:i=j
 ·subst hij
  rw [hi] at hj
  cases hj
  refine⟨_,qA1,?_,fun a b => ?_⟩
  ·have:=qC8 kvs [Sum.inl w0,Sum.inl w1] nv
   show _<=(m.log ++ [_]).length
   rw [List.length_append];simp;omega
  ·rw [qO3,hv,qFy]
   by_cases hab:((i:Int),a,b)=((i:Int),w0,w1)
   ·rw [if_pos hab,if_pos (by cases hab;rfl),<-hnv];rfl
   ·rw [if_neg hab,if_neg (fun z=>hab (by cases z;rfl))]
 ·have ne:y≠x:=fun z=>by subst z;exact ndNe gnd hij hi hj rfl
  obtain⟨kv2,p1,p2,p3⟩:=L.gw j y hj
  refine⟨kv2,k ne p1,by show _<=(m.log ++ [_]).length;rw [List.length_append];omega,fun a b => ?_⟩
  rw [p3,qFy,if_neg (fun z=>hij (by have:=congrArg (·.1) z;simp at this;omega))]
theorem LawAt.live (L:LawAt g l G0 H m fas) {i:Nat} (h:i<g.ws.length) : ∃x,l.gs[i]? = some x:=⟨_,List.getElem?_eq_getElem (by rw [L.gl];exact h)⟩
end
def qM1 (K:PySem.W.Frag):Sp:=fun vs H Q _ => ∃(g:Gv) (wa bx ca:Addr) (c:Int) (bl:List Int),vs = [.ref wa,.int c,.ref bx,.ref ca,.int g.most,.bl g.mean]/\GvOk g/\Den K H (qD0 g.ws) (.ref wa)/\SqL K H bx (bl.map V.int)/\bl.length=8/\SqL K H ca (g.ch.map V.int)/\0<=c/\c<g.ws.length /\
 ∀(tp:Addr) (l:LR) (fas:List FA) (m':Ms) (cc:Nat) (H':Hp),Fi g (qB3 (ms0 bl) c bl) cc m'->H' tp=some (.tup [.str (stS cc),.ref l.td,.ref l.fd,.ref l.hd,.ref l.mv,.ref l.gn])->LawAt g l H H' m' fas->H tp=none->MsOk g m'->Ext [] H H'->Q (.ref tp) H'
theorem qUa {trs:List (TE×TE)} {σ : St} {H:Hp} {Q:VK} (h : ∀p,H p=none->qF6 trs σ (upd H p (.dK [])) fun ps H2=>H2 p=some (.dK []) /\ ∃kvs:List (Key×V),ps=kvs.map (fun kv=>(kV kv.1,kv.2))/\kvs.length<=15/\Q (.ref p) (upd H2 p (.dK (qDm [] kvs)))):tDisp trs σ H Q:=h
theorem qTf {tk tv:TE} {r:List (TE×TE)} {σ : St} {H:Hp} {Q:List (V×V)->Hp->Prop} (h:tk σ H fun x H1=>tv σ H1 fun y H2=>qF6 r σ H2 fun ps H3=>Q ((x,y)::ps) H3):qF6 ((tk,tv)::r) σ H Q:=h
theorem r_pn {σ : St} {H:Hp} {Q:List (V×V)->Hp->Prop} (h:Q [] H):qF6 [] σ H Q:=h
theorem qRw {σ : St} {H:Hp} {Q:VK} (h : ∀p,H p=none->Q (.ref p) (upd H p (.dT []))):qQc σ H Q:=h
theorem qQl {t u:TS} {D:Ends} {σ : St} {H:Hp} (C:St->Hp->Prop) (h2 : ∀ σ' H',C σ' H'->u D σ' H') (h1:(∀ σ' H',C σ' H'->u D σ' H')->t { D with nx:=u D } σ H):tSeq t u D σ H:=h1 h2
theorem qTk {c:Nat} (h:c≠0):stS c ≠ "ended" :=by
 unfold stS
 rw [if_neg h]
 unfold codeS
 split <;> decide +kernel
theorem qPl (g:Gv) (m:Ms) (s:List Fr) (f:Fr) (rest:List Fr) (d:Deed):mdeed g { m with st:=s } f rest d=mdeed g m f rest d:=by
 cases d <;> rfl
theorem qNr (log:List K3) (k:K3):((cntL log k).map V.int).getD (.int 0) = .int ((cntL log k).getD 0):=by cases cntL log k <;> rfl
def PosOk (g:Gv) (m:Ms):Prop := ∀f∈m.st,∀wk b,g.ws[f.n]? = some wk->wk[f.w1.toNat]? = some b->f.pos<=(b.ds.length:Int)
theorem pos0 (bl:List Int) (c:Int) {g:Gv}:PosOk g (qB3 (ms0 bl) c bl):=by
 intro f hf wk b _ _
 obtain rfl:f=⟨c.toNat,-1,0,-1,bl,[]⟩:=by simpa [qB3,ms0] using hf
 show (-1:Int)<=_
 omega
theorem qOr {g:Gv} {m m':Ms} {c:Nat} (h:PosOk g m) (es:mstep g m=some (m',c)):PosOk g m':=by
 unfold mstep at es
 cases e:m.st with
 | nil=>rw [e] at es;cases es
 | cons f rest =>
  rw [e] at es
  dsimp only at es
  have hrest : ∀y∈rest,∀wk b,g.ws[y.n]? = some wk->wk[y.w1.toNat]? = some b->y.pos<=(b.ds.length:Int):=fun y hy=>h y (by rw [e];exact List.mem_cons_of_mem _ hy)
  have keep : ∀ {m2:Ms} {f2:Fr},m2.st=f2::rest->(∀wk b,g.ws[f2.n]? = some wk->wk[f2.w1.toNat]? = some b->f2.pos<=(b.ds.length:Int))->PosOk g m2:=by
   intro m2 f2 k1 k2 y hy
   rw [k1] at hy
   rcases List.mem_cons.mp hy with z | z
   ·subst z;exact k2
   ·exact hrest y z
  cases hw:g.ws[f.n]? with
  | none=>rw [hw] at es;cases es
  | some wk =>
   rw [hw] at es
   dsimp only at es
   split at es
   ·cases es
    exact hrest
   ·cases hb:wk[f.w1.toNat]? with
    | none=>rw [hb] at es;cases es
    | some b =>
     rw [hb] at es
     dsimp only at es
     split at es
     ·split at es
      ·cases es;exact h
      ·cases es
       exact keep (f2 :={ f with pos:=0 }) rfl fun _ b _ _=>by show (0:Int)<=_;omega
     ·rename_i hp
      cases hd:b.ds[f.pos.toNat]? with
      | none =>
       rw [hd] at es
       cases es
       exact keep (f2 :={ f with w0:=f.w1,w1:=(qB1 g.ch m.taken wk.length b.ns).1,pos := -1 }) rfl fun _ b _ _=>by show (-1:Int)<=_;omega
      | some d =>
       rw [hd] at es
       have es:=Option.some.inj es
       have hl:f.pos.toNat<b.ds.length:=(List.getElem?_eq_some_iff.mp hd).1
       have hf2 : ∀wk' b',g.ws[f.n]? = some wk'->wk'[f.w1.toNat]? = some b'->f.pos+1<=(b'.ds.length:Int):=by
        intro wk' b' h1 h2
        rw [hw] at h1
        cases h1
        rw [hb] at h2
        cases h2
        omega
       have stop : ∀ {k:Nat},(({ m with st :={ f with pos:=f.pos+1 }::rest }:Ms),k)=(m',c)->PosOk g m':=by
        intro k ez
        cases ez
        exact keep (f2 :={ f with pos:=f.pos+1 }) rfl hf2
       have setM : ∀l:List Int,(setMine g { m with steps:=m.steps+1 } { f with pos:=f.pos+1 } rest l,0)=(m',c)->PosOk g m':=by
        intro l ez
        unfold setMine at ez
        split at ez
        ·cases ez
         exact keep (f2 :={ f with pos:=f.pos+1,bx:=l }) rfl hf2
        ·cases ez
         exact keep (f2 :={ f with pos:=f.pos+1 }) rfl hf2
       cases d with
       | save b =>
        cases es
        exact keep (f2 :={ f with pos:=f.pos+1,as:=putA f.as b (getB m.held b) }) rfl hf2
       | back b =>
        simp only [mdeed] at es
        split at es
        ·exact stop es
        ·cases es
         exact keep (f2 :={ f with pos:=f.pos+1 }) rfl hf2
       | call x =>
        simp only [mdeed] at es
        split at es
        ·exact stop es
        ·split at es
         ·exact stop es
         ·cases es
          intro y hy
          rcases List.mem_cons.mp hy with z | hy
          ·subst z
           intro _ _ _ _
           show (-1:Int)<=_
           omega
          ·rcases List.mem_cons.mp hy with z | z
           ·subst z;exact hf2
           ·exact hrest y z
       | tell b =>
        simp only [mdeed] at es
        split at es
        ·exact stop es
        ·cases es
         exact keep (f2 :={ f with pos:=f.pos+1 }) rfl hf2
       | set b v =>
        simp only [mdeed] at es
        split at es
        ·exact stop es
        ·exact setM _ es
       | add b o =>
        simp only [mdeed] at es
        split at es
        ·exact stop es
        ·exact setM _ es
def LW (g:Gv) (l:LR) (G0:Hp) (m0:Ms) (wa bx ca:Addr) (c:Int) (n:Nat) (σ : St) (G:Hp):Prop := ∃(m:Ms) (fas:List FA) (cc:Nat) (o10 o11 o12 o13 o14:Option V),σ = [some (.ref wa),some (.int c),some (.ref bx),some (.ref ca),some (.int g.most),some (.bl g.mean),some (.ref l.now),some (.ref l.gn),some (.ref l.sk),some (.str (stS cc)),o10,o11,o12,o13,o14] /\
 LawAt g l G0 G m fas/\MsOk g m/\((cc=0/\Go g m0 m/\n=mu g m+1/\PosOk g m)\/(cc≠0/\Fi g m0 cc m/\n=0))
section
variable {g:Gv} {l:LR} {G0 H:Hp} {m0 m m':Ms} {wa bx ca:Addr} {c:Int} {σ : St} {fas:List FA} {n:Nat} {o10 o11 o12 o13 o14:Option V}
theorem LW.go (gv:GvOk g) (ms:MsOk g m) (hps:PosOk g m) (hgo:Go g m0 m) (hn:n=mu g m+1) (hs:mstep g m=some (m',0)) (L:LawAt g l G0 H m' fas) (e : σ = [some (.ref wa),some (.int c),some (.ref bx),some (.ref ca),some (.int g.most),some (.bl g.mean),some (.ref l.now),some (.ref l.gn),some (.ref l.sk),some (.str "ended"),o10,o11,o12,o13,o14]) : ∃n',n'<n/\LW g l G0 m0 wa bx ca c n' σ H :=
 ⟨mu g m'+1,by have:=qSw ms hs;omega,m',fas,0,o10,o11,o12,o13,o14,e,L,qE5 gv ms hs,.inl ⟨rfl,hgo.trans (.one hs),rfl,qOr hps hs⟩⟩
theorem LW.stop {cc:Nat} (gv:GvOk g) (ms:MsOk g m) (hgo:Go g m0 m) (hn:n=mu g m+1) (hs:mstep g m=some (m',cc)) (hc:cc≠0) (L:LawAt g l G0 H m' fas) (e : σ = [some (.ref wa),some (.int c),some (.ref bx),some (.ref ca),some (.int g.most),some (.bl g.mean),some (.ref l.now),some (.ref l.gn),some (.ref l.sk),some (.str (stS cc)),o10,o11,o12,o13,o14]) : ∃n',n'<n/\LW g l G0 m0 wa bx ca c n' σ H :=
 ⟨0,by omega,m',fas,cc,o10,o11,o12,o13,o14,e,L,qE5 gv ms hs,.inr ⟨hc,.of hgo (.stop hs hc),rfl⟩⟩
end
section
variable {g:Gv} {m:Ms} {f:Fr} {rest:List Fr} {wk:List Blk} {b:Blk} (est:m.st=f::rest) (hwk:g.ws[f.n]? = some wk)
include est hwk
theorem qV3 (h:f.w1=(wk.length:Int)):mstep g m=some ({ m with log:=m.log ++ [((f.n:Int),f.w0,f.w1)],flt:=if g.mean=true then m.flt else m.flt++(badB m f).map fun b=>((f.n:Int),b),st:=rest },0):=by
 unfold mstep
 rw [est]
 dsimp only
 rw [hwk]
 dsimp only
 rw [if_pos h]
variable (hne : ¬f.w1=(wk.length:Int)) (hbk:wk[f.w1.toNat]? = some b)
include hne hbk
theorem qT0 (hp:f.pos<0):mstep g m=if m.steps=g.most then some (m,1) else some ({ m with steps:=m.steps+1,log:=m.log ++ [((f.n:Int),f.w0,f.w1)],st :={ f with pos:=0 }::rest },0):=by
 unfold mstep
 rw [est]
 dsimp only
 rw [hwk]
 dsimp only
 rw [if_neg hne,hbk]
 dsimp only
 rw [if_pos hp]
theorem qSy (hp : ¬f.pos<0) (hd:b.ds[f.pos.toNat]? = none):mstep g m=some ({ m with taken:=(qB1 g.ch m.taken wk.length b.ns).2,st :={ f with w0:=f.w1,w1:=(qB1 g.ch m.taken wk.length b.ns).1,pos := -1 }::rest },0):=by
 unfold mstep
 rw [est]
 dsimp only
 rw [hwk]
 dsimp only
 rw [if_neg hne,hbk]
 dsimp only
 rw [if_neg hp,hd]
theorem qSz {d:Deed} (hp : ¬f.pos<0) (hd:b.ds[f.pos.toNat]? = some d):mstep g m=some (mdeed g m { f with pos:=f.pos+1 } rest d):=by
 unfold mstep
 rw [est]
 dsimp only
 rw [hwk]
 dsimp only
 rw [if_neg hne,hbk]
 dsimp only
 rw [if_neg hp,hd]
end
def tPar3 (i j k:Nat) (ta:TA):TS:=fun D σ H=>ta σ H fun vs H1 => ∃v w z,vs = [v,w,z]/\D.nx (((σ.set i (some v)).set j (some w)).set k (some z)) H1
theorem qS4 {X:Cx} {i j k:Nat} {x y q:Str} {a b c:Expr} {ta:TA} {px py pq pt pos:Pos} {kt k2 pt2} (hc:X.calm=true) (hN:X.N.Nodup) (hi:X.N[i]? = some x) (hj:X.N[j]? = some y) (hk:X.N[k]? = some q) (hij:i≠j) (hik:i≠k) (hjk:j≠k)
  (hx:X.env.scope.names.lookup x=some .local) (hy:X.env.scope.names.lookup y=some .local) (hq:X.env.scope.names.lookup q=some .local) (ha:PA X [a,b,c] ta)
  (hw:swappedStores [.Tuple [.Name x px,.Name y py,.Name q pq] kt pt] (.Tuple [a,b,c] k2 pt2) X.env=pure (some [x,y,q]))
  (hs:swapsWithSole [.Tuple [.Name x px,.Name y py,.Name q pq] kt pt] (.Tuple [a,b,c] k2 pt2) pos.line X.env=pure false:=by rfl) :
  PS X (.Assign [.Tuple [.Name x px,.Name y py,.Name q pq] kt pt] (.Tuple [a,b,c] k2 pt2) pos) (tPar3 i j k ta):=by
 intro pins s σ H D I h
 rw [exec_Assign_arm]
 refine wpAny_bind (wpAny_standAt ?_)
 rw [hs]
 refine wpAny_bind (wpAny_pure ?_)
 rw [if_neg (by decide)]
 refine wpAny_bind (Tuple_ (thn (ha _ pins s σ H _ I h) fun us s1 hq_ => ?_))
 obtain⟨vs,H1,I1,r1,q1⟩:=hq_
 obtain⟨v,w,z,e1,q1⟩:=q1
 subst e1
 obtain⟨u1,u2,u3,rfl,rv,rw',rz⟩ : ∃u1 u2 u3,us = [u1,u2,u3]/\RelV v u1/\RelV w u2/\RelV z u3:=by
  cases r1 with
  | cons p q =>
   cases q with
   | cons p' q' =>
    cases q' with
    | cons p'' q'' =>
     cases q''
     exact⟨_,_,_,rfl,p,p',p''⟩
 refine wpAny_newObj_type ?_ (by show 3<=sizeLine;decide)
 have I2:Inv X pins σ H1 { s1 with heap:=s1.heap.push { cls :=.type "tuple",data :=.seq [u1,u2,u3].toArray } }:=I1.kept (t':=s1.toks) fun b o e=>Heap.get?_push_of_some _ e
 rw [hw]
 refine wpAny_bind (wpAny_pure ?_)
 show wpAny (model X.prog X.w) X.A (do rule "assign.swapped-stores";let items <-unpackItems (.ref s1.heap.objs.size) 3 none;assignInOrder [fun v=>bindName X.env q v,fun v=>bindName X.env y v,fun v=>bindName X.env x v] items.reverse;pure Flow.next) _ _ _
 refine wpAny_bind (wpAny_rule (wpAny_bind (unpackItems_tuple (items := #[u1,u2,u3]) (I.ok.hd hc) (IsTup.new s1.heap _) fun h' hx' => ?_)))
 have I3:=I2.kept (h':=h') (t':=s1.toks) fun b o e=>hx' b o (Nat.ne_of_lt (Heap.lt_size e)) e
 show wpAny _ _ (assignInOrder [fun v=>bindName X.env q v,fun v=>bindName X.env y v,fun v=>bindName X.env x v] [u3,u2,u1] >>= fun _=>pure Flow.next) _ _ _
 refine wpAny_bind (assignInOrder_cons (wpAny_bindName (qCq I3 hN hk (.inl hq) rz (fun s2 I4 => ?_) (.inr hq))))
 refine assignInOrder_cons (wpAny_bindName (qCq I4 hN hj (.inl hy) rw' (fun s3 I5 => ?_) (.inr hy)))
 refine assignInOrder_cons (wpAny_bindName (qCq I5 hN hi (.inl hx) rv (fun s4 I6=>assignInOrder_nil (wpAny_pure ?_)) (.inr hx)))
 rw [List.set_comm _ _ (Ne.symm hij),List.set_comm _ _ (Ne.symm hik),List.set_comm _ _ (Ne.symm hjk)] at I6
 exact⟨_,H1,I6,q1⟩
theorem qTy {n m k:Nat} {tl:TA} {D:Ends} {σ : St} {H:Hp} (h:tl σ H fun vs H1 => ∃v w z,vs = [v,w,z]/\D.nx (((σ.set n (some v)).set m (some w)).set k (some z)) H1):tPar3 n m k tl D σ H:=h
def DeedP (works:Int):Deed->Prop
 | .set b n=>0<=b/\b<8 /\ -(10^12)<=n/\n<=10^12
 | .add b o=>0<=b/\b<8/\0<=o/\o<8
 | .tell b=>0<=b/\b<8
 | .call c=>0<=c/\c<works
 | .save _=>False
 | .back _=>False
theorem DeedP.ok {works:Int} {d:Deed} (h:DeedP works d):qIt works d:=by
 cases d <;> first | exact h | exact h.elim
theorem DeedP.pl {works:Int} {d:Deed} (h:DeedP works d):(∀x,d ≠ .save x) /\ ∀x,d ≠ .back x:=by
 refine⟨fun x e => ?_,fun x e => ?_⟩ <;> (subst e;exact h.elim)
def Fw (works:Int) (b:Blk):Prop:=b.ds.length<=12 /\ ∀d∈b.ds,DeedP works d
def qEy (K:PySem.W.Frag):Sp:=fun vs H Q _ => ∃(t b:Addr) (k:Nat) (most first works:Int) (bs:List Int),vs = [.ref t,.int most,.ref b,.int first,.int works]/\Tape H t k/\k+130<=2^40/\0<=most/\most<=12/\0<=first/\first<=100/\1<=works/\works<=100 /\
 H b=some (.lst (bs.map V.int))/\b≠t/\BsOk bs /\ ∀(l:Addr) (ds:List Deed) (H':Hp),H l=none->Tape H' t (k+130)->Ext [t] H H'->(∀d∈ds,DeedP works d)->ds.length<=12->Den K (yo H [t] H') (.list (ds.map deedD)) (.ref l)->Q (.ref l) H'
def qIx (K:PySem.W.Frag):Sp:=fun vs H Q _ => ∃(t:Addr) (k:Nat) (m most first works:Int),vs = [.ref t,.int m,.int most,.int first,.int works]/\Tape H t k/\k+2000<=2^40/\1<=m/\m<=12/\0<=most/\most<=12/\0<=first/\first<=100/\1<=works/\works<=100 /\
 ∀(l:Addr) (w:List Blk) (bs:List V) (H':Hp),H l=none->l≠t->Tape H' t (k+2000)->Ext [t] H H'->WorkOk m works w->(∀b∈w,Fw works b)->H' l=some (.lst bs)->DenL K (yo H [l,t] H') (w.map blkD) bs->Q (.ref l) H'
def qGw (K:PySem.W.Frag):Sp:=fun vs H Q _ => ∃(t:Addr) (k:Nat) (most:Int),vs = [.ref t,.int most]/\Tape H t k/\k+21000<=2^40/\0<=most/\most<=12 /\
 ∀(l:Addr) (as:List Addr) (ws:List (List Blk)) (H':Hp),H l=none->l≠t->l∉as->(∀a∈as,H a=none/\a≠t)->as.Nodup->Tape H' t (k+21000)->Ext [t] H H'->H' l=some (.lst (as.map V.ref))->WorksAt K (yo H (l::t::as) H') H' as ws->AllOk (ws.length:Int) ws->(∀w∈ws,∀b∈w,Fw (ws.length:Int) b)->Q (.ref l) H'
theorem qKt {K:PySem.W.Frag} {G H:Hp} {as:List Addr} {ws:List (List Blk)} (h:WorksAt K G H as ws) (g:Same G H):DenL K H (ws.map workD) (as.map V.ref):=by
 unfold WorksAt at h
 induction h with
 | nil=>exact .nil
 | cons r _ ih =>
  obtain⟨bs,e,d⟩:=r
  exact .cons (.list (SqL.of e) (d.mono g)) ih
theorem hideQ {sp:Sp} {vs:List V} {H:Hp} {Q:VK} {E:XK} (h : ∀Q':VK,NxV Q' Q->sp vs H Q' E):sp vs H Q E:=h Q fun _ _ h=>h
structure IniAt (H G:Hp) (sf C dx:Addr) (fs:List (Str×V)) (k:Nat) (cs:List (Addr×HO)):Prop where
 x:Ext [sf] H G
 o:G sf=some (.ins C dx fs)
 ln:fs.length<=k
 ce : ∀p∈cs,G p.1=some p.2/\p.1≠sf/\H p.1=none
 nd:(cs.map (·.1)).Nodup
section
variable {H G:Hp} {sf C dx:Addr} {fs:List (Str×V)} {k:Nat} {cs:List (Addr×HO)}
theorem IniAt.put (I:IniAt H G sf C dx fs k cs) (f:Str) (v:V):IniAt H (upd G sf (.ins C dx (putF f v fs))) sf C dx (putF f v fs) (k+1) cs :=
 ⟨I.x.trans (.put (by simp)),qA1,Nat.le_trans (qDu f v fs) (Nat.succ_le_succ I.ln),fun p hp=>by
  obtain⟨h1,h2,h3⟩:=I.ce p hp
  exact⟨by rw [qA6 h2];exact h1,h2,h3⟩,I.nd⟩
theorem IniAt.lay (I:IniAt H G sf C dx fs k cs) {a:Addr} (o:HO) (h:G a=none):IniAt H (upd G a o) sf C dx fs k ((a,o)::cs):=by
 have n:a≠sf:=(qA5 I.o h).symm
 refine⟨I.x.trans (.laid h),by rw [qA6 n.symm];exact I.o,I.ln,fun p hp => ?_,?_⟩
 ·rcases List.mem_cons.mp hp with z | z
  ·subst z;exact⟨qA1,n,I.x.none (by simpa using n) h⟩
  ·obtain⟨h1,h2,h3⟩:=I.ce p z
   exact⟨by rw [qA6 (fun e=>by rw [e,h] at h1;cases h1)];exact h1,h2,h3⟩
 ·rw [List.map_cons,List.nodup_cons]
  refine⟨fun z => ?_,I.nd⟩
  obtain⟨p,hp,e⟩:=List.mem_map.mp z
  have:=(I.ce p hp).1
  have e:p.1=a:=e
  rw [e,h] at this;cases this
theorem IniAt.few (I:IniAt H G sf C dx fs k cs) (h:k<1000):fs.length<1000:=Nat.lt_of_le_of_lt I.ln h
end
theorem qIv {d:PyData} (h:tame d=true) (hc:cells d<=22000) (hd:d.depth<=64):d.showable=true/\d.depth<=100/\d.shown.length<=sizeLine:=by
 refine⟨qHo d h,by omega,?_⟩
 have h1:=PyData.shown_le 14 (by decide) d (PyData.leavesShort_of_canLay0 14 d (qGv d h) (qG5 d h))
 have h2:=qF5 d h
 have e:sizeLine=16777216:=by decide
 have h3:(14+2)*d.weight<=16*(46*22000+45):=Nat.mul_le_mul (by decide) (by omega)
 omega
def inC (log:List K3) (n:Nat) (b:Int):Nat:=log.countP fun k=>decide (k.1=(n:Int)/\k.2.2=b)
def outC (log:List K3) (n:Nat) (b:Int):Nat:=log.countP fun k=>decide (k.1=(n:Int)/\k.2.1=b)
def locF (f:Fr):Int:=if f.pos<0 then f.w0 else f.w1
def frC (st:List Fr) (n:Nat) (b:Int):Nat:=st.countP fun f=>decide (f.n=n/\locF f=b)
structure FlowOk (g:Gv) (m:Ms):Prop where
 log : ∀k∈m.log,∃(n:Nat) (wk:List Blk),k.1=(n:Int)/\g.ws[n]? = some wk/\(k.2.1,k.2.2)∈qAi wk wk.length
 st : ∀f∈m.st,∃wk,g.ws[f.n]? = some wk/\(f.w0,f.w1)∈qAi wk wk.length/\(f.w1=(wk.length:Int)->f.pos<0)
 even : ∀(n:Nat) (wk:List Blk) (b:Int),g.ws[n]? = some wk->0<=b->b<(wk.length:Int)->inC m.log n b=outC m.log n b+frC m.st n b
theorem qC2 (f:Fr) (st:List Fr) (n:Nat) (b:Int):frC (f::st) n b=frC st n b+if f.n=n/\locF f=b then 1 else 0:=by
 unfold frC
 rw [List.countP_cons]
 by_cases h:f.n=n/\locF f=b
 ·rw [decide_eq_true h,if_pos h];rfl
 ·rw [decide_eq_false h,if_neg h];rfl
theorem qHe (log:List K3) (x:Nat) (u v:Int) (n:Nat) (b:Int):inC (log ++ [((x:Int),u,v)]) n b=inC log n b+if x=n/\v=b then 1 else 0:=by
 unfold inC
 rw [List.countP_append,List.countP_cons,List.countP_nil]
 by_cases h:x=n/\v=b
 ·rw [decide_eq_true (show ((x:Int)=(n:Int)/\v=b) from⟨by omega,h.2⟩),if_pos h];rfl
 ·rw [decide_eq_false (show ¬((x:Int)=(n:Int)/\v=b) from fun q=>h ⟨by omega,q.2⟩),if_neg h];rfl
theorem qFk (log:List K3) (x:Nat) (u v:Int) (n:Nat) (b:Int):outC (log ++ [((x:Int),u,v)]) n b=outC log n b+if x=n/\u=b then 1 else 0:=by
 unfold outC
 rw [List.countP_append,List.countP_cons,List.countP_nil]
 by_cases h:x=n/\u=b
 ·rw [decide_eq_true (show ((x:Int)=(n:Int)/\u=b) from⟨by omega,h.2⟩),if_pos h];rfl
 ·rw [decide_eq_false (show ¬((x:Int)=(n:Int)/\u=b) from fun q=>h ⟨by omega,q.2⟩),if_neg h];rfl
theorem qGu (w:List Blk) : ∀i,((-1,0):Int×Int)∈qAi w i
 | 0=>by simp [qAi]
 | i+1=>List.mem_append_left _ (qGu w i)
theorem qLl {w:List Blk} {a:Nat} {b:Blk} {p:Int×Int} (hb:w[a]? = some b) (hp:p∈outs w.length a b.ns) : ∀i,a<i->p∈qAi w i
 | 0,h=>by omega
 | i+1,h=>by
  by_cases e:a=i
  ·subst e
   refine List.mem_append_right _ ?_
   rw [hb];exact hp
  ·exact List.mem_append_left _ (qLl hb hp i (by omega))
theorem qHl {m works:Int} {w:List Blk} (h:WorkOk m works w) {p:Int×Int} : ∀i,p∈qAi w i->p=(-1,0)\/0<=p.2
 | 0,hp =>.inl (by simpa [qAi] using hp)
 | i+1,hp=>by
  rcases List.mem_append.mp hp with z | z
  ·exact qHl h i z
  ·right
   unfold outs at z
   rcases List.mem_append.mp z with y | y
   ·obtain⟨x,hx,rfl⟩:=List.mem_map.mp y
    cases hb:w[i]? with
    | none=>rw [hb] at hx;cases hx
    | some b =>
     rw [hb] at hx
     have hx:x∈srt b.ns:=hx
     have hn:=(h.blk b (List.mem_of_getElem? hb)).ns
     have hm:x∈b.ns:=by
      rcases hn with q | ⟨u,q,_⟩ | ⟨u,v,q,_⟩
      ·rw [q] at hx ⊢;exact hx
      ·rw [q] at hx ⊢;exact hx
      ·rw [q] at hx ⊢
       simp only [srt] at hx
       split at hx
       ·exact hx
       ·simp at hx ⊢;exact hx.symm
     have:=hn.range x hm
     show 0<=x
     omega
   ·split at y
    ·rw [List.mem_singleton.mp y];show (0:Int)<=(w.length:Int);omega
    ·cases y
theorem qPg {w:List Blk} {a:Nat} {b:Blk} {ch:List Int} {taken m works:Int} (hw:WorkOk m works w) (hb:w[a]? = some b):((a:Int),(qB1 ch taken w.length b.ns).1)∈qAi w w.length:=by
 have ha:a<w.length:=(List.getElem?_eq_some_iff.mp hb).1
 have hn:=(hw.blk b (List.mem_of_getElem? hb)).ns
 refine qLl hb ?_ _ ha
 unfold outs
 rcases hn with z | ⟨x,z,_⟩ | ⟨x,y,z,_⟩
 ·rw [z];simp [qB1,srt]
 ·rw [z];simp [qB1,srt]
 ·rw [z]
  simp only [qB1,srt]
  by_cases q:taken+1>ch.length\/getB ch taken=0
  ·rw [if_pos q]
   by_cases e:x<=y
   ·rw [if_pos e];simp
   ·rw [if_neg e];simp
  ·rw [if_neg q]
   by_cases e:x<=y
   ·rw [if_pos e];simp
   ·rw [if_neg e];simp
theorem qIh {g:Gv} {m m':Ms} {c:Nat} (hg:GvOk g) (h:FlowOk g m) (es:mstep g m=some (m',c)):FlowOk g m':=by
 unfold mstep at es
 cases e:m.st with
 | nil=>rw [e] at es;cases es
 | cons f rest =>
  rw [e] at es
  dsimp only at es
  obtain⟨hlog,hst,hev⟩:=h
  rw [e] at hst hev
  obtain⟨wk,hwk,hway,hlast⟩:=hst f (List.mem_cons_self ..)
  obtain⟨mm,_,_,hOk⟩:=hg.ws.all wk (List.mem_of_getElem? hwk)
  have hrest : ∀x∈rest,∃wk,g.ws[x.n]? = some wk/\(x.w0,x.w1)∈qAi wk wk.length/\(x.w1=(wk.length:Int)->x.pos<0):=fun x hx=>hst x (List.mem_cons_of_mem _ hx)
  have logS : ∀k∈m.log ++ [((f.n:Int),f.w0,f.w1)],∃(n:Nat) (wk:List Blk),k.1=(n:Int)/\g.ws[n]? = some wk/\(k.2.1,k.2.2)∈qAi wk wk.length:=fun k hk=>by
   rcases List.mem_append.mp hk with z | z
   ·exact hlog k z
   ·rw [List.mem_singleton.mp z];exact⟨f.n,wk,rfl,hwk,hway⟩
  rw [hwk] at es
  dsimp only at es
  split at es
  ·rename_i ho
   cases es
   refine⟨logS,hrest,fun n w2 b h1 h2 h3 => ?_⟩
   have k:=hev n w2 b h1 h2 h3
   rw [qC2] at k
   have hp:=hlast ho
   have hl:locF f=f.w0:=if_pos hp
   show inC (m.log ++ [_]) n b=outC (m.log ++ [_]) n b+frC rest n b
   rw [qHe,qFk]
   rw [hl] at k
   by_cases en:f.n=n
   ·have ew:w2=wk:=by rw [en] at hwk;rw [h1] at hwk;exact Option.some.inj hwk
    rw [if_neg (show ¬(f.n=n/\f.w1=b) from fun q=>by rw [ho] at q;rw [ew] at h3;omega)]
    omega
   ·rw [if_neg (show ¬(f.n=n/\f.w1=b) from fun q=>en q.1)]
    omega
  ·rename_i ho
   cases hb:wk[f.w1.toNat]? with
   | none=>rw [hb] at es;cases es
   | some b =>
    rw [hb] at es
    dsimp only at es
    split at es
    ·rename_i hp
     split at es
     ·cases es
      exact⟨hlog,by rw [e];exact hst,by rw [e];exact hev⟩
     ·cases es
      refine⟨logS,fun x hx => ?_,fun n w2 b2 h1 h2 h3 => ?_⟩
      ·rcases List.mem_cons.mp hx with z | z
       ·subst z
        exact⟨wk,hwk,hway,fun q=>absurd q ho⟩
       ·exact hrest x z
      ·have k:=hev n w2 b2 h1 h2 h3
       rw [qC2] at k
       have hl:locF f=f.w0:=if_pos hp
       show inC (m.log ++ [_]) n b2=outC (m.log ++ [_]) n b2+frC (_::rest) n b2
       rw [qHe,qFk,qC2]
       have hl2:locF { f with pos:=0 }=f.w1:=if_neg (by show ¬(0:Int)<0;decide)
       rw [hl2]
       rw [hl] at k
       change inC m.log n b2+(if f.n=n/\f.w1=b2 then 1 else 0)=outC m.log n b2+(if f.n=n/\f.w0=b2 then 1 else 0)+(frC rest n b2+if f.n=n/\f.w1=b2 then 1 else 0)
       omega
    ·rename_i hp
     have hl:locF f=f.w1:=if_neg hp
     have keep : ∀ {m2:Ms} {f2:Fr},m2.log=m.log->m2.st=f2::rest->f2.n=f.n->f2.w0=f.w0->f2.w1=f.w1->f2.pos=f.pos+1->FlowOk g m2:=by
      intro m2 f2 q1 q2 q3 q4 q5 q6
      have hl2:locF f2=f.w1:=(if_neg (by rw [q6];omega)).trans q5
      refine⟨by rw [q1];exact hlog,fun x hx => ?_,fun n w2 b2 h1 h2 h3 => ?_⟩
      ·rw [q2] at hx
       rcases List.mem_cons.mp hx with z | z
       ·subst z
        exact⟨wk,by rw [q3];exact hwk,by rw [q4,q5];exact hway,fun q=>absurd (q5▸q) ho⟩
       ·exact hrest x z
      ·have k:=hev n w2 b2 h1 h2 h3
       rw [q1,q2,qC2,hl2,q3]
       rw [qC2,hl] at k
       exact k
     cases hd:b.ds[f.pos.toNat]? with
     | none =>
      rw [hd] at es
      cases es
      have hw0:0<=f.w1:=by
       rcases qHl hOk _ hway with q | q
       ·have q:f.w1=0:=congrArg Prod.snd q
        omega
       ·exact q
      refine⟨hlog,fun x hx => ?_,fun n w2 b2 h1 h2 h3 => ?_⟩
      ·rcases List.mem_cons.mp hx with z | z
       ·subst z
        refine⟨wk,hwk,?_,fun _=>by show (-1:Int)<0;decide⟩
        have:=qPg (ch:=g.ch) (taken:=m.taken) hOk hb
        rw [Int.toNat_of_nonneg hw0] at this
        exact this
       ·exact hrest x z
      ·have k:=hev n w2 b2 h1 h2 h3
       show inC m.log n b2=outC m.log n b2+frC (_::rest) n b2
       rw [qC2]
       rw [qC2,hl] at k
       exact k
     | some d =>
      rw [hd] at es
      have es:=Option.some.inj es
      have setM : ∀l:List Int,(setMine g { m with steps:=m.steps+1 } { f with pos:=f.pos+1 } rest l,0)=(m',c)->FlowOk g m':=by
       intro l ez
       unfold setMine at ez
       split at ez
       ·cases ez;exact keep rfl rfl rfl rfl rfl rfl
       ·cases ez;exact keep rfl rfl rfl rfl rfl rfl
      cases d with
      | save b=>cases es;exact keep rfl rfl rfl rfl rfl rfl
      | back b =>
       simp only [mdeed] at es
       split at es
       ·cases es;exact keep rfl rfl rfl rfl rfl rfl
       ·cases es;exact keep rfl rfl rfl rfl rfl rfl
      | call x =>
       have hx:=(hOk.blk b (List.mem_of_getElem? hb)).ds (.call x) (List.mem_of_getElem? hd)
       have hx:0<=x/\x<(g.ws.length:Int):=hx
       simp only [mdeed] at es
       split at es
       ·cases es;exact keep rfl rfl rfl rfl rfl rfl
       ·split at es
        ·cases es;exact keep rfl rfl rfl rfl rfl rfl
        ·cases es
         obtain⟨k1,k2,k3⟩:=keep (m2 :={ m with st :={ f with pos:=f.pos+1 }::rest }) rfl rfl rfl rfl rfl rfl
         refine⟨k1,fun y hy => ?_,fun n w2 b2 h1 h2 h3 => ?_⟩
         ·rcases List.mem_cons.mp hy with z | z
          ·subst z
           obtain⟨w3,hw3⟩ : ∃w3,g.ws[x.toNat]? = some w3:=⟨_,List.getElem?_eq_getElem (by omega)⟩
           refine⟨w3,hw3,qGu _ _,fun _=>by show (-1:Int)<0;decide⟩
          ·exact k2 y z
         ·have k:=k3 n w2 b2 h1 h2 h3
          show inC m.log n b2=outC m.log n b2+frC (_::_::rest) n b2
          rw [qC2,if_neg (show ¬((⟨x.toNat,-1,0,-1,mine g m { f with pos:=f.pos+1 },[]⟩:Fr).n=n/\locF (⟨x.toNat,-1,0,-1,mine g m { f with pos:=f.pos+1 },[]⟩:Fr)=b2) from fun q=>by
           have q2:(-1:Int)=b2:=q.2
           omega)]
          exact k
      | tell b =>
       simp only [mdeed] at es
       split at es
       ·cases es;exact keep rfl rfl rfl rfl rfl rfl
       ·cases es;exact keep rfl rfl rfl rfl rfl rfl
      | set b v =>
       simp only [mdeed] at es
       split at es
       ·cases es;exact keep rfl rfl rfl rfl rfl rfl
       ·exact setM _ es
      | add b o =>
       simp only [mdeed] at es
       split at es
       ·cases es;exact keep rfl rfl rfl rfl rfl rfl
       ·exact setM _ es
theorem flow0 {g:Gv} {c:Int} {bl:List Int} (h0:0<=c) (h1:c<g.ws.length):FlowOk g (qB3 (ms0 bl) c bl):=by
 obtain⟨wk,hwk⟩ : ∃wk,g.ws[c.toNat]? = some wk:=⟨_,List.getElem?_eq_getElem (by omega)⟩
 refine⟨(fun k hk=>by cases hk),fun f hf => ?_,fun n w2 b _ h2 _ => ?_⟩
 ·obtain rfl:f=⟨c.toNat,-1,0,-1,bl,[]⟩:=by simpa [qB3,ms0] using hf
  exact⟨wk,hwk,qGu _ _,fun _=>by show (-1:Int)<0;decide⟩
 ·show inC [] n b=outC [] n b+frC [⟨c.toNat,-1,0,-1,bl,[]⟩] n b
  rw [qC2,if_neg (show ¬((⟨c.toNat,-1,0,-1,bl,[]⟩:Fr).n=n/\locF (⟨c.toNat,-1,0,-1,bl,[]⟩:Fr)=b) from fun q=>by
   have q2:(-1:Int)=b:=q.2
   omega)]
  rfl
theorem Fi.flow {g:Gv} {a b:Ms} {c:Nat} (hg:GvOk g) (h:Fi g a c b):FlowOk g a->FlowOk g b:=by
 induction h with
 | done _=>exact id
 | stop e _=>exact fun x=>qIh hg x e
 | step e _ ih=>exact fun x=>ih (qIh hg x e)
theorem Fi.nost {g:Gv} {a b:Ms} {c:Nat} (h:Fi g a c b):c=0->b.st = []:=by
 induction h with
 | done e=>exact fun _=>e
 | stop _ hc=>exact fun z=>absurd z hc
 | step _ _ ih=>exact ih
def cntOf (log:List K3) (n:Nat) (p:Int×Int):Int:=(cntL log ((n:Int),p.1,p.2)).getD 0
theorem qDx (log:List K3) (n:Nat) (p:Int×Int):cntOf log n p=(log.count ((n:Int),p.1,p.2):Int):=by
 unfold cntOf cntL
 split
 ·rename_i h;rw [h];rfl
 ·rfl
def sumI (l:List Int):Int:=l.foldl (· + ·) 0
theorem qNe (l:List Int) : ∀x:Int,l.foldl (· + ·) x=x+l.foldl (· + ·) 0:=by
 induction l with
 | nil=>intro x;simp
 | cons a r ih =>
  intro x
  simp only [List.foldl_cons]
  rw [ih (x+a),ih (0+a)];omega
theorem sum_cons (a:Int) (r:List Int):sumI (a::r)=a+sumI r:=by
 unfold sumI
 rw [List.foldl_cons,qNe r (0+a)];omega
theorem qJu (log:List K3) (n x:Nat) (p:Int×Int) : ∀(L:List (Int×Int)),L.Nodup->sumI (L.map (cntOf (log ++ [((x:Int),p.1,p.2)]) n))=sumI (L.map (cntOf log n))+if x=n/\p∈L then 1 else 0:=by
 intro L
 induction L with
 | nil=>intro _;simp [sumI]
 | cons q r ih =>
  intro hn
  have hn:=List.nodup_cons.mp hn
  rw [List.map_cons,List.map_cons,sum_cons,sum_cons,ih hn.2,qDx,qDx,List.count_append,List.count_singleton]
  by_cases e:x=n/\p=q
  ·obtain⟨e1,e2⟩:=e
   subst e1 e2
   rw [if_neg (show ¬(x=x/\p∈r) from fun z=>hn.1 z.2),if_pos (show x=x/\p∈p::r from⟨rfl,List.mem_cons_self ..⟩)]
   simp only [beq_self_eq_true,if_true]
   push_cast;omega
  ·have hb:((((x:Int),p.1,p.2):K3) == ((n:Int),q.1,q.2))=false:=by
    rw [beq_eq_false_iff_ne]
    intro z
    have z1:(x:Int)=(n:Int):=congrArg Prod.fst z
    have z2:p=q:=Prod.ext (congrArg (fun k:K3=>k.2.1) z) (congrArg (fun k:K3=>k.2.2) z)
    exact e ⟨by omega,z2⟩
   rw [hb]
   have he:(x=n/\p∈q::r)↔(x=n/\p∈r):=⟨fun z=>⟨z.1,(List.mem_cons.mp z.2).resolve_left fun y=>e ⟨z.1,y⟩⟩,fun z=>⟨z.1,List.mem_cons_of_mem _ z.2⟩⟩
   by_cases c:x=n/\p∈r
   ·rw [if_pos c,if_pos (he.mpr c)];simp;omega
   ·rw [if_neg c,if_neg (fun z=>c (he.mp z))];simp
theorem qTj (n:Nat) (w:List Blk) (b:Int) (Lw:List (Int×Int)) (hn:Lw.Nodup) : ∀(r:List K3),(∀k∈r,∃x:Nat,k.1=(x:Int)/\(x=n->(k.2.1,k.2.2)∈Lw))->sumI ((Lw.filter fun p=>decide (p.2=b)).map (cntOf r.reverse n))=(inC r.reverse n b:Int):=by
 intro r
 induction r with
 | nil =>
  intro _
  have : ∀L:List (Int×Int),sumI (L.map (cntOf [] n))=0:=fun L=>by
   induction L with
   | nil=>rfl
   | cons q r ih=>rw [List.map_cons,sum_cons,ih];rfl
  exact this _
 | cons k r ih =>
  intro h
  obtain⟨x,hx,hm⟩:=h k (List.mem_cons_self ..)
  obtain⟨k1,u,v⟩:=k
  have hx:k1=(x:Int):=hx
  subst hx
  rw [List.reverse_cons,qJu r.reverse n x (u,v) _ (hn.filter _),ih fun k hk=>h k (List.mem_cons_of_mem _ hk),qHe]
  have he:(x=n/\(u,v)∈Lw.filter fun p=>decide (p.2=b))↔(x=n/\v=b):=by
   rw [List.mem_filter,decide_eq_true_eq]
   exact⟨fun z=>⟨z.1,z.2.2⟩,fun z=>⟨z.1,hm z.1,z.2⟩⟩
  by_cases c:x=n/\v=b
  ·rw [if_pos c,if_pos (he.mpr c)];push_cast;rfl
  ·rw [if_neg c,if_neg (fun z=>c (he.mp z))];rfl
theorem qRf (n:Nat) (w:List Blk) (b:Int) (Lw:List (Int×Int)) (hn:Lw.Nodup) : ∀(r:List K3),(∀k∈r,∃x:Nat,k.1=(x:Int)/\(x=n->(k.2.1,k.2.2)∈Lw))->sumI ((Lw.filter fun p=>decide (p.1=b)).map (cntOf r.reverse n))=(outC r.reverse n b:Int):=by
 intro r
 induction r with
 | nil =>
  intro _
  have : ∀L:List (Int×Int),sumI (L.map (cntOf [] n))=0:=fun L=>by
   induction L with
   | nil=>rfl
   | cons q r ih=>rw [List.map_cons,sum_cons,ih];rfl
  exact this _
 | cons k r ih =>
  intro h
  obtain⟨x,hx,hm⟩:=h k (List.mem_cons_self ..)
  obtain⟨k1,u,v⟩:=k
  have hx:k1=(x:Int):=hx
  subst hx
  rw [List.reverse_cons,qJu r.reverse n x (u,v) _ (hn.filter _),ih fun k hk=>h k (List.mem_cons_of_mem _ hk),qFk]
  have he:(x=n/\(u,v)∈Lw.filter fun p=>decide (p.1=b))↔(x=n/\u=b):=by
   rw [List.mem_filter,decide_eq_true_eq]
   exact⟨fun z=>⟨z.1,z.2.2⟩,fun z=>⟨z.1,hm z.1,z.2⟩⟩
  by_cases c:x=n/\u=b
  ·rw [if_pos c,if_pos (he.mpr c)];push_cast;rfl
  ·rw [if_neg c,if_neg (fun z=>c (he.mp z))];rfl
theorem qT7 {g:Gv} {m:Ms} {c:Int} {bl:List Int} (hg:GvOk g) (h0:0<=c) (h1:c<g.ws.length) (hf:Fi g (qB3 (ms0 bl) c bl) 0 m) {n:Nat} {wk:List Blk} {b:Int} (hw:g.ws[n]? = some wk) (b0:0<=b) (b1:b<(wk.length:Int)) :
  sumI (((qAi wk wk.length).filter fun p=>decide (p.2=b)).map (cntOf m.log n))=sumI (((qAi wk wk.length).filter fun p=>decide (p.1=b)).map (cntOf m.log n)):=by
 have F:=hf.flow hg (flow0 h0 h1)
 have hst:=hf.nost rfl
 obtain⟨mm,_,_,hOk⟩:=hg.ws.all wk (List.mem_of_getElem? hw)
 have hn:(qAi wk wk.length).Nodup:=(qDo hOk).imp fun h e=>by rw [e] at h;exact ltP.irr h
 have hl : ∀k∈m.log.reverse,∃x:Nat,k.1=(x:Int)/\(x=n->(k.2.1,k.2.2)∈qAi wk wk.length):=fun k hk=>by
  obtain⟨x,w2,h1,h2,h3⟩:=F.log k (List.mem_reverse.mp hk)
  refine⟨x,h1,fun e => ?_⟩
  rw [e,hw] at h2
  cases h2
  exact h3
 have k1:=qTj n wk b _ hn m.log.reverse hl
 have k2:=qRf n wk b _ hn m.log.reverse hl
 rw [List.reverse_reverse] at k1 k2
 rw [k1,k2,F.even n wk b hw b0 b1,hst]
 show ((outC m.log n b+0:Nat):Int)=_
 rfl
section
variable {X:Cx} {pins:List (Addr×Obj)} {σ : St} {H:Hp} {s:Shared}
theorem qN5 {b:Addr} {ks:List Key} (I:Inv X pins σ H s) (e:SqT X.K H b (ks.map kV)):(tupleKind (qAt X.prog X.w)).is s.heap ks b:=by
 obtain⟨its,r,⟨o,h1,h2,n,h3⟩,_⟩:=I.tuple e
 exact⟨o,its.toArray,n,h1,h2,h3,by simpa using qFt r⟩
def NestS (K:PySem.W.Frag) (H:Hp) (k:K3) (p:Addr):Prop := ∃q,SqT K H p [.int k.1,.ref q]/\SqT K H q [.int k.2.1,.int k.2.2]
theorem qPi {k:K3} {p:Addr} (I:Inv X pins σ H s) (e:NestS X.K H k p):IsNest X.prog X.w s.heap k p:=by
 obtain⟨q,e1,e2⟩:=e
 obtain⟨its,r,⟨o,h1,h2,n,h3⟩,_⟩:=I.tuple e1
 have k2:=qN5 (ks :=[Sum.inl k.2.1,Sum.inl k.2.2]) I e2
 cases r with
 | cons a r =>
  cases r with
  | cons b r =>
   cases r
   obtain⟨t,rfl⟩:=a
   cases b
   exact⟨o,_,n,q,t,h1,h2,h3,by simp,k2⟩
def qLt (P:Program) (w:World) (K:PySem.W.Frag) (td ty tx:TE):TE:=fun σ H Q=>td σ H fun x H1 => ∃a ks,x = .ref a/\H1 a=some (gO P w ks)/\ty σ H1 fun y H2=>tx σ H2 fun z H3 => ∃ks' k p,y = .ref p/\H3 a=some (gO P w ks')/\qBv H3 ks'/\NestS K H3 k p/\Q ((lookN ks' k).elim z V.int) H3
theorem qOx {o e f:Expr} {apos cpos:Pos} {td ty tx:TE} (hu:X.A.units+20<cLine) (ho:PE X o td) (he:PE X e ty) (hf:PE X f tx) (m:M2 X o "get" apos e f cpos):PE X (.Call (.Attribute o "get" apos) [e,f] [] cpos) (qLt X.prog X.w X.K td ty tx):=by
 intro pins s σ H Q I h
 refine wpAny_Call_method m.base m.few m.line PySem.F.plainAttrs_dict PySem.F.slot_dict_get PySem.F.type_dict_get (thn (ho pins s σ H _ I h) fun u s1 hq_ => ?_)
 obtain⟨x,H1,I1,rx,a,ks,ex,d,q1⟩:=hq_
 subst ex
 obtain rfl:u=Value.ref a:=rx
 obtain⟨_,_,_,_,o1,es,ep,b1,b2,_⟩:=(I1.hok a _ d).1
 refine⟨⟨o1,b1,b2.1⟩,fun b q => ?_,?_⟩
 ·cases q;exact⟨o1,b1,b2.2.1⟩
 rw [m.trees]
 refine Calls.callWith_builtin rfl (Calls.evalArgs_plain (Calls.spliced_cons (thn (he pins s1 σ H1 _ I1 q1) fun iv s2 hq_ => ?_)))
 obtain⟨y,H2,I2,ry,q2⟩:=hq_
 refine Calls.spliced_cons (thn (hf pins s2 σ H2 _ I2 q2) fun fv s3 hq_ => ?_)
 obtain⟨z,H3,I3,rz,ks',k,p,ey,g,hn,hk,q3⟩:=hq_
 refine Calls.spliced_nil ?_
 subst ey
 cases (show iv=Value.ref p from ry)
 obtain⟨hd,hz,xs,hr,dd⟩:=qT6 I3 g hn
 refine call_meetsIn PySem.F.slot_dict_get dd.typeIs PySem.F.entry_dict_get (PySem.F.args_dict_get_3 _ _ _) (meetsH_dict_get_default (qDg X.prog X.w) a p hd fv) ⟨by show X.A.units+1+7<cLine;omega,k,xs,qPi I3 hk,dd,_,H3,I3.tok _,?_,q3⟩
 rcases hr.find k with ⟨a1,b1⟩ | ⟨n,p',t,a1,b1⟩
 ·rw [a1,b1];exact rz
 ·rw [a1,b1];exact⟨t,rfl⟩
def qJt (K:PySem.W.Frag) (td ty tx:TE):TE:=fun σ H Q=>td σ H fun x H1 => ∃a kvs,x = .ref a/\H1 a=some (.dT kvs)/\ty σ H1 fun y H2=>tx σ H2 fun z H3 => ∃kvs' k p,y = .ref p/\H3 a=some (.dT kvs')/\SqT K H3 p (k.map kV)/\Q ((valV kvs' k).getD z) H3
theorem qOw {o e f:Expr} {apos cpos:Pos} {td ty tx:TE} (hu:X.A.units+1<cLine) (ho:PE X o td) (he:PE X e ty) (hf:PE X f tx) (m:M2 X o "get" apos e f cpos):PE X (.Call (.Attribute o "get" apos) [e,f] [] cpos) (qJt X.K td ty tx):=by
 intro pins s σ H Q I h
 refine wpAny_Call_method m.base m.few m.line PySem.F.plainAttrs_dict PySem.F.slot_dict_get PySem.F.type_dict_get (thn (ho pins s σ H _ I h) fun u s1 hq_ => ?_)
 obtain⟨x,H1,I1,rx,a,kvs,ex,d,q1⟩:=hq_
 subst ex
 obtain rfl:u=Value.ref a:=rx
 obtain⟨_,_,xs0,_,dd0⟩:=qHf I1.hok (.inl d)
 obtain⟨o1,es,ep,b1,b2,_⟩:=dd0
 refine⟨⟨o1,b1,b2.1⟩,fun b q => ?_,?_⟩
 ·cases q;exact⟨o1,b1,b2.2.1⟩
 rw [m.trees]
 refine Calls.callWith_builtin rfl (Calls.evalArgs_plain (Calls.spliced_cons (thn (he pins s1 σ H1 _ I1 q1) fun iv s2 hq_ => ?_)))
 obtain⟨y,H2,I2,ry,q2⟩:=hq_
 refine Calls.spliced_cons (thn (hf pins s2 σ H2 _ I2 q2) fun fv s3 hq_ => ?_)
 obtain⟨z,H3,I3,rz,kvs',k,p,ey,g,hk,q3⟩:=hq_
 refine Calls.spliced_nil ?_
 subst ey
 cases (show iv=Value.ref p from ry)
 obtain⟨hz,hd,xs,rel,dd⟩:=qHf I3.hok (.inl g)
 refine call_meetsIn PySem.F.slot_dict_get dd.typeIs PySem.F.entry_dict_get (PySem.F.args_dict_get_3 _ _ _) (meetsH_dict_get_default (tupleKind (qAt X.prog X.w)) a p hd fv) ⟨tupleKind_room_in1 hu,k,xs,qN5 I3 hk,dd,_,H3,I3.tok _,(rel.val k).getD rz,q3⟩
theorem qMs {P:Program} {w:World} (K:PySem.W.Frag) {o e f:Expr} {apos cpos:Pos} {td ty tx:TE} (hP:X.prog=P) (hw:X.w=w) (hK:X.K=K) (hu:X.A.units+20<cLine) (ho:PE X o td) (he:PE X e ty) (hf:PE X f tx) (m:M2 X o "get" apos e f cpos):PE X (.Call (.Attribute o "get" apos) [e,f] [] cpos) (qLt P w K td ty tx):=by
 subst hP hw hK;exact qOx hu ho he hf m
theorem qMr (K:PySem.W.Frag) {o e f:Expr} {apos cpos:Pos} {td ty tx:TE} (hK:X.K=K) (hu:X.A.units+1<cLine) (ho:PE X o td) (he:PE X e ty) (hf:PE X f tx) (m:M2 X o "get" apos e f cpos):PE X (.Call (.Attribute o "get" apos) [e,f] [] cpos) (qJt K td ty tx):=by
 subst hK;exact qOw hu ho he hf m
theorem qRz {P:Program} {w:World} {K:PySem.W.Frag} {σ : St} {H:Hp} {Q:VK} {td ty tx:TE} (h:td σ H fun x H1 => ∃a ks,x = .ref a/\H1 a=some (gO P w ks)/\ty σ H1 fun y H2=>tx σ H2 fun z H3 => ∃ks' k p,y = .ref p/\H3 a=some (gO P w ks')/\qBv H3 ks'/\NestS K H3 k p/\Q ((lookN ks' k).elim z V.int) H3):qLt P w K td ty tx σ H Q:=h
theorem qRy {K:PySem.W.Frag} {σ : St} {H:Hp} {Q:VK} {td ty tx:TE} (h:td σ H fun x H1 => ∃a kvs,x = .ref a/\H1 a=some (.dT kvs)/\ty σ H1 fun y H2=>tx σ H2 fun z H3 => ∃kvs' k p,y = .ref p/\H3 a=some (.dT kvs')/\SqT K H3 p (k.map kV)/\Q ((valV kvs' k).getD z) H3):qJt K td ty tx σ H Q:=h
end
def qBy (log:List K3) (n:Nat) (w:List Blk):List Int:=(qAi w w.length).map (cntOf log n)
def msOf (ws:List (List Blk)) (log:List K3) (j:Nat):List (List Int):=(List.range j).map fun i=>qBy log i (ws.getD i [])
theorem qI6 (ws:List (List Blk)) (log:List K3) (j:Nat):msOf ws log (j+1)=msOf ws log j ++ [qBy log j (ws.getD j [])]:=by
 unfold msOf
 rw [List.range_succ,List.map_append];rfl
theorem qE7 (ws:List (List Blk)) (log:List K3) (j:Nat):(msOf ws log j).length=j:=by unfold msOf;simp
def IntsL (H:Hp) (as:List Addr) (ls:List (List Int)):Prop:=Paired (fun a ns=>H a=some (.lst (ns.map V.int))) as ls
theorem IntsL.len {H:Hp} {as:List Addr} {ls:List (List Int)} (h:IntsL H as ls):as.length=ls.length:=Paired.length h
theorem IntsL.mono {H H':Hp} {as:List Addr} {ls:List (List Int)} (h:IntsL H as ls) (k : ∀a∈as,∀o,H a=some o->H' a=some o):IntsL H' as ls:=by
 unfold IntsL at h ⊢
 induction h with
 | nil=>exact .nil
 | @cons a n as ns r _ ih=>exact .cons (k a (List.mem_cons_self ..) _ r) (ih fun b hb o e=>k b (List.mem_cons_of_mem _ hb) o e)
theorem IntsL.snoc {H:Hp} {as:List Addr} {ls:List (List Int)} {a:Addr} {ns:List Int} (h:IntsL H as ls) (e:H a=some (.lst (ns.map V.int))):IntsL H (as ++ [a]) (ls ++ [ns]):=Paired.snoc h e
theorem IntsL.den {K:PySem.W.Frag} {H:Hp} {as:List Addr} {ls:List (List Int)} (h:IntsL H as ls):DenL K H (ls.map intsD) (as.map V.ref):=by
 unfold IntsL at h
 induction h with
 | nil=>exact .nil
 | cons r _ ih=>exact .cons (.list (SqL.of r) (DenL.ofInts _)) ih
theorem IntsL.get {H:Hp} {as:List Addr} {ls:List (List Int)} (h:IntsL H as ls) : ∀ {i:Nat} {a:Addr},as[i]? = some a -> ∃ns,ls[i]? = some ns/\H a=some (.lst (ns.map V.int)):=by
 unfold IntsL at h
 induction h with
 | nil=>intro i a e;simp at e
 | @cons a n as ns r _ ih =>
  intro i b e
  cases i with
  | zero=>simp at e;subst e;exact⟨n,rfl,r⟩
  | succ i=>simpa using ih (i:=i) (a:=b) (by simpa using e)
theorem qPz (log:List K3) (n:Nat) (p:Int×Int):(cntL log ((n:Int),p.1,p.2)).elim (V.int 0) V.int=V.int (cntOf log n p):=by
 unfold cntOf
 cases cntL log ((n:Int),p.1,p.2) <;> rfl
theorem qNh {K:PySem.W.Frag} {H:Hp} {p:Int×Int} {v:V} (h:Den K H (pairD p) v) : ∃q,v = .ref q/\SqT K H q [.int p.1,.int p.2]:=by
 simp only [Den,DenL] at h
 obtain⟨a,vs,rfl,h1,v1,r1,rfl,h2,v2,r2,rfl,h3,rfl⟩:=h
 subst h2 h3
 exact⟨a,rfl,h1⟩
def qEd (K:PySem.W.Frag):Sp:=fun vs H Q _ => ∃(g:Gv) (wa bx ca:Addr) (c:Int) (bl:List Int),vs = [.ref wa,.int c,.ref bx,.ref ca,.int g.most]/\GvOk g/\g.mean=true/\Den K H (qD0 g.ws) (.ref wa)/\SqL K H bx (bl.map V.int)/\bl.length=8/\SqL K H ca (g.ch.map V.int)/\0<=c/\c<g.ws.length /\
 ∀(l:Addr) (as:List Addr) (m':Ms) (cc:Nat) (H':Hp),Fi g (qB3 (ms0 bl) c bl) cc m'->MsOk g m'->H l=none->(∀a∈as,H a=none/\a≠l)->Ext [] H H'->H' l=some (.lst (as.map V.ref))->IntsL H' as (msOf g.ws m'.log g.ws.length)->Q (.ref l) H'
def qM4 (K:PySem.W.Frag):Sp:=fun vs H Q _ => ∃(wa la:Addr) (as:List Addr) (ws:List (List Blk)) (log:List K3),vs = [.ref wa,.ref la]/\Den K H (qD0 ws) (.ref wa)/\WsOk ws/\H la=some (.lst (as.map V.ref))/\IntsL H as (msOf ws log ws.length)/\log.length<=1000 /\
 (∀(n:Nat) (wk:List Blk) (b:Int),ws[n]? = some wk->0<=b->b<(wk.length:Int)->sumI (((qAi wk wk.length).filter fun p=>decide (p.2=b)).map (cntOf log n))=sumI (((qAi wk wk.length).filter fun p=>decide (p.1=b)).map (cntOf log n))) /\
 ∀H',Ext [] H H'->Q (.bl true) H'
def qEq (w:List Blk) (log:List K3) (n:Nat) (f:Int×Int->Bool) (i:Nat):List Int:=(((qAi w w.length).take i).filter f).map (cntOf log n)
theorem qFj {w:List Blk} {log:List K3} {n:Nat} {f:Int×Int->Bool} {i:Nat} {p:Int×Int} (h:(qAi w w.length)[i]? = some p):qEq w log n f (i+1)=qEq w log n f i++if f p=true then [cntOf log n p] else []:=by
 unfold qEq
 rw [List.take_add_one,h,List.filter_append,List.map_append]
 by_cases c:f p=true
 ·rw [if_pos c];simp [c]
 ·rw [if_neg c];simp [c]
theorem qL4 (w:List Blk) (log:List K3) (n:Nat) (f:Int×Int->Bool) (i:Nat):(qEq w log n f i).length<=(qAi w w.length).length:=by
 unfold qEq
 rw [List.length_map]
 exact Nat.le_trans (List.length_filter_le _ _) (by rw [List.length_take];omega)
theorem qQ7 (log:List K3) (n:Nat) (p:Int×Int):0<=cntOf log n p/\cntOf log n p<=log.length:=by
 rw [qDx]
 have:=List.count_le_length (a:=(((n:Int),p.1,p.2):K3)) (l:=log)
 omega
theorem qLu (l:List Int):sumI l=l.sum:=by
 induction l with
 | nil=>rfl
 | cons a r ih=>rw [sum_cons,List.sum_cons,ih]
theorem qSx {ws:List (List Blk)} {log:List K3} {n:Nat} (okw:WsOk ws) (hn:n<=ws.length) (hl:log.length<=1000):tame (.list ((msOf ws log n).map intsD))=true/\cells (.list ((msOf ws log n).map intsD))<=5000/\(PyData.list ((msOf ws log n).map intsD)).depth<=64:=by
 have hf:=okw.few
 have hml:=qE7 ws log n
 have one : ∀ns∈msOf ws log n,tame (intsD ns)=true/\cells (intsD ns)<=40/\(intsD ns).depth<=1:=fun ns hm=>by
  unfold msOf at hm
  obtain⟨i,hi,rfl⟩:=List.mem_map.mp hm
  have hi:=List.mem_range.mp hi
  obtain⟨wk,hwk⟩ : ∃wk,ws[i]? = some wk:=⟨_,List.getElem?_eq_getElem (by omega)⟩
  rw [show ws.getD i []=wk by rw [List.getD_eq_getElem?_getD,hwk];rfl]
  obtain⟨mm,_,mm2,hOk⟩:=okw.all wk (List.mem_of_getElem? hwk)
  have hwb:=qBr (fun b hb=>(hOk.blk b hb).ns.few) wk.length
  have hwl:=hOk.len
  have h2:(qBy log i wk).length<=40:=by unfold qBy;rw [List.length_map];omega
  have d1:=qDp (l:=qBy log i wk) (f:=PyData.int) fun n hn=>by
   unfold qBy at hn
   obtain⟨p,_,rfl⟩:=List.mem_map.mp hn
   have:=qQ7 log i p
   simp only [tame,decide_eq_true_eq];omega
  have d2:=qDa (l:=qBy log i wk) (f:=PyData.int) (n:=0) fun n hn=>Nat.le_refl _
  have d3:=qD9 (l:=qBy log i wk) (f:=PyData.int) (n:=0) fun n hn=>Nat.le_refl _
  refine⟨?_,?_,?_⟩
  ·simp only [intsD,tame,d1]
  ·simp only [intsD,cells];omega
  ·show PyData.depthAll ((qBy log i wk).map .int)+1<=1
   omega
 have d1:=qDp (l:=msOf ws log n) (f:=intsD) fun b hb=>(one b hb).1
 have d2:=qDa (l:=msOf ws log n) (f:=intsD) (n:=40) fun b hb=>(one b hb).2.1
 have d3:=qD9 (l:=msOf ws log n) (f:=intsD) (n:=1) fun b hb=>(one b hb).2.2
 refine⟨?_,?_,?_⟩
 ·simp only [tame,d1]
 ·simp only [cells];omega
 ·show PyData.depthAll ((msOf ws log n).map intsD)+1<=64
  omega
theorem qV4 {ws:List (List Blk)} {log:List K3} {n:Nat} (okw:WsOk ws) (hn:n<=ws.length) : ∀ns∈msOf ws log n,ns.length<=40:=fun ns hm=>by
 unfold msOf at hm
 obtain⟨i,hi,rfl⟩:=List.mem_map.mp hm
 have hi:=List.mem_range.mp hi
 obtain⟨wk,hwk⟩ : ∃wk,ws[i]? = some wk:=⟨_,List.getElem?_eq_getElem (by omega)⟩
 rw [show ws.getD i []=wk by rw [List.getD_eq_getElem?_getD,hwk];rfl]
 obtain⟨mm,_,mm2,hOk⟩:=okw.all wk (List.mem_of_getElem? hwk)
 have hwb:=qBr (fun b hb=>(hOk.blk b hb).ns.few) wk.length
 have hwl:=hOk.len
 unfold qBy
 rw [List.length_map];omega
theorem qLv {c:Nat} (h:c≠0):stS c ≠ "ended" :=by
 unfold stS
 rw [if_neg h]
 unfold codeS
 split <;> decide
theorem qRd {kvs:List (List Key×V)} {log:List K3} {i:Nat} {p:Int×Int} (h : ∀a b:Int,valV kvs [Sum.inl a,Sum.inl b]=(cntL log ((i:Int),a,b)).map V.int):(valV kvs [Sum.inl p.1,Sum.inl p.2]).getD (V.int 0)=V.int (cntOf log i p):=by
 rw [h]
 unfold cntOf
 cases cntL log ((i:Int),p.1,p.2) <;> rfl
def qDz:Deed->Str
 | .set _ _ => "set"
 | .add _ _ => "add"
 | .tell _ => "tell"
 | .call _ => "call"
 | .save _ => "save"
 | .back _ => "back"
def argsV:Deed->List V
 | .set b n =>[.int b,.int n]
 | .add b o =>[.int b,.int o]
 | .tell b =>[.int b]
 | .call c =>[.int c]
 | .save b =>[.int b]
 | .back b =>[.int b]
theorem qTa {K:PySem.W.Frag} {H:Hp} {d:Deed} {dv:V} (h:Den K H (deedD d) dv) : ∃da,dv = .ref da/\SqT K H da (.str (qDz d)::argsV d):=by
 have one : ∀ {s:Str} {ns:List Int},Den K H (.tuple (.str s::ns.map .int)) dv -> ∃da,dv = .ref da/\SqT K H da (.str s::ns.map V.int):=by
  intro s ns h
  obtain⟨da,dvs,rfl,hT,hDL⟩:=h.ofTuple
  obtain⟨v1,r1,rfl,k1,d1⟩:=hDL.ofCons
  cases k1.ofStr
  rw [DenL.ints d1] at hT
  exact⟨da,rfl,hT⟩
 cases d with
 | set b n=>exact one (s := "set") (ns :=[b,n]) h
 | add b n=>exact one (s := "add") (ns :=[b,n]) h
 | tell b=>exact one (s := "tell") (ns :=[b]) h
 | call b=>exact one (s := "call") (ns :=[b]) h
 | save b=>exact one (s := "save") (ns :=[b]) h
 | back b=>exact one (s := "back") (ns :=[b]) h
theorem Inv.turnMany {X:Cx} {pins:List (Addr×Obj)} {σ : St} {H:Hp} {s:Shared} {h':Heap} {t':Nat} {ch:List Addr} (I:Inv X pins σ H s) (k : ∀b u,b∉ch->s.heap.get? b=some u->h'.get? b=some u)
  (hf : ∀b∈ch,FpOk X pins H b):Inv X pins σ H { s with heap:=h',toks:=t' }:=by
 have nch : ∀b u,H b=some u->b∉ch:=fun b u e hb=>by rw [(hf b hb).1] at e;cases e
 refine I.step (g':=s.gens) (d':=s.drawn) (ch:=ch) (fun b hb => ?_) (fun b u _ _ hc e _=>k b u hc e) (fun b u _ _ hc e _=>⟨u.slots,k b u hc e⟩) (fun _ _ _ _ n=>n)
  (fun b u hc e=>⟨u,k b u hc e⟩) (fun _ _ e=>e) (fun _ _ _ e=>e) (fun b ps e=>⟨#[],by rw [e];simp⟩) (fun m hm => ?_) (fun b u e => ?_) I.bare
 ·obtain⟨_,a1,_,a3,a4,a5⟩:=hf b hb
  exact⟨a3,a1,a4,a5⟩
 ·obtain⟨ob,es,ep,ho,r⟩:=hm
  exact⟨ob,es,ep,k _ ob (fun hb=>(hf _ hb).2.1 rfl) ho,r⟩
 ·refine (I.hok b u e).stay (fun c v hc q=>k c v ?_ q) (fun _ q=>q) fun _ _ q=>q
  rcases hc with z | z
  ·rw [z];exact nch b u e
  ·exact nch c _ z
def Itz (K:PySem.W.Frag) (a b:Addr):It :=
 ⟨fun i H => ∃xs ys x y,SqL K H a xs/\SqL K H b ys/\xs[i]? = some x/\ys[i]? = some y,
   fun i H v H' => ∃p x y,v = .ref p/\H p=none/\(∀us,SqL K H a us->us[i]? = some x)/\(∀us,SqL K H b us->us[i]? = some y)/\H'=upd H p (.tup [x,y]),
   fun i H => ∃xs ys,SqL K H a xs/\SqL K H b ys/\(xs.length<=i\/ys.length<=i)⟩
theorem qO4 {P:Program} {w:World} {K:PySem.W.Frag} {elts:List Expr} {k:Nat} {pos:Pos} {z TI TO i1 i2 l1 l2:Addr} (D:ZipApart z TI TO i1 i2 l1 l2) :
  Turn P w K (.Tuple elts k pos) (Itz K l1 l2) [z,TI,TO,i1,i2] z (fun i h=>IsZip h z TI TO .none/\IsPair h TI (.ref i1) (.ref i2)/\(∃a b,IsPair h TO a b)/\h.IsListIter i1 l1 i/\h.IsListIter i2 l2 i) where
 mem:=by simp
 obj:=fun i h st b hb=>by
  obtain⟨hz,hTI,⟨a,c,hTO⟩,⟨o1,e1,_,d1⟩,⟨o2,e2,_,d2⟩⟩:=st
  simp only [List.mem_cons,List.not_mem_nil,or_false] at hb
  rcases hb with x | x | x | x | x <;> subst x
  ·exact⟨_,hz,fun v q=>by have q:Data.fields _=Data.cell v:=q;cases q⟩
  ·exact⟨_,hTI,fun v q=>by have q:Data.seq _ _=Data.cell v:=q;cases q⟩
  ·exact⟨_,hTO,fun v q=>by have q:Data.seq _ _=Data.cell v:=q;cases q⟩
  ·exact⟨o1,e1,fun v q=>by rw [d1] at q;cases q⟩
  ·exact⟨o2,e2,fun v q=>by rw [d2] at q;cases q⟩
 keep:=fun i h h' st kk=>by
  obtain⟨hz,hTI,⟨a,c,hTO⟩,h1,h2⟩:=st
  exact⟨kk z (by simp) _ hz,kk TI (by simp) _ hTI,⟨a,c,kk TO (by simp) _ hTO⟩,h1.at fun o q=>kk i1 (by simp) o q,h2.at fun o q=>kk i2 (by simp) o q⟩
 item:=by
  intro X hP hw hK hc i pins s σ H E I hf st hg
  subst hP hw hK
  obtain⟨xs,ys,x,y,hq1,hq2,hx,hy⟩:=hg
  obtain⟨hz,hTI,⟨a,c,hTO⟩,h1,h2⟩:=st
  obtain⟨its,rv,p,_⟩:=I.list hq1
  obtain⟨its2,rv2,p2,_⟩:=I.list hq2
  obtain⟨u,hu,ru⟩:=rv.get hx
  obtain⟨u2,hu2,ru2⟩:=rv2.get hy
  refine wpAny_pyNext_zip_item D hz hTI hTO h1 h2 p.isList p2.isList (x:=u) (y:=u2) (by simpa using hu) (by simpa using hu2) fun h' a1 a2 a3 a4 a5 a6 hk => ?_
  have hzlt:z<s.heap.objs.size:=Heap.lt_size hz
  refine⟨_,rfl,wpAny_letOwnedTupleGo_zip a1 fun h3 hz3 hs3 => ?_⟩
  have hs3:Heap.SameBut z h' h3:=hs3
  have I1:Inv X pins σ (upd H s.heap.objs.size (.tup [x,y])) { s with heap:=h3,toks:=s.toks }:=by
   refine I.turnLaid (ch :=[z,TI,TO,i1,i2]) (fun b o hb q => ?_) (fun b hb => ?_) hf (Nat.le_refl _) ?_
   ·simp only [List.mem_cons,List.not_mem_nil,or_false,not_or] at hb
    exact hs3.extBut b o hb.1 (hk b o hb.1 hb.2.2.1 hb.2.2.2.1 hb.2.2.2.2 q)
   ·simp only [List.mem_cons,List.not_mem_nil,or_false] at hb
    rcases hb with e | e | e | e | e <;> subst e
    ·exact⟨_,hz3⟩
    ·exact⟨_,hs3.extBut _ _ D.TIz (hk _ _ D.TIz D.TITO D.TIi1 D.TIi2 hTI)⟩
    ·exact⟨_,hs3.extBut _ _ D.TOz a2⟩
    ·obtain⟨o,q,_⟩:=a3;exact⟨o,hs3.extBut _ _ D.i1z q⟩
    ·obtain⟨o,q,_⟩:=a4;exact⟨o,hs3.extBut _ _ D.i2z q⟩
   ·exact⟨by show 2<=sizeLine;decide,[u,u2],.cons ru (.cons ru2 .nil),⟨_,hs3.extBut _ _ (Nat.ne_of_gt hzlt) a5,rfl,_,rfl⟩⟩
  refine⟨.ref s.heap.objs.size,_,I1,rfl,⟨s.heap.objs.size,x,y,rfl,I.fresh,(fun us hs=>by rw [I.list_inj hs hq1];exact hx),(fun us hs=>by rw [I.list_inj hs hq2];exact hy),rfl⟩,⟨hz3,hs3.extBut _ _ D.TIz (hk _ _ D.TIz D.TITO D.TIi1 D.TIi2 hTI),⟨_,_,hs3.extBut _ _ D.TOz a2⟩,a3.extBut hs3.extBut D.i1z,a4.extBut hs3.extBut D.i2z⟩,fun b hb => ?_⟩
  have hlt:b<s.heap.objs.size:=by
   simp only [List.mem_cons,List.not_mem_nil,or_false] at hb
   rcases hb with e | e | e | e | e <;> subst e
   ·exact hzlt
   ·exact Heap.lt_size hTI
   ·exact Heap.lt_size hTO
   ·obtain⟨o,q,_⟩:=h1;exact Heap.lt_size q
   ·obtain⟨o,q,_⟩:=h2;exact Heap.lt_size q
  rw [qA6 (Nat.ne_of_lt hlt)];exact (hf b hb).1
 done:=by
  intro X hP hw hK hc i pins s σ H E I hf st hg
  subst hP hw hK
  obtain⟨xs,ys,hq1,hq2,hend⟩:=hg
  obtain⟨hz,hTI,⟨a,c,hTO⟩,h1,h2⟩:=st
  obtain⟨its,rv,p,_⟩:=I.list hq1
  obtain⟨its2,rv2,p2,_⟩:=I.list hq2
  have hl1:=rv.length
  have hl2:=rv2.length
  refine wpAny_pyNext_zip_end (I.ok.hd hc) D hz hTI hTO h1 h2 p.isList p2.isList (by
   rcases hend with e | e
   ·exact .inl (by simp;omega)
   ·exact .inr (by simp;omega)) fun h' hk=>⟨rfl,I.turnMany (t':=s.toks) (ch :=[z,TI,TO,i1,i2]) (fun b o hb q => ?_) hf⟩
  simp only [List.mem_cons,List.not_mem_nil,or_false,not_or] at hb
  exact hk b o hb.1 hb.2.2.1 hb.2.2.2.1 hb.2.2.2.2 q
 self:=fun _ _ _ _ _ st h=>wpAny_pyIter_zip st.1 h
section
variable {X:Cx} {elts:List Expr} {k:Nat} {tpos:Pos}
def iZip (K:PySem.W.Frag) (ta:TA):TI:=fun σ H R=>ta σ H fun vs H1 => ∃a b,vs = [.ref a,.ref b]/\(∃xs,SqL K H1 a xs)/\(∃ys,SqL K H1 b ys)/\R (Itz K a b) H1
theorem qK7 {a b:Expr} {ta:TA} {p pos:Pos} (hg:Gl X "zip") (hm:X.mg "zip" = none) (ha:PA X [a,b] ta) (hs:starEach [a,b] X.env=(false,eval a X.env)::starEach [b] X.env:=by rfl) (hs2 : ∀pos,(backTo pos (starEach [b] X.env)).any (·.1)=false:=by intro _;rfl):PI X (.Tuple elts k tpos) (.Call (.Name "zip" p) [a,b] [] pos) (iZip X.K ta):=by
 intro pins s σ H R I h
 refine Call_ (qIc I hg hm boot_zip (PyProof.Rows.callWith_type1 (thn (ha pos pins s σ H _ I h) fun us s1 hq_ => ?_) hs (hs2 _)))
 obtain⟨vs,H1,I1,r1,q1⟩:=hq_
 obtain⟨l1,l2,e,⟨xs,hq1⟩,⟨ys,hq2⟩,q⟩:=q1
 subst e
 obtain⟨u,u2,rfl,ru,ru2⟩:=vals2 r1
 cases ru
 cases ru2
 obtain⟨its,rv,p1,_⟩:=I1.list hq1
 obtain⟨its2,rv2,p2,_⟩:=I1.list hq2
 have a1:l1<s1.heap.objs.size:=by obtain⟨_,e,_⟩:=p1.isList;exact Heap.lt_size e
 have a2:l2<s1.heap.objs.size:=by obtain⟨_,e,_⟩:=p2.isList;exact Heap.lt_size e
 refine call_zip_2 p1.isList p2.isList fun h' hz hTI hTO hi1 hi2 _ hk => ?_
 refine wpAny_pyIter_zip hz ?_
 have I2:Inv X pins σ H1 { s1 with heap:=h' }:=I1.kept (t':=s1.toks) hk
 refine⟨_,_,_,_,H1,rfl,I2,qO4 (zipApart_new a1 a2),⟨hz,hTI,⟨_,_,hTO⟩,hi1,hi2⟩,fun c hc => ?_,q⟩
 have hge:s1.heap.objs.size<=c:=by
  simp only [List.mem_cons,List.not_mem_nil,or_false] at hc
  rcases hc with e | e | e | e | e <;> subst e
  ·exact Nat.le_add_right _ _
  ·exact Nat.le_add_right _ _
  ·exact Nat.le_add_right _ _
  ·exact Nat.le_refl _
  ·exact Nat.le_add_right _ _
 exact I1.fpOk hge (I1.hok.fresh hge)
theorem qK0 {K:PySem.W.Frag} {tl:TA} {σ : St} {H:Hp} {R:It->Hp->Prop} (h:tl σ H fun vs H1 => ∃a b,vs = [.ref a,.ref b]/\(∃xs,SqL K H1 a xs)/\(∃ys,SqL K H1 b ys)/\R (Itz K a b) H1):iZip K tl σ H R:=h
end
theorem qPw {K:PySem.W.Frag} {a b:Addr} {xs ys:List V} {g:TG} {tb:TS} {D:Ends} {σ : St} {H:Hp} (hxy:xs.length=ys.length) (Pv:Nat->St->Hp->Prop) (h0:Pv 0 σ H) (hl : ∀i σ H,i<=xs.length->Pv i σ H->SqL K H a xs/\SqL K H b ys)
  (hs : ∀i x y σ H p,xs[i]? = some x->ys[i]? = some y->Pv i σ H->H p=none -> ∀(N B C:St->Hp->Prop) (R:VK),Nx N (Pv (i+1))->Nx C (Pv (i+1))->NxV R D.rt->g (.ref p) σ (upd H p (.tup [x,y])) fun σ2 H2=>tb ⟨N,R,B,C⟩ σ2 H2) (hd : ∀ σ H,Pv xs.length σ H->D.nx σ H) :
  ∃W:Nat->Nat->St->Hp->Prop,(∃m,W 0 m σ H) /\ ∀i m σ H,W i m σ H ->
   ((Itz K a b).stop i H/\D.nx σ H)\/((Itz K a b).go i H /\ ∃N:St->Hp->Prop,(∀ σ' H',N σ' H' -> ∃m',m'<m/\W (i+1) m' σ' H') /\ ∀x H',(Itz K a b).yld i H x H'->g x σ H' fun σ2 H2=>tb { D with nx:=N,ct:=N,bk:=D.nx } σ2 H2):=by
 refine⟨fun i m σ H=>m=xs.length - i/\i<=xs.length/\Pv i σ H,⟨xs.length,by simp,Nat.zero_le _,h0⟩,?_⟩
 rintro i m σ H ⟨rfl,hi,p⟩
 obtain⟨q1,q2⟩:=hl i σ H hi p
 by_cases hlt:i<xs.length
 ·refine .inr ⟨⟨xs,ys,xs[i],ys[i],q1,q2,by simp [hlt],by simp [hxy▸hlt]⟩,Pv (i+1),fun σ' H' p'=>⟨xs.length - (i+1),by omega,rfl,hlt,p'⟩,fun x H' y => ?_⟩
  obtain⟨r,x1,y1,e,hr,hx,hy,e2⟩:=y
  subst e e2
  exact hs i x1 y1 σ H r (hx xs q1) (hy ys q2) p hr _ _ _ _ (fun _ _ h=>h) (fun _ _ h=>h) (fun _ _ h=>h)
 ·have e:i=xs.length:=by omega
  subst e
  exact .inl ⟨⟨xs,ys,q1,q2,.inl (Nat.le_refl _)⟩,hd σ H p⟩
theorem qKi {K:PySem.W.Frag} {a b:Addr} {xs ys:List V} {g:TG} {tt:TT} {B:St->Hp->(St->Hp->Prop)->Prop} {σ : St} {H:Hp} {Q:St->Hp->Prop} (hxy:xs.length=ys.length) (Pv:Nat->St->Hp->Prop) (h0:Pv 0 σ H) (hl : ∀i σ H,i<=xs.length->Pv i σ H->SqL K H a xs/\SqL K H b ys)
  (hs : ∀i x y σ H p (R:St->Hp->Prop),xs[i]? = some x->ys[i]? = some y->Pv i σ H->H p=none->(∀ σ' H',Pv (i+1) σ' H'->R σ' H')->g (.ref p) σ (upd H p (.tup [x,y])) fun σ2 H2=>tt σ2 H2 fun b H3=>if b=true then B σ2 H3 R else R σ2 H3)
  (hd : ∀ σ H,Pv xs.length σ H->Q σ H):LoopT (Itz K a b) g tt B σ H Q:=by
 refine qFo (n:=xs.length) Pv h0 (fun i σ H hi p=>⟨xs,ys,xs[i],ys[i],(hl i σ H (Nat.le_of_lt hi) p).1,(hl i σ H (Nat.le_of_lt hi) p).2,by simp [hi],by simp [hxy▸hi]⟩) (fun σ H p=>⟨xs,ys,(hl _ σ H (Nat.le_refl _) p).1,(hl _ σ H (Nat.le_refl _) p).2,.inl (Nat.le_refl _)⟩) (fun i σ H R hi p hR x H' y => ?_) hd
 obtain⟨r,x1,y1,e,hr,hx,hy,e2⟩:=y
 subst e e2
 exact hs i x1 y1 σ H r R (hx xs (hl i σ H (Nat.le_of_lt hi) p).1) (hy ys (hl i σ H (Nat.le_of_lt hi) p).2) p hr hR
end L2
local macro_rules | `(tactic| walk_at "q1") => `(tactic| first | refine L2.qW4 ?_ | refine L2.qUe ?_ | refine L2.qIu ?_ | refine L2.qTx ?_ | refine L2.qK1 ?_ | refine L2.qFh ?_)
local macro_rules | `(tactic| walk_at "q2") => `(tactic| first | refine L2.qQj ?_ | refine L2.qW1 ?_ | refine L2.qVs ?_ | refine L2.qQq ?_ | refine L2.qL0 ?_ | refine L2.qK3 ?_ | refine L2.qTv ?_ | refine L2.qU4 ?_ | refine L2.qQu ?_ | refine L2.qW6 ?_ | refine L2.qU6 ?_ | refine L2.qW0 ?_ | refine L2.r_u ?_ | refine L2.qUf ?_ | refine L2.qW3 ?_ | refine L2.qU0 ?_ | refine L2.qTz ?_ | refine L2.r_c ?_ | refine L2.qW5 ?_ | refine L2.qVn ?_ | refine L2.qUc ?_ | refine L2.qMg ?_ | refine L2.qJ7 ?_ | refine L2.qMc ?_ | refine L2.qMd ?_ | refine L2.qQp ?_ | refine L2.qQm ?_ | refine L2.qU8 ?_ | refine L2.qUb ?_ | refine L2.qK2 ?_ | refine L2.qQt ?_ | refine L2.qMf ?_ | refine L2.qQs ?_ | refine L2.qQv ?_ | refine L2.qQn ?_ | refine L2.qQx ?_ | refine L2.qQw ?_ | refine L2.qMe ?_ | refine L2.qQr ?_ | refine L2.qW2 ?_ | refine L2.qVr ?_ | refine L2.qUd ?_ | refine L2.qS0 ?_ | refine L2.qRv ?_ | refine L2.qTw ?_ | refine L2.qMb ?_ | refine L2.qU2 ?_ | refine L2.qU3 ?_ | refine L2.qU1 ?_ | refine L2.qQo ?_ | refine L2.qKy (by with_unfolding_all rfl) ?_ | refine L2.qAq (by assumption) (by with_unfolding_all rfl) ?_ | refine L2.qCi (by assumption) (by with_unfolding_all rfl) ?_)
local macro_rules | `(tactic| walk_at "rd") => `(tactic| repeat (with_reducible first | refine L2.qOk ?_ | walk_at "q1" | refine L2.qVq ?_ | walk_at "q2"))
namespace Fs
open PySem L2
def top (i:Nat):Stmt:=PySem.Challenge.pw_fewsaves_k14_ways_measured.main.body.getD i (.Pass ⟨0,0,0,0⟩)
abbrev sDraw:Stmt:=top 11
section
variable {P:Program} {w:World} {K:PySem.W.Frag} {mg:Str->Option Value} {base:Heap}
theorem scDraw:FnScope ["_law_tape_here","_law_many_here","_law_found","_law_once","_law_twice"] ["_law_tape_here","_law_many_here"] (qA8 sDraw):=⟨rfl,rfl,rfl,by decide +kernel,rfl,by decide +kernel,by decide +kernel⟩
theorem qSq {f:Addr} {fd:FuncData} (F:Fun K "_law_draw" "_law_draw" sDraw f fd):FnOk P w K mg base CX0 1 f fd ["_law_tape_here","_law_many_here"] qD2:=by
 refine F.ok scDraw (fun vs H Q E h => ?_) (fun cdv A outer s H vs Q E hr h => ?_)
 ·refine hide fun G_ hG_ => ?_
  obtain⟨t,k,n,rfl,_⟩:=h
  refine hG_ ?_
  rfl
 ·refine hide fun G_ hG_ => ?_
  obtain⟨t,k,n,rfl,⟨a,b,c,ht,ha,hb,hb2,hc,hc2⟩,hk,hn,hn2,q⟩:=h
  refine hG_ ?_
  refine⟨_,qA3 (qBa (qA9 qSc (qAb qAa (pv 0) qA2 (fun _ _=>rfl)) qA2 (qAd _))
    (qA3 (qAe (i:=2) scDraw.nd rfl (Or.inl rfl) (qAp qE1 (qAb qAa (pv 0) qA2 (fun _ _=>rfl)) (pv 1)))
    (qA3 (qCy (qAp qMu (qAb qAa (pv 0) qA2 (fun _ _=>rfl)) (pv 1)) (qD6 (pv 0) qA2 qBm))
    (qA7 (qAk (pv 2))))) qAu)
   (qA3 (qCy (qAp qAx (qAb qAa (pv 0) qA2 (fun _ _=>rfl)) qA2) (qD6 (pv 0) qA2 qBm))
   (qA3 (qAe (i:=3) scDraw.nd rfl (Or.inl rfl) (qAp qE1 (qAp qI0 (qAp qAx (qAb qAa (pv 0) qA2 (fun _ _=>rfl)) (qAp qI1 qA2 (qAb qAa (pv 0) qA2 (fun _ _=>rfl)))) qA2) qA2))
   (qA3 (qAe (i:=4) scDraw.nd rfl (Or.inl rfl) (qAp qE1 (qAp qI1 (qAp qAx (pv 3) (qAb qAa (pv 0) qA2 (fun _ _=>rfl))) (qAp qAx (qAp qAx (qAp qE1 (pv 3) qA2) qA2) (qAb qAa (pv 0) qA2 (fun _ _=>rfl)))) qA2))
   (qA7 (qAk (qAp qE1 (qAp qMu (qAp qE1 (qAp qAx (qAp qI1 (pv 4) qA2) (pv 3)) qA2) qA2) (pv 1))))))),?_⟩
  dsimp only [qBp]
  have hS:SqL K H t [.int a,.int b,.int c]:=SqL.of ht
  walk_at "rd"
  refine ite2 (fun g => ?_) (fun g => ?_)
  ·walk_at "rd"
   refine qFi hn ?_
   walk_at "rd"
   refine qU9 hn (by omega) ?_
   walk_at "rd"
   refine qCc (n:=0) ht rfl ?_
   walk_at "rd"
   exact q _ _ (Int.emod_nonneg _ (by omega)) (Int.emod_lt_of_pos _ hn) ⟨a / n,b,c,qA1,Int.ediv_nonneg ha (by omega),hb,hb2,hc,by omega⟩ (.put (by simp)) (fun b hb=>qA6 hb)
  ·walk_at "rd"
   refine qCc (n:=2) ht rfl ?_
   have hS':SqL K (upd H t (.lst ([V.int a,V.int b,V.int c].set 2 (.int (c+1))))) t [.int a,.int b,.int (c+1)]:=SqL.of qA1
   walk_at "rd"
   refine qJ6 (.inl ⟨by decide,by decide⟩) ?_
   walk_at "rd"
   refine qKz (by decide) (by decide) (by omega) ?_
   walk_at "rd"
   refine qFi (by decide) ?_
   generalize ho:(b+39373*(c+1))^(5:Int).toNat%2147483647=o
   have ho1:0<=o:=by rw [<-ho];exact Int.emod_nonneg _ (by decide)
   have ho2:o<2147483647:=by rw [<-ho];exact Int.emod_lt_of_pos _ (by decide)
   walk_at "rd"
   refine qFi (by decide) ?_
   have hm1:0<=o%40009:=Int.emod_nonneg _ (by decide)
   have hm2:o%40009<40009:=Int.emod_lt_of_pos _ (by decide)
   walk_at "rd"
   refine qJ6 (.inl ⟨by omega,by omega⟩) ?_
   walk_at "rd"
   refine qFi (by decide) ?_
   generalize hp:(o+(c+1))*(o%40009+7+(c+1))%2147483629=p2
   have hp1:0<=p2:=by rw [<-hp];exact Int.emod_nonneg _ (by decide)
   have hp2:p2<2147483629:=by rw [<-hp];exact Int.emod_lt_of_pos _ (by decide)
   walk_at "rd"
   refine qJ6 (.inl ⟨by omega,by omega⟩) ?_
   walk_at "rd"
   refine qFi (by decide) ?_
   walk_at "rd"
   refine qU9 (by decide) (by decide) ?_
   walk_at "rd"
   refine qFi hn ?_
   exact q _ _ (Int.emod_nonneg _ (by omega)) (Int.emod_lt_of_pos _ hn) ⟨a,b,c+1,qA1,ha,hb,hb2,by omega,by omega⟩ (.put (by simp)) (fun b hb=>qA6 hb)
end
end Fs
local macro_rules | `(tactic| walk_at "re") => `(tactic| repeat (with_reducible first | refine L2.qOk ?_ | walk_at "q1" | refine L2.qBq (by assumption) ?_ | refine L2.qVe (by assumption) ?_ | refine L2.qVq ?_ | walk_at "q2"))
namespace Fs
open PySem L2
section
variable {P:Program} {w:World} {K:PySem.W.Frag} {mg:Str->Option Value} {base:Heap}
theorem qB8 {D:Ends} {σ : St} {H5:Hp} {l d p:Addr} {vs:List V} {kvs:List (Key×V)} {ns:List Int} (h2 : σ[2]? = some (some (.ref l))) (h3 : σ[3]? = some (some (.ref d))) (h7 : σ[7]? = some (some (.ref p))) (hl:H5 l=some (.lst vs)) (hd:H5 d=some (.dK kvs))
  (hp:H5 p=some (.lst (ns.map V.int))) (hz:vs.length<1000) (hz2:kvs.length<=900) (hn:ns.length<=2) (npl:p≠l) (q : ∀H6 kvs',H6 l=some (.lst (vs ++ [.ref p]))->H6 d=some (.dK kvs')->kvs'.length<=kvs.length+2->Ext [l,d] H5 H6->D.nx σ H6) :
  tSeq (tDrop (tBM K "list" qH3 (tVar 2) (tCons (tVar 7) tNil))) (tDrop (tBM K "dict" qMh (tVar 3) (tCons (tComp ["_law_one"] [] (.lst []) (iList K (tVar 7)) (gName 0) [] (eApp (tTup (tCons (tVar 0) (tCons (tC (.bl true)) tNil))))) tNil))) D σ H5:=by
 have nld:l≠d:=qL8 hl hd (by intro z;cases z)
 have npd:p≠d:=qL8 hp hd (by intro z;cases z)
 refine qOk (qK1 (qVn (qKy h2 (qCz hl (qK3 (qKy h7 (qL0 (qDl hl (qAn (by omega)) ?_))))))))
 generalize hH6:upd H5 l (.lst (vs ++ [.ref p]))=H6
 have l6:H6 l=some (.lst (vs ++ [.ref p])):=by rw [<-hH6,qA1]
 have d6:H6 d=some (.dK kvs):=by rw [<-hH6,qA6 nld.symm];exact hd
 have p6:H6 p=some (.lst (ns.map V.int)):=by rw [<-hH6,qA6 npl];exact hp
 have e6:Ext [l,d] H5 H6:=by rw [<-hH6];exact .put (by simp)
 refine qK1 (qVn (qKy h3 (qVp d6 (qK3 (qMg (qJ7 (qKy h7 ⟨p,rfl,⟨_,SqL.of p6⟩,fun l2 hl2 => ?_⟩)))))))
 have n2p:p≠l2:=qA5 p6 hl2
 refine qBx (xs:=ns.map V.int) (fun j σ' H'=>(∃o,σ' = [o])/\Ext [l2] H6 H' /\ ∃items,H' l2=some (.lst items)/\PairsAt H' items ((ns.take j).map fun n=>((Sum.inl n:Key),V.bl true)))
  ⟨⟨none,rfl⟩,.laid hl2,[],qA1,.nil⟩ (fun j σ' H' _ ⟨_,e,_⟩=>SqL.of (e _ _ (by simpa using n2p) p6)) ?_ ?_
 ·rintro j x σ' H' R hx ⟨⟨o,rfl⟩,e,items,hi,pr⟩ hR
  obtain⟨n,hnj,rfl⟩ : ∃n,ns[j]? = some n/\x=V.int n:=by
   rw [List.getElem?_map] at hx
   cases z:ns[j]? with
   | none=>rw [z] at hx;cases hx
   | some n=>rw [z] at hx;exact⟨n,rfl,(Option.some.inj hx).symm⟩
  walk_at "re"
  refine iteT ?_
  walk_at "re"
  refine⟨len2 (by show 2<=1000;decide),fun p2 hp2 => ?_⟩
  have n22:l2≠p2:=qA5 hi hp2
  have hlen:items.length<=2:=by
   have:=Paired.length pr
   rw [List.length_map,List.length_take] at this
   omega
  refine⟨items,by rw [qA6 n22];exact hi,qAn (by omega),hR _ _ ⟨⟨_,rfl⟩,?_,items ++ [.ref p2],qA1,?_⟩⟩
  ·exact e.trans ((Ext.laid hp2).trans (.put (by simp)))
  ·have hj:(ns.take (j+1))=ns.take j ++ [n]:=by rw [List.take_add_one,hnj];rfl
   rw [hj,List.map_append]
   refine Paired.snoc (PairsAt.mono (fun b ys e => ?_) pr) ⟨p2,rfl,?_⟩
   ·rw [qA6 (qL8 e hi (by intro z;cases z)),qA6 (qA5 e hp2)];exact e
   ·rw [qA6 n22.symm,qA1];rfl
 ·rintro σ' H' ⟨_,e,items,hi,pr⟩
  rw [List.length_map,List.take_length] at pr
  have n2d:d≠l2:=qA5 d6 hl2
  have n2l:l≠l2:=qA5 l6 hl2
  have hmore:=Paired.length pr
  rw [List.length_map] at hmore
  refine qL0 ⟨d,l2,kvs,items,_,rfl,rfl,e _ _ (by simpa using n2d) d6,hi,pr,len2 (by rw [List.length_map];omega),?_⟩
  have hml:=qCu (ns.map fun n=>((Sum.inl n:Key),V.bl true)) kvs
  rw [List.length_map] at hml
  refine q _ _ (by rw [qA6 nld];exact e _ _ (by simpa using n2l) l6) qA1 (by omega) ?_
  exact e6.trans (((e.drop hl2).mono (by simp)).trans (.put (by simp)))
abbrev qGb:Stmt:=top 12
theorem scNexts:FnScope ["_law_tape_here","_law_many_here","_law_found","_law_led","_law_k","_law_way","_law_other","_law_some"] ["_law_tape_here","_law_many_here"] (qA8 qGb):=⟨rfl,rfl,rfl,by decide +kernel,rfl,by decide +kernel,by decide +kernel⟩
theorem qP4 {f:Addr} {fd:FuncData} (F:Fun K "_law_nexts" "_law_nexts" qGb f fd) (nrange:mg "range" = none) (nmax:mg "max" = none) (hD:Has P w K mg base "_law_draw" 1 ["_law_tape_here","_law_many_here"] qD2):FnOk P w K mg base CX0 2 f fd ["_law_tape_here","_law_many_here"] (qIz K):=by
 refine F.ok scNexts (fun vs H Q E h => ?_) (fun cdv A outer s H vs Q E hr h => ?_)
 ·refine hide fun G_ hG_ => ?_
  obtain⟨t,k,m,rfl,_⟩:=h
  refine hG_ ?_
  rfl
 ·refine hide fun G_ hG_ => ?_
  obtain⟨t,k,m,rfl,hT,hk,hm1,hm2,q⟩:=h
  refine hG_ ?_
  have hu:=qLf hr
  refine⟨_,qA3 (qK6 (i:=2) (j:=3) rfl scNexts.nd rfl rfl (by decide) rfl rfl (qA0 (qAr qA4) (qA0 qEz qA4)) rfl)
   (qA3 (qD5 PassesOwn.never rfl (qBj rfl nrange (qA0 (pv 1) qA4)) (qAg (i:=4) scNexts.nd rfl (Or.inl rfl))
    (qA3 (qAe (i:=5) scNexts.nd rfl (Or.inl rfl) (qAy hD hr (Nat.le_refl _) (qA0 (pv 0) (qA0 qA2 qA4))))
    (qA3 (qAe (i:=6) scNexts.nd rfl (Or.inl rfl) (qAp qAx qA2 (qAy hD hr (Nat.le_refl _) (qA0 (pv 0) (qA0 (qAl (qIn rfl) (by rfl) nmax PyProof.Rows.boot_max (qA0 qA2 (qA0 (qAp qGl (pv 1) qA2) qA4))) qA4)))))
    (qA3 (qAe (i:=7) scNexts.nd rfl (Or.inl rfl) (qAb qAa (qAr (qA0 (qAr (qA0 (qAp qAx (pv 4) qA2) (qA0 (pv 6) qA4))) (qA0 (qAr (qA0 (pv 6) (qA0 (qAp qAx (pv 4) qA2) qA4))) qA4))) (qAp qE1 (pv 5) qA2) (fun _ _=>rfl)))
    (qA3 (qBa (qA9 qBc (qAp qAx (pv 4) qA2) (pv 1) (qAd _))
      (qA7 (qAe (i:=7) scNexts.nd rfl (Or.inl rfl) (qBn (qD4 (qA9 qBc (pv 5) qA2 (qAd _)) (qCj (qA9 qSc (pv 1) qA2 (qAd _)))).pt (qAr (qA0 (pv 6) qA4)) (qAr qA4))))
      (qA7 (qBa (qD4 (qMk (qUr hu (qAp qAx (pv 4) qA2) (pv 3))) (qCj (qA9 qI2 (pv 5) qA2 (qAd _)))).pt
       (qA7 (qAe (i:=7) scNexts.nd rfl (Or.inl rfl) (qBn (qA9 qBc (pv 5) qA2 (qAd _)) (qAr (qA0 (pv 6) qA4)) (qAr qA4))))
       (qA7 (qBa (qS2 (qA9 qI2 (pv 5) qA2 (qAd _)) (qMi (qA9 qBc (pv 6) (qAp qAx (pv 4) qA2) (qAd _)))).pt
        (qA7 (qAe (i:=7) scNexts.nd rfl (Or.inl rfl) (qAr (qA0 (qAp qAx (pv 4) qA2) qA4)))) qAu)))))
    (qA3 (qBe (qDs PySem.F.plainAttrs_list PySem.F.slot_list_append PySem.F.type_list_append qBh (pv 2) (qA0 (pv 7) qA4)))
    (qA7 (qBe (qDs PySem.F.plainAttrs_dict PySem.F.slot_dict_update PySem.F.type_dict_update (qN1 rfl) (pv 3)
     (qA0 (qEv ["_law_one"] [] rfl (.of rfl) (qCs (pv 7)) (fun _ _ _ _=>qAg (i:=0) (by show ((["_law_one"]:List Str)).Nodup;decide) rfl (Or.inl rfl)) (fun _ _ _ _ =>.nil) (fun _ _ _ _=>qB7 (qA0 (pv 0) (qA0 qH8 qA4)))) qA4))))))))))
   (qA7 (qAk (pv 2)))),?_⟩
  dsimp only [qBp,qB9]
  walk_at "re"
  refine⟨len2 (Nat.zero_le _),fun l hl => ?_⟩
  have nlt:l≠t:=hT.ne hl
  walk_at "re"
  refine qH2 fun d hd => ?_
  have nld:l≠d:=fun z=>by rw [<-z,qA1] at hd;cases hd
  rw [qA6 nld.symm] at hd
  have ndt:d≠t:=hT.ne hd
  walk_at "re"
  refine⟨_,_,rfl,?_⟩
  walk_at "re"
  refine⟨m,rfl,by omega,by omega,qC3 (lo:=0) (n:=m.toNat) (fun i σ' H' => ∃(nx:List (List Int)) (vs:List V) (kvs:List (Key×V)) (o4 o5 o6 o7:Option V),σ' = [some (.ref t),some (.int m),some (.ref l),some (.ref d),o4,o5,o6,o7]/\nx.length=i/\(∀ns∈nx,NsOk m ns) /\
   Tape H' t (k+2*i)/\Ext [t] H H'/\H' l=some (.lst vs)/\DenL K (yo H [t,l,d] H') (nx.map intsD) vs/\H' d=some (.dK kvs)/\kvs.length<=2*i) ?_ ?_ ?_⟩
  ·refine⟨[],[],[],none,none,none,none,rfl,rfl,(fun _ h=>absurd h (by simp)),?_,?_,?_,.nil,qA1,Nat.le_refl _⟩
   ·exact (hT.ext (ts :=[]) ((Ext.laid hl).trans (.laid (by rw [qA6 nld.symm];exact hd))) (by simp)).mono (by omega)
   ·exact (Ext.laid hl).trans (.laid (by rw [qA6 nld.symm];exact hd))
   ·rw [qA6 nld,qA1]
  ·intro i σ' H' hi hq_ N_ B_ C_ R_ hN_ hC_ hR_
   refine hide fun G_ hG_ => ?_
   obtain⟨nx,vs,kvs,o4,o5,o6,o7,rfl,hnl,hnx,hT',e',hl',hden,hd',hkl⟩:=hq_
   refine hG_ ?_
   have hvl:vs.length=i:=by rw [hden.len,List.length_map,hnl]
   walk_at "re"
   refine qB6 hT' (by omega) (by decide) (by decide) fun r1 H1 a1 b1 T1 e1 k1 => ?_
   walk_at "re"
   refine⟨_,_,rfl,?_⟩
   walk_at "re"
   refine qB6 T1 (by omega) (by split <;> omega) (by split <;> omega) fun r2 H2 a2 b2 T2 e2 k2 => ?_
   have l2:H2 l=some (.lst vs):=by rw [k2 l nlt,k1 l nlt];exact hl'
   have d2:H2 d=some (.dK kvs):=by rw [k2 d ndt,k1 d ndt];exact hd'
   have den2:DenL K (yo H [t,l,d] H2) (nx.map intsD) vs:=hden.mono ((e1.trans e2).mono (by simp)).young
   walk_at "re"
   refine⟨len2 (by show 2<=1000;decide),fun p1 hp1 => ?_⟩
   walk_at "re"
   refine⟨len2 (by show 2<=1000;decide),fun p2 hp2 => ?_⟩
   walk_at "re"
   refine⟨len2 (by show 2<=1000;decide),fun p3 hp3 => ?_⟩
   have n12:p1≠p2:=qA5 qA1 hp2
   have n23:p2≠p3:=qA5 qA1 hp3
   have n13:p1≠p3:=qA5 (by rw [qA6 n12,qA1]) hp3
   generalize hH5:upd (upd (upd H2 p1 (HO.lst [V.int (0 + ↑i+1),V.int (1+r2)])) p2 (HO.lst [V.int (1+r2),V.int (0 + ↑i+1)])) p3 (HO.lst [V.ref p1,V.ref p2])=H5
   have hp2':H2 p2=none:=by rw [qA6 n12.symm] at hp2;exact hp2
   have e5:Ext [] H2 H5:=by
    rw [<-hH5]
    exact (Ext.laid hp1).trans ((Ext.laid hp2).trans (.laid hp3))
   have q1:H5 p1=some (.lst ([0+(i:Int)+1,1+r2].map V.int)):=by rw [<-hH5,qA6 n13,qA6 n12,qA1];rfl
   have q2:H5 p2=some (.lst ([1+r2,0+(i:Int)+1].map V.int)):=by rw [<-hH5,qA6 n23,qA1];rfl
   have q3:SqL K H5 p3 [V.ref p1,V.ref p2]:=SqL.of (by rw [<-hH5,qA1])
   refine hide fun G_ hG_ => ?_
   have fr : ∀p,H2 p=none->p≠t/\p≠l/\p≠d:=fun p hp=>⟨T2.ne hp,(qA5 l2 hp).symm,(qA5 d2 hp).symm⟩
   have fin : ∀(p:Addr) (ns:List Int) (H6:Hp),Ext [] H5 H6->H6 p=some (.lst (ns.map V.int))->H2 p=none->NsOk m ns -> ∀(H7:Hp) (kvs':List (Key×V)),H7 l=some (.lst (vs ++ [.ref p]))->H7 d=some (.dK kvs')->kvs'.length<=kvs.length+2->Ext [l,d] H6 H7 -> ∀o4 o5 o6 o7:Option V,
     ∃(nx:List (List Int)) (vs:List V) (kvs:List (Key×V)) (p4 p5 p6 p7:Option V),[some (V.ref t),some (.int m),some (.ref l),some (.ref d),o4,o5,o6,o7] = [some (.ref t),some (.int m),some (.ref l),some (.ref d),p4,p5,p6,p7]/\nx.length=i+1/\(∀ns∈nx,NsOk m ns) /\
      Tape H7 t (k+2*(i+1))/\Ext [t] H H7/\H7 l=some (.lst vs)/\DenL K (yo H [t,l,d] H7) (nx.map intsD) vs/\H7 d=some (.dK kvs)/\kvs.length<=2*(i+1):=by
    intro p ns H6 e6 hp hn hns H7 kvs' l7 d7 hk7 e7 o4 o5 o6 o7
    obtain⟨npt,npl,npd⟩:=fr p hn
    have e27:Ext [l,d] H2 H7:=((e5.trans e6).mono (by simp)).trans e7
    refine⟨nx ++ [ns],vs ++ [.ref p],kvs',o4,o5,o6,o7,rfl,by rw [List.length_append,hnl];rfl,fun z hz => ?_,?_,?_,l7,?_,d7,by omega⟩
    ·rcases List.mem_append.mp hz with y | y
     ·exact hnx z y
     ·rw [List.mem_singleton.mp y];exact hns
    ·exact (T2.ext e27 (by simp [nlt.symm,ndt.symm])).mono (by omega)
    ·have E7:Ext [l,d,t] H H7:=(e'.mono (by simp)).trans (((e1.trans e2).mono (by simp)).trans (e27.mono (by simp)))
     exact (E7.drop hl).drop hd
    ·rw [List.map_append]
     refine DenL.append (den2.mono (e27.mono (by simp)).young) (.cons (.list (SqL.of ?_) (DenL.ofInts ns)) .nil)
     rw [qAz ((e'.trans (e1.trans e2)).none (by simpa using npt) hn) (by simp [npt,npl,npd])]
     exact e7 _ _ (by simp [npl,npd]) hp
   have hr2:1+r2<=1\/1+r2<=m - 1:=by
    by_cases c:m - 1>1
    ·rw [if_pos c] at b2;omega
    ·rw [if_neg c] at b2;omega
   have l5:=e5 _ _ (by simp) l2
   have d5:=e5 _ _ (by simp) d2
   obtain⟨p0,ns0,h0,hp0,hn0,hat⟩ : ∃p0 ns0,H5 p0=some (.lst (ns0.map V.int))/\H2 p0=none/\(ns0 = [0+(i:Int)+1,1+r2]\/ns0 = [1+r2,0+(i:Int)+1])/\atI [V.ref p1,V.ref p2] (r1%2)=some (.ref p0):=by
    have hm:=Int.emod_two_eq r1
    rcases hm with c | c
    ·exact⟨p1,_,q1,hp1,.inl rfl,by rw [c];rfl⟩
    ·exact⟨p2,_,q2,hp2',.inr rfl,by rw [c];rfl⟩
   refine hG_ ?_
   walk_at "re"
   refine qFi (by decide) (qAq q3 hat ?_)
   walk_at "re"
   refine qC1 ?_
   walk_at "re"
   have nsl : ∀ {ns},NsOk m ns->ns.length<=2:=by
    rintro ns (h | ⟨x,h,_⟩ | ⟨x,y,h,_⟩) <;> subst h <;> simp
   refine ite2 (fun g => ?_) (fun g => ?_)
   ·have g:=of_decide_eq_true g
    walk_at "re"
    refine qC1 ?_
    walk_at "re"
    refine ite2 (fun g2 => ?_) (fun g2 => ?_)
    ·walk_at "re"
     refine ite2 (fun g3 => ?_) (fun g3 => ?_)
     ·have g3:=of_decide_eq_true g3
      walk_at "re"
      refine⟨len2 (by first | exact Nat.zero_le _ | (show 1<=1000;decide)),fun p hp => ?_⟩
      have hf:H2 p=none:=by
       cases z:H2 p with
       | none=>rfl
       | some o=>rw [e5 _ _ (by simp) z] at hp;cases hp
      have e6:Ext [] H5 (upd H5 p (.lst (([1+r2]:List Int).map V.int))) :=.laid hp
      have hns:NsOk m [1+r2]:=(.inr (.inl ⟨_,rfl,by omega,by omega⟩))
      obtain⟨_,npl,_⟩:=fr p hf
      refine qIu ?_
      refine qB8 (l:=l) (d:=d) (p:=p) (ns :=[1+r2]) rfl rfl rfl (e6 _ _ (by simp) l5) (e6 _ _ (by simp) d5) qA1 (by omega) (by omega) (nsl hns) npl ?_
      exact fun H7 kvs' l7 d7 hk7 e7=>qBq hN_ (fin p [1+r2] _ e6 qA1 hf hns H7 kvs' l7 d7 hk7 e7 _ _ _ _)
     ·walk_at "re"
      refine⟨len2 (by first | exact Nat.zero_le _ | (show 1<=1000;decide)),fun p hp => ?_⟩
      have hf:H2 p=none:=by
       cases z:H2 p with
       | none=>rfl
       | some o=>rw [e5 _ _ (by simp) z] at hp;cases hp
      have e6:Ext [] H5 (upd H5 p (.lst (([]:List Int).map V.int))) :=.laid hp
      have hns:NsOk m []:=(.inl rfl)
      obtain⟨_,npl,_⟩:=fr p hf
      refine qIu ?_
      refine qB8 (l:=l) (d:=d) (p:=p) (ns :=[]) rfl rfl rfl (e6 _ _ (by simp) l5) (e6 _ _ (by simp) d5) qA1 (by omega) (by omega) (nsl hns) npl ?_
      exact fun H7 kvs' l7 d7 hk7 e7=>qBq hN_ (fin p [] _ e6 qA1 hf hns H7 kvs' l7 d7 hk7 e7 _ _ _ _)
    ·refine iteF ?_
     walk_at "re"
     refine⟨len2 (by first | exact Nat.zero_le _ | (show 1<=1000;decide)),fun p hp => ?_⟩
     have hf:H2 p=none:=by
      cases z:H2 p with
      | none=>rfl
      | some o=>rw [e5 _ _ (by simp) z] at hp;cases hp
     have e6:Ext [] H5 (upd H5 p (.lst (([]:List Int).map V.int))) :=.laid hp
     have hns:NsOk m []:=(.inl rfl)
     obtain⟨_,npl,_⟩:=fr p hf
     refine qIu ?_
     refine qB8 (l:=l) (d:=d) (p:=p) (ns :=[]) rfl rfl rfl (e6 _ _ (by simp) l5) (e6 _ _ (by simp) d5) qA1 (by omega) (by omega) (nsl hns) npl ?_
     exact fun H7 kvs' l7 d7 hk7 e7=>qBq hN_ (fin p [] _ e6 qA1 hf hns H7 kvs' l7 d7 hk7 e7 _ _ _ _)
   ·have g : ¬(0+(i:Int)+1=m):=fun z=>g (decide_eq_true z)
    walk_at "re"
    refine⟨d,_,rfl,DGet.k (k:=Sum.inl _) d5,?_⟩
    refine qVs ?_
    refine ite2 (fun g2 => ?_) (fun g2 => ?_)
    ·walk_at "re"
     refine ite2 (fun g3 => ?_) (fun g3 => ?_)
     ·walk_at "re"
      refine qC1 ?_
      walk_at "re"
      refine ite2 (fun g4 => ?_) (fun g4 => ?_)
      ·walk_at "re"
       refine⟨len2 (by first | exact Nat.zero_le _ | (show 1<=1000;decide)),fun p hp => ?_⟩
       have hf:H2 p=none:=by
        cases z:H2 p with
        | none=>rfl
        | some o=>rw [e5 _ _ (by simp) z] at hp;cases hp
       have e6:Ext [] H5 (upd H5 p (.lst (([1+r2]:List Int).map V.int))) :=.laid hp
       have hns:NsOk m [1+r2]:=(.inr (.inl ⟨_,rfl,by omega,by omega⟩))
       obtain⟨_,npl,_⟩:=fr p hf
       refine qIu ?_
       refine qB8 (l:=l) (d:=d) (p:=p) (ns :=[1+r2]) rfl rfl rfl (e6 _ _ (by simp) l5) (e6 _ _ (by simp) d5) qA1 (by omega) (by omega) (nsl hns) npl ?_
       exact fun H7 kvs' l7 d7 hk7 e7=>qBq hN_ (fin p [1+r2] _ e6 qA1 hf hns H7 kvs' l7 d7 hk7 e7 _ _ _ _)
      ·walk_at "re"
       refine⟨len2 (by first | exact Nat.zero_le _ | (show 1<=1000;decide)),fun p hp => ?_⟩
       have hf:H2 p=none:=by
        cases z:H2 p with
        | none=>rfl
        | some o=>rw [e5 _ _ (by simp) z] at hp;cases hp
       have e6:Ext [] H5 (upd H5 p (.lst (([]:List Int).map V.int))) :=.laid hp
       have hns:NsOk m []:=(.inl rfl)
       obtain⟨_,npl,_⟩:=fr p hf
       refine qIu ?_
       refine qB8 (l:=l) (d:=d) (p:=p) (ns :=[]) rfl rfl rfl (e6 _ _ (by simp) l5) (e6 _ _ (by simp) d5) qA1 (by omega) (by omega) (nsl hns) npl ?_
       exact fun H7 kvs' l7 d7 hk7 e7=>qBq hN_ (fin p [] _ e6 qA1 hf hns H7 kvs' l7 d7 hk7 e7 _ _ _ _)
     ·walk_at "re"
      refine ite2 (fun g5 => ?_) (fun g5 => ?_)
      ·refine iteT ?_
       walk_at "re"
       refine⟨len2 (by first | exact Nat.zero_le _ | (show 1<=1000;decide)),fun p hp => ?_⟩
       have hf:H2 p=none:=by
        cases z:H2 p with
        | none=>rfl
        | some o=>rw [e5 _ _ (by simp) z] at hp;cases hp
       have e6:Ext [] H5 (upd H5 p (.lst (([0+(i:Int)+1]:List Int).map V.int))) :=.laid hp
       have hns:NsOk m [0+(i:Int)+1]:=(.inr (.inl ⟨_,rfl,by omega,by omega⟩))
       obtain⟨_,npl,_⟩:=fr p hf
       refine qIu ?_
       refine qB8 (l:=l) (d:=d) (p:=p) (ns :=[0+(i:Int)+1]) rfl rfl rfl (e6 _ _ (by simp) l5) (e6 _ _ (by simp) d5) qA1 (by omega) (by omega) (nsl hns) npl ?_
       exact fun H7 kvs' l7 d7 hk7 e7=>qBq hN_ (fin p [0+(i:Int)+1] _ e6 qA1 hf hns H7 kvs' l7 d7 hk7 e7 _ _ _ _)
      ·walk_at "re"
       refine qC1 ?_
       walk_at "re"
       refine ite2 (fun g6 => ?_) (fun g6 => ?_)
       ·walk_at "re"
        refine⟨len2 (by first | exact Nat.zero_le _ | (show 1<=1000;decide)),fun p hp => ?_⟩
        have hf:H2 p=none:=by
         cases z:H2 p with
         | none=>rfl
         | some o=>rw [e5 _ _ (by simp) z] at hp;cases hp
        have e6:Ext [] H5 (upd H5 p (.lst (([0+(i:Int)+1]:List Int).map V.int))) :=.laid hp
        have hns:NsOk m [0+(i:Int)+1]:=(.inr (.inl ⟨_,rfl,by omega,by omega⟩))
        obtain⟨_,npl,_⟩:=fr p hf
        refine qIu ?_
        refine qB8 (l:=l) (d:=d) (p:=p) (ns :=[0+(i:Int)+1]) rfl rfl rfl (e6 _ _ (by simp) l5) (e6 _ _ (by simp) d5) qA1 (by omega) (by omega) (nsl hns) npl ?_
        exact fun H7 kvs' l7 d7 hk7 e7=>qBq hN_ (fin p [0+(i:Int)+1] _ e6 qA1 hf hns H7 kvs' l7 d7 hk7 e7 _ _ _ _)
       ·have g6 : ¬(1+r2=0+(i:Int)+1):=fun z=>g6 (decide_eq_true z)
        obtain⟨_,npl,_⟩:=fr p0 hp0
        have hns:NsOk m ns0:=by
         rcases hn0 with h | h
         ·exact .inr (.inr ⟨_,_,h,by omega,by omega,by omega,by omega,by omega⟩)
         ·exact .inr (.inr ⟨_,_,h,by omega,by omega,by omega,by omega,by omega⟩)
        refine qFh ?_
        refine qB8 (l:=l) (d:=d) (p:=p0) (ns:=ns0) rfl rfl rfl l5 d5 h0 (by omega) (by omega) (nsl hns) npl ?_
        exact fun H7 kvs' l7 d7 hk7 e7=>qBq hN_ (fin p0 ns0 _ (fun _ _ _ h=>h) h0 hp0 hns H7 kvs' l7 d7 hk7 e7 _ _ _ _)
    ·refine iteF ?_
     walk_at "re"
     refine ite2 (fun g5 => ?_) (fun g5 => ?_)
     ·refine iteT ?_
      walk_at "re"
      refine⟨len2 (by first | exact Nat.zero_le _ | (show 1<=1000;decide)),fun p hp => ?_⟩
      have hf:H2 p=none:=by
       cases z:H2 p with
       | none=>rfl
       | some o=>rw [e5 _ _ (by simp) z] at hp;cases hp
      have e6:Ext [] H5 (upd H5 p (.lst (([0+(i:Int)+1]:List Int).map V.int))) :=.laid hp
      have hns:NsOk m [0+(i:Int)+1]:=(.inr (.inl ⟨_,rfl,by omega,by omega⟩))
      obtain⟨_,npl,_⟩:=fr p hf
      refine qIu ?_
      refine qB8 (l:=l) (d:=d) (p:=p) (ns :=[0+(i:Int)+1]) rfl rfl rfl (e6 _ _ (by simp) l5) (e6 _ _ (by simp) d5) qA1 (by omega) (by omega) (nsl hns) npl ?_
      exact fun H7 kvs' l7 d7 hk7 e7=>qBq hN_ (fin p [0+(i:Int)+1] _ e6 qA1 hf hns H7 kvs' l7 d7 hk7 e7 _ _ _ _)
     ·walk_at "re"
      refine qC1 ?_
      walk_at "re"
      refine ite2 (fun g6 => ?_) (fun g6 => ?_)
      ·walk_at "re"
       refine⟨len2 (by first | exact Nat.zero_le _ | (show 1<=1000;decide)),fun p hp => ?_⟩
       have hf:H2 p=none:=by
        cases z:H2 p with
        | none=>rfl
        | some o=>rw [e5 _ _ (by simp) z] at hp;cases hp
       have e6:Ext [] H5 (upd H5 p (.lst (([0+(i:Int)+1]:List Int).map V.int))) :=.laid hp
       have hns:NsOk m [0+(i:Int)+1]:=(.inr (.inl ⟨_,rfl,by omega,by omega⟩))
       obtain⟨_,npl,_⟩:=fr p hf
       refine qIu ?_
       refine qB8 (l:=l) (d:=d) (p:=p) (ns :=[0+(i:Int)+1]) rfl rfl rfl (e6 _ _ (by simp) l5) (e6 _ _ (by simp) d5) qA1 (by omega) (by omega) (nsl hns) npl ?_
       exact fun H7 kvs' l7 d7 hk7 e7=>qBq hN_ (fin p [0+(i:Int)+1] _ e6 qA1 hf hns H7 kvs' l7 d7 hk7 e7 _ _ _ _)
      ·have g6 : ¬(1+r2=0+(i:Int)+1):=fun z=>g6 (decide_eq_true z)
       obtain⟨_,npl,_⟩:=fr p0 hp0
       have hns:NsOk m ns0:=by
        rcases hn0 with h | h
        ·exact .inr (.inr ⟨_,_,h,by omega,by omega,by omega,by omega,by omega⟩)
        ·exact .inr (.inr ⟨_,_,h,by omega,by omega,by omega,by omega,by omega⟩)
       refine qFh ?_
       refine qB8 (l:=l) (d:=d) (p:=p0) (ns:=ns0) rfl rfl rfl l5 d5 h0 (by omega) (by omega) (nsl hns) npl ?_
       exact fun H7 kvs' l7 d7 hk7 e7=>qBq hN_ (fin p0 ns0 _ (fun _ _ _ h=>h) h0 hp0 hns H7 kvs' l7 d7 hk7 e7 _ _ _ _)
  ·intro σ' H' hq_
   refine hide fun G_ hG_ => ?_
   obtain⟨nx,vs,kvs,o4,o5,o6,o7,rfl,hnl,hnx,hT',e',hl',hden,hd',hkl⟩:=hq_
   refine hG_ ?_
   walk_at "re"
   refine q l nx H' hl (hT'.mono (by omega)) e' ⟨by omega,hnx⟩ (.list (SqL.of ?_) (hden.mono (qGt (by simp))))
   rw [qAz hl (by simpa using nlt)];exact hl'
end
section
variable {P:Program} {w:World} {K:PySem.W.Frag} {mg:Str->Option Value} {base:Heap}
abbrev sWork:Stmt:=top 15
theorem scWork:FnScope ["_law_tape_here","_law_many_here","_law_most","_law_first","_law_works_here","_law_left","_law_size","_law_boxes","_law_found","_law_there","_law_end"] ["_law_tape_here","_law_many_here","_law_most","_law_first","_law_works_here"] (qA8 sWork):=⟨rfl,rfl,rfl,by decide +kernel,rfl,by decide +kernel,by decide +kernel⟩
theorem qSd {f:Addr} {fd:FuncData} (F:Fun K "_law_work" "_law_work" sWork f fd) (nrange:mg "range" = none) (nlist:mg "list" = none) (nlen:mg "len" = none) (hD:Has P w K mg base "_law_draw" 1 ["_law_tape_here","_law_many_here"] qD2)
  (hX:Has P w K mg base "_law_nexts" 2 ["_law_tape_here","_law_many_here"] (qIz K)) (hE:Has P w K mg base "_law_deeds" 3 ["_law_tape_here","_law_most","_law_boxes","_law_first","_law_works_here"] (qEy K)) :
  FnOk P w K mg base CX0 4 f fd ["_law_tape_here","_law_many_here","_law_most","_law_first","_law_works_here"] (qIx K):=by
 refine F.ok scWork (fun vs H Q E h => ?_) (fun cdv A outer s H vs Q E hr h => ?_)
 ·refine hide fun G_ hG_ => ?_
  obtain⟨t,k,m,most,first,works,rfl,_⟩:=h
  refine hG_ ?_
  rfl
 ·refine hide fun G_ hG_ => ?_
  obtain⟨t,k,m,most,first,works,rfl,hT,hk,m1,m2,hm1,hm2,hf1,hf2,hw1,hw2,q⟩:=h
  refine hG_ ?_
  refine⟨_,qA3 (qAe (i:=5) scWork.nd rfl (Or.inr rfl) (qAv (qHi hr.hd) (by rfl) nlist PyProof.Rows.boot_list (qA0 (qAv qJn (by rfl) nrange PyProof.Rows.boot_range (qA0 qA2 qA4)) qA4)))
   (qA3 (qAe (i:=6) scWork.nd rfl (Or.inl rfl) (qAp qAx qA2 (qAy hD hr (by decide) (qA0 (pv 0) (qA0 (qAb qAa (qAr (qA0 qA2 (qA0 qA2 (qA0 qA2 qA4)))) (qAy hD hr (by decide) (qA0 (pv 0) (qA0 qA2 qA4))) (fun _ _=>rfl)) qA4)))))
   (qA3 (qOp (i:=7) ["_law_k"] [5,0] rfl (.of rfl) scWork.nd rfl (Or.inl rfl) (qBj rfl nrange (qA0 (pv 6) qA4)) (fun _ _ _ _=>qAg (i:=0) (by show ((["_law_k","_law_left","_law_tape_here"]:List Str)).Nodup;decide) rfl (Or.inl rfl)) (fun _ _ _ _ =>.nil)
     (fun _ _ _ _=>qUq K rfl PySem.F.plainAttrs_list PySem.F.slot_list_pop PySem.F.type_list_pop qPj (pv 1) (qA0 (qAy hD hr (by decide) (qA0 (pv 2) (qA0 (qAl (qPr K rfl) (by rfl) nlen PySem.boot_len (qA0 (pv 1) qA4)) qA4))) qA4)))
   (qA3 (qAe (i:=8) scWork.nd rfl (Or.inl rfl) (qAr qA4))
   (qA3 (qD5 PassesOwn.never rfl (qCs (qAy hX hr (by decide) (qA0 (pv 0) (qA0 (pv 1) qA4)))) (qAg (i:=9) scWork.nd rfl (Or.inl rfl))
    (qA3 (qAe (i:=10) scWork.nd rfl (Or.inl rfl) (qBn (qA9 (qQz hr) (pv 9) (qAr qA4) (qAd _)) (qB7 (qA0 qAc qA4)) (qBn (qA9 qBc (qAl qAf (by rfl) nlen PySem.boot_len (qA0 (pv 9) qA4)) qA2 (qAd _))
      (qB7 (qA0 qAc (qA0 (qAb qAa (pv 9) qA2 (fun _ _=>rfl)) qA4))) (qB7 (qA0 qAc (qA0 (qAb qAa (pv 9) qA2 (fun _ _=>rfl)) (qA0 (qAb qAa (pv 9) qA2 (fun _ _=>rfl)) qA4)))))))
    (qA7 (qBe (qDs PySem.F.plainAttrs_list PySem.F.slot_list_append PySem.F.type_list_append qBh (pv 8) (qA0 (qB7 (qA0 (qAy hE hr (by decide) (qA0 (pv 0) (qA0 (pv 2) (qA0 (pv 7) (qA0 (pv 3) (qA0 (pv 4) qA4)))))) (qA0 (pv 10) qA4))) qA4))))))
   (qA7 (qAk (pv 8))))))),?_⟩
  dsimp only [qBp,qB9]
  walk_at "re"
  refine⟨8,rfl,fun pr hpr => ?_⟩
  walk_at "re"
  refine⟨pr,8,rfl,qA1,by decide,fun lf hlf => ?_⟩
  have nrl:pr≠lf:=qA5 qA1 hlf
  have hlf0:H lf=none:=by rw [qA6 nrl.symm] at hlf;exact hlf
  have nlt:lf≠t:=hT.ne hlf0
  have EG:=(Ext.laid (ts :=[]) (o :=.rng 0 8) hpr).trans (.laid (o :=.lst (([0,1,2,3,4,5,6,7]:List Int).map V.int)) hlf)
  generalize hG:upd (upd H pr (.rng 0 8)) lf (.lst (([0,1,2,3,4,5,6,7]:List Int).map V.int))=G at EG
  have hG':upd (upd H pr (.rng 0 8)) lf (.lst ((List.range 8).map fun (i:Nat)=>V.int (i:Int)))=G:=hG
  have lG:G lf=some (.lst (([0,1,2,3,4,5,6,7]:List Int).map V.int)):=by rw [<-hG,qA1]
  have TG:=hT.ext EG (by simp)
  first | rw [hG'] | erw [hG']
  clear hG hG'
  walk_at "re"
  refine⟨len2 (by show 3<=1000;decide),fun p hp => ?_⟩
  have npt:p≠t:=TG.ne hp
  have npl:p≠lf:=(qA5 lG hp).symm
  walk_at "re"
  refine qB6 (TG.ext (ts :=[]) (.laid hp) (by simp)) (by omega) (by decide) (by decide) fun r1 H1 a1 b1 T1 e1 k1 => ?_
  have hpL:SqL K H1 p (([3,3,8]:List Int).map V.int):=SqL.of (by rw [k1 p npt,qA1];rfl)
  obtain⟨n8,hn8,en8⟩:=qEc (ns :=[3,3,8]) a1 b1
  have hn8':3<=n8/\n8<=8:=by
   simp only [List.mem_cons,List.not_mem_nil,or_false] at hn8
   omega
  refine qAq hpL en8 ?_
  walk_at "re"
  refine qB6 T1 (by omega) (by omega) (by omega) fun r2 H2 a2 b2 T2 e2 k2 => ?_
  have l2:H2 lf=some (.lst (([0,1,2,3,4,5,6,7]:List Int).map V.int)):=by rw [k2 lf nlt,k1 lf nlt,qA6 npl.symm];exact lG
  have E2:Ext [t] H H2:=(EG.mono (by simp)).trans ((Ext.laid hp).trans (e1.trans e2))
  walk_at "re"
  refine⟨1+r2,rfl,by omega,by omega,fun bx hbx => ?_⟩
  have nbt:bx≠t:=T2.ne hbx
  have nbl:bx≠lf:=(qA5 l2 hbx).symm
  refine qDj (lo:=0) (n:=(1+r2).toNat) (fun i σ' H' => ∃(o:Option V) (left bs:List Int),σ' = [o,some (.ref lf),some (.ref t)]/\left.length+i=8/\bs.length=i/\(∀b∈left,0<=b/\b<8)/\(∀b∈bs,0<=b/\b<8)/\H' lf=some (.lst (left.map V.int))/\H' bx=some (.lst (bs.map V.int))/\Tape H' t (k+2+i)/\Ext [t] H H') ?_ ?_ ?_
  ·refine⟨none,[0,1,2,3,4,5,6,7],[],rfl,rfl,rfl,by decide,(fun _ h=>absurd h (by simp)),?_,qA1,?_,E2.trans (.laid hbx)⟩
   ·rw [qA6 nbl.symm];exact l2
   ·exact T2.ext (ts :=[]) (.laid hbx) (by simp)
  ·intro i σ' H' R hi hq_ hR
   refine hide fun G_ hG_ => ?_
   obtain⟨o,left,bs,rfl,hll,hbl,hleft,hbs,hL,hBx,T',E'⟩:=hq_
   refine hG_ ?_
   walk_at "re"
   refine iteT ?_
   walk_at "re"
   refine qCz hL ?_
   walk_at "re"
   refine qC4 (SqL.of hL) ?_
   rw [List.length_map]
   walk_at "re"
   refine qB6 T' (by omega) (by omega) (by omega) fun r3 H3 a3 b3 T3 e3 k3 => ?_
   have l3:H3 lf=some (.lst (left.map V.int)):=by rw [k3 lf nlt];exact hL
   have b3x:H3 bx=some (.lst (bs.map V.int)):=by rw [k3 bx nbt];exact hBx
   obtain⟨j,rfl⟩:=Int.eq_ofNat_of_zero_le a3
   have hj:j<left.length:=by omega
   walk_at "re"
   refine⟨lf,left.map V.int,(j:Int),j,V.int left[j],rfl,rfl,l3,by omega,by omega,?_,by rw [List.getElem?_map,List.getElem?_eq_getElem hj];rfl,?_⟩
   ·rw [List.length_map]
    exact qTm hj
   ·refine⟨bs.map V.int,by rw [qA6 nbl];exact b3x,qAn (by rw [List.length_map];omega),hR _ _ ?_⟩
    have hmem:left[j]∈left:=List.getElem_mem hj
    refine⟨_,left.eraseIdx j,bs ++ [left[j]],rfl,?_,?_,fun b hb=>hleft b (List.mem_of_mem_eraseIdx hb),fun b hb => ?_,?_,?_,?_,?_⟩
    ·rw [List.length_eraseIdx,if_pos hj];omega
    ·rw [List.length_append,hbl];rfl
    ·rcases List.mem_append.mp hb with y | y
     ·exact hbs b y
     ·rw [List.mem_singleton.mp y];exact hleft _ hmem
    ·rw [qA6 nbl.symm,qA1,qI7]
    ·rw [qA1,List.map_append];rfl
    ·exact ((T3.ext (ts :=[lf]) (.put (by simp)) (by simpa using nlt.symm)).ext (ts :=[bx]) (.put (by simp)) (by simpa using nbt.symm)).mono (by omega)
    ·have hbx0:H bx=none:=by
      cases z:H bx with
      | none=>rfl
      | some o=>rw [E2 _ _ (by simpa using nbt) z] at hbx;cases hbx
     have E4:Ext [lf,bx,t] H (upd (upd H3 lf (.lst ((left.map V.int).eraseIdx j))) bx (.lst (bs.map V.int ++ [V.int left[j]]))):=(E'.mono (by simp)).trans ((e3.mono (by simp)).trans ((Ext.put (by simp)).trans (.put (by simp))))
     exact (E4.drop hlf0).drop hbx0
  ·intro σ' H3 hq_
   refine hide fun G_ hG_ => ?_
   obtain⟨o,left,bs,rfl,hll,hbl,hleft,hbs,hL,hBx,T3,E3⟩:=hq_
   refine hG_ ?_
   have hB:BsOk bs:=⟨by omega,by omega,hbs⟩
   walk_at "re"
   refine⟨len2 (Nat.zero_le _),fun l hl => ?_⟩
   have nlT:l≠t:=T3.ne hl
   have nlb:l≠bx:=(qA5 hBx hl).symm
   have hlH:H l=none:=E3.none (by simpa using nlT) hl
   walk_at "re"
   refine⟨t,_,m,rfl,T3.ext (ts :=[]) (.laid hl) (by simp),by omega,m1,m2,fun nl nx H4 hnl T4 e4 hNx hDn => ?_⟩
   refine hide fun G_ hG_ => ?_
   obtain⟨a,vs,ea,hSq,hDL⟩:=hDn.ofList
   cases ea
   refine hG_ ?_
   have nnl:nl≠l:=(qA5 qA1 hnl).symm
   have hlen:=hDL.len
   rw [List.length_map] at hlen
   have hnm:(nx.length:Int)=m:=hNx.1
   have l4:H4 l=some (.lst []):=e4 _ _ (by simpa using nlT) qA1
   have E4:Ext [t] H H4:=E3.trans ((Ext.laid hl).trans e4)
   have apart:Same (yo (upd H3 l (.lst [])) [t] H4) (yo (upd H3 l (.lst [])) [l,t] H4):=qJo (H0:=H) (by simp [qA1])
   have hSq4:=Same.seq apart hSq
   have hDL4:=hDL.mono apart
   have bx4:H4 bx=some (.lst (bs.map V.int)):=e4 _ _ (by simpa using nbt) (by rw [qA6 nlb.symm];exact hBx)
   refine⟨nl,rfl,⟨vs,yo_same.seq hSq4⟩,qIf (xs:=vs) (fun i σ' H' => ∃(wk:List Blk) (ws:List V) (o9 o10:Option V),σ' = [some (.ref t),some (.int m),some (.int most),some (.int first),some (.int works),some (.ref lf),some (.int (1+r2)),some (.ref bx),some (.ref l),o9,o10]/\wk.length=i /\
    (∀b∈wk,BlkOk m works b/\Fw works b)/\Tape H' t (k+45+140*i)/\Ext [l,t] H4 H'/\H' l=some (.lst ws)/\DenL K (yo H [l,t] H') (wk.map blkD) ws) ?_ ?_ ?_ ?_⟩
   ·exact⟨[],[],none,none,rfl,rfl,(fun _ h=>absurd h (by simp)),T4.mono (by omega),.refl _ _,l4,.nil⟩
   ·intro i σ' H' hi hq_
    refine hide fun G_ hG_ => ?_
    obtain⟨wk,ws,o9,o10,rfl,hwl,hwk,T',e',hl',hden⟩:=hq_
    refine hG_ ?_
    exact yo_same.seq (Same.seq e'.young hSq4)
   ·intro i x σ' H' hx hq_ N_ B_ C_ R_ hN_ hC_ hR_
    refine hide fun G_ hG_ => ?_
    obtain⟨wk,ws,o9,o10,rfl,hwl,hwk,T',e',hl',hden⟩:=hq_
    refine hG_ ?_
    refine hide fun G_ hG_ => ?_
    obtain⟨dd,hdd,hDx⟩:=hDL4.get hx
    have hi:i<vs.length:=(List.getElem?_eq_some_iff.mp hx).1
    obtain⟨ns,hns,rfl⟩ : ∃ns,nx[i]? = some ns/\dd=intsD ns:=by
     rw [List.getElem?_map] at hdd
     cases z:nx[i]? with
     | none=>rw [z] at hdd;cases hdd
     | some n=>rw [z] at hdd;exact⟨n,rfl,(Option.some.inj hdd).symm⟩
    have hok:NsOk m ns:=hNx.2 ns (List.mem_of_getElem? hns)
    obtain⟨c,zs,rfl,hc,hcs⟩:=hDx.ofList
    have hzs:=hcs.ints
    subst hzs
    refine hG_ ?_
    have hwl':ws.length=i:=by rw [hden.len,List.length_map,hwl]
    have hc':SqL K H' c (ns.map V.int):=yo_same.seq (Same.seq e'.young hc)
    have tail : ∀(en:Addr) (H6:Hp),Ext [] H' H6->H' en=none->Den K (yo H [l,t] H6) (endD ns) (.ref en) -> ∀D:Ends,(∀(H7:Hp) (o9 o10:Option V),(∃(wk:List Blk) (ws:List V) (p9 p10:Option V),[some (V.ref t),some (.int m),some (.int most),some (.int first),some (.int works),some (.ref lf),some (.int (1+r2)),some (.ref bx),some (.ref l),o9,o10] = [some (.ref t),some (.int m),some (.int most),some (.int first),some (.int works),some (.ref lf),some (.int (1+r2)),some (.ref bx),some (.ref l),p9,p10]/\wk.length=i+1 /\
      (∀b∈wk,BlkOk m works b/\Fw works b)/\Tape H7 t (k+45+140*(i+1))/\Ext [l,t] H4 H7/\H7 l=some (.lst ws)/\DenL K (yo H [l,t] H7) (wk.map blkD) ws)->D.nx [some (V.ref t),some (.int m),some (.int most),some (.int first),some (.int works),some (.ref lf),some (.int (1+r2)),some (.ref bx),some (.ref l),o9,o10] H7) ->
      tDrop (tBM K "list" qH3 (tVar 8) (tCons (tTup (tCons (tCall (qEy K) [] E0 (tCons (tVar 0) (tCons (tVar 2) (tCons (tVar 7) (tCons (tVar 3) (tCons (tVar 4) tNil)))))) (tCons (tVar 10) tNil))) tNil)) D [some (V.ref t),some (.int m),some (.int most),some (.int first),some (.int works),some (.ref lf),some (.int (1+r2)),some (.ref bx),some (.ref l),some (.ref c),some (.ref en)] H6:=by
     intro en H6 e6 hen hDe D hD
     have l6:=e6 _ _ (by simp) hl'
     walk_at "re"
     refine qCz l6 ?_
     walk_at "re"
     refine⟨t,bx,_,most,first,works,bs,rfl,T'.ext e6 (by simp),by omega,hm1,hm2,hf1,hf2,hw1,hw2,e6 _ _ (by simp) (e' _ _ (by simp [nbt,nlb.symm]) bx4),nbt,hB,fun dl ds H7 hdl T7 e7 hds hdf hDd => ?_⟩
     have l7:=e7 _ _ (by simpa using nlT) l6
     have ndl:dl≠l:=(qA5 l6 hdl).symm
     have EH:Ext [l,t] H H6:=(E4.mono (by simp)).trans (e'.trans (e6.mono (by simp)))
     have hDd':Den K (yo H [l,t] H7) (.list (ds.map deedD)) (.ref dl):=(hDd.mono (qJo (H0:=H) (us :=[l,t]) (by simp [l6]))).mono (qO1 EH (by simp))
     walk_at "re"
     refine⟨len2 (by show 2<=1000;decide),fun p hp => ?_⟩
     have npl:p≠l:=(qA5 l7 hp).symm
     have npt:p≠t:=T7.ne hp
     walk_at "re"
     refine qDl (by rw [qA6 npl.symm];exact l7) (qAn (by omega)) ?_
     refine hD _ _ _ ⟨wk ++ [⟨ds,ns⟩],ws ++ [.ref p],_,_,rfl,by rw [List.length_append,hwl];rfl,fun b hb => ?_,?_,?_,qA1,?_⟩
     ·rcases List.mem_append.mp hb with y | y
      ·exact hwk b y
      ·rw [List.mem_singleton.mp y];exact⟨⟨hok,fun d hd=>(hds d hd).ok,Nat.le_trans hdf (by decide)⟩,hdf,hds⟩
     ·exact ((T7.ext (ts :=[]) (.laid hp) (by simp)).ext (ts :=[l]) (.put (by simp)) (by simpa using nlT.symm)).mono (by omega)
     ·exact e'.trans ((e6.mono (by simp)).trans ((e7.mono (by simp)).trans ((Ext.laid hp).trans (.put (by simp)))))
     ·have E7:Ext [l,t] H7 (upd (upd H7 p (.tup [.ref dl,.ref en])) l (.lst (ws ++ [.ref p]))):=(Ext.laid hp).trans (.put (by simp))
      have E67:Ext [l,t] H6 (upd (upd H7 p (.tup [.ref dl,.ref en])) l (.lst (ws ++ [.ref p]))):=(e7.mono (by simp)).trans E7
      rw [List.map_append]
      refine DenL.append (hden.mono ((e6.mono (by simp)).trans E67).young) (.cons (.tuple (SqT.of ?_) (.cons (hDd'.mono E7.young) (.cons (hDe.mono E67.young) .nil))) .nil)
      rw [qAz ((EH.trans (e7.mono (by simp))).none (by simp [npl,npt]) hp) (by simp [npl,npt]),qA6 npl,qA1]
    have nT : ∀ {en:Addr},H' en=none->en≠t/\en≠l/\H en=none:=fun {en} h=>by
     have a1:=T'.ne h
     have a2:=(qA5 hl' h).symm
     exact⟨a1,a2,((E4.mono (us :=[l,t]) (by simp)).trans e').none (by simp [a1,a2]) h⟩
    walk_at "re"
    refine⟨len2 (Nat.zero_le _),fun e0 he0 => ?_⟩
    have E0:Ext [] H' (upd H' e0 (.lst [])) :=.laid he0
    have hc0:SqL K (upd H' e0 (.lst [])) c (ns.map V.int):=Same.seq (fun b o h=>E0 b o (by simp) h) hc'
    rcases hok with h | ⟨x,h,_⟩ | ⟨x,y,h,_⟩
    ·subst h
     refine⟨intsD [],.list [],.list hc0 (DenL.ofInts []),.list (SqL.of qA1) .nil,rfl,rfl,?_⟩
     walk_at "re"
     refine iteT ?_
     walk_at "re"
     refine⟨len2 (by show 1<=1000;decide),fun en hen => ?_⟩
     have hen':=E0.none (by simp) hen
     obtain⟨z1,z2,z3⟩:=nT hen'
     refine qIu (tail en _ (E0.trans (.laid hen)) hen' (.tuple (SqT.of ?_) (.cons .str .nil)) _ fun H7 o9 o10 h=>qBq hN_ h)
     rw [qAz z3 (by simp [z1,z2]),qA1]
    ·subst h
     refine⟨intsD [x],.list [],.list hc0 (DenL.ofInts [x]),.list (SqL.of qA1) .nil,rfl,rfl,?_⟩
     walk_at "re"
     refine iteF ?_
     walk_at "re"
     refine qC4 hc0 ?_
     walk_at "re"
     refine qC1 ?_
     walk_at "re"
     refine iteT ?_
     walk_at "re"
     refine⟨len2 (by show 2<=1000;decide),fun en hen => ?_⟩
     have hen':=E0.none (by simp) hen
     obtain⟨z1,z2,z3⟩:=nT hen'
     refine qIu (tail en _ (E0.trans (.laid hen)) hen' (.tuple (SqT.of ?_) (.cons .str (.cons .int .nil))) _ fun H7 o9 o10 h=>qBq hN_ h)
     rw [qAz z3 (by simp [z1,z2]),qA1]
    ·subst h
     refine⟨intsD [x,y],.list [],.list hc0 (DenL.ofInts [x,y]),.list (SqL.of qA1) .nil,rfl,rfl,?_⟩
     walk_at "re"
     refine iteF ?_
     walk_at "re"
     refine qC4 hc0 ?_
     walk_at "re"
     refine qC1 ?_
     walk_at "re"
     refine iteF ?_
     walk_at "re"
     refine⟨len2 (by show 3<=1000;decide),fun en hen => ?_⟩
     have hen':=E0.none (by simp) hen
     obtain⟨z1,z2,z3⟩:=nT hen'
     refine qIu (tail en _ (E0.trans (.laid hen)) hen' (.tuple (SqT.of ?_) (.cons .str (.cons .int (.cons .int .nil)))) _ fun H7 o9 o10 h=>qBq hN_ h)
     rw [qAz z3 (by simp [z1,z2]),qA1]
   ·intro σ' H' hq_
    refine hide fun G_ hG_ => ?_
    obtain⟨wk,ws,o9,o10,rfl,hwl,hwk,T',e',hl',hden⟩:=hq_
    refine hG_ ?_
    walk_at "re"
    have EH:Ext [l,t] H H':=(E4.mono (by simp)).trans e'
    exact q l wk ws H' hlH nlT (T'.mono (by omega)) (EH.drop hlH) ⟨by omega,fun b hb=>(hwk b hb).1⟩ (fun b hb=>(hwk b hb).2) hl' hden
end
end Fs
local macro_rules | `(tactic| walk_at "rf") => `(tactic| repeat (first | with_reducible refine L2.qW4 ?_ | with_reducible refine L2.qOk ?_ | with_reducible refine L2.qUe ?_ | with_reducible refine L2.qIu ?_ | with_reducible refine L2.qTx ?_ | with_reducible refine L2.qK1 ?_ | with_reducible refine L2.qFh ?_ | with_reducible refine L2.qVq ?_ | with_reducible refine L2.qQj ?_ | with_reducible refine L2.qW1 ?_ | with_reducible refine L2.qVs ?_ | with_reducible refine L2.qQq ?_ | with_reducible refine L2.qL0 ?_ | with_reducible refine L2.qK3 ?_ | with_reducible refine L2.qTv ?_ | with_reducible refine L2.qU4 ?_ | with_reducible refine L2.qQu ?_ | with_reducible refine L2.qW6 ?_ | with_reducible refine L2.qU6 ?_ | with_reducible refine L2.qW0 ?_ | with_reducible refine L2.r_u ?_ | with_reducible refine L2.qUf ?_ | with_reducible refine L2.qW3 ?_ | with_reducible refine L2.qU0 ?_ | with_reducible refine L2.qTz ?_ | with_reducible refine L2.r_c ?_ | with_reducible refine L2.qW5 ?_ | with_reducible refine L2.qVn ?_ | with_reducible refine L2.qUc ?_ | with_reducible refine L2.qMg ?_ | with_reducible refine L2.qJ7 ?_ | with_reducible refine L2.qMc ?_ | with_reducible refine L2.qMd ?_ | with_reducible refine L2.qQp ?_ | with_reducible refine L2.qQm ?_ | with_reducible refine L2.qU8 ?_ | with_reducible refine L2.qUb ?_ | with_reducible refine L2.qK2 ?_ | with_reducible refine L2.qQt ?_ | with_reducible refine L2.qMf ?_ | with_reducible refine L2.qQs ?_ | with_reducible refine L2.qQv ?_ | with_reducible refine L2.qQn ?_ | with_reducible refine L2.qQx ?_ | with_reducible refine L2.qQw ?_ | with_reducible refine L2.qMe ?_ | with_reducible refine L2.qQr ?_ | with_reducible refine L2.qW2 ?_ | with_reducible refine L2.qU1 ?_ | with_reducible refine L2.qQo ?_ | with_reducible refine L2.qKy (by with_unfolding_all rfl) ?_ | with_reducible refine L2.qAq (by assumption) (by with_unfolding_all rfl) ?_ | with_reducible refine L2.qCi (by assumption) (by with_unfolding_all rfl) ?_))
namespace Fs
open PySem L2
section
variable {P:Program} {w:World} {K:PySem.W.Frag} {mg:Str->Option Value} {base:Heap}
abbrev sEnds:Stmt:=top 18
theorem qTr:FnScope ["_law_work_here"] ["_law_work_here"] (qA8 sEnds):=⟨rfl,rfl,rfl,by decide +kernel,rfl,by decide +kernel,by decide +kernel⟩
theorem qSp {f:Addr} {fd:FuncData} (F:Fun K "_law_ends" "_law_ends" sEnds f fd) (nlist:mg "list" = none):FnOk P w K mg base CX0 1 f fd ["_law_work_here"] (qM5 K):=by
 refine F.ok qTr (fun vs H Q E h => ?_) (fun cdv A outer s H vs Q E hr h => ?_)
 ·obtain⟨a,w,rfl,_⟩:=h
  rfl
 ·obtain⟨a,wk,rfl,hW,hns,hwl,q⟩:=h
  have nd2:((["_law_deeds_here","_law_end"]:List Str)).Nodup:=by decide
  refine⟨_,qA7 (qAk (qEv ["_law_deeds_here","_law_end"] [] rfl (.of rfl) (qCs (pv 0)) (fun _ _ _ _=>qEi (n:=2) K rfl rfl (qAs (qAg (i:=0) nd2 rfl (Or.inl rfl)) (qAs (qAg (i:=1) nd2 rfl (Or.inl rfl)) qC6))) (fun _ _ _ _ =>.nil)
   (fun _ _ _ _=>qAv (qPp K rfl) (by rfl) nlist PyProof.Rows.boot_list (qA0 (qK9 (qRk K rfl) (pv 1) (qMn qA2) qMo) qA4)))),?_⟩
  dsimp only [qBp,qB9]
  obtain⟨a',vs,ea,hSq,hDL⟩:=hW.ofList
  cases ea
  have hvl:vs.length=wk.length:=by rw [hDL.len,List.length_map]
  walk_at "rf"
  refine⟨a,rfl,⟨vs,hSq⟩,fun l hl => ?_⟩
  refine qBx (xs:=vs) (fun i σ' H' => ∃(ws:List V) (o0 o1:Option V),σ' = [o0,o1]/\Ext [l] H H'/\H' l=some (.lst ws)/\DenL K (yo H [l] H') ((wk.take i).map fun b=>intsD b.ns) ws) ?_ ?_ ?_ ?_
  ·exact⟨[],none,none,rfl,.laid hl,qA1,.nil⟩
  ·rintro i σ' H' hi ⟨ws,o0,o1,rfl,e',hl',hden⟩
   exact (e'.drop hl).toSame.seq hSq
  ·rintro i x σ' H' R hx ⟨ws,o0,o1,rfl,e',hl',hden⟩ hR
   have es:Same H H':=(e'.drop hl).toSame
   obtain⟨dd,hdd,hDx⟩:=hDL.get hx
   obtain⟨b,hb,rfl⟩ : ∃b,wk[i]? = some b/\dd=blkD b:=by
    rw [List.getElem?_map] at hdd
    cases z:wk[i]? with
    | none=>rw [z] at hdd;cases hdd
    | some n=>rw [z] at hdd;exact⟨n,rfl,(Option.some.inj hdd).symm⟩
   have hi:i<wk.length:=(List.getElem?_eq_some_iff.mp hb).1
   have hb2:=hns b (List.mem_of_getElem? hb)
   obtain⟨c,us,rfl,hc,hcs⟩:=hDx.ofTuple
   obtain⟨v1,r1,rfl,hd1,hr1⟩:=hcs.ofCons
   obtain⟨v2,r2,rfl,hd2,hr2⟩:=hr1.ofCons
   have hr2:=hr2.ofNil
   subst hr2
   obtain⟨wd,hwd⟩:=qT8 hb2
   rw [hwd] at hd2
   obtain⟨en,es',rfl,hen,hes⟩:=hd2.ofTuple
   obtain⟨v3,r3,rfl,hd3,hr3⟩:=hes.ofCons
   have e3:=hd3.ofStr
   subst e3
   have e4:=hr3.ints
   subst e4
   refine qD3 (es.seqT hc) rfl ?_
   walk_at "rf"
   refine iteT ?_
   walk_at "rf"
   refine⟨1,rfl,?_⟩
   walk_at "rf"
   refine⟨en,_,rfl,es.seqT hen,?_,fun p hp => ?_⟩
   ·intro h
    have:=h.1
    revert this
    have hn:(V.str wd::b.ns.map V.int).length=b.ns.length+1:=by simp
    rw [hn]
    unfold HT.sIx
    simp
    try omega
   have hcut:cutV (V.str wd::b.ns.map V.int) (some 1) none=b.ns.map V.int:=by
    match hh:b.ns,hb2 with
    | [],_=>rfl
    | [x],_=>rfl
    | [x,y],_=>rfl
   rw [hcut]
   have npl:p≠l:=(qA5 hl' hp).symm
   walk_at "rf"
   refine⟨p,_,rfl,.inr (SqT.of qA1),fun l2 hl2 => ?_⟩
   have l':upd H' p (.tup (b.ns.map V.int)) l=some (.lst ws):=by rw [qA6 npl.symm];exact hl'
   have n2:l2≠l:=(qA5 l' hl2).symm
   have hwsl:ws.length=i:=by rw [hden.len,List.length_map,List.length_take];omega
   refine⟨ws,by rw [qA6 n2.symm];exact l',qAn (by omega),hR _ _ ⟨ws ++ [.ref l2],_,_,rfl,?_,qA1,?_⟩⟩
   ·exact e'.trans ((Ext.laid hp).trans ((Ext.laid hl2).trans (.put (by simp))))
   ·have ht:wk.take (i+1)=wk.take i ++ [b]:=by rw [List.take_add_one,hb];rfl
    have E2:Ext [l] H' (upd (upd (upd H' p (.tup (b.ns.map V.int))) l2 (.lst (b.ns.map V.int))) l (.lst (ws ++ [.ref l2]))):=(Ext.laid hp).trans ((Ext.laid hl2).trans (.put (by simp)))
    rw [ht,List.map_append]
    refine DenL.append (hden.mono E2.young) (.cons (.list (SqL.of ?_) (DenL.ofInts b.ns)) .nil)
    rw [qAz ((e'.trans (.laid hp)).none (by simpa using n2) hl2) (by simpa using n2),qA6 n2,qA1]
  ·rintro σ' H' ⟨ws,o0,o1,rfl,e',hl',hden⟩
   rw [hvl,List.take_length] at hden
   refine q l H' hl (e'.drop hl) (.list (SqL.of ?_) (hden.mono (qGt (by simp))))
   rw [qAz hl (by simp)];exact hl'
end
section
variable {P:Program} {w:World} {K:PySem.W.Frag} {mg:Str->Option Value} {base:Heap}
abbrev sWays:Stmt:=top 19
theorem scWays:FnScope ["_law_work_here","_law_found","_law_block","_law_there"] ["_law_work_here"] (qA8 sWays):=⟨rfl,rfl,rfl,by decide +kernel,rfl,by decide +kernel,by decide +kernel⟩
theorem qSe {f:Addr} {fd:FuncData} (F:Fun K "_law_ways" "_law_ways" sWays f fd) (nenum:mg "enumerate" = none) (nlen:mg "len" = none) (nint:mg "int" = none) (nsort:mg "sorted" = none)
  (hE:Has P w K mg base "_law_ends" 1 ["_law_work_here"] (qM5 K)):FnOk P w K mg base CX0 2 f fd ["_law_work_here"] (qHp K):=by
 refine F.ok scWays (fun vs H Q E h => ?_) (fun cdv A outer s H vs Q E hr h => ?_)
 ·obtain⟨a,w,m,works,rfl,_⟩:=h
  rfl
 ·obtain⟨a,wk,m,works,rfl,hW,hOk,hm,q⟩:=h
  refine⟨_,qA3 (qAe (i:=1) scWays.nd rfl (Or.inl rfl) (qAr (qA0 (qB7 (qA0 (qEu qCx qA2) (qA0 qA2 qA4))) qA4)))
   (qA3 (qD5 PassesOwn.never rfl (qH6 rfl nenum (qA0 (qAy hE hr (by decide) (qA0 (pv 0) qA4)) qA4)) (qGk (n:=2) rfl (qAs (qAg (i:=2) scWays.nd rfl (Or.inr rfl)) (qAs (qAg (i:=3) scWays.nd rfl (Or.inl rfl)) qC6)))
    (qA7 (qAe (i:=1) scWays.nd rfl (Or.inl rfl) (qAp qR0 (qAp qR0 (pv 1)
     (qEv ["_law_to"] [2] rfl (.of rfl) (qCs (qAl qLj (by rfl) nsort PyProof.Rows.boot_sorted (qA0 (pv 3) qA4))) (fun _ _ _ _=>qAg (i:=0) (by show ((["_law_to","_law_block"]:List Str)).Nodup;decide) rfl (Or.inl rfl)) (fun _ _ _ _ =>.nil) (fun _ _ _ _=>qB7 (qA0 (pv 1) (qA0 (pv 0) qA4)))))
     (qAp qUt (qAr (qA0 (qB7 (qA0 (pv 2) (qA0 (qAl qAf (by rfl) nlen PySem.boot_len (qA0 (pv 0) qA4)) qA4))) qA4)) (qAv qBz (by rfl) nint PyProof.Rows.boot_int (qA0 (qD8 (qQz hr) (pv 3) (qAr qA4) (qAd _)) qA4)))))))
   (qA7 (qAk (pv 1)))),?_⟩
  dsimp only [qBp,qB9]
  obtain⟨a',vs,ea,hSq,hDL⟩:=hW.ofList
  cases ea
  have hvl:vs.length=wk.length:=by rw [hDL.len,List.length_map]
  have hwm:=hOk.len
  have hns : ∀b∈wk,b.ns.length<=2:=fun b hb=>(hOk.blk b hb).ns.few
  walk_at "rf"
  refine⟨len2 (by show 2<=1000;decide),fun p0 hp0 => ?_⟩
  walk_at "rf"
  refine⟨len2 (by show 1<=1000;decide),fun l0 hl0 => ?_⟩
  have E0:=(Ext.laid (ts :=[]) (o :=.tup [V.int (-1),.int 0]) hp0).trans (.laid (o :=.lst [V.ref p0]) hl0)
  have n0:p0≠l0:=qA5 qA1 hl0
  walk_at "rf"
  refine⟨a,wk,rfl,hW.mono E0.toSame,hns,by omega,fun le H1 hle e1 hDe => ?_⟩
  obtain⟨le',us,ea,hSe,hDu⟩:=hDe.ofList
  cases ea
  have hul:us.length=wk.length:=by rw [hDu.len,List.length_map]
  refine⟨le,rfl,⟨us,yo_same.seq hSe⟩,qKm (xs:=us) (fun i σ' H' => ∃(fl:Addr) (fs:List V) (o2 o3:Option V),σ' = [some (.ref a),some (.ref fl),o2,o3]/\Ext [] H1 H'/\H fl=none/\H' fl=some (.lst fs)/\DenL K (yo H [] H') ((qAi wk i).map pairD) fs) ?_ ?_ ?_ ?_⟩
  ·refine⟨l0,[.ref p0],none,none,rfl,.refl _ _,by rw [qA6 n0.symm] at hl0;exact hl0,e1 _ _ (by simp) qA1,.cons (.tuple (SqT.of ?_) (.cons .int (.cons .int .nil))) .nil⟩
   rw [qAz hp0 (by simp)]
   exact e1 _ _ (by simp) (by rw [qA6 n0,qA1])
  ·rintro i σ' H' hi ⟨fl,fs,o2,o3,rfl,e',hfl0,hfl,hden⟩
   exact e'.toSame.seq (yo_same.seq hSe)
  ·rintro i x σ' H' pt hx ⟨fl,fs,o2,o3,rfl,e',hfl0,hfl,hden⟩ hpt
   obtain⟨dd,hdd,hDx⟩:=hDu.get hx
   obtain⟨b,hb,rfl⟩ : ∃b,wk[i]? = some b/\dd=intsD b.ns:=by
    rw [List.getElem?_map] at hdd
    cases z:wk[i]? with
    | none=>rw [z] at hdd;cases hdd
    | some n=>rw [z] at hdd;exact⟨n,rfl,(Option.some.inj hdd).symm⟩
   have hi:i<wk.length:=(List.getElem?_eq_some_iff.mp hb).1
   have hok:=(hOk.blk b (List.mem_of_getElem? hb)).ns
   obtain⟨c,zs,rfl,hc,hcs⟩:=hDx.ofList
   have hzs:=hcs.ints
   subst hzs
   have e2:Ext [] H1 (upd H' pt (.tup [.int i,.ref c])):=e'.trans (.laid hpt)
   have EH:Ext [] H (upd H' pt (.tup [.int i,.ref c])):=E0.trans (e1.trans e2)
   have den2:=hden.mono (Ext.young (H0:=H) (Ext.laid (ts :=[]) (o :=.tup [.int i,.ref c]) hpt))
   have hfl2:=Ext.laid (ts :=[]) (o :=.tup [.int i,.ref c]) hpt _ _ (by simp) hfl
   generalize hH2:upd H' pt (.tup [.int i,.ref c])=H2 at *
   have hptT:SqT K H2 pt [.int i,.ref c]:=SqT.of (by rw [<-hH2,qA1])
   have hc2:SqL K H2 c (b.ns.map V.int):=e2.toSame.seq (yo_same.seq hc)
   refine qD3 hptT rfl ?_
   walk_at "rf"
   refine⟨c,b.ns,rfl,hc2,by have:=hok.few;omega,fun ls ns' hls hpm hsd => ?_⟩
   have hsr:=qTl hok hpm hsd
   subst hsr
   refine⟨ls,rfl,⟨_,SqL.of qA1⟩,fun lc hlc => ?_⟩
   have nsc:ls≠lc:=qA5 qA1 hlc
   generalize hH3:upd H2 ls (.lst ((srt b.ns).map V.int))=H3 at *
   have e3:Ext [] H2 H3:=by rw [<-hH3];exact .laid hls
   have h3s:H3 ls=some (.lst ((srt b.ns).map V.int)):=by rw [<-hH3,qA1]
   have hsl:(srt b.ns).length<=2:=by rw [qLw];exact hok.few
   have hlcH:H lc=none:=(EH.trans e3).none (by simp) hlc
   refine qBx (xs:=(srt b.ns).map V.int) (fun j σ' H' => ∃(o0:Option V) (ws:List V),σ' = [o0,some (.int i)]/\Ext [lc] H3 H'/\H' lc=some (.lst ws)/\DenL K (yo H [lc] H') (((srt b.ns).take j).map fun x=>pairD ((i:Int),x)) ws) ?_ ?_ ?_ ?_
   ·exact⟨none,[],rfl,.laid hlc,qA1,.nil⟩
   ·rintro j σ' H' hj ⟨o0,ws,rfl,e4,hws,hden4⟩
    exact SqL.of (e4 _ _ (by simpa using nsc) h3s)
   ·rintro j x σ' H' R hx ⟨o0,ws,rfl,e4,hws,hden4⟩ hR
    obtain⟨y,hy,rfl⟩ : ∃y,(srt b.ns)[j]? = some y/\x=V.int y:=by
     rw [List.getElem?_map] at hx
     cases z:(srt b.ns)[j]? with
     | none=>rw [z] at hx;cases hx
     | some n=>rw [z] at hx;exact⟨n,rfl,(Option.some.inj hx).symm⟩
    have hj:j<(srt b.ns).length:=(List.getElem?_eq_some_iff.mp hy).1
    walk_at "rf"
    refine iteT ?_
    walk_at "rf"
    refine⟨len2 (by show 2<=1000;decide),fun p hp => ?_⟩
    have npl:p≠lc:=(qA5 hws hp).symm
    have hwl:ws.length=j:=by rw [hden4.len,List.length_map,List.length_take];omega
    refine⟨ws,by rw [qA6 npl.symm];exact hws,qAn (by omega),hR _ _ ⟨_,ws ++ [.ref p],rfl,?_,qA1,?_⟩⟩
    ·exact e4.trans ((Ext.laid hp).trans (.put (by simp)))
    ·have ht:(srt b.ns).take (j+1)=(srt b.ns).take j ++ [y]:=by rw [List.take_add_one,hy];rfl
     rw [ht,List.map_append]
     refine DenL.append (hden4.mono ((Ext.laid hp).trans (.put (by simp))).young) (.cons (.tuple (SqT.of ?_) (.cons .int (.cons .int .nil))) .nil)
     rw [qAz (((EH.trans e3).mono (us :=[lc]) (by simp)).trans e4 |>.none (by simpa using npl) hp) (by simpa using npl),qA6 npl,qA1]
   ·rintro σ' H4 ⟨o0,ws,rfl,e4,hws,hden4⟩
    rw [List.length_map,List.take_length] at hden4
    have e24:Ext [] H2 H4:=(e3.trans (e4.drop hlc))
    have hfl4:=e24 _ _ (by simp) hfl2
    have hfsl:fs.length<=1+2*i:=by rw [den2.len,List.length_map];exact qBr hns i
    have hwsl:ws.length<=2:=by rw [hden4.len,List.length_map];exact hsl
    refine⟨fl,lc,fs,ws,rfl,rfl,hfl4,hws,len2 (by omega),fun f1 hf1 => ?_⟩
    have e5:Ext [] H2 (upd H4 f1 (.lst (fs++ws))):=e24.trans (.laid hf1)
    have den5:DenL K (yo H [] (upd H4 f1 (.lst (fs++ws)))) ((qAi wk i).map pairD++(srt b.ns).map (fun x=>pairD ((i:Int),x))) (fs++ws) :=
     DenL.append (den2.mono e5.young) ((hden4.mono (qGt (by simp))).mono (Ext.laid hf1).young)
    have h5:upd H4 f1 (.lst (fs++ws)) f1=some (.lst (fs++ws)):=qA1
    generalize upd H4 f1 (.lst (fs++ws))=H5 at *
    walk_at "rf"
    refine⟨a,vs,rfl,.inl ((EH.trans e5).toSame.seq hSq),?_⟩
    rw [hvl]
    walk_at "rf"
    refine⟨len2 (by show 2<=1000;decide),fun pm hpm => ?_⟩
    walk_at "rf"
    refine⟨len2 (by show 1<=1000;decide),fun lm hlm => ?_⟩
    have e6:Ext [] H5 (upd (upd H5 pm (.tup [.int i,.int wk.length])) lm (.lst [.ref pm])):=(Ext.laid hpm).trans (.laid hlm)
    have npm:pm≠lm:=qA5 qA1 hlm
    have h6:upd (upd H5 pm (.tup [.int i,.int wk.length])) lm (.lst [.ref pm]) lm=some (.lst [.ref pm]):=qA1
    have hpm6:SqT K (yo H [] (upd (upd H5 pm (.tup [.int i,.int wk.length])) lm (.lst [.ref pm]))) pm [.int i,.int wk.length]:=SqT.of (by
     rw [qAz ((EH.trans e5).none (by simp) hpm) (by simp),qA6 npm,qA1])
    generalize upd (upd H5 pm (.tup [.int i,.int wk.length])) lm (.lst [.ref pm])=H6 at *
    walk_at "rf"
    refine⟨len2 (Nat.zero_le _),fun e0 he0 => ?_⟩
    have e7:Ext [] H6 (upd H6 e0 (.lst [])) :=.laid he0
    refine⟨intsD b.ns,.list [],.list ((e5.trans (e6.trans e7)).toSame.seq hc2) (DenL.ofInts b.ns),.list (SqL.of qA1) .nil,qM6 hok,rfl,?_⟩
    rw [qIi]
    have h7:=e7 _ _ (by simp) h6
    have hpm7:=e7.young.seqT hpm6
    have f7:=(e6.trans e7) _ _ (by simp) h5
    have den7:=den5.mono (e6.trans e7).young
    have e57:=e6.trans e7
    generalize upd H6 e0 (.lst [])=H7 at *
    walk_at "rf"
    refine .inr ⟨_,rfl,?_⟩
    have hwt:(qAi wk (i+1)).map pairD=(qAi wk i).map pairD++(srt b.ns).map (fun x=>pairD ((i:Int),x))++(if b.ns = [] then [pairD ((i:Int),(wk.length:Int))] else []):=by
     show (qAi wk i++outs wk.length i ((wk[i]?.map Blk.ns).getD [])).map pairD=_
     rw [hb]
     show (qAi wk i++outs wk.length i b.ns).map pairD=_
     unfold outs
     rw [List.map_append,List.map_append,List.map_map,List.append_assoc]
     congr 2
     split <;> rfl
    have key : ∀(rs:List V),DenL K (yo H [] H7) (if b.ns = [] then [pairD ((i:Int),(wk.length:Int))] else []) rs->rs.length<=1 -> ∀lr,H7 lr=none -> ∀f2,upd H7 lr (.lst rs) f2=none ->
      DenL K (yo H [] (upd (upd H7 lr (.lst rs)) f2 (.lst (fs++ws++rs)))) ((qAi wk (i+1)).map pairD) (fs++ws++rs):=by
     intro rs hrs hrl lr hlr f2 hf2
     rw [hwt]
     exact DenL.append (den7.mono ((Ext.laid hlr).trans (.laid hf2)).young) (hrs.mono ((Ext.laid hlr).trans (.laid hf2)).young)
    have fin : ∀(k:Int) (rs:List V),(k=0\/k=1)->(List.replicate k.toNat [V.ref pm]).flatten=rs->DenL K (yo H [] H7) (if b.ns = [] then [pairD ((i:Int),(wk.length:Int))] else []) rs -> ∀Q:VK,(∀f2 H8,Ext [] H2 H8->H f2=none->H8 f2=some (.lst (fs++ws++rs))->DenL K (yo H [] H8) ((qAi wk (i+1)).map pairD) (fs++ws++rs)->Q (.ref f2) H8) ->
      rRep (.ref lm) (.int k) H7 (fun y H2=>rCat (.ref f1) y H2 Q):=by
     intro k rs hk hrs hden Q hQ
     have hrl:rs.length<=1:=by rw [<-hrs];rcases hk with h | h <;> subst h <;> first | exact Nat.zero_le _ | exact Nat.le_refl _
     refine⟨lm,k,[.ref pm],rfl,rfl,h7,by omega,by omega,len2 (by rcases hk with h | h <;> subst h <;> first | (show 1*0<=1000;decide) | (show 1*1<=1000;decide)),fun lr hlr => ?_⟩
     rw [hrs]
     refine⟨f1,lr,fs++ws,rs,rfl,rfl,Ext.laid (ts :=[]) hlr _ _ (by simp) f7,qA1,len2 (by rw [List.length_append];omega),fun f2 hf2 => ?_⟩
     refine hQ f2 _ (e5.trans (e57.trans ((Ext.laid hlr).trans (.laid hf2)))) ?_ qA1 (key rs hden hrl lr hlr f2 hf2)
     exact (EH.trans (e5.trans (e57.trans (.laid hlr)))).none (by simp) hf2
    by_cases hb0:b.ns = []
    ·rw [decide_eq_true hb0]
     rw [if_pos hb0] at fin
     refine fin 1 [.ref pm] (.inr rfl) rfl (.cons (.tuple hpm7 (.cons .int (.cons .int .nil))) .nil) _ fun f2 H8 e8 h0 h8 d8 => ?_
     exact⟨f2,_,_,_,rfl,e2.trans e8,h0,h8,d8⟩
    ·rw [decide_eq_false hb0]
     rw [if_neg hb0] at fin
     refine fin 0 [] (.inl rfl) rfl .nil _ fun f2 H8 e8 h0 h8 d8 => ?_
     exact⟨f2,_,_,_,rfl,e2.trans e8,h0,h8,d8⟩
  ·rintro σ' H' ⟨fl,fs,o2,o3,rfl,e',hfl0,hfl,hden⟩
   rw [hul] at hden
   walk_at "rf"
   refine q fl H' hfl0 (E0.trans (e1.trans e')) (.list (SqL.of ?_) hden)
   rw [qAz hfl0 (by simp)];exact hfl
end
section
variable {P:Program} {w:World} {K:PySem.W.Frag} {mg:Str->Option Value} {base:Heap}
theorem qPy {m:Int} {ns:List Int} (h:NsOk m ns) : ∃wd:Str,endD ns = .tuple (.str wd::ns.map .int)/\(wd = "out" ↔ ns = []):=by
 rcases h with z | ⟨x,z,_⟩ | ⟨x,y,z,_⟩ <;> subst z
 ·exact⟨_,rfl,by simp⟩
 ·exact⟨"go",rfl,by simp;decide⟩
 ·exact⟨"fork",rfl,by simp;decide⟩
abbrev qEe:Stmt:=top 6
theorem scWaysOf:FnScope ["work","ways","at","deeds","end"] ["work"] (qA8 qEe):=⟨rfl,rfl,rfl,by decide +kernel,rfl,by decide +kernel,by decide +kernel⟩
theorem qMv {f:Addr} {fd:FuncData} (F:Fun K "ways_of" "ways_of" qEe f fd) (nenum:mg "enumerate" = none) (nlen:mg "len" = none) (nsort:mg "sorted" = none) :
  FnOk P w K mg base CX0 1 f fd ["work"] (qGx K):=by
 refine F.ok scWaysOf (fun vs H Q E h => ?_) (fun cdv A outer s H vs Q E hr h => ?_)
 ·obtain⟨a,w,m,works,rfl,_⟩:=h
  rfl
 ·obtain⟨a,wk,m,works,rfl,hW,hOk,hm,q⟩:=h
  refine⟨_,qA3 (qAe (i:=1) scWaysOf.nd rfl (Or.inl rfl) (qAr (qA0 (qB7 (qA0 (qEu qCx qA2) (qA0 qA2 qA4))) qA4)))
   (qA3 (qD5 PassesOwn.never rfl (qH6 rfl nenum (qA0 (pv 0) qA4)) (qGk (n:=2) rfl (qAs (qAg (i:=2) scWaysOf.nd rfl (Or.inr rfl)) (qAs (qGk (n:=2) rfl (qAs (qAg (i:=3) scWaysOf.nd rfl (Or.inl rfl)) (qAs (qAg (i:=4) scWaysOf.nd rfl (Or.inl rfl)) qC6))) qC6)))
    (qA7 (qBa (qA9 qBc (qAb qAm (pv 4) qA2 (fun _ _=>rfl)) qAc (qAd _))
     (qA7 (qBe (qDs PySem.F.plainAttrs_list PySem.F.slot_list_append PySem.F.type_list_append qBh (pv 1) (qA0 (qB7 (qA0 (pv 2) (qA0 (qAl qAf (by rfl) nlen PySem.boot_len (qA0 (pv 0) qA4)) qA4))) qA4))))
     (qA7 (qBe (qDs PySem.F.plainAttrs_list PySem.F.slot_list_extend PySem.F.type_list_extend qFn (pv 1) (qA0
      (qEv ["to"] [2] rfl (.of rfl) (qUm (qK9 qQh (pv 4) (qMn qA2) qMo)) (fun _ _ _ _=>qAg (i:=0) (by show ((["to","at"]:List Str)).Nodup;decide) rfl (Or.inl rfl)) (fun _ _ _ _ =>.nil) (fun _ _ _ _=>qB7 (qA0 (pv 1) (qA0 (pv 0) qA4)))) qA4)))))))
   (qA7 (qAk (qAl qLi (by rfl) nsort PyProof.Rows.boot_sorted (qA0 (pv 1) qA4))))),?_⟩
  dsimp only [qBp,qB9]
  obtain⟨a',vs,ea,hSq,hDL⟩:=hW.ofList
  cases ea
  have hvl:vs.length=wk.length:=by rw [hDL.len,List.length_map]
  have hwm:=hOk.len
  walk_at "rf"
  refine⟨len2 (by show 2<=1000;decide),fun p0 hp0 => ?_⟩
  walk_at "rf"
  refine⟨len2 (by show 1<=1000;decide),fun l0 hl0 => ?_⟩
  have E0:=(Ext.laid (ts :=[]) (o :=.tup [V.int (-1),.int 0]) hp0).trans (.laid (o :=.lst [V.ref p0]) hl0)
  have n0:p0≠l0:=qA5 qA1 hl0
  have hl00:H l0=none:=by rw [qA6 n0.symm] at hl0;exact hl0
  have d0:DenL K (yo H [l0] (upd (upd H p0 (.tup [V.int (-1),.int 0])) l0 (.lst [V.ref p0]))) ((rawTo wk 0).map pairD) [V.ref p0]:=by
   refine .cons (.tuple (SqT.of ?_) (.cons .int (.cons .int .nil))) .nil
   rw [qAz hp0 (by simpa using n0),qA6 n0,qA1]
  have l1:upd (upd H p0 (.tup [V.int (-1),.int 0])) l0 (.lst [V.ref p0]) l0=some (.lst [V.ref p0]):=qA1
  generalize upd (upd H p0 (.tup [V.int (-1),.int 0])) l0 (.lst [V.ref p0])=H1 at E0 d0 l1 ⊢
  walk_at "rf"
  refine⟨a,rfl,⟨vs,E0.toSame.seq hSq⟩,qKm (xs:=vs) (fun i σ' H' => ∃(us:List V) (o2 o3 o4:Option V),σ' = [some (.ref a),some (.ref l0),o2,o3,o4]/\Ext [l0] H1 H'/\H' l0=some (.lst us)/\DenL K (yo H [l0] H') ((rawTo wk i).map pairD) us) ?_ ?_ ?_ ?_⟩
  ·exact⟨_,_,_,_,rfl,.refl _ _,l1,d0⟩
  ·rintro i σ' H' hi ⟨us,o2,o3,o4,rfl,e',hl',hden⟩
   exact (((E0.mono (us :=[l0]) (by simp)).trans e').drop hl00).toSame.seq hSq
  ·rintro i x σ' H' pt hx ⟨us,o2,o3,o4,rfl,e',hl',hden⟩ hpt
   have EH:Ext [] H H':=((E0.mono (us :=[l0]) (by simp)).trans e').drop hl00
   obtain⟨dd,hdd,hDx⟩:=hDL.get hx
   obtain⟨b,hb,rfl⟩:=qJh hdd
   have hi:i<wk.length:=(List.getElem?_eq_some_iff.mp hb).1
   have hok:=(hOk.blk b (List.mem_of_getElem? hb)).ns
   obtain⟨c,cs,rfl,hc,hcs⟩:=hDx.ofTuple
   obtain⟨vd,r1,rfl,hd1,hr1⟩:=hcs.ofCons
   obtain⟨ve,r2,rfl,hd2,hr2⟩:=hr1.ofCons
   have hr2:=hr2.ofNil
   subst hr2
   obtain⟨wd,hwd,hout⟩:=qPy hok
   rw [hwd] at hd2
   obtain⟨en,es',rfl,hen,hes⟩:=hd2.ofTuple
   obtain⟨v3,r3,rfl,hd3,hr3⟩:=hes.ofCons
   have e3:=hd3.ofStr
   subst e3
   have e4:=hr3.ints
   subst e4
   have hul:=hden.len
   rw [List.length_map] at hul
   have hrl:=qHw hOk i
   have e2:Ext [] H' (upd H' pt (.tup [.int i,.ref c])) :=.laid hpt
   have hl2:=e2 _ _ (by simp) hl'
   have den2:=hden.mono (e2.mono (us :=[l0]) (by simp)).young
   have EH2:Ext [] H (upd H' pt (.tup [.int i,.ref c])):=EH.trans e2
   have hptT:SqT K (upd H' pt (.tup [.int i,.ref c])) pt [.int i,.ref c]:=SqT.of qA1
   generalize upd H' pt (.tup [.int i,.ref c])=H2 at e2 hl2 den2 EH2 hptT ⊢
   have eL : ∀ {G:Hp},Ext [l0] H2 G->Ext [l0] H1 G:=fun {G} z=>e'.trans ((e2.mono (by simp)).trans z)
   refine qD3 hptT rfl ?_
   walk_at "rf"
   refine qD3 (EH2.toSame.seqT hc) rfl ?_
   walk_at "rf"
   refine qCi (EH2.toSame.seqT hen) (show atI (V.str wd::b.ns.map V.int) ((0:Nat):Int)=some (V.str wd) from qBf rfl) ?_
   walk_at "rf"
   refine qB5 ?_
   walk_at "rf"
   have hraw:rawTo wk (i+1)=rawTo wk i++qEp wk.length i b.ns:=by
    show rawTo wk i++qEp wk.length i ((wk[i]?.map Blk.ns).getD [])=_
    rw [hb];rfl
   by_cases hns:b.ns = []
   ·rw [decide_eq_true (hout.mpr hns)]
    refine iteT ?_
    walk_at "rf"
    refine qCz hl2 ?_
    walk_at "rf"
    refine⟨a,vs,rfl,.inl (EH2.toSame.seq hSq),?_⟩
    rw [hvl]
    walk_at "rf"
    refine⟨len2 (by show 2<=1000;decide),fun p hp => ?_⟩
    have npl:p≠l0:=(qA5 hl2 hp).symm
    walk_at "rf"
    refine qDl (by rw [qA6 npl.symm];exact hl2) (qAn (by omega)) ?_
    have eF:Ext [l0] H2 (upd (upd H2 p (.tup [.int i,.int wk.length])) l0 (.lst (us ++ [V.ref p]))):=(Ext.laid hp).trans (.put (by simp))
    refine⟨us ++ [V.ref p],_,_,_,rfl,eL eF,qA1,?_⟩
    rw [hraw,List.map_append]
    unfold qEp
    rw [if_pos hns]
    refine DenL.append (den2.mono eF.young) (.cons (.tuple (SqT.of ?_) (.cons .int (.cons .int .nil))) .nil)
    rw [qAz (EH2.none (by simp) hp) (by simpa using npl),qA6 npl,qA1]
   ·rw [decide_eq_false (fun z=>hns (hout.mp z))]
    refine iteF ?_
    walk_at "rf"
    refine qCz hl2 ?_
    walk_at "rf"
    refine⟨1,rfl,?_⟩
    walk_at "rf"
    refine⟨en,_,rfl,EH2.toSame.seqT hen,?_,fun p hp => ?_⟩
    ·intro h
     have:=h.1
     revert this
     have hn:(V.str wd::b.ns.map V.int).length=b.ns.length+1:=by simp
     rw [hn]
     unfold HT.sIx
     simp
     try omega
    rw [cut1]
    have npl:p≠l0:=(qA5 hl2 hp).symm
    have e3:Ext [] H2 (upd H2 p (.tup (b.ns.map V.int))) :=.laid hp
    have hl3:=e3 _ _ (by simp) hl2
    have den3:=den2.mono (e3.mono (us :=[l0]) (by simp)).young
    have EH3:=EH2.trans e3
    have hp3:upd H2 p (.tup (b.ns.map V.int)) p=some (.tup (b.ns.map V.int)):=qA1
    generalize upd H2 p (.tup (b.ns.map V.int))=H3 at e3 hl3 den3 EH3 hp3 ⊢
    refine⟨p,rfl,⟨_,SqT.of hp3⟩,fun lc hlc => ?_⟩
    have nlc:lc≠l0:=(qA5 hl3 hlc).symm
    have npc:p≠lc:=qA5 hp3 hlc
    have hlcH:H lc=none:=EH3.none (by simp) hlc
    have hnf:=hok.few
    refine qPo (xs:=b.ns.map V.int) (fun j σ' G => ∃(o0:Option V) (ws:List V),σ' = [o0,some (.int i)]/\Ext [lc] H3 G/\G lc=some (.lst ws)/\DenL K (yo H [lc,l0] G) ((b.ns.take j).map fun x=>pairD ((i:Int),x)) ws) ?_ ?_ ?_ ?_
    ·exact⟨none,[],rfl,.laid hlc,qA1,.nil⟩
    ·rintro j σ' G hj ⟨o0,ws,rfl,eG,hws,hdG⟩
     exact SqT.of (eG _ _ (by simpa using npc) hp3)
    ·rintro j x σ' G R hx ⟨o0,ws,rfl,eG,hws,hdG⟩ hR
     obtain⟨y,hy,rfl⟩:=qJh hx
     have hj:j<b.ns.length:=(List.getElem?_eq_some_iff.mp hy).1
     walk_at "rf"
     refine iteT ?_
     walk_at "rf"
     refine⟨len2 (by show 2<=1000;decide),fun p2 hp2 => ?_⟩
     have np2:p2≠lc:=(qA5 hws hp2).symm
     have lG:G l0=some (.lst us):=eG _ _ (by simpa using nlc.symm) hl3
     have np20:p2≠l0:=(qA5 lG hp2).symm
     have hwl:ws.length=j:=by rw [hdG.len,List.length_map,List.length_take];omega
     refine⟨ws,by rw [qA6 np2.symm];exact hws,qAn (by omega),hR _ _ ⟨_,ws ++ [.ref p2],rfl,eG.trans ((Ext.laid hp2).trans (.put (by simp))),qA1,?_⟩⟩
     rw [qO5 hy,List.map_append]
     refine DenL.append (hdG.mono (((Ext.laid hp2).trans (.put (by simp)):Ext [lc,l0] G _)).young) (.cons (.tuple (SqT.of ?_) (.cons .int (.cons .int .nil))) .nil)
     rw [qAz (((EH3.mono (us :=[lc]) (by simp)).trans eG).none (by simpa using np2) hp2) (by simp [np2,np20]),qA6 np2,qA1]
    ·rintro σ' G ⟨o0,ws,rfl,eG,hws,hdG⟩
     rw [List.length_map,List.take_length] at hdG
     have lG:G l0=some (.lst us):=eG _ _ (by simpa using nlc.symm) hl3
     have hwl:ws.length=b.ns.length:=by rw [hdG.len,List.length_map]
     walk_at "rf"
     refine⟨l0,lc,us,ws,rfl,rfl,lG,hws,len2 (by omega),?_⟩
     have e3G:Ext [l0] H3 G:=(eG.drop hlc).mono (by simp)
     have eF:Ext [l0] H2 (upd G l0 (.lst (us++ws))):=(e3.mono (by simp)).trans (e3G.trans (.put (by simp)))
     refine⟨us++ws,_,_,_,rfl,eL eF,qA1,?_⟩
     rw [hraw,List.map_append]
     unfold qEp
     rw [if_neg hns,List.map_map]
     refine DenL.append (den2.mono eF.young) (hdG.mono fun c oc hc => ?_)
     obtain⟨z1,z2,z3⟩:=qCo hc
     have nc:c≠l0:=fun z=>z2 (by simp [z])
     rw [qAz z1 (by simpa using nc),qA6 nc]
     exact z3
  ·rintro σ' H' ⟨us,o2,o3,o4,rfl,e',hl',hden⟩
   have EH:Ext [] H H':=((E0.mono (us :=[l0]) (by simp)).trans e').drop hl00
   rw [hvl] at hden
   have hrl:=qHw hOk wk.length
   walk_at "rf"
   refine⟨l0,us,(rawTo wk wk.length).map tOf,rfl,SqL.of hl',qLp yo_same hden,fun t ht => ?_,by rw [List.length_map];omega,fun l res hl hperm hsort => ?_⟩
   ·obtain⟨p,_,rfl⟩:=List.mem_map.mp ht
    exact fun z=>nomatch z
   ·have hnl:l≠l0:=(qA5 hl' hl).symm
    have hlH:H l=none:=EH.none (by simp) hl
    have den3:DenL K (yo H [l] (upd H' l (.lst (res.map (·.1))))) ((rawTo wk wk.length).map pairD) us:=by
     refine (hden.mono ?_).mono (Ext.young (H0:=H) (Ext.put (ts :=[l]) (t:=l) (o :=.lst (res.map (·.1))) (by simp)))
     intro b ob hb
     obtain⟨z1,z2,z3⟩:=qCo hb
     rw [qAz z1 (by simpa using qA5 z3 hl)];exact z3
    obtain⟨ps',h1,h2,h3⟩:=qHr den3 (qJ5 hOk) hperm hsort
    have he:ps'=qAi wk wk.length:=qHu h2 (qDo hOk) fun p=>by rw [h3,(qDd hOk _).mem_iff]
    rw [he] at h1
    exact q l _ _ hlH (EH.trans (.laid hl)) qA1 h1
end
section
variable {P:Program} {w:World} {K:PySem.W.Frag} {mg:Str->Option Value} {base:Heap}
abbrev sCall:Stmt:=qC9 (top 3) 2
theorem scCall:FnScope ["self","number","boxes","stop"] ["self","number","boxes"] (qA8 sCall):=⟨rfl,rfl,rfl,by decide +kernel,rfl,by decide +kernel,by decide +kernel⟩
theorem qMx {f C CC:Addr} {fd:FuncData} {N j:Nat} {tb:Tok} {spW:Sp} (F:Fun K "call" "Running.call" sCall f fd) (T:RTx K C CC) (nlist:mg "list" = none) (hDp:mg "DEEPEST" = some (.int 20 tb)) (hI:HasC P w K mg base "Call" CC 1 ["self","number","boxes"] (qFa CC)) (hW:HasM P w K mg base C "walk" j ["self","here"] spW) (hj:j<=4*N+3) (hsp : ∀n,N=n+1->spW=qJv P w K C CC n) :
  FnOk P w K mg base CX0 (4*N+4) f fd ["self","number","boxes"] (qF9 P w K C CC N):=by
 refine F.ok scCall (fun vs H Q E h => ?_) (fun cdv A outer s H vs Q E hr h => ?_)
 ·refine hide fun G_ hG_ => ?_
  obtain⟨r,g,G0,m,c,bb,bl,rfl,_⟩:=h
  refine hG_ ?_
  rfl
 ·refine hide fun G_ hG_ => ?_
  obtain⟨r,g,G0,m,c,bb,bl,rfl,rfl,rfl,gv,ra,R,hm20,hbb,hl8,hsh,hc0,hN,q1,q2⟩:=h
  refine hG_ ?_
  refine⟨_,(qA3 (qBa (qA9 qBc (qB0 (pv 0) rfl) (qS9 (v :=.int 20) rfl hDp ⟨_,rfl⟩) (qAd _)) (qA7 (qAk qAc)) qAu)
   (qA3 (qCl (pv 0) qA2 qIe)
   (qA3 (qAe (i:=3) scCall.nd rfl (Or.inl rfl) (qH7 hW T.cl hr (by omega) (pv 0) (qA0 (qUo hI hr (by omega) (qA0 (pv 1) (qA0 (qBn (qC5 K rfl (qB0 (pv 0) rfl) (fun _=>rfl)) (pv 2) (qAv qBi (by rfl) nlist PyProof.Rows.boot_list (qA0 (pv 2) qA4))) qA4))) qA4)))
   (qA3 (qCl (pv 0) qA2 qVd)
   (qA7 (qAk (pv 3))))))),?_⟩
  dsimp only [qBp,qB9]
  walk_at "rd"
  refine⟨_,_,_,_,_,rfl,R.ob,T.cl,T.depth,qH1 _ _ _ _ _ _ _ _ _,?_⟩
  walk_at "rd"
  refine qC1 ?_
  walk_at "rd"
  by_cases h20:m.st.length=20
  ·rw [decide_eq_true (by omega)]
   refine iteT ?_
   walk_at "rd"
   exact q1 h20
  refine hide fun G_ hG_ => ?_
  obtain⟨n,rfl⟩ : ∃n,N=n+1:=⟨N - 1,by omega⟩
  have:=hsp n rfl
  subst this
  obtain⟨mok,q2,q3⟩:=q2 (by omega)
  refine hG_ ?_
  rw [decide_eq_false (by omega)]
  refine iteF ?_
  have Rob:H r.self=some (selfO r g.most (!g.mean) "ended" m.steps m.taken m.st.length m.sv m.bk):=R.ob
  have R1:RunAt P w g r G0 (upd H r.self (selfO r g.most (!g.mean) "ended" m.steps m.taken ((m.st.length:Int)+1) m.sv m.bk)) (qB3 m c bl) m.steps m.taken ((m.st.length:Int)+1):=R.setSelf ra m.steps m.taken ((m.st.length:Int)+1) m.sv m.bk
  have e1:Ext [r.self] H (upd H r.self (selfO r g.most (!g.mean) "ended" m.steps m.taken ((m.st.length:Int)+1) m.sv m.bk)) :=.put (by simp)
  have nbs:bb≠r.self:=fun z=>by rw [z,R.ob] at hbb;cases hbb
  have hbb1:(upd H r.self (selfO r g.most (!g.mean) "ended" m.steps m.taken ((m.st.length:Int)+1) m.sv m.bk)) bb=some (.lst (bl.map V.int)):=by rw [qA6 nbs];exact hbb
  walk_at "rd"
  refine⟨_,_,_,_,_,rfl,Rob,T.cl,T.depth,qH1 _ _ _ _ _ _ _ _ _,?_⟩
  walk_at "rd"
  refine⟨_,_,rfl,rfl,_,_,Rob,qFd _ _ _ _ _ _ _ _ _,?_⟩
  rw [qJw]
  generalize upd H r.self (selfO r g.most (!g.mean) "ended" m.steps m.taken ((m.st.length:Int)+1) m.sv m.bk)=H1 at R1 e1 hbb1 ⊢
  have E1:Ext (mutR g r) H H1:=e1.mono fun z hz=>by rw [List.mem_singleton.mp hz];exact qCd
  walk_at "rd"
  refine⟨r.self,r.dx,_,rfl,R1.ob,by rfl,?_⟩
  walk_at "rd"
  refine⟨_,_,_,_,_,rfl,R1.ob,T.cl,T.sharing,qKx _ _ _ _ _ _ _ _ _,?_⟩
  refine⟨!g.mean,rfl,?_⟩
  have dec : ∀(m':Ms) (H':Hp) (s' t' d':Int) (v:V),RunAt P w g r G0 H' m' s' t' d'->(RunAt P w g r G0 (upd H' r.self (selfO r g.most (!g.mean) "ended" s' t' (d' - 1) m'.sv m'.bk)) m' s' t' (d' - 1)->Q v (upd H' r.self (selfO r g.most (!g.mean) "ended" s' t' (d' - 1) m'.sv m'.bk)))->tSeq (qJ3 K (tVar 0) (tC (V.int 1)) rSub "depth") (tRet (tVar 3)) { nx:=fun x H'=>Q .non H',rt:=Q } [some (.ref r.self),some (.int c),some (.ref bb),some v] H':=by
   intro m' H' s' t' d' v RR k
   walk_at "rd"
   refine⟨_,_,_,_,_,rfl,RR.ob,T.cl,T.depth,qH1 _ _ _ _ _ _ _ _ _,?_⟩
   walk_at "rd"
   refine⟨_,_,rfl,rfl,_,_,RR.ob,qFd _ _ _ _ _ _ _ _ _,?_⟩
   rw [qJw]
   walk_at "rd"
   exact k (RR.setSelf ra s' t' (d' - 1) m'.sv m'.bk)
  cases hmean:g.mean with
  | false =>
   obtain⟨hba,hbl⟩:=hsh hmean
   refine iteT ?_
   walk_at "rd"
   refine qIo (fun x H3 h=>⟨rfl,L2.qL0 h⟩) gv ra mok R1 (.refl _ _) hbb1 hl8 (fun _=>⟨hba,hbl⟩) (fun z=>by rw [hmean] at z;cases z) hN hc0 (fun m' H' hgo hst RR ee => ?_) (fun m' cc mid H' s' t' d' hgo hstp hcc RR => ?_)
   ·refine dec m' H' _ _ _ .non RR fun RS => ?_
    rw [Int.add_sub_cancel] at RS ⊢
    exact q2 m' _ hgo hst RS ((E1.trans ee).trans (.put qCd))
   ·exact dec m' H' s' t' d' _ RR fun RS=>q3 m' cc mid _ _ _ _ hgo hstp hcc RS
  | true =>
   refine iteF ?_
   walk_at "rd"
   refine⟨bb,_,rfl,.inl (SqL.of hbb1),fun hb hbn => ?_⟩
   walk_at "rd"
   refine qIo (fun x H3 h=>⟨rfl,L2.qL0 h⟩) gv ra mok R1 (.laid hbn) qA1 hl8 (fun z=>by rw [hmean] at z;cases z) (fun _=>hbn) hN hc0 (fun m' H' hgo hst RR ee => ?_) (fun m' cc mid H' s' t' d' hgo hstp hcc RR => ?_)
   ·refine dec m' H' _ _ _ .non RR fun RS => ?_
    rw [Int.add_sub_cancel] at RS ⊢
    exact q2 m' _ hgo hst RS ((E1.trans ee).trans (.put qCd))
   ·exact dec m' H' s' t' d' _ RR fun RS=>q3 m' cc mid _ _ _ _ hgo hstp hcc RS
end
end Fs
local macro_rules | `(tactic| walk_at "rg") => `(tactic| repeat (with_reducible first | (refine L2.qQk ?_; intro NN_ hNN_) | walk_at "q1" | refine L2.qBq (by assumption) ?_ | (refine L2.qU7 ?_; intro NA_ NB_ hNA_ hNB_) | walk_at "q2"))
namespace Fs
open PySem L2
section
variable {P:Program} {w:World} {K:PySem.W.Frag} {mg:Str->Option Value} {base:Heap}
abbrev sTape:Stmt:=top 10
abbrev qEf:Stmt:=top 13
abbrev sMany:Stmt:=top 16
theorem scTape:FnScope ["_law_script","_law_k","_law_cell"] ["_law_script","_law_k"] (qA8 sTape):=⟨rfl,rfl,rfl,by decide +kernel,rfl,by decide +kernel,by decide +kernel⟩
theorem qSg {f:Addr} {fd:FuncData} (F:Fun K "_law_tape" "_law_tape" sTape f fd) (nlen:mg "len" = none) (nabs:mg "abs" = none) (nint:mg "int" = none):FnOk P w K mg base CX0 1 f fd ["_law_script","_law_k"] (qLx K):=by
 refine F.ok scTape (fun vs H Q E h => ?_) (fun cdv A outer s H vs Q E hr h => ?_)
 ·refine hide fun G_ hG_ => ?_
  obtain⟨a,ns,k,rfl,_⟩:=h
  refine hG_ ?_
  rfl
 ·refine hide fun G_ hG_ => ?_
  obtain⟨a,ns,k,rfl,hS,hk,q⟩:=h
  refine hG_ ?_
  refine⟨_,qA3 (qAe (i:=2) scTape.nd rfl (Or.inl rfl) (qBn (qA9 qI2 (pv 1) (qAl qAf (by rfl) nlen PySem.boot_len (qA0 (pv 0) qA4)) (qAd _)) (qAb qAa (pv 0) (pv 1) (fun _ _=>rfl)) qA2))
   (qA7 (qAk (qAr (qA0 (qAp qI1 (qAl qKq (by rfl) nabs PyProof.Rows.boot_abs (qA0 (pv 2) qA4)) (qAv qBz (by rfl) nint PyProof.Rows.boot_int (qA0 (qD8 qUv (qAl qKq (by rfl) nabs PyProof.Rows.boot_abs (qA0 (pv 2) qA4)) (qAp qI0 qA2 qA2) (qAd _)) qA4)))
    (qA0 (qAp qAx (qAp qAx (qAp qE1 (pv 2) qA2) (qAp qI1 qA2 (pv 1))) qA2) (qA0 qA2 qA4)))))),?_⟩
  dsimp only [qBp]
  have key : ∀c:Int,0<=(if c<0 then -c else c):=fun c=>by split <;> omega
  walk_at "rg"
  refine qC4 hS ?_
  walk_at "rg"
  by_cases g:(k:Int)<((ns.map V.int).length:Int)
  ·rw [decide_eq_true g]
   refine iteT ?_
   rw [List.length_map] at g
   have hg:k<ns.length:=by omega
   have hat:atI (ns.map V.int) (k:Int)=some (.int ns[k]):=by
    have:=qBf (xs:=ns.map V.int) (j:=k) (by rw [List.getElem?_map,List.getElem?_eq_getElem hg];rfl)
    exact this
   walk_at "rg"
   refine qAq hS hat ?_
   generalize ns[k]=c
   walk_at "rg"
   refine⟨_,rfl,?_⟩
   walk_at "rg"
   refine⟨_,rfl,?_⟩
   walk_at "rg"
   refine qKz (by decide) (by decide) (by decide) ?_
   walk_at "rg"
   refine .inr ⟨_,rfl,?_⟩
   refine qJ6 (.inr ⟨by have:=bit01 (decide (10^Int.toNat 18<=if c<0 then -c else c));omega,by have:=bit01 (decide (10^Int.toNat 18<=if c<0 then -c else c));omega⟩) ?_
   walk_at "rg"
   refine qFi (by decide) ?_
   walk_at "rg"
   refine qJ6 (.inl ⟨by decide,by decide⟩) ?_
   walk_at "rg"
   refine⟨len2 (by show 3<=1000;decide),fun t ht=>q t _ ht ⟨_,_,_,qA1,?_,?_,?_,by decide,by decide⟩ fun b o e => ?_⟩
   ·exact Int.mul_nonneg (key c) (bit01 _).1
   ·have:=Int.emod_nonneg c (show (2305843009213693951:Int)≠0 by decide)
    omega
   ·have:=Int.emod_lt_of_pos c (show (0:Int)<2305843009213693951 by decide)
    omega
   ·rw [qA6 (qA5 e ht)];exact e
  ·rw [decide_eq_false g]
   refine iteF ?_
   walk_at "rg"
   refine⟨_,rfl,?_⟩
   walk_at "rg"
   refine⟨_,rfl,?_⟩
   walk_at "rg"
   refine qKz (by decide) (by decide) (by decide) ?_
   walk_at "rg"
   refine .inr ⟨_,rfl,?_⟩
   refine qJ6 (.inr ⟨by have:=bit01 (decide (10^Int.toNat 18<=if 0<0 then -0 else 0));omega,by have:=bit01 (decide (10^Int.toNat 18<=if 0<0 then -0 else 0));omega⟩) ?_
   walk_at "rg"
   refine qFi (by decide) ?_
   walk_at "rg"
   refine qJ6 (.inl ⟨by decide,by decide⟩) ?_
   walk_at "rg"
   refine⟨len2 (by show 3<=1000;decide),fun t ht=>q t _ ht ⟨_,_,_,qA1,?_,?_,?_,by decide,by decide⟩ fun b o e => ?_⟩
   ·exact Int.mul_nonneg (key 0) (bit01 _).1
   ·have:(0:Int)%2305843009213693951=0:=rfl
    omega
   ·have:(0:Int)%2305843009213693951=0:=rfl
    omega
   ·rw [qA6 (qA5 e ht)];exact e
theorem qTp:FnScope ["_law_tape_here"] ["_law_tape_here"] (qA8 sMany):=⟨rfl,rfl,rfl,by decide +kernel,rfl,by decide +kernel,by decide +kernel⟩
theorem qSk {f:Addr} {fd:FuncData} (F:Fun K "_law_many" "_law_many" sMany f fd) (nint:mg "int" = none) (hD:Has P w K mg base "_law_draw" 1 ["_law_tape_here","_law_many_here"] qD2):FnOk P w K mg base CX0 2 f fd ["_law_tape_here"] qM0:=by
 refine F.ok qTp (fun vs H Q E h => ?_) (fun cdv A outer s H vs Q E hr h => ?_)
 ·refine hide fun G_ hG_ => ?_
  obtain⟨t,k,rfl,_⟩:=h
  refine hG_ ?_
  rfl
 ·refine hide fun G_ hG_ => ?_
  obtain⟨t,k,rfl,hT,hk,q⟩:=h
  refine hG_ ?_
  refine⟨_,qA7 (qAk (qAb qAa (qAr (qA0 (qAp qAx qA2 (qAy hD hr (Nat.le_refl _) (qA0 (pv 0) (qA0 qA2 qA4)))) (qA0 (qAp qAx qA2 (qAy hD hr (Nat.le_refl _) (qA0 (pv 0) (qA0 qA2 qA4)))) qA4)))
   (qAv qBz (by rfl) nint PyProof.Rows.boot_int (qA0 (qD8 qBc (qAy hD hr (Nat.le_refl _) (qA0 (pv 0) (qA0 qA2 qA4))) qA2 (qAd _)) qA4)) (fun _ _=>rfl))),?_⟩
  dsimp only [qBp]
  walk_at "rg"
  refine qB6 hT (by omega) (by decide) (by decide) fun r1 H1 a1 b1 T1 e1 _ => ?_
  walk_at "rg"
  refine qB6 T1 (by omega) (by decide) (by decide) fun r2 H2 a2 b2 T2 e2 _ => ?_
  walk_at "rg"
  refine⟨len2 (by show 2<=1000;decide),fun p hp => ?_⟩
  have np:p≠t:=T2.ne hp
  walk_at "rg"
  refine qB6 (T2.ext (.laid (ts :=[]) hp) (by simp)) (by omega) (by decide) (by decide) fun r3 H3 a3 b3 T3 e3 k3 => ?_
  walk_at "rg"
  refine qC1 ?_
  walk_at "rg"
  refine .inr ⟨_,rfl,?_⟩
  have e4:Ext [t] H H3:=(e1.trans e2).trans ((Ext.laid hp).trans e3)
  have hL:SqL K H3 p [V.int (1+r1),V.int (7+r2)]:=SqL.of (by rw [k3 p np,qA1])
  cases c:decide (r3=0) with
  | true=>exact qAq hL rfl (q _ _ (by omega) (by omega) T3 e4)
  | false=>exact qAq hL rfl (q _ _ (by omega) (by omega) T3 e4)
theorem qOa:FnScope ["_law_tape_here"] ["_law_tape_here"] (qA8 qEf):=⟨rfl,rfl,rfl,by decide +kernel,rfl,by decide +kernel,by decide +kernel⟩
theorem qMw {f:Addr} {fd:FuncData} (F:Fun K "_law_number" "_law_number" qEf f fd) (hD:Has P w K mg base "_law_draw" 1 ["_law_tape_here","_law_many_here"] qD2):FnOk P w K mg base CX0 2 f fd ["_law_tape_here"] qEx:=by
 refine F.ok qOa (fun vs H Q E h => ?_) (fun cdv A outer s H vs Q E hr h => ?_)
 ·refine hide fun G_ hG_ => ?_
  obtain⟨t,k,rfl,_⟩:=h
  refine hG_ ?_
  rfl
 ·refine hide fun G_ hG_ => ?_
  obtain⟨t,k,rfl,hT,hk,q⟩:=h
  refine hG_ ?_
  refine⟨_,qA7 (qAk (qAb qAa (qAr (qA0 qA2 (qA0 qA2 (qA0 (qEu qCx qA2) (qA0 qA2 (qA0 (qAp qI0 qA2 qA2) (qA0 (qAp qGl qA2 (qAp qI0 qA2 qA2))
   (qA0 (qAp qGl (qAy hD hr (Nat.le_refl _) (qA0 (pv 0) (qA0 qA2 qA4))) qA2) (qA0 (qAy hD hr (Nat.le_refl _) (qA0 (pv 0) (qA0 (qAp qI0 qA2 qA2) qA4))) qA4)))))))))
   (qAy hD hr (Nat.le_refl _) (qA0 (pv 0) (qA0 qA2 qA4))) (fun _ _=>rfl))),?_⟩
  dsimp only [qBp]
  walk_at "rg"
  refine qKz (by decide) (by decide) (by decide) ?_
  walk_at "rg"
  refine qKz (by decide) (by decide) (by decide) ?_
  walk_at "rg"
  refine qB6 hT (by omega) (by decide) (by decide) fun r1 H1 a1 b1 T1 e1 _ => ?_
  walk_at "rg"
  refine qKz (by decide) (by decide) (by decide) ?_
  walk_at "rg"
  refine qB6 T1 (by omega) (by decide) (by decide) fun r2 H2 a2 b2 T2 e2 _ => ?_
  have b2':r2<1000000:=b2
  walk_at "rg"
  refine⟨len2 (by show 8<=1000;decide),fun p hp => ?_⟩
  have np:p≠t:=T2.ne hp
  walk_at "rg"
  refine qB6 (T2.ext (.laid (ts :=[]) hp) (by simp)) (by omega) (by decide) (by decide) fun r3 H3 a3 b3 T3 e3 k3 => ?_
  have e4:Ext [t] H H3:=(e1.trans e2).trans ((Ext.laid hp).trans e3)
  have hL:=SqL.of (K:=K) ((k3 p np).trans qA1)
  have e5:(10:Int)^(12:Int).toNat=1000000000000:=by decide
  have e6 : -((10:Int)^12) = -1000000000000:=by decide
  have e7:((10:Int)^12)=1000000000000:=by decide
  rw [e6,e7] at q
  obtain h | h | h | h | h | h | h | h:r3=0\/r3=1\/r3=2\/r3=3\/r3=4\/r3=5\/r3=6\/r3=7:=by omega
  all_goals
   subst h
   refine qAq hL rfl (q _ _ ?_ ?_ T3 e4)
  all_goals first | decide | omega
end
end Fs
local macro_rules | `(tactic| walk_at "rh") => `(tactic| repeat (with_reducible first | (refine L2.qQk ?_; intro NN_ hNN_) | walk_at "q1" | refine L2.qBq (by assumption) ?_ | refine L2.qVe (by assumption) ?_ | (refine L2.qU7 ?_; intro NA_ NB_ hNA_ hNB_) | walk_at "q2"))
namespace Fs
open PySem L2
section
variable {P:Program} {w:World} {K:PySem.W.Frag} {mg:Str->Option Value} {base:Heap}
abbrev qGg:Stmt:=top 14
theorem scDeeds:FnScope ["_law_tape_here","_law_most","_law_boxes","_law_first","_law_works_here","_law_found","_law_turn","_law_way","_law_n","_law_box","_law_other","_law_called"] ["_law_tape_here","_law_most","_law_boxes","_law_first","_law_works_here"] (qA8 qGg):=⟨rfl,rfl,rfl,by decide +kernel,rfl,by decide +kernel,by decide +kernel⟩
theorem qP9 {f:Addr} {fd:FuncData} (F:Fun K "_law_deeds" "_law_deeds" qGg f fd) (nrange:mg "range" = none) (nint:mg "int" = none) (nlen:mg "len" = none) (hD:Has P w K mg base "_law_draw" 1 ["_law_tape_here","_law_many_here"] qD2) (hN:Has P w K mg base "_law_number" 2 ["_law_tape_here"] qEx) :
  FnOk P w K mg base CX0 3 f fd ["_law_tape_here","_law_most","_law_boxes","_law_first","_law_works_here"] (qEy K):=by
 refine F.ok scDeeds (fun vs H Q E h => ?_) (fun cdv A outer s H vs Q E hr h => ?_)
 ·refine hide fun G_ hG_ => ?_
  obtain⟨t,b,k,most,first,works,bs,rfl,_⟩:=h
  refine hG_ ?_
  rfl
 ·refine hide fun G_ hG_ => ?_
  obtain⟨t,b,k,most,first,works,bs,rfl,hT,hk,hm1,hm2,hf1,hf2,hw1,hw2,hb,nbt,hB,q⟩:=h
  refine hG_ ?_
  refine⟨_,qA3 (qAe (i:=5) scDeeds.nd rfl (Or.inl rfl) (qAr qA4))
   (qA3 (qD5 PassesOwn.never rfl (qBj rfl nrange (qA0 (qAy hD hr (by decide) (qA0 (pv 0) (qA0 (qAp qAx qA2 (qAb qAa (qAr (qA0 (pv 1) (qA0 qA2 qA4))) (qAv qBz (by rfl) nint PyProof.Rows.boot_int (qA0 (qD8 qBc (qAy hD hr (by decide) (qA0 (pv 0) (qA0 qA2 qA4))) qA2 (qAd _)) qA4)) (fun _ _=>rfl))) qA4))) qA4)) (qAg (i:=6) scDeeds.nd rfl (Or.inl rfl))
    (qA3 (qK6 (i:=7) (j:=8) rfl scDeeds.nd rfl rfl (by decide) rfl rfl (qA0 (qAy hD hr (by decide) (qA0 (pv 0) (qA0 qA2 qA4))) (qA0 (qAy hN hr (by decide) (qA0 (pv 0) qA4)) qA4)) rfl)
    (qA3 (qAe (i:=9) scDeeds.nd rfl (Or.inl rfl) (qAb qAa (pv 2) (qAy hD hr (by decide) (qA0 (pv 0) (qA0 (qAl qAf (by rfl) nlen PySem.boot_len (qA0 (pv 2) qA4)) qA4))) (fun _ _=>rfl)))
    (qA3 (qAe (i:=10) scDeeds.nd rfl (Or.inl rfl) (qAb qAa (pv 2) (qAy hD hr (by decide) (qA0 (pv 0) (qA0 (qAl qAf (by rfl) nlen PySem.boot_len (qA0 (pv 2) qA4)) qA4))) (fun _ _=>rfl)))
    (qA3 (qAe (i:=11) scDeeds.nd rfl (Or.inl rfl) (qAb qAa (qAr (qA0 (qAp qAx (qAp qAx (pv 3) qA2) (qAy hD hr (by decide) (qA0 (pv 0) (qA0 qA2 qA4)))) (qA0 (qAy hD hr (by decide) (qA0 (pv 0) (qA0 (pv 4) qA4))) qA4))) (qAv qBz (by rfl) nint PyProof.Rows.boot_int (qA0 (qD8 qBc (qAy hD hr (by decide) (qA0 (pv 0) (qA0 qA2 qA4))) qA2 (qAd _)) qA4)) (fun _ _=>rfl)))
    (qA7 (qBa (qD4 (qA9 qBc (pv 7) qA2 (qAd _)) (qCj (qA9 qI2 (pv 11) (pv 4) (qAd _)))).pt
     (qA7 (qBe (qDs PySem.F.plainAttrs_list PySem.F.slot_list_append PySem.F.type_list_append qBh (pv 5) (qA0 (qB7 (qA0 qAc (qA0 (pv 11) qA4))) qA4))))
     (qA7 (qBe (qDs PySem.F.plainAttrs_list PySem.F.slot_list_append PySem.F.type_list_append qBh (pv 5) (qA0 (qAb qAa (qAr (qA0 (qB7 (qA0 qAc (qA0 (pv 9) (qA0 (pv 8) qA4)))) (qA0 (qB7 (qA0 qAc (qA0 (pv 9) (qA0 (pv 10) qA4)))) (qA0 (qB7 (qA0 qAc (qA0 (pv 9) qA4))) qA4)))) (qAp qE1 (pv 7) qA2) (fun _ _=>rfl)) qA4)))))))))))
   (qA7 (qAk (pv 5)))),?_⟩
  dsimp only [qBp,qB9]
  walk_at "rh"
  refine⟨len2 (Nat.zero_le _),fun l hl => ?_⟩
  have nlt:l≠t:=hT.ne hl
  have nlb:l≠b:=(qA5 hb hl).symm
  have T0:Tape (upd H l (.lst [])) t k:=hT.ext (ts :=[]) (.laid hl) (by simp)
  walk_at "rh"
  refine⟨len2 (by show 2<=1000;decide),fun p hp => ?_⟩
  have npt:p≠t:=T0.ne hp
  have npl:p≠l:=fun z=>by rw [z,qA1] at hp;cases hp
  walk_at "rh"
  refine qB6 (T0.ext (ts :=[]) (.laid hp) (by simp)) (by omega) (by decide) (by decide) fun r1 H1 a1 b1 T1 e1 k1 => ?_
  walk_at "rh"
  refine qC1 ?_
  walk_at "rh"
  refine .inr ⟨_,rfl,?_⟩
  refine hide fun G_ hG_ => ?_
  have hpL:SqL K H1 p [V.int most,V.int 12]:=SqL.of (by rw [k1 p npt,qA1])
  obtain⟨mo,hmo,mo0,mo1⟩ : ∃mo:Int,atI [V.int most,V.int 12] (if decide (r1=0)=true then 1 else 0)=some (.int mo)/\0<=mo/\mo<=12:=by
   cases decide (r1=0)
   ·exact⟨most,rfl,hm1,hm2⟩
   ·exact⟨12,rfl,by decide,by decide⟩
  refine hG_ ?_
  refine qAq hpL hmo ?_
  walk_at "rh"
  refine qB6 T1 (by omega) (by omega) (by omega) fun r2 H2 a2 b2 T2 e2 k2 => ?_
  have l2:H2 l=some (.lst []):=by rw [k2 l nlt,k1 l nlt,qA6 npl.symm,qA1]
  have E2:Ext [t] H H2:=(Ext.laid hl).trans ((Ext.laid hp).trans (e1.trans e2))
  walk_at "rh"
  refine⟨r2,rfl,by omega,by omega,qC3 (lo:=0) (n:=r2.toNat) (fun i σ' H' => ∃(ds:List Deed) (vs:List V) (o6 o7 o8 o9 o10 o11:Option V),σ' = [some (.ref t),some (.int most),some (.ref b),some (.int first),some (.int works),some (.ref l),o6,o7,o8,o9,o10,o11]/\ds.length=i/\(∀d∈ds,DeedP works d) /\
   Tape H' t (k+2+10*i)/\Ext [t] H H'/\H' l=some (.lst vs)/\DenL K (yo H [t,l] H') (ds.map deedD) vs) ?_ ?_ ?_⟩
  ·exact⟨[],[],none,none,none,none,none,none,rfl,rfl,(fun _ h=>absurd h (by simp)),T2.mono (by omega),E2,l2,.nil⟩
  ·intro i σ' H' hi hq_ N_ B_ C_ R_ hN_ hC_ hR_
   refine hide fun G_ hG_ => ?_
   obtain⟨ds,vs,o6,o7,o8,o9,o10,o11,rfl,hdl,hds,hT',e',hl',hden⟩:=hq_
   refine hG_ ?_
   have hvl:vs.length=i:=by rw [hden.len,List.length_map,hdl]
   walk_at "rh"
   refine qB6 hT' (by omega) (by decide) (by decide) fun r3 H3 a3 b3 T3 e3 _ => ?_
   walk_at "rh"
   refine qU5 T3 (by omega) fun n H4 n0 n1 T4 e4 => ?_
   walk_at "rh"
   refine⟨_,_,rfl,?_⟩
   have E4:Ext [t] H' H4:=e3.trans e4
   have hbt:b ∉ [t]:=by simpa using nbt
   have hltn:l ∉ [t]:=by simpa using nlt
   walk_at "rh"
   refine⟨b,_,rfl,.inl (SqL.of (E4 _ _ hbt (e' _ _ hbt hb))),?_⟩
   rw [List.length_map]
   walk_at "rh"
   refine qB6 T4 (by omega) (by have:=hB.one;omega) (by have:=hB.few;omega) fun r5 H5 a5 b5 T5 e5 _ => ?_
   have E5:Ext [t] H' H5:=E4.trans e5
   obtain⟨bx,hbx,ebx⟩:=qEc (ns:=bs) a5 b5
   refine qAq (SqL.of (E5 _ _ hbt (e' _ _ hbt hb))) ebx ?_
   walk_at "rh"
   refine⟨b,_,rfl,.inl (SqL.of (E5 _ _ hbt (e' _ _ hbt hb))),?_⟩
   rw [List.length_map]
   walk_at "rh"
   refine qB6 T5 (by omega) (by have:=hB.one;omega) (by have:=hB.few;omega) fun r6 H6 a6 b6 T6 e6 _ => ?_
   have E6:Ext [t] H' H6:=E5.trans e6
   obtain⟨ox,hox,eox⟩:=qEc (ns:=bs) a6 b6
   refine qAq (SqL.of (E6 _ _ hbt (e' _ _ hbt hb))) eox ?_
   walk_at "rh"
   refine qB6 T6 (by omega) (by decide) (by decide) fun r7 H7 a7 b7 T7 e7 _ => ?_
   walk_at "rh"
   refine qB6 T7 (by omega) (by omega) (by omega) fun r8 H8 a8 b8 T8 e8 _ => ?_
   walk_at "rh"
   refine⟨len2 (by show 2<=1000;decide),fun p1 hp1 => ?_⟩
   have np1:p1≠t:=T8.ne hp1
   walk_at "rh"
   refine qB6 (T8.ext (ts :=[]) (.laid hp1) (by simp)) (by omega) (by decide) (by decide) fun r9 H9 a9 b9 T9 e9 k9 => ?_
   walk_at "rh"
   refine qC1 ?_
   walk_at "rh"
   refine .inr ⟨_,rfl,?_⟩
   have E9:Ext [t] H' H9:=(E6.trans (e7.trans e8)).trans ((Ext.laid hp1).trans e9)
   have hL9:SqL K H9 p1 [V.int (first+1+r7),V.int r8]:=SqL.of (by rw [k9 p1 np1,qA1])
   obtain⟨ca,hca,ca0⟩ : ∃ca:Int,atI [V.int (first+1+r7),V.int r8] (if decide (r9=0)=true then 1 else 0)=some (.int ca)/\0<=ca:=by
    cases decide (r9=0)
    ·exact⟨_,rfl,by omega⟩
    ·exact⟨_,rfl,by omega⟩
   refine qAq hL9 hca ?_
   have l9:H9 l=some (.lst vs):=E9 _ _ hltn hl'
   have fin : ∀(d:Deed) (H6:Hp) (p:Addr),DeedP works d->Ext [] H9 H6->p≠t->p≠l->Den K (yo H [t,l] H6) (deedD d) (.ref p) -> ∀o6 o7 o8 o9 o10 o11:Option V,∃(ds:List Deed) (vs':List V) (p6 p7 p8 p9 p10 p11:Option V),[some (V.ref t),some (.int most),some (.ref b),some (.int first),some (.int works),some (.ref l),o6,o7,o8,o9,o10,o11] = [some (V.ref t),some (.int most),some (.ref b),some (.int first),some (.int works),some (.ref l),p6,p7,p8,p9,p10,p11]/\ds.length=i+1/\(∀d∈ds,DeedP works d) /\
     Tape (upd H6 l (.lst (vs ++ [.ref p]))) t (k+2+10*(i+1))/\Ext [t] H (upd H6 l (.lst (vs ++ [.ref p])))/\(upd H6 l (.lst (vs ++ [.ref p]))) l=some (.lst vs')/\DenL K (yo H [t,l] (upd H6 l (.lst (vs ++ [.ref p])))) (ds.map deedD) vs':=by
    intro d H6 p hd e6 npt npl hden6 o6 o7 o8 o9 o10 o11
    have E10:Ext [l,t] H9 (upd H6 l (.lst (vs ++ [.ref p]))):=(e6.mono (by simp)).trans (.put (by simp))
    have E11:Ext [l,t] H' (upd H6 l (.lst (vs ++ [.ref p]))):=(E9.mono (by simp)).trans E10
    refine⟨ds ++ [d],vs ++ [.ref p],o6,o7,o8,o9,o10,o11,rfl,by rw [List.length_append,hdl];rfl,fun z hz => ?_,?_,?_,qA1,?_⟩
    ·rcases List.mem_append.mp hz with y | y
     ·exact hds z y
     ·rw [List.mem_singleton.mp y];exact hd
    ·exact ((T9.ext e6 (by simp)).ext (ts :=[l]) (.put (by simp)) (by simpa using nlt.symm)).mono (by omega)
    ·exact ((e'.mono (by simp)).trans E11).drop hl
    ·rw [List.map_append]
     exact DenL.append (hden.mono (E11.mono (by simp)).young) (.cons (hden6.mono (Ext.put (by simp)).young) .nil)
   have sz:vs.length<sizeLine:=qAn (by omega)
   walk_at "rh"
   refine qC1 ?_
   walk_at "rh"
   refine ite2 (fun g => ?_) (fun g => ?_)
   ·walk_at "rh"
    refine ite2 (fun g2 => ?_) (fun g2 => ?_)
    ·have g2:=of_decide_eq_true g2
     walk_at "rh"
     refine qCz l9 ?_
     walk_at "rh"
     refine⟨len2 (by show 2<=1000;decide),fun p hp => ?_⟩
     have npt:=T9.ne hp
     have hfresh:=hp
     have npl:p≠l:=(qA5 l9 hp).symm
     walk_at "rh"
     refine qDl (by rw [qA6 npl.symm];exact l9) sz ?_
     refine qBq hN_ (fin (.call ca) _ p ⟨ca0,g2⟩ (.laid hp) npt npl (.tuple (SqT.of ?_) (.cons .str (.cons .int .nil))) _ _ _ _ _ _)
     rw [qAz ((e'.trans E9).none (by simpa using npt) hfresh) (by simp [npt,npl]),qA1]
    ·walk_at "rh"
     refine qCz l9 ?_
     walk_at "rh"
     refine⟨len2 (by show 3<=1000;decide),fun s1 hs1 => ?_⟩
     walk_at "rh"
     refine⟨len2 (by show 3<=1000;decide),fun s2 hs2 => ?_⟩
     walk_at "rh"
     refine⟨len2 (by show 2<=1000;decide),fun s3 hs3 => ?_⟩
     walk_at "rh"
     refine⟨len2 (by show 3<=1000;decide),fun s4 hs4 => ?_⟩
     have e12:s1≠s2:=qA5 qA1 hs2
     have e13:s1≠s3:=qA5 (by rw [qA6 e12,qA1]) hs3
     have e23:s2≠s3:=qA5 qA1 hs3
     have e14:s1≠s4:=qA5 (by rw [qA6 e13,qA6 e12,qA1]) hs4
     have e24:s2≠s4:=qA5 (by rw [qA6 e23,qA1]) hs4
     have e34:s3≠s4:=qA5 qA1 hs4
     have f2:H9 s2=none:=by rw [qA6 e12.symm] at hs2;exact hs2
     have f3:H9 s3=none:=by rw [qA6 e23.symm,qA6 e13.symm] at hs3;exact hs3
     have E0:=(Ext.laid (ts :=[]) (o :=.tup [V.str "set",.int bx,.int n]) hs1).trans ((Ext.laid (o :=.tup [V.str "add",.int bx,.int ox]) hs2).trans ((Ext.laid (o :=.tup [V.str "tell",.int bx]) hs3).trans (Ext.laid (o :=.lst [V.ref s1,.ref s2,.ref s3]) hs4)))
     have l10:=E0 _ _ (by simp) l9
     have hbx':=hB.all _ hbx
     have hox':=hB.all _ hox
     walk_at "rh"
     refine qFi (by decide) ?_
     have h3:r3%3=0\/r3%3=1\/r3%3=2:=by omega
     have q4:SqL K (upd (upd (upd (upd H9 s1 (.tup [V.str "set",.int bx,.int n])) s2 (.tup [V.str "add",.int bx,.int ox])) s3 (.tup [V.str "tell",.int bx])) s4 (.lst [V.ref s1,.ref s2,.ref s3])) s4 [V.ref s1,.ref s2,.ref s3]:=SqL.of qA1
     rcases h3 with h | h | h
     ·refine qAq (v:=V.ref s1) q4 (by rw [h];rfl) ?_
      walk_at "rh"
      have npt:=T9.ne hs1
      have hfresh:=hs1
      have npl:s1≠l:=(qA5 l9 hs1).symm
      refine qDl l10 sz ?_
      refine qBq hN_ (fin (.set bx n) _ s1 ⟨hbx'.1,hbx'.2,n0,n1⟩ E0 npt npl (.tuple (SqT.of ?_) (.cons .str (.cons .int (.cons .int .nil)))) _ _ _ _ _ _)
      rw [qAz ((e'.trans E9).none (by simpa using npt) hfresh) (by simp [npt,npl]),qA6 e14,qA6 e13,qA6 e12,qA1]
     ·refine qAq (v:=V.ref s2) q4 (by rw [h];rfl) ?_
      walk_at "rh"
      have npt:=T9.ne f2
      have hfresh:=f2
      have npl:s2≠l:=(qA5 l9 f2).symm
      refine qDl l10 sz ?_
      refine qBq hN_ (fin (.add bx ox) _ s2 ⟨hbx'.1,hbx'.2,hox'.1,hox'.2⟩ E0 npt npl (.tuple (SqT.of ?_) (.cons .str (.cons .int (.cons .int .nil)))) _ _ _ _ _ _)
      rw [qAz ((e'.trans E9).none (by simpa using npt) hfresh) (by simp [npt,npl]),qA6 e24,qA6 e23,qA1]
     ·refine qAq (v:=V.ref s3) q4 (by rw [h];rfl) ?_
      walk_at "rh"
      have npt:=T9.ne f3
      have hfresh:=f3
      have npl:s3≠l:=(qA5 l9 f3).symm
      refine qDl l10 sz ?_
      refine qBq hN_ (fin (.tell bx) _ s3 ⟨hbx'.1,hbx'.2⟩ E0 npt npl (.tuple (SqT.of ?_) (.cons .str (.cons .int .nil))) _ _ _ _ _ _)
      rw [qAz ((e'.trans E9).none (by simpa using npt) hfresh) (by simp [npt,npl]),qA6 e34,qA1]
   ·refine iteF ?_
    walk_at "rh"
    refine qCz l9 ?_
    walk_at "rh"
    refine⟨len2 (by show 3<=1000;decide),fun s1 hs1 => ?_⟩
    walk_at "rh"
    refine⟨len2 (by show 3<=1000;decide),fun s2 hs2 => ?_⟩
    walk_at "rh"
    refine⟨len2 (by show 2<=1000;decide),fun s3 hs3 => ?_⟩
    walk_at "rh"
    refine⟨len2 (by show 3<=1000;decide),fun s4 hs4 => ?_⟩
    have e12:s1≠s2:=qA5 qA1 hs2
    have e13:s1≠s3:=qA5 (by rw [qA6 e12,qA1]) hs3
    have e23:s2≠s3:=qA5 qA1 hs3
    have e14:s1≠s4:=qA5 (by rw [qA6 e13,qA6 e12,qA1]) hs4
    have e24:s2≠s4:=qA5 (by rw [qA6 e23,qA1]) hs4
    have e34:s3≠s4:=qA5 qA1 hs4
    have f2:H9 s2=none:=by rw [qA6 e12.symm] at hs2;exact hs2
    have f3:H9 s3=none:=by rw [qA6 e23.symm,qA6 e13.symm] at hs3;exact hs3
    have E0:=(Ext.laid (ts :=[]) (o :=.tup [V.str "set",.int bx,.int n]) hs1).trans ((Ext.laid (o :=.tup [V.str "add",.int bx,.int ox]) hs2).trans ((Ext.laid (o :=.tup [V.str "tell",.int bx]) hs3).trans (Ext.laid (o :=.lst [V.ref s1,.ref s2,.ref s3]) hs4)))
    have l10:=E0 _ _ (by simp) l9
    have hbx':=hB.all _ hbx
    have hox':=hB.all _ hox
    walk_at "rh"
    refine qFi (by decide) ?_
    have h3:r3%3=0\/r3%3=1\/r3%3=2:=by omega
    have q4:SqL K (upd (upd (upd (upd H9 s1 (.tup [V.str "set",.int bx,.int n])) s2 (.tup [V.str "add",.int bx,.int ox])) s3 (.tup [V.str "tell",.int bx])) s4 (.lst [V.ref s1,.ref s2,.ref s3])) s4 [V.ref s1,.ref s2,.ref s3]:=SqL.of qA1
    rcases h3 with h | h | h
    ·refine qAq (v:=V.ref s1) q4 (by rw [h];rfl) ?_
     walk_at "rh"
     have npt:=T9.ne hs1
     have hfresh:=hs1
     have npl:s1≠l:=(qA5 l9 hs1).symm
     refine qDl l10 sz ?_
     refine qBq hN_ (fin (.set bx n) _ s1 ⟨hbx'.1,hbx'.2,n0,n1⟩ E0 npt npl (.tuple (SqT.of ?_) (.cons .str (.cons .int (.cons .int .nil)))) _ _ _ _ _ _)
     rw [qAz ((e'.trans E9).none (by simpa using npt) hfresh) (by simp [npt,npl]),qA6 e14,qA6 e13,qA6 e12,qA1]
    ·refine qAq (v:=V.ref s2) q4 (by rw [h];rfl) ?_
     walk_at "rh"
     have npt:=T9.ne f2
     have hfresh:=f2
     have npl:s2≠l:=(qA5 l9 f2).symm
     refine qDl l10 sz ?_
     refine qBq hN_ (fin (.add bx ox) _ s2 ⟨hbx'.1,hbx'.2,hox'.1,hox'.2⟩ E0 npt npl (.tuple (SqT.of ?_) (.cons .str (.cons .int (.cons .int .nil)))) _ _ _ _ _ _)
     rw [qAz ((e'.trans E9).none (by simpa using npt) hfresh) (by simp [npt,npl]),qA6 e24,qA6 e23,qA1]
    ·refine qAq (v:=V.ref s3) q4 (by rw [h];rfl) ?_
     walk_at "rh"
     have npt:=T9.ne f3
     have hfresh:=f3
     have npl:s3≠l:=(qA5 l9 f3).symm
     refine qDl l10 sz ?_
     refine qBq hN_ (fin (.tell bx) _ s3 ⟨hbx'.1,hbx'.2⟩ E0 npt npl (.tuple (SqT.of ?_) (.cons .str (.cons .int .nil))) _ _ _ _ _ _)
     rw [qAz ((e'.trans E9).none (by simpa using npt) hfresh) (by simp [npt,npl]),qA6 e34,qA1]
  ·intro σ' H' hq_
   refine hide fun G_ hG_ => ?_
   obtain⟨ds,vs,o6,o7,o8,o9,o10,o11,rfl,hdl,hds,hT',e',hl',hden⟩:=hq_
   refine hG_ ?_
   walk_at "rh"
   refine q l ds H' hl (hT'.mono (by omega)) e' hds (by omega) (.list (SqL.of ?_) (hden.mono (qGt (by simp))))
   rw [qAz hl (by simpa using nlt)];exact hl'
end
section
variable {P:Program} {w:World} {K:PySem.W.Frag} {mg:Str->Option Value} {base:Heap}
abbrev qGa:Stmt:=top 17
theorem scWorks:FnScope ["_law_tape_here","_law_most","_law_works_here","_law_found","_law_first","_law_many_here"] ["_law_tape_here","_law_most"] (qA8 qGa):=⟨rfl,rfl,rfl,by decide +kernel,rfl,by decide +kernel,by decide +kernel⟩
theorem qP2 {f:Addr} {fd:FuncData} (F:Fun K "_law_works" "_law_works" qGa f fd) (nrange:mg "range" = none) (nint:mg "int" = none) (hD:Has P w K mg base "_law_draw" 1 ["_law_tape_here","_law_many_here"] qD2)
  (hM:Has P w K mg base "_law_many" 2 ["_law_tape_here"] qM0) (hW:Has P w K mg base "_law_work" 4 ["_law_tape_here","_law_many_here","_law_most","_law_first","_law_works_here"] (qIx K)) :
  FnOk P w K mg base CX0 5 f fd ["_law_tape_here","_law_most"] (qGw K):=by
 refine F.ok scWorks (fun vs H Q E h => ?_) (fun cdv A outer s H vs Q E hr h => ?_)
 ·refine hide fun G_ hG_ => ?_
  obtain⟨t,k,most,rfl,_⟩:=h
  refine hG_ ?_
  rfl
 ·refine hide fun G_ hG_ => ?_
  obtain⟨t,k,most,rfl,hT,hk,hm1,hm2,q⟩:=h
  refine hG_ ?_
  refine⟨_,qA3 (qAe (i:=2) scWorks.nd rfl (Or.inl rfl) (qAb qAa (qAr (qA0 (qAp qAx qA2 (qAy hD hr (by decide) (qA0 (pv 0) (qA0 qA2 qA4)))) (qA0 (qAp qAx qA2 (qAy hD hr (by decide) (qA0 (pv 0) (qA0 qA2 qA4)))) qA4)))
    (qAv qBz (by rfl) nint PyProof.Rows.boot_int (qA0 (qD8 qBc (qAy hD hr (by decide) (qA0 (pv 0) (qA0 qA2 qA4))) qA2 (qAd _)) qA4)) (fun _ _=>rfl)))
   (qA3 (qAe (i:=3) scWorks.nd rfl (Or.inl rfl) (qAr qA4))
   (qA3 (qD5 PassesOwn.never rfl (qBj rfl nrange (qA0 (pv 2) qA4)) (qAg (i:=4) scWorks.nd rfl (Or.inl rfl))
    (qA3 (qAe (i:=5) scWorks.nd rfl (Or.inl rfl) (qBn (qA9 qI2 (pv 2) qA2 (qAd _)) (qAy hM hr (by decide) (qA0 (pv 0) qA4)) (qAp qAx qA2 (qAy hD hr (by decide) (qA0 (pv 0) (qA0 qA2 qA4))))))
    (qA7 (qBe (qDs PySem.F.plainAttrs_list PySem.F.slot_list_append PySem.F.type_list_append qBh (pv 3) (qA0 (qAy hW hr (by decide) (qA0 (pv 0) (qA0 (pv 5) (qA0 (pv 1) (qA0 (pv 4) (qA0 (pv 2) qA4)))))) qA4))))))
   (qA7 (qAk (pv 3))))),?_⟩
  dsimp only [qBp]
  walk_at "rh"
  refine qB6 hT (by omega) (by decide) (by decide) fun r1 H1 a1 b1 T1 e1 _ => ?_
  walk_at "rh"
  refine qB6 T1 (by omega) (by decide) (by decide) fun r2 H2 a2 b2 T2 e2 _ => ?_
  walk_at "rh"
  refine⟨len2 (by show 2<=1000;decide),fun p hp => ?_⟩
  have np:p≠t:=T2.ne hp
  walk_at "rh"
  refine qB6 (T2.ext (.laid (ts :=[]) hp) (by simp)) (by omega) (by decide) (by decide) fun r3 H3 a3 b3 T3 e3 k3 => ?_
  walk_at "rh"
  refine qC1 ?_
  walk_at "rh"
  refine .inr ⟨_,rfl,?_⟩
  refine hide fun G_ hG_ => ?_
  have e4:Ext [t] H H3:=(e1.trans e2).trans ((Ext.laid hp).trans e3)
  have hL:SqL K H3 p [V.int (1+r1),V.int (5+r2)]:=SqL.of (by rw [k3 p np,qA1])
  obtain⟨n,hn1,hn2,en⟩ : ∃n:Int,1<=n/\n<=10/\atI [V.int (1+r1),V.int (5+r2)] (if decide (r3=0)=true then (1:Int) else 0)=some (.int n):=by
   cases c:decide (r3=0) with
   | true=>exact⟨5+r2,by omega,by omega,rfl⟩
   | false=>exact⟨1+r1,by omega,by omega,rfl⟩
  refine hG_ ?_
  refine qAq hL en ?_
  clear en hL k3 e3 hp np
  walk_at "rh"
  refine⟨len2 (Nat.zero_le _),fun l hl => ?_⟩
  have nlt:l≠t:=T3.ne hl
  have hlH:H l=none:=e4.none (by simpa using nlt) hl
  walk_at "rh"
  refine⟨n,rfl,by omega,by omega,qC3 (lo:=0) (n:=n.toNat) (fun i σ' H' => ∃(as:List Addr) (ws:List (List Blk)) (o4 o5:Option V),σ' = [some (.ref t),some (.int most),some (.int n),some (.ref l),o4,o5]/\as.length=i/\(∀w∈ws,∃m:Int,1<=m/\m<=12/\WorkOk m n w)/\(∀w∈ws,∀b∈w,Fw n b) /\
   l∉as/\(∀a∈as,H a=none/\a≠t)/\as.Nodup/\Tape H' t (k+3+2003*i)/\Ext [l,t] H3 H'/\H' l=some (.lst (as.map V.ref))/\WorksAt K (yo H (l::t::as) H') H' as ws) ?_ ?_ ?_⟩
  ·exact⟨[],[],_,_,rfl,rfl,by simp,by simp,by simp,by simp,.nil,T3.ext (ts :=[]) (.laid hl) (by simp),.laid hl,qA1,.nil⟩
  ·intro i σ' H' hi hq_ N_ B_ C_ R_ hN_ hC_ hR_
   refine hide fun G_ hG_ => ?_
   obtain⟨as,ws,o4,o5,rfl,hal,hws,hfew,hla,has,hnd,T',e',hl',hA⟩:=hq_
   refine hG_ ?_
   have hin:i<10:=by omega
   have EH:Ext [l,t] H H':=(e4.mono (by simp)).trans e'
   walk_at "rh"
   have fin : ∀(m:Int) (H5 H6:Hp) (a:Addr) (w1:List Blk) (bs:List V),1<=m->m<=12->Ext [t] H' H5->H5 a=none->a≠t->Tape H6 t (k+3+2003*(i+1))->Ext [t] H5 H6->WorkOk m n w1->(∀b∈w1,Fw n b)->H6 a=some (.lst bs)->DenL K (yo H5 [a,t] H6) (w1.map blkD) bs -> ∀o4 o5:Option V,
     H6 l=some (.lst (as.map V.ref)) /\ ∃(as':List Addr) (ws':List (List Blk)) (o4' o5':Option V),[some (V.ref t),some (.int most),some (.int n),some (.ref l),o4,o5] = [some (V.ref t),some (.int most),some (.int n),some (.ref l),o4',o5']/\as'.length=i+1/\(∀w∈ws',∃m:Int,1<=m/\m<=12/\WorkOk m n w)/\(∀w∈ws',∀b∈w,Fw n b) /\
     l∉as'/\(∀a∈as',H a=none/\a≠t)/\as'.Nodup/\Tape (upd H6 l (.lst (as.map V.ref ++ [V.ref a]))) t (k+3+2003*(i+1))/\Ext [l,t] H3 (upd H6 l (.lst (as.map V.ref ++ [V.ref a])))/\(upd H6 l (.lst (as.map V.ref ++ [V.ref a]))) l=some (.lst (as'.map V.ref))/\WorksAt K (yo H (l::t::as') (upd H6 l (.lst (as.map V.ref ++ [V.ref a])))) (upd H6 l (.lst (as.map V.ref ++ [V.ref a]))) as' ws':=by
    intro m H5 H6 a w1 bs hm1 hm2 e5 ha nat T6 e6 hw1 hf1 hba hden o4 o5
    have l5:H5 l=some (.lst (as.map V.ref)):=e5 _ _ (by simpa using nlt) hl'
    have l6:H6 l=some (.lst (as.map V.ref)):=e6 _ _ (by simpa using nlt) l5
    have nal:a≠l:=(qA5 l5 ha).symm
    have haH':H' a=none:=e5.none (by simpa using nat) ha
    have haH:H a=none:=EH.none (by simp [nal,nat]) haH'
    have naas:a∉as:=fun hm=>by
     refine hide fun G_ hG_ => ?_
     obtain⟨j,hj,e⟩:=List.getElem_of_mem hm
     obtain⟨_,bs',_,hb',_⟩:=hA.get (i:=j) (a:=a) (by rw [List.getElem?_eq_getElem hj,e])
     refine hG_ ?_
     rw [haH'] at hb';cases hb'
    have E6:Ext [l,t] H' (upd H6 l (.lst (as.map V.ref ++ [V.ref a]))):=(e5.mono (by simp)).trans ((e6.mono (by simp)).trans (.put (by simp)))
    refine⟨l6,as ++ [a],ws ++ [w1],o4,o5,rfl,by rw [List.length_append,hal];rfl,?_,?_,by simp [hla,nal.symm],?_,?_,?_,e'.trans E6,by rw [qA1,List.map_append];rfl,?_⟩
    ·intro w hw
     rcases List.mem_append.mp hw with z | z
     ·exact hws w z
     ·rw [List.mem_singleton.mp z];exact⟨m,hm1,hm2,hw1⟩
    ·intro w hw
     rcases List.mem_append.mp hw with z | z
     ·exact hfew w z
     ·rw [List.mem_singleton.mp z];exact hf1
    ·intro b hb
     rcases List.mem_append.mp hb with z | z
     ·exact has b z
     ·rw [List.mem_singleton.mp z];exact⟨haH,nat⟩
    ·exact List.nodup_append.mpr ⟨hnd,by simp,by intro x hx y hy;simp at hy;subst hy;intro e;subst e;exact naas hx⟩
    ·exact T6.ext (ts :=[l]) (.put (by simp)) (by simpa using nlt.symm)
    ·have key:Same (yo H (l::t::as) H') (yo H (l::t::(as ++ [a])) (upd H6 l (.lst (as.map V.ref ++ [V.ref a])))):=fun b o e=>by
      obtain⟨h1,h2,h3⟩:=qCo e
      have nb:b≠a:=fun z=>by rw [z,haH'] at h3;cases h3
      have h2':b ∉ [l,t]:=fun z=>h2 (by rcases List.mem_cons.mp z with z | z <;> simp_all)
      rw [qAz h1 (fun z=>h2 (by
       rcases List.mem_cons.mp z with z | z
       ·simp [z]
       ·rcases List.mem_cons.mp z with z | z
        ·simp [z]
        ·rcases List.mem_append.mp z with z | z
         ·simp [z]
         ·exact absurd (by simpa using z) nb))]
      exact E6 _ _ h2' h3
     refine (hA.mono key fun b hb o e => ?_).snoc (bs:=bs) ?_ (hden.mono fun b o e => ?_)
     ·have nbl:b≠l:=fun z=>hla (z▸hb)
      exact E6 _ _ (by simp [nbl,(has b hb).2]) e
     ·rw [qA6 nal];exact hba
     ·obtain⟨h1,h2,h3⟩:=qCo e
      have nbl:b≠l:=fun z=>by rw [z,l5] at h1;cases h1
      have nbt:b≠t:=fun z=>h2 (by simp [z])
      have nba:b≠a:=fun z=>h2 (by simp [z])
      have h1':H' b=none:=e5.none (by simpa using nbt) h1
      rw [qAz (EH.none (by simp [nbl,nbt]) h1') (by
       intro z
       rcases List.mem_cons.mp z with z | z
       ·exact nbl z
       ·rcases List.mem_cons.mp z with z | z
        ·exact nbt z
        ·rcases List.mem_append.mp z with z | z
         ·refine hide fun G_ hG_ => ?_
          obtain⟨j,hj,e⟩:=List.getElem_of_mem z
          obtain⟨_,bs',_,hb',_⟩:=hA.get (i:=j) (a:=b) (by rw [List.getElem?_eq_getElem hj,e])
          refine hG_ ?_
          rw [h1'] at hb';cases hb'
         ·exact nba (by simpa using z)),qA6 nbl]
      exact h3
   refine ite2 (fun hn5 => ?_) (fun hn5 => ?_)
   ·walk_at "rh"
    refine qU5 T' (by omega) fun m H5 hm1' hm2' T5 e5 => ?_
    walk_at "rh"
    refine qCz (e5 _ _ (by simpa using nlt) hl') ?_
    walk_at "rh"
    refine⟨t,_,m,most,_,n,rfl,T5,by omega,hm1',hm2',hm1,hm2,by omega,by omega,by omega,by omega,fun a w1 bs H6 ha nat T6 e6 hw1 hf1 hba hden => ?_⟩
    obtain⟨l6,post⟩:=fin m H5 H6 a w1 bs hm1' hm2' e5 ha nat (T6.mono (by omega)) e6 hw1 hf1 hba hden _ _
    walk_at "rh"
    exact qDl l6 (qAn (by rw [List.length_map];omega)) (qBq hN_ post)
   ·walk_at "rh"
    refine qB6 T' (by omega) (by decide) (by decide) fun r H5 hm1' hm2' T5 e5 _ => ?_
    walk_at "rh"
    refine qCz (e5 _ _ (by simpa using nlt) hl') ?_
    walk_at "rh"
    refine⟨t,_,1+r,most,_,n,rfl,T5,by omega,by omega,by omega,hm1,hm2,by omega,by omega,by omega,by omega,fun a w1 bs H6 ha nat T6 e6 hw1 hf1 hba hden => ?_⟩
    obtain⟨l6,post⟩:=fin (1+r) H5 H6 a w1 bs (by omega) (by omega) e5 ha nat (T6.mono (by omega)) e6 hw1 hf1 hba hden _ _
    walk_at "rh"
    exact qDl l6 (qAn (by rw [List.length_map];omega)) (qBq hN_ post)
  ·intro σ' H' hq_
   refine hide fun G_ hG_ => ?_
   obtain⟨as,ws,o4,o5,rfl,hal,hws,hfew,hla,has,hnd,T',e',hl',hA⟩:=hq_
   refine hG_ ?_
   walk_at "rh"
   have hwl:=hA.len
   exact q l as ws H' hlH nlt hla has hnd (T'.mono (by omega)) ((e4.mono (by simp)).trans e' |>.drop hlH) hl' hA ⟨by rw [show ((ws.length:Nat):Int)=n by omega];exact hws,by omega,by omega⟩ (by rw [show ((ws.length:Nat):Int)=n by omega];exact hfew)
end
section
variable {P:Program} {w:World} {K:PySem.W.Frag} {mg:Str->Option Value} {base:Heap}
abbrev sStep:Stmt:=qC9 (top 3) 1
theorem qTn:FnScope ["self"] ["self"] (qA8 sStep):=⟨rfl,rfl,rfl,by decide +kernel,rfl,by decide +kernel,by decide +kernel⟩
theorem qSh {f C CC:Addr} {fd:FuncData} (F:Fun K "step" "Running.step" sStep f fd) (T:RTx K C CC):FnOk P w K mg base CX0 1 f fd ["self"] (qHq C):=by
 refine F.ok qTn (fun vs H Q E h => ?_) (fun cdv A outer s H vs Q E hr h => ?_)
 ·refine hide fun G_ hG_ => ?_
  obtain⟨r,most,sh,state,steps,forks,depth,sv,bk,rfl,_⟩:=h
  refine hG_ ?_
  rfl
 ·refine hide fun G_ hG_ => ?_
  obtain⟨r,most,sh,state,steps,forks,depth,sv,bk,rfl,rfl,hS,q1,q2⟩:=h
  refine hG_ ?_
  refine⟨_,(qA3 (qBa (qA9 qUv (qB0 (pv 0) rfl) (qB0 (pv 0) rfl) (qAd _)) (qA7 (qAk qAc)) qAu)
   (qA3 (qCl (pv 0) qA2 qIe)
   (qA7 (qAk qD7)))),?_⟩
  dsimp only [qBp,qB9]
  walk_at "rg"
  refine⟨_,_,_,_,_,rfl,hS,T.cl,T.steps,qJy _ _ _ _ _ _ _ _ _,?_⟩
  walk_at "rg"
  refine⟨_,_,_,_,_,rfl,hS,T.cl,T.most,qRs _ _ _ _ _ _ _ _ _,?_⟩
  walk_at "rg"
  refine ite2 (fun hc => ?_) (fun hc => ?_)
  ·walk_at "rg"
   exact q1 (by simpa using hc)
  ·walk_at "rg"
   refine⟨_,_,_,_,_,rfl,hS,T.cl,T.steps,qJy _ _ _ _ _ _ _ _ _,?_⟩
   walk_at "rg"
   refine⟨_,_,rfl,rfl,_,_,hS,qFd _ _ _ _ _ _ _ _ _,?_⟩
   walk_at "rg"
   exact q2 (by simpa using hc)
end
section
variable {P:Program} {w:World} {K:PySem.W.Frag} {mg:Str->Option Value} {base:Heap}
abbrev qGc:Stmt:=qC9 (top 3) 7
theorem qRo:FnScope ["self"] ["self"] (qA8 qGc):=⟨rfl,rfl,rfl,by decide +kernel,rfl,by decide +kernel,by decide +kernel⟩
theorem qP5 {f C CC:Addr} {fd:FuncData} (F:Fun K "next_choice" "Running.next_choice" qGc f fd) (T:RTx K C CC) (nlen:mg "len" = none):FnOk P w K mg base CX0 1 f fd ["self"] (qJ0 K C):=by
 refine F.ok qRo (fun vs H Q E h => ?_) (fun cdv A outer s H vs Q E hr h => ?_)
 ·refine hide fun G_ hG_ => ?_
  obtain⟨r,most,sh,state,steps,k,depth,sv,bk,ch,rfl,_⟩:=h
  refine hG_ ?_
  rfl
 ·refine hide fun G_ hG_ => ?_
  obtain⟨r,most,sh,state,steps,k,depth,sv,bk,ch,rfl,rfl,hS,hC,hk,hl,q⟩:=h
  refine hG_ ?_
  refine⟨_,(qA3 (qCl (pv 0) qA2 qIe)
   (qA7 (qAk (qBn (qA9 qVt (qB0 (pv 0) rfl) (qAl qAf (by rfl) nlen PySem.boot_len (qA0 (qB0 (pv 0) rfl) qA4)) (qAd _)) (qAb qAa (qB0 (pv 0) rfl) (qAp qGl (qB0 (pv 0) rfl) qA2) (fun _ _=>rfl)) qA2)))),?_⟩
  dsimp only [qBp,qB9]
  walk_at "rg"
  refine⟨_,_,_,_,_,rfl,hS,T.cl,T.forks,qH0 _ _ _ _ _ _ _ _ _,?_⟩
  walk_at "rg"
  refine⟨_,_,rfl,rfl,_,_,hS,qFd _ _ _ _ _ _ _ _ _,?_⟩
  rw [qOe]
  have hS2:(upd H r.self (selfO r most sh state steps (k+1) depth sv bk)) r.self=some (selfO r most sh state steps (k+1) depth sv bk):=qA1
  have hC2:SqL K (upd H r.self (selfO r most sh state steps (k+1) depth sv bk)) r.ca (ch.map V.int):=qRm hS hC
  generalize upd H r.self (selfO r most sh state steps (k+1) depth sv bk)=H2 at hS2 hC2 q ⊢
  walk_at "rg"
  refine⟨_,_,_,_,_,rfl,hS2,T.cl,T.forks,qH0 _ _ _ _ _ _ _ _ _,?_⟩
  walk_at "rg"
  refine⟨_,_,_,_,_,rfl,hS2,T.cl,T.choices,qGi _ _ _ _ _ _ _ _ _,?_⟩
  walk_at "rg"
  refine qC4 hC2 ?_
  rw [List.length_map]
  walk_at "rg"
  refine ite2 (fun hc => ?_) (fun hc => ?_)
  ·have hc:k+1<=(ch.length:Int):=by simpa using hc
   walk_at "rg"
   refine⟨_,_,_,_,_,rfl,hS2,T.cl,T.choices,qGi _ _ _ _ _ _ _ _ _,?_⟩
   walk_at "rg"
   refine⟨_,_,_,_,_,rfl,hS2,T.cl,T.forks,qH0 _ _ _ _ _ _ _ _ _,?_⟩
   walk_at "rg"
   have hlt:k.toNat<ch.length:=by omega
   refine qAq (v:=V.int (getB ch k)) hC2 ?_ q
   rw [show k+1 - 1=((k.toNat:Nat):Int) by omega]
   refine qBf ?_
   unfold getB
   rw [List.getElem?_map,List.getD_eq_getElem?_getD,List.getElem?_eq_getElem hlt];rfl
  ·have hc : ¬k+1<=(ch.length:Int):=by simpa using hc
   walk_at "rg"
   have:getB ch k=0:=by
    unfold getB
    rw [List.getD_eq_getElem?_getD,List.getElem?_eq_none (by omega)];rfl
   rw [this] at q
   exact q
end
section
variable {P:Program} {w:World} {K:PySem.W.Frag} {mg:Str->Option Value} {base:Heap}
abbrev qGd:Stmt:=qC9 (top 3) 6
theorem qRp:FnScope ["self","end","beyond"] ["self","end","beyond"] (qA8 qGd):=⟨rfl,rfl,rfl,by decide +kernel,rfl,by decide +kernel,by decide +kernel⟩
theorem qP7 {f C CC:Addr} {fd:FuncData} (F:Fun K "led_by" "Running.led_by" qGd f fd) (T:RTx K C CC) (hN:HasM P w K mg base C "next_choice" 1 ["self"] (qJ0 K C)):FnOk P w K mg base CX0 2 f fd ["self","end","beyond"] (qGy K C):=by
 refine F.ok qRp (fun vs H Q E h => ?_) (fun cdv A outer s H vs Q E hr h => ?_)
 ·refine hide fun G_ hG_ => ?_
  obtain⟨r,most,sh,state,steps,k,depth,sv,bk,ch,ns,ve,len,m,rfl,_⟩:=h
  refine hG_ ?_
  rfl
 ·refine hide fun G_ hG_ => ?_
  obtain⟨r,most,sh,state,steps,k,depth,sv,bk,ch,ns,ve,len,m,rfl,rfl,hS,hC,hk,hl,hD,hok,q⟩:=h
  refine hG_ ?_
  refine⟨_,(qA3 (qBa (qA9 qBc (qAb qAm (pv 1) qA2 (fun _ _=>rfl)) qAc (qAd _)) (qA7 (qAk (pv 2))) qAu)
   (qA3 (qBa (qS2 (qA9 qBc (qAb qAm (pv 1) qA2 (fun _ _=>rfl)) qAc (qAd _)) (qMi (qA9 qBc (qMp hN T.cl hr (by decide) (pv 0)) qA2 (qAd _)))).pt (qA7 (qAk (qAb qAm (pv 1) qA2 (fun _ _=>rfl)))) qAu)
   (qA7 (qAk (qAb qAm (pv 1) qA2 (fun _ _=>rfl)))))),?_⟩
  dsimp only [qBp,qB9]
  rcases hok with h | ⟨x,h,h1,h2⟩ | ⟨x,y,h,hxy,h1,h2,h3,h4⟩
  ·refine hide fun G_ hG_ => ?_
   subst h
   obtain⟨a,vs,rfl,hT,hDL⟩:=hD.ofTuple
   obtain⟨v1,r1,rfl,c1,d1⟩:=hDL.ofCons
   have:=d1.ofNil
   subst this
   cases c1.ofStr
   refine hG_ ?_
   walk_at "rg"
   refine qB5 ?_
   walk_at "rg"
   rw [decide_eq_true (by rfl)]
   refine iteT ?_
   walk_at "rg"
   exact q H hS fun _ _=>rfl
  ·refine hide fun G_ hG_ => ?_
   subst h
   obtain⟨a,vs,rfl,hT,hDL⟩:=hD.ofTuple
   obtain⟨v1,r1,rfl,c1,d1⟩:=hDL.ofCons
   obtain⟨v2,r2,rfl,c2,d2⟩:=d1.ofCons
   have:=d2.ofNil
   subst this
   cases c1.ofStr
   cases c2.ofInt
   refine hG_ ?_
   walk_at "rg"
   refine qB5 ?_
   walk_at "rg"
   rw [decide_eq_false (by decide +kernel)]
   refine iteF ?_
   walk_at "rg"
   refine qB5 ?_
   walk_at "rg"
   rw [decide_eq_true (by rfl)]
   refine iteT ?_
   refine iteT ?_
   walk_at "rg"
   exact q H hS fun _ _=>rfl
  ·refine hide fun G_ hG_ => ?_
   subst h
   obtain⟨a,vs,rfl,hT,hDL⟩:=hD.ofTuple
   obtain⟨v1,r1,rfl,c1,d1⟩:=hDL.ofCons
   obtain⟨v2,r2,rfl,c2,d2⟩:=d1.ofCons
   obtain⟨v3,r3,rfl,c3,d3⟩:=d2.ofCons
   have:=d3.ofNil
   subst this
   cases c1.ofStr
   cases c2.ofInt
   cases c3.ofInt
   refine hG_ ?_
   walk_at "rg"
   refine qB5 ?_
   walk_at "rg"
   rw [decide_eq_false (by decide +kernel)]
   refine iteF ?_
   walk_at "rg"
   refine qB5 ?_
   walk_at "rg"
   rw [decide_eq_false (by decide +kernel)]
   refine iteF ?_
   walk_at "rg"
   refine⟨r.self,r.dx,_,rfl,hS,by rfl,?_⟩
   walk_at "rg"
   refine⟨r,most,sh,state,steps,k,depth,sv,bk,ch,rfl,rfl,hS,hC,hk,hl,?_⟩
   have hT2:SqT K (upd H r.self (selfO r most sh state steps (k+1) depth sv bk)) a [V.str "fork",.int x,.int y]:=qO9 hS hT
   walk_at "rg"
   refine qC1 ?_
   walk_at "rg"
   have hne:qB1 ch k len [x,y]=(if getB ch k=0 then x else y,k+1):=by
    show ((if k+1>ch.length\/getB ch k=0 then x else y),k+1)=_
    by_cases hg:getB ch k=0
    ·rw [if_pos (.inr hg),if_pos hg]
    ·have : ¬(k+1>(ch.length:Int)\/getB ch k=0):=by
      rintro (z | z)
      ·refine hg ?_
       unfold getB
       rw [List.getD_eq_getElem?_getD,List.getElem?_eq_none (by omega)];rfl
      ·exact hg z
     rw [if_neg this,if_neg hg]
   by_cases hg:getB ch k=0
   ·rw [decide_eq_true hg]
    refine iteT ?_
    walk_at "rg"
    rw [hne,if_pos hg] at q
    exact q _ qA1 fun b hb=>qA6 hb
   ·rw [decide_eq_false hg]
    refine iteF ?_
    walk_at "rg"
    rw [hne,if_neg hg] at q
    exact q _ qA1 fun b hb=>qA6 hb
end
section
variable {P:Program} {w:World} {K:PySem.W.Frag} {mg:Str->Option Value} {base:Heap}
abbrev qFc:Stmt:=qC9 (top 3) 5
theorem scCount:FnScope ["self","here","way","key"] ["self","here","way"] (qA8 qFc):=⟨rfl,rfl,rfl,by decide +kernel,rfl,by decide +kernel,by decide +kernel⟩
theorem qPa {f C CC:Addr} {fd:FuncData} (F:Fun K "count_way" "Running.count_way" qFc f fd) (T:RTx K C CC):FnOk P w K mg base CX0 1 f fd ["self","here","way"] (qF8 P w K C CC):=by
 refine F.ok scCount (fun vs H Q E h => ?_) (fun cdv A outer s H vs Q E hr h => ?_)
 ·refine hide fun G_ hG_ => ?_
  obtain⟨r,most,sh,state,steps,forks,depth,sv,bk,hp,hdx,hb,hg,ha,wy,n,w0,w1,ks,rfl,_⟩:=h
  refine hG_ ?_
  rfl
 ·refine hide fun G_ hG_ => ?_
  obtain⟨r,most,sh,state,steps,forks,depth,sv,bk,hp,hdx,hb,hg,ha,wy,n,w0,w1,ks,rfl,rfl,rfl,hS,hH,hW,hG,hN,hl,q⟩:=h
  refine hG_ ?_
  have hu:(A.deeper (PyProof.Rows.envOfC "Running.count_way" (qA8 qFc) s.heap.objs.size f cdv)).units+20<cLine:=by have:=hr.un;omega
  refine⟨_,(qA3 (qAe (i:=3) scCount.nd rfl (Or.inl rfl) (qB7 (qA0 (qB0 (pv 1) rfl) (qA0 (pv 2) qA4))))
   (qA7 (qOq hu (qB0 (pv 0) rfl) (pv 3) (qAp qAx (qOy hu (qB0 (pv 0) rfl) (pv 3) qA2 ⟨rfl,rfl,rfl,rfl⟩) qA2) rfl))),?_⟩
  dsimp only [qBp,qB9]
  walk_at "rg"
  refine⟨_,_,_,_,_,rfl,hH,T.ccl,T.number,qEb _ _ _ _,?_⟩
  walk_at "rg"
  refine⟨len2 (by show 2<=1000;decide),fun p hp' => ?_⟩
  have X1:Ext [] H (upd H p (.tup [.int n,.ref wy])) :=.laid hp'
  have hp1:(upd H p (.tup [.int n,.ref wy])) p=some (.tup [.int n,.ref wy]):=qA1
  generalize upd H p (.tup [.int n,.ref wy])=H1 at X1 hp1 ⊢
  have hS1:=X1 _ _ (by simp) hS
  have hG1:=X1 _ _ (by simp) hG
  have hW1:=X1 _ _ (by simp) hW
  have hN1:qBv H1 ks:=fun x hx=>(hN x hx).mono X1 (by simp)
  have hK1:NestAt H1 (n,w0,w1) p:=⟨wy,hp1,hW1⟩
  walk_at "rg"
  refine⟨_,_,_,_,_,rfl,hS1,T.cl,T.gone,qJ4 _ _ _ _ _ _ _ _ _,?_⟩
  refine⟨r.ga,ks,rfl,hG1,?_⟩
  walk_at "rg"
  refine⟨ks,(n,w0,w1),p,rfl,hG1,hN1,hK1,?_⟩
  have hv:(lookN ks (n,w0,w1)).elim (V.int 0) V.int=V.int ((lookN ks (n,w0,w1)).getD 0):=by cases lookN ks (n,w0,w1) <;> rfl
  rw [hv]
  walk_at "rg"
  refine⟨_,_,_,_,_,rfl,hS1,T.cl,T.gone,qJ4 _ _ _ _ _ _ _ _ _,?_⟩
  walk_at "rg"
  refine⟨r.ga,ks,(n,w0,w1),p,_,rfl,rfl,rfl,hG1,hN1,hK1,by rw [sizeLine_eq];omega,?_⟩
  have np:p≠r.ga:=(qA5 hG hp').symm
  have nw:wy≠r.ga:=fun z=>by rw [z,hG] at hW;cases hW
  exact q p _ hp' ((X1.mono (by simp)).trans (.put (by simp))) qA1 ⟨wy,by rw [qA6 np];exact hp1,by rw [qA6 nw];exact hW1⟩
end
section
variable {P:Program} {w:World} {K:PySem.W.Frag} {mg:Str->Option Value} {base:Heap}
abbrev sLay:Stmt:=qC9 (top 3) 8
theorem scLay:FnScope ["self","here","deed","word","box"] ["self","here","deed"] (qA8 sLay):=⟨rfl,rfl,rfl,by decide +kernel,rfl,by decide +kernel,by decide +kernel⟩
theorem qUw {f C CC:Addr} {fd:FuncData} (F:Fun K "lay" "Running.lay" sLay f fd) (T:RTx K C CC):FnOk P w K mg base CX0 1 f fd ["self","here","deed"] (qO6 P w K C CC):=by
 refine F.ok scLay (fun vs H Q E h => ?_) (fun cdv A outer s H vs Q E hr h => ?_)
 ·refine hide fun G_ hG_ => ?_
  obtain⟨r,g,G0,m,f,rest,hp,hb,hg,ha,dv,d,rfl,_⟩:=h
  refine hG_ ?_
  rfl
 ·refine hide fun G_ hG_ => ?_
  obtain⟨r,g,G0,m,fr,rest,hp,hb,hg,ha,dv,d,rfl,pre,hD,hAt,hsb,q1,q2⟩:=h
  obtain⟨gv,ra,ms,R,c,est,rfl,rfl⟩:=pre
  have hu:=qLf hr
  have hmean:=hAt.plain gv hsb
  have hok:=hAt.ok gv
  have hst:=qGm est hAt
  have hheld:=ms.held
  have hfr:=ms.top est
  have hal:=qR9 hfr.as
  obtain⟨hdx,hob⟩:=c.ob
  refine hG_ ?_
  have hbx:=c.bx
  have hmine:mine g m fr=m.held:=by unfold mine;rw [hmean,if_neg Bool.false_ne_true]
  rw [hmine] at hbx
  have nself:=c.nself R
  have nha:=c.nha
  have nas:ha≠r.self/\ha≠r.ta/\ha≠r.fa/\ha≠r.ba/\ha≠r.ga:=by
   refine hide fun G_ hG_ => ?_
   obtain⟨fl,R3,_⟩:=R.flt
   obtain⟨ks,R4,_⟩:=R.gone
   refine hG_ ?_
   have ea:=c.as
   refine⟨fun z => ?_,fun z => ?_,fun z => ?_,fun z => ?_,fun z => ?_⟩
   ·rw [z,R.ob] at ea;cases ea
   ·rw [z,R.told] at ea;cases ea
   ·rw [z,R3] at ea;cases ea
   ·rw [z,R.held] at ea;cases ea
   ·rw [z,R4] at ea;cases ea
  refine⟨_,(qA3 (qCy (pv 2) (qGk (n:=2) rfl (qAs (qAg (i:=3) scLay.nd rfl (Or.inl rfl)) (qAs (qAg (i:=4) scLay.nd rfl (Or.inl rfl)) qC6))))
   (qA3 (qBa (qA9 qBc (pv 3) qAc (qAd _)) (qA3 (qDr hu (qB0 (pv 1) rfl) (pv 4) (qAb qAa (qB0 (pv 1) rfl) (pv 4) (fun _ _=>rfl)) rfl)
   (qA3 (qCl (pv 0) qA2 qIe)
   (qA7 (qAk qD7)))) qAu)
   (qA3 (qBa (qMk (qHz hu (pv 4) (qB0 (pv 1) rfl))) (qA7 (qAk qAc)) qAu)
   (qA3 (qCy (qBb hu (qB0 (pv 1) rfl) (pv 4) (fun _ _=>rfl)) (qD6 (qB0 (pv 1) rfl) (pv 4) qBm))
   (qA3 (qCl (pv 0) qA2 qIe)
   (qA7 (qAk qD7))))))),?_⟩
  dsimp only [qBp,qB9]
  walk_at "rg"
  rcases hsb with ⟨b,rfl⟩ | ⟨b,rfl⟩
  ·refine hide fun G_ hG_ => ?_
   obtain⟨b0,b1⟩:0<=b/\b<8:=hok
   obtain⟨da,dvs,rfl,hT,hDL⟩:=hD.ofTuple
   obtain⟨v1,r1,rfl,c1,d1⟩:=hDL.ofCons
   obtain⟨v2,r2,rfl,c2,d2⟩:=d1.ofCons
   have:=d2.ofNil
   subst this
   cases c1.ofStr
   cases c2.ofInt
   refine hG_ ?_
   refine qD3 hT rfl ?_
   walk_at "rg"
   refine qB5 ?_
   walk_at "rg"
   rw [decide_eq_true (by rfl)]
   refine iteT ?_
   walk_at "rg"
   refine⟨_,_,_,_,_,rfl,hob,T.ccl,T.cboxes,qCg _ _ _ _,?_⟩
   walk_at "rg"
   refine qAq (SqL.of hbx) (qCb b0 (by omega)) ?_
   walk_at "rg"
   refine⟨_,_,_,_,_,rfl,hob,T.ccl,T.aside,qHh _ _ _ _,?_⟩
   walk_at "rg"
   refine⟨ha,_,rfl,DPut.k (k:=Sum.inl b) c.as (qAn (by unfold asD;rw [List.length_map];omega)),?_⟩
   rw [qNx]
   have e1:Ext [ha] H (upd H ha (.dK (asD (putA fr.as b (getB m.held b))))) :=.put (by simp)
   have R1:=R.other e1 (fun xs h=>by rw [c.as] at h;cases h) nas c.na
   have c1:=c.setAs (putA fr.as b (getB m.held b))
   generalize upd H ha (.dK (asD (putA fr.as b (getB m.held b))))=H1 at e1 R1 c1 ⊢
   walk_at "rg"
   refine⟨_,_,_,_,_,rfl,R1.ob,T.cl,T.saves,qOg _ _ _ _ _ _ _ _ _,?_⟩
   walk_at "rg"
   refine⟨_,_,rfl,rfl,_,_,R1.ob,qFd _ _ _ _ _ _ _ _ _,?_⟩
   rw [qOd]
   have R2:=R1.setSelf ra m.steps m.taken m.st.length (m.sv+1) m.bk
   have e2:Ext [r.self] H1 (upd H1 r.self (selfO r g.most (!g.mean) "ended" m.steps m.taken m.st.length (m.sv+1) m.bk)) :=.put (by simp)
   have c2:=c1.after R1 R2 (e2.mono fun z hz=>by rw [List.mem_singleton.mp hz];exact qCd)
   generalize upd H1 r.self (selfO r g.most (!g.mean) "ended" m.steps m.taken m.st.length (m.sv+1) m.bk)=H2 at e2 R2 c2 ⊢
   walk_at "rg"
   refine q1 { m with sv:=m.sv+1,st :={ fr with pos:=fr.pos+1,as:=putA fr.as b (getB m.held b) }::rest } { fr with pos:=fr.pos+1,as:=putA fr.as b (getB m.held b) } H2 (.one hst) rfl rfl rfl rfl rfl ?_ (c2.eq rfl rfl rfl rfl) ((e1.mono (by simp)).trans (e2.mono fun z hz=>by rw [List.mem_singleton.mp hz];simp [mutR]))
   have:((({ fr with pos:=fr.pos+1,as:=putA fr.as b (getB m.held b) }:Fr)::rest).length:Int)=m.st.length:=by rw [est];rfl
   show RunAt P w g r G0 H2 _ m.steps m.taken ((({ fr with pos:=fr.pos+1,as:=putA fr.as b (getB m.held b) }:Fr)::rest).length:Int)
   rw [this]
   exact R2.same rfl rfl rfl rfl rfl rfl (by show m.steps - (m.st.length:Int)<=m.steps - _;rw [this];exact Int.le_refl _)
  ·refine hide fun G_ hG_ => ?_
   obtain⟨b0,b1⟩:0<=b/\b<8:=hok
   obtain⟨da,dvs,rfl,hT,hDL⟩:=hD.ofTuple
   obtain⟨v1,r1,rfl,c1,d1⟩:=hDL.ofCons
   obtain⟨v2,r2,rfl,c2,d2⟩:=d1.ofCons
   have:=d2.ofNil
   subst this
   cases c1.ofStr
   cases c2.ofInt
   refine hG_ ?_
   refine qD3 hT rfl ?_
   walk_at "rg"
   refine qB5 ?_
   walk_at "rg"
   rw [decide_eq_false (by decide +kernel)]
   refine iteF ?_
   walk_at "rg"
   refine⟨_,_,_,_,_,rfl,hob,T.ccl,T.aside,qHh _ _ _ _,?_⟩
   refine⟨ha,_,rfl,DGet.k (k:=Sum.inl b) c.as,?_⟩
   rw [qFz]
   walk_at "rg"
   cases hlk:fr.as.lookup b with
   | none =>
    refine iteT ?_
    walk_at "rg"
    refine q2 { m with st :={ fr with pos:=fr.pos+1 }::rest } 3 m H m.steps m.taken m.st.length .refl ?_ (by decide) ?_
    ·rw [hst]
     simp only [mdeed]
     rw [hlk]
    ·exact R.same rfl rfl rfl rfl rfl rfl (by show m.steps - (m.st.length:Int)<=m.steps - (({ fr with pos:=fr.pos+1 }::rest:List Fr).length:Int);rw [est];simp)
   | some v =>
    refine iteF ?_
    walk_at "rg"
    refine⟨_,_,_,_,_,rfl,hob,T.ccl,T.aside,qHh _ _ _ _,?_⟩
    walk_at "rg"
    refine⟨ha,.int v,rfl,by have:=DGet.k (k:=Sum.inl b) c.as;rw [qFz,hlk] at this;exact this,?_⟩
    walk_at "rg"
    refine⟨_,_,_,_,_,rfl,hob,T.ccl,T.cboxes,qCg _ _ _ _,?_⟩
    walk_at "rg"
    obtain⟨j,rfl⟩:=Int.eq_ofNat_of_zero_le b0
    refine qCc (n:=j) hbx (by rw [List.length_map];exact qEj (by omega)) ?_
    rw [qEg]
    have hbb:=c.sh hmean
    have e1:Ext [hb] H (upd H hb (.lst ((putB m.held (j:Int) v).map V.int))) :=.put (by simp)
    have R1:RunAt P w g r G0 (upd H hb (.lst ((putB m.held (j:Int) v).map V.int))) { m with held:=putB m.held (j:Int) v } m.steps m.taken m.st.length:=by rw [hbb];exact R.setHeld ra _
    have c1:=c.setBx (m' :={ m with held:=putB m.held (j:Int) v }) (f' :={ fr with pos:=fr.pos+1 }) (putB m.held (j:Int) v) (by unfold mine;rw [hmean,if_neg Bool.false_ne_true]) rfl (fun _=>rfl) rfl
    generalize upd H hb (.lst ((putB m.held (j:Int) v).map V.int))=H1 at e1 R1 c1 ⊢
    walk_at "rg"
    refine⟨_,_,_,_,_,rfl,R1.ob,T.cl,T.backs,qOi _ _ _ _ _ _ _ _ _,?_⟩
    walk_at "rg"
    refine⟨_,_,rfl,rfl,_,_,R1.ob,qFd _ _ _ _ _ _ _ _ _,?_⟩
    rw [qOf]
    have R2:=R1.setSelf ra m.steps m.taken m.st.length m.sv (m.bk+1)
    have e2:Ext [r.self] H1 (upd H1 r.self (selfO r g.most (!g.mean) "ended" m.steps m.taken m.st.length m.sv (m.bk+1))) :=.put (by simp)
    have c2:=c1.after R1 R2 (e2.mono fun z hz=>by rw [List.mem_singleton.mp hz];exact qCd)
    have hR2 : ∀sv,RunAt P w g r G0 (upd H1 r.self (selfO r g.most (!g.mean) "ended" m.steps m.taken m.st.length sv (m.bk+1))) { m with held:=putB m.held (j:Int) v,sv:=sv,bk:=m.bk+1 } m.steps m.taken m.st.length:=fun sv=>R1.setSelf ra m.steps m.taken m.st.length sv (m.bk+1)
    walk_at "rg"
    refine q1 { m with held:=putB m.held (j:Int) v,bk:=m.bk+1,st :={ fr with pos:=fr.pos+1 }::rest } { fr with pos:=fr.pos+1 } _ (.one ?_) rfl rfl rfl rfl rfl ?_ (c2.eq rfl rfl rfl rfl) ((e1.mono (by simp)).trans (e2.mono fun z hz=>by rw [List.mem_singleton.mp hz];simp [mutR]))
    ·rw [hst]
     simp only [mdeed]
     rw [hlk]
    ·have:((({ fr with pos:=fr.pos+1 }:Fr)::rest).length:Int)=m.st.length:=by rw [est];rfl
     show RunAt P w g r G0 _ _ m.steps m.taken ((({ fr with pos:=fr.pos+1 }:Fr)::rest).length:Int)
     rw [this]
     exact (hR2 m.sv).same rfl rfl rfl rfl rfl rfl (by show m.steps - (m.st.length:Int)<=m.steps - _;rw [this];exact Int.le_refl _)
end
section
variable {P:Program} {w:World} {K:PySem.W.Frag} {mg:Str->Option Value} {base:Heap}
abbrev sAct:Stmt:=qC9 (top 3) 9
theorem scAct:FnScope ["self","here","deed","stop","word"] ["self","here","deed"] (qA8 sAct):=⟨rfl,rfl,rfl,by decide +kernel,rfl,by decide +kernel,by decide +kernel⟩
theorem qUy {f C CC:Addr} {fd:FuncData} {N:Nat} (F:Fun K "act" "Running.act" sAct f fd) (T:RTx K C CC) (hS:HasM P w K mg base C "step" 1 ["self"] (qHq C)) (hC:HasM P w K mg base C "call" (4*N+4) ["self","number","boxes"] (qF9 P w K C CC N)) :
  FnOk P w K mg base CX0 (4*N+5) f fd ["self","here","deed"] (qRj P w K C CC N):=by
 refine F.ok scAct (fun vs H Q E h => ?_) (fun cdv A outer s H vs Q E hr h => ?_)
 ·refine hide fun G_ hG_ => ?_
  obtain⟨r,g,G0,m,f,rest,hp,hb,hg,ha,dv,d,rfl,_⟩:=h
  refine hG_ ?_
  rfl
 ·refine hide fun G_ hG_ => ?_
  obtain⟨r,g,G0,m,fr,rest,hp,hb,hg,ha,dv,d,rfl,pre,hD,hAt,hns,hnb,hN,q1,q2⟩:=h
  obtain⟨gv,ra,ms,R,c,est,rfl,rfl⟩:=pre
  have hu:=qLf hr
  have hok:=hAt.ok gv
  have hst:=qGm est hAt
  have hfr:=ms.top est
  have hml:=qDh ms hfr
  obtain⟨hdx,hob⟩:=c.ob
  refine hG_ ?_
  have nself:=c.nself R
  have hsteps:=ms.steps
  have hlen:((({ fr with pos:=fr.pos+1 }:Fr)::rest).length:Int)=m.st.length:=by rw [est];rfl
  have gmut : ∀x ∈ [r.self],x∈mutR g r:=fun z hz=>by rw [List.mem_singleton.mp hz];exact qCd
  refine⟨_,(qA3 (qAe (i:=3) scAct.nd rfl (Or.inl rfl) (qMp hS T.cl hr (by omega) (pv 0)))
   (qA3 (qBa (qA9 qFl (pv 3) qD7 (qAd _)) (qA7 (qAk (pv 3))) qAu)
   (qA3 (qAe (i:=4) scAct.nd rfl (Or.inl rfl) (qAb qAm (pv 2) qA2 (fun _ _=>rfl)))
   (qA3 (qBa (qA9 qBc (pv 4) qAc (qAd _)) (qA7 (qAk (qH7 hC T.cl hr (by omega) (pv 0) (qA0 (qAb qAm (pv 2) qA2 (fun _ _=>rfl)) (qA0 (qB0 (pv 1) rfl) qA4))))) qAu)
   (qA3 (qBa (qA9 qBc (pv 4) qAc (qAd _)) (qA7 (qCy (qAb qAm (pv 2) qA2 (fun _ _=>rfl)) (qD6 (qB0 (pv 1) rfl) (qAb qAm (pv 2) qA2 (fun _ _=>rfl)) qBm))) (qA7 (qBa (qA9 qBc (pv 4) qAc (qAd _)) (qA7 (qS5 (qB0 (pv 1) rfl) (qAb qAm (pv 2) qA2 (fun _ _=>rfl)) qPv (qAb qAa (qB0 (pv 1) rfl) (qAb qAm (pv 2) qA2 (fun _ _=>rfl)) (fun _ _=>rfl)) qVc qBm)) (qA7 (qBe (qDs PySem.F.plainAttrs_list PySem.F.slot_list_append PySem.F.type_list_append qBh (qB0 (pv 0) rfl) (qA0 (qAb qAa (qB0 (pv 1) rfl) (qAb qAm (pv 2) qA2 (fun _ _=>rfl)) (fun _ _=>rfl)) qA4)))))))
   (qA7 (qAk qD7))))))),?_⟩
  dsimp only [qBp,qB9]
  walk_at "rg"
  refine⟨r.self,r.dx,_,rfl,R.ob,by rfl,?_⟩
  walk_at "rg"
  refine⟨r,g.most,!g.mean,"ended",m.steps,m.taken,m.st.length,m.sv,m.bk,rfl,rfl,R.ob,fun hgo => ?_,fun hgo => ?_⟩
  ·have hmost:m.steps=g.most:=by omega
   walk_at "rg"
   refine⟨rfl,?_⟩
   rw [decide_eq_false (by intro z;cases z)]
   walk_at "rg"
   refine iteT ?_
   walk_at "rg"
   refine q2 { m with st :={ fr with pos:=fr.pos+1 }::rest } 1 m H m.steps m.taken m.st.length .refl ?_ (by decide) (R.same rfl rfl rfl rfl rfl rfl (by show m.steps - (m.st.length:Int)<=m.steps - _;rw [hlen];exact Int.le_refl _))
   rw [hst]
   cases d with
   | save b=>exact absurd rfl (hns b)
   | back b=>exact absurd rfl (hnb b)
   | call x=>simp only [mdeed];rw [if_pos hmost]
   | tell b=>simp only [mdeed];rw [if_pos hmost]
   | set b v=>simp only [mdeed];rw [if_pos hmost]
   | add b o=>simp only [mdeed];rw [if_pos hmost]
  ·have hmost : ¬m.steps=g.most:=by omega
   have R1:=R.setSelf ra (m.steps+1) m.taken m.st.length m.sv m.bk
   have e1:Ext [r.self] H (upd H r.self (selfO r g.most (!g.mean) "ended" (m.steps+1) m.taken m.st.length m.sv m.bk)) :=.put (by simp)
   have c1:=c.after R R1 (e1.mono gmut)
   have hD1:Den K (upd H r.self (selfO r g.most (!g.mean) "ended" (m.steps+1) m.taken m.st.length m.sv m.bk)) (deedD d) dv:=by
    refine Den.mono (fun b o hb => ?_) (Den.offIns R.ob hD)
    by_cases z:b ∈ [r.self]
    ·rw [qO2 z] at hb;cases hb
    ·rw [qF2 z] at hb;exact e1 _ _ z hb
   generalize upd H r.self (selfO r g.most (!g.mean) "ended" (m.steps+1) m.taken m.st.length m.sv m.bk)=H1 at R1 e1 c1 hD1 ⊢
   have E1:Ext (hb::ha::mutR g r) H H1:=e1.mono fun z hz=>by rw [List.mem_singleton.mp hz];simp [mutR]
   obtain⟨hdx1,hob1⟩:=c1.ob
   have hbx1:=c1.bx
   walk_at "rg"
   refine⟨rfl,?_⟩
   rw [decide_eq_true rfl]
   walk_at "rg"
   refine iteF ?_
   walk_at "rg"
   cases d with
   | save b=>exact absurd rfl (hns b)
   | back b=>exact absurd rfl (hnb b)
   | call x =>
    refine hide fun G_ hG_ => ?_
    obtain⟨x0,x1⟩:0<=x/\x<(g.ws.length:Int):=hok
    obtain⟨da,dvs,rfl,hT,hDL⟩:=hD1.ofTuple
    obtain⟨v1,r1,rfl,k1,d1⟩:=hDL.ofCons
    obtain⟨v2,r2,rfl,k2,d2⟩:=d1.ofCons
    have:=d2.ofNil
    subst this
    cases k1.ofStr
    cases k2.ofInt
    refine hG_ ?_
    walk_at "rg"
    refine qB5 ?_
    walk_at "rg"
    rw [decide_eq_true (by rfl)]
    refine iteT ?_
    walk_at "rg"
    refine⟨r.self,r.dx,_,rfl,R1.ob,by rfl,?_⟩
    walk_at "rg"
    refine⟨_,_,_,_,_,rfl,hob1,T.ccl,T.cboxes,qCg _ _ _ _,?_⟩
    walk_at "rg"
    have hl2:((({ fr with pos:=fr.pos+1 }:Fr)::rest).length)=m.st.length:=by rw [est];rfl
    have R2:RunAt P w g r G0 H1 { m with steps:=m.steps+1,st :={ fr with pos:=fr.pos+1 }::rest } (m.steps+1) m.taken ((({ fr with pos:=fr.pos+1 }:Fr)::rest).length:Int):=by
     rw [hlen]
     exact R1.same rfl rfl rfl rfl rfl rfl (by show m.steps - (m.st.length:Int)<=m.steps+1 - _;rw [hlen];omega)
    have R2p:RunAt P w g r G0 H1 (qB3 { m with steps:=m.steps+1,st :={ fr with pos:=fr.pos+1 }::rest } x (mine g m fr)) (m.steps+1) m.taken ((({ fr with pos:=fr.pos+1 }:Fr)::rest).length:Int):=by
     rw [hlen]
     refine R1.same rfl rfl rfl rfl rfl rfl ?_
     show m.steps - (m.st.length:Int)<=m.steps+1 - (((⟨x.toNat,-1,0,-1,mine g m fr,[]⟩:Fr)::({ fr with pos:=fr.pos+1 }:Fr)::rest).length:Int)
     rw [est];simp only [List.length_cons];push_cast;omega
    refine⟨r,g,G0,{ m with steps:=m.steps+1,st :={ fr with pos:=fr.pos+1 }::rest },x,hb,mine g m fr,rfl,rfl,rfl,gv,ra,R2p,by rw [hl2];exact ms.deep,hbx1,hml,fun hm=>⟨c.sh hm,by unfold mine;rw [hm,if_neg Bool.false_ne_true]⟩,x0,by rw [hl2];exact hN,fun h20 => ?_,fun h20 => ?_⟩
    ·rw [hl2] at h20
     refine q2 { m with st :={ fr with pos:=fr.pos+1 }::rest } 2 m H1 (m.steps+1) m.taken m.st.length .refl ?_ (by decide) (R1.same rfl rfl rfl rfl rfl rfl (by show m.steps - (m.st.length:Int)<=m.steps - _;rw [hlen];exact Int.le_refl _))
     rw [hst]
     simp only [mdeed]
     rw [if_neg hmost,if_pos (by rw [est] at h20;simpa using h20)]
    ·rw [hl2] at h20
     have hst2:mstep g m=some (qB3 { m with steps:=m.steps+1,st :={ fr with pos:=fr.pos+1 }::rest } x (mine g m fr),0):=by
      rw [hst]
      simp only [mdeed]
      rw [if_neg hmost,if_neg (by rw [est] at h20;simp at h20;omega)]
      rfl
     refine⟨qE5 gv ms hst2,fun m' H' hgo hms RR ee => ?_,fun m' cc mid H' s' t' d' hgo hstp hcc RR=>q2 m' cc mid H' s' t' d' (.step hst2 hgo) hstp hcc RR⟩
     have c2:CallAt g r G0 H1 { m with steps:=m.steps+1,st :={ fr with pos:=fr.pos+1 }::rest } { fr with pos:=fr.pos+1 } hp hb hg ha:=c1.eq rfl rfl rfl rfl
     have hms:m'.st = { fr with pos:=fr.pos+1 }::rest:=hms
     refine q1 m' { fr with pos:=fr.pos+1 } H' (.step hst2 hgo) hms rfl rfl rfl rfl ?_ (c2.after R2 RR ee) (E1.trans (ee.mono fun z hz=>by simp [hz]))
     rw [hms];exact RR
   | tell b =>
    refine hide fun G_ hG_ => ?_
    obtain⟨b0,b1⟩:0<=b/\b<8:=hok
    obtain⟨da,dvs,rfl,hT,hDL⟩:=hD1.ofTuple
    obtain⟨v1,r1,rfl,k1,d1⟩:=hDL.ofCons
    obtain⟨v2,r2,rfl,k2,d2⟩:=d1.ofCons
    have:=d2.ofNil
    subst this
    cases k1.ofStr
    cases k2.ofInt
    refine hG_ ?_
    walk_at "rg"
    refine qB5 ?_
    walk_at "rg"
    rw [decide_eq_false (by decide +kernel)]
    refine iteF ?_
    walk_at "rg"
    refine qB5 ?_
    walk_at "rg"
    rw [decide_eq_false (by decide +kernel)]
    refine iteF ?_
    walk_at "rg"
    refine qB5 ?_
    walk_at "rg"
    rw [decide_eq_false (by decide +kernel)]
    refine iteF ?_
    walk_at "rg"
    refine⟨_,_,_,_,_,rfl,R1.ob,T.cl,T.told,qRr _ _ _ _ _ _ _ _ _,?_⟩
    refine qCz R1.told ?_
    walk_at "rg"
    refine⟨_,_,_,_,_,rfl,hob1,T.ccl,T.cboxes,qCg _ _ _ _,?_⟩
    walk_at "rg"
    have hbx2:H1 hb=some (.lst ((mine g m fr).map V.int)):=hbx1
    refine qAq (SqL.of hbx2) (qCb b0 (by omega)) ?_
    walk_at "rg"
    have htl:=ms.told
    have hmst:=gv.most
    refine qDl R1.told (by rw [List.length_map,sizeLine_eq];show m.told.length<_;omega) ?_
    have e2:Ext [r.ta] H1 (upd H1 r.ta (.lst (m.told.map V.int ++ [.int (getB (mine g m fr) b)]))) :=.put (by simp)
    have R2:RunAt P w g r G0 (upd H1 r.ta (.lst (m.told.map V.int ++ [.int (getB (mine g m fr) b)]))) { m with told:=m.told ++ [getB (mine g m fr) b] } (m.steps+1) m.taken m.st.length:=R1.setTold ra _
    have c2:=c1.after R1 R2 (e2.mono fun z hz=>by rw [List.mem_singleton.mp hz];exact qV0)
    walk_at "rg"
    have hst2:mstep g m=some ({ m with steps:=m.steps+1,told:=m.told ++ [getB (mine g m fr) b],st :={ fr with pos:=fr.pos+1 }::rest },0):=by
     rw [hst]
     simp only [mdeed]
     rw [if_neg hmost]
     rfl
    refine q1 _ { fr with pos:=fr.pos+1 } _ (.one hst2) rfl rfl rfl rfl rfl ?_ (c2.eq rfl rfl rfl rfl) (E1.trans (e2.mono fun z hz=>by rw [List.mem_singleton.mp hz];simp [mutR]))
    show RunAt P w g r G0 _ _ (m.steps+1) m.taken ((({ fr with pos:=fr.pos+1 }:Fr)::rest).length:Int)
    rw [hlen]
    exact R2.same rfl rfl rfl rfl rfl rfl (by show m.steps - (m.st.length:Int)<=m.steps+1 - ((_::rest).length:Int);rw [est];simp;omega)
   | set b v =>
    refine hide fun G_ hG_ => ?_
    obtain⟨b0,b1,_⟩:0<=b/\b<8/\_:=hok
    obtain⟨da,dvs,rfl,hT,hDL⟩:=hD1.ofTuple
    obtain⟨v1,r1,rfl,k1,d1⟩:=hDL.ofCons
    obtain⟨v2,r2,rfl,k2,d2⟩:=d1.ofCons
    obtain⟨v3,r3,rfl,k3,d3⟩:=d2.ofCons
    have:=d3.ofNil
    subst this
    cases k1.ofStr
    cases k2.ofInt
    cases k3.ofInt
    have hbx2:H1 hb=some (.lst ((mine g m fr).map V.int)):=hbx1
    obtain⟨j,rfl⟩:=Int.eq_ofNat_of_zero_le b0
    refine hG_ ?_
    have hjl:j<(mine g m fr).length:=by omega
    have fin : ∀(y:Int),mdeed g m { fr with pos:=fr.pos+1 } rest (.set (j:Int) v)=(setMine g { m with steps:=m.steps+1 } { fr with pos:=fr.pos+1 } rest (putB (mine g m fr) (j:Int) y),0)->Q .non (upd H1 hb (.lst ((putB (mine g m fr) (j:Int) y).map V.int))):=by
     intro y hy
     have e2:Ext [hb] H1 (upd H1 hb (.lst ((putB (mine g m fr) (j:Int) y).map V.int))) :=.put (by simp)
     have hst2:mstep g m=some (setMine g { m with steps:=m.steps+1 } { fr with pos:=fr.pos+1 } rest (putB (mine g m fr) (j:Int) y),0):=by rw [hst,hy]
     unfold setMine at hst2
     cases hm:g.mean with
     | true =>
      rw [hm,if_pos rfl] at hst2
      have hbself:hb≠r.self:=fun z=>by rw [z,R1.ob] at hbx2;cases hbx2
      have hbga:hb≠r.ga:=fun z=>by obtain⟨ks,R4,_⟩:=R1.gone;rw [z,R4] at hbx2;cases hbx2
      have R2:=R1.other e2 (fun xs h=>by rw [hbx2] at h;cases h) ⟨hbself,c.nt,c.nf,c.ow hm,hbga⟩ c.nb
      have c2:=c1.setBx (m':=m) (f' :={ fr with pos:=fr.pos+1,bx:=putB (mine g m fr) (j:Int) y }) (putB (mine g m fr) (j:Int) y) (by unfold mine;rw [hm,if_pos rfl,if_pos rfl]) rfl (fun z=>by rw [hm] at z;cases z) rfl
      refine q1 _ { fr with pos:=fr.pos+1,bx:=putB (mine g m fr) (j:Int) y } _ (.one hst2) rfl rfl rfl rfl rfl ?_ (c2.eq rfl rfl rfl rfl) (E1.trans (e2.mono (by simp)))
      show RunAt P w g r G0 _ _ (m.steps+1) m.taken ((({ fr with pos:=fr.pos+1,bx:=putB (mine g m fr) (j:Int) y }:Fr)::rest).length:Int)
      rw [show ((({ fr with pos:=fr.pos+1,bx:=putB (mine g m fr) (j:Int) y }:Fr)::rest).length:Int)=m.st.length by rw [est];rfl]
      exact R2.same rfl rfl rfl rfl rfl rfl (by show m.steps - (m.st.length:Int)<=m.steps+1 - ((_::rest).length:Int);rw [est];simp;omega)
     | false =>
      rw [hm,if_neg Bool.false_ne_true] at hst2
      have hbb:=c.sh hm
      have R2:RunAt P w g r G0 (upd H1 hb (.lst ((putB (mine g m fr) (j:Int) y).map V.int))) { m with held:=putB (mine g m fr) (j:Int) y } (m.steps+1) m.taken m.st.length:=by rw [hbb];exact R1.setHeld ra _
      have c2:=c1.setBx (m' :={ m with held:=putB (mine g m fr) (j:Int) y }) (f' :={ fr with pos:=fr.pos+1 }) (putB (mine g m fr) (j:Int) y) (by unfold mine;rw [hm,if_neg Bool.false_ne_true,if_neg Bool.false_ne_true]) rfl (fun _=>rfl) rfl
      refine q1 _ { fr with pos:=fr.pos+1 } _ (.one hst2) rfl rfl rfl rfl rfl ?_ (c2.eq rfl rfl rfl rfl) (E1.trans (e2.mono (by simp)))
      show RunAt P w g r G0 _ _ (m.steps+1) m.taken ((({ fr with pos:=fr.pos+1 }:Fr)::rest).length:Int)
      rw [hlen]
      exact R2.same rfl rfl rfl rfl rfl rfl (by show m.steps - (m.st.length:Int)<=m.steps+1 - ((_::rest).length:Int);rw [est];simp;omega)
    walk_at "rg"
    refine qB5 ?_
    walk_at "rg"
    rw [decide_eq_false (by decide +kernel)]
    refine iteF ?_
    walk_at "rg"
    refine qB5 ?_
    walk_at "rg"
    rw [decide_eq_true (by rfl)]
    refine iteT ?_
    walk_at "rg"
    refine⟨_,_,_,_,_,rfl,hob1,T.ccl,T.cboxes,qCg _ _ _ _,?_⟩
    walk_at "rg"
    refine qCc (n:=j) hbx2 (by rw [List.length_map];exact qEj hjl) ?_
    rw [qEg]
    walk_at "rg"
    refine fin v ?_
    simp only [mdeed]
    rw [if_neg hmost]
    rfl
   | add b o =>
    refine hide fun G_ hG_ => ?_
    obtain⟨b0,b1,o0,o1⟩:0<=b/\b<8/\0<=o/\o<8:=hok
    obtain⟨da,dvs,rfl,hT,hDL⟩:=hD1.ofTuple
    obtain⟨v1,r1,rfl,k1,d1⟩:=hDL.ofCons
    obtain⟨v2,r2,rfl,k2,d2⟩:=d1.ofCons
    obtain⟨v3,r3,rfl,k3,d3⟩:=d2.ofCons
    have:=d3.ofNil
    subst this
    cases k1.ofStr
    cases k2.ofInt
    cases k3.ofInt
    have hbx2:H1 hb=some (.lst ((mine g m fr).map V.int)):=hbx1
    obtain⟨j,rfl⟩:=Int.eq_ofNat_of_zero_le b0
    refine hG_ ?_
    have hjl:j<(mine g m fr).length:=by omega
    have fin : ∀(y:Int),mdeed g m { fr with pos:=fr.pos+1 } rest (.add (j:Int) o)=(setMine g { m with steps:=m.steps+1 } { fr with pos:=fr.pos+1 } rest (putB (mine g m fr) (j:Int) y),0)->Q .non (upd H1 hb (.lst ((putB (mine g m fr) (j:Int) y).map V.int))):=by
     intro y hy
     have e2:Ext [hb] H1 (upd H1 hb (.lst ((putB (mine g m fr) (j:Int) y).map V.int))) :=.put (by simp)
     have hst2:mstep g m=some (setMine g { m with steps:=m.steps+1 } { fr with pos:=fr.pos+1 } rest (putB (mine g m fr) (j:Int) y),0):=by rw [hst,hy]
     unfold setMine at hst2
     cases hm:g.mean with
     | true =>
      rw [hm,if_pos rfl] at hst2
      have hbself:hb≠r.self:=fun z=>by rw [z,R1.ob] at hbx2;cases hbx2
      have hbga:hb≠r.ga:=fun z=>by obtain⟨ks,R4,_⟩:=R1.gone;rw [z,R4] at hbx2;cases hbx2
      have R2:=R1.other e2 (fun xs h=>by rw [hbx2] at h;cases h) ⟨hbself,c.nt,c.nf,c.ow hm,hbga⟩ c.nb
      have c2:=c1.setBx (m':=m) (f' :={ fr with pos:=fr.pos+1,bx:=putB (mine g m fr) (j:Int) y }) (putB (mine g m fr) (j:Int) y) (by unfold mine;rw [hm,if_pos rfl,if_pos rfl]) rfl (fun z=>by rw [hm] at z;cases z) rfl
      refine q1 _ { fr with pos:=fr.pos+1,bx:=putB (mine g m fr) (j:Int) y } _ (.one hst2) rfl rfl rfl rfl rfl ?_ (c2.eq rfl rfl rfl rfl) (E1.trans (e2.mono (by simp)))
      show RunAt P w g r G0 _ _ (m.steps+1) m.taken ((({ fr with pos:=fr.pos+1,bx:=putB (mine g m fr) (j:Int) y }:Fr)::rest).length:Int)
      rw [show ((({ fr with pos:=fr.pos+1,bx:=putB (mine g m fr) (j:Int) y }:Fr)::rest).length:Int)=m.st.length by rw [est];rfl]
      exact R2.same rfl rfl rfl rfl rfl rfl (by show m.steps - (m.st.length:Int)<=m.steps+1 - ((_::rest).length:Int);rw [est];simp;omega)
     | false =>
      rw [hm,if_neg Bool.false_ne_true] at hst2
      have hbb:=c.sh hm
      have R2:RunAt P w g r G0 (upd H1 hb (.lst ((putB (mine g m fr) (j:Int) y).map V.int))) { m with held:=putB (mine g m fr) (j:Int) y } (m.steps+1) m.taken m.st.length:=by rw [hbb];exact R1.setHeld ra _
      have c2:=c1.setBx (m' :={ m with held:=putB (mine g m fr) (j:Int) y }) (f' :={ fr with pos:=fr.pos+1 }) (putB (mine g m fr) (j:Int) y) (by unfold mine;rw [hm,if_neg Bool.false_ne_true,if_neg Bool.false_ne_true]) rfl (fun _=>rfl) rfl
      refine q1 _ { fr with pos:=fr.pos+1 } _ (.one hst2) rfl rfl rfl rfl rfl ?_ (c2.eq rfl rfl rfl rfl) (E1.trans (e2.mono (by simp)))
      show RunAt P w g r G0 _ _ (m.steps+1) m.taken ((({ fr with pos:=fr.pos+1 }:Fr)::rest).length:Int)
      rw [hlen]
      exact R2.same rfl rfl rfl rfl rfl rfl (by show m.steps - (m.st.length:Int)<=m.steps+1 - ((_::rest).length:Int);rw [est];simp;omega)
    walk_at "rg"
    refine qB5 ?_
    walk_at "rg"
    rw [decide_eq_false (by decide +kernel)]
    refine iteF ?_
    walk_at "rg"
    refine qB5 ?_
    walk_at "rg"
    rw [decide_eq_false (by decide +kernel)]
    refine iteF ?_
    walk_at "rg"
    refine qB5 ?_
    walk_at "rg"
    rw [decide_eq_true (by rfl)]
    refine iteT ?_
    walk_at "rg"
    refine⟨_,_,_,_,_,rfl,hob1,T.ccl,T.cboxes,qCg _ _ _ _,?_⟩
    walk_at "rg"
    refine⟨hb,_,(j:Int),.int (getB (mine g m fr) (j:Int)),rfl,rfl,by omega,SqL.of hbx2,?_,?_⟩
    ·unfold getB
     rw [List.getElem?_map,List.getD_eq_getElem?_getD,Int.toNat_natCast,List.getElem?_eq_getElem hjl];rfl
    walk_at "rg"
    refine⟨_,_,_,_,_,rfl,hob1,T.ccl,T.cboxes,qCg _ _ _ _,?_⟩
    walk_at "rg"
    refine qAq (SqL.of hbx2) (qCb o0 (by omega)) ?_
    refine⟨_,_,rfl,rfl,?_⟩
    refine qCc (n:=j) hbx2 (by rw [List.length_map];exact qEj hjl) ?_
    rw [qEg]
    walk_at "rg"
    refine fin _ ?_
    simp only [mdeed]
    rw [if_neg hmost]
    rfl
end
section
variable {P:Program} {w:World} {K:PySem.W.Frag} {mg:Str->Option Value} {base:Heap}
abbrev qFb:Stmt:=qC9 (top 3) 4
theorem scVisit:FnScope ["self","here","way","stop","deed"] ["self","here","way"] (qA8 qFb):=⟨rfl,rfl,rfl,by decide +kernel,rfl,by decide +kernel,by decide +kernel⟩
theorem inKv (K:PySem.W.Frag) {X:Cx} (h:X.K=K):OpR X (compareOp .In) (rIn K false):=h▸qI3
theorem qP3 {f C CC:Addr} {fd:FuncData} {N:Nat} (F:Fun K "visit" "Running.visit" qFb f fd) (T:RTx K C CC) (hS:HasM P w K mg base C "step" 1 ["self"] (qHq C)) (hW:HasM P w K mg base C "count_way" 1 ["self","here","way"] (qF8 P w K C CC)) (hL:HasM P w K mg base C "lay" 1 ["self","here","deed"] (qO6 P w K C CC)) (hA:HasM P w K mg base C "act" (4*N+5) ["self","here","deed"] (qRj P w K C CC N)) :
  FnOk P w K mg base CX0 (4*N+6) f fd ["self","here","way"] (qIy P w K C CC N):=by
 refine F.ok scVisit (fun vs H Q E h => ?_) (fun cdv A outer s H vs Q E hr h => ?_)
 ·refine hide fun G_ hG_ => ?_
  obtain⟨r,g,G0,m,f,rest,hp,hb,hg,ha,wy,wk,b,rfl,_⟩:=h
  refine hG_ ?_
  rfl
 ·refine hide fun G_ hG_ => ?_
  obtain⟨r,g,G0,m,fr,rest,hp,hb,hg,ha,wy,wk,b,rfl,pre,hwy,hpos,hwk,hw1,hbk,hN,q1,q2⟩:=h
  obtain⟨gv,ra,ms,R,c,est,rfl,rfl⟩:=pre
  have hfr:=ms.top est
  have hsteps:=ms.steps
  have hmostb:=gv.most
  obtain⟨hdx,hob⟩:=c.ob
  have gmut : ∀x ∈ [r.self],x∈mutR g r:=fun z hz=>by rw [List.mem_singleton.mp hz];exact qCd
  have hst:mstep g m=if m.steps=g.most then some (m,1) else some ({ m with steps:=m.steps+1,log:=m.log ++ [((fr.n:Int),fr.w0,fr.w1)],st :={ fr with pos:=0 }::rest },0):=by
   unfold mstep
   rw [est]
   dsimp only
   rw [hwk]
   dsimp only
   rw [if_neg hw1,hbk]
   dsimp only
   rw [if_pos (by omega)]
  obtain⟨mm,hm1,hm2,hOk⟩:=gv.ws.all wk (List.mem_of_getElem? hwk)
  refine hG_ ?_
  have hbok:=hOk.blk b (List.mem_of_getElem? hbk)
  have hw0:0<=fr.w1:=by obtain⟨_,_,z,_⟩:=hfr.wk;exact z
  refine⟨_,(qA3 (qAe (i:=3) scVisit.nd rfl (Or.inl rfl) (qMp hS T.cl hr (by omega) (pv 0)))
   (qA3 (qBa (qA9 qFl (pv 3) qD7 (qAd _)) (qA7 (qAk (pv 3))) qAu)
   (qA3 (qBe (qH7 hW T.cl hr (by omega) (pv 0) (qA0 (pv 1) (qA0 (pv 2) qA4))))
   (qA3 (qD5 PassesOwn.never rfl (qCs (qAb qAm (qAb qAa (qAb qAa (qB0 (pv 0) rfl) (qB0 (pv 1) rfl) (fun _ _=>rfl)) (qAb qAm (pv 2) qA2 (fun _ _=>rfl)) (fun _ _=>rfl)) qA2 (fun _ _=>rfl))) (qAg (i:=4) scVisit.nd rfl (Or.inl rfl))
   (qA3 (qAe (i:=3) scVisit.nd rfl (Or.inl rfl) (qBn (qA9 (inKv K rfl) (qAb qAm (pv 4) qA2 (fun _ _=>rfl)) (qB7 (qA0 qAc (qA0 qAc qA4))) rfl) (qH7 hL T.cl hr (by omega) (pv 0) (qA0 (pv 1) (qA0 (pv 4) qA4))) (qH7 hA T.cl hr (by omega) (pv 0) (qA0 (pv 1) (qA0 (pv 4) qA4)))))
   (qA7 (qBa (qA9 qFl (pv 3) qD7 (qAd _)) (qA7 (qAk (pv 3))) qAu))))
   (qA7 (qAk qD7)))))),?_⟩
  dsimp only [qBp,qB9]
  walk_at "rh"
  refine⟨r.self,r.dx,_,rfl,R.ob,by rfl,?_⟩
  walk_at "rh"
  (try refine hideQ fun QQ_ hQQ_ => ?_)
  refine⟨r,g.most,!g.mean,"ended",m.steps,m.taken,m.st.length,m.sv,m.bk,rfl,rfl,R.ob,fun hgo => ?_,fun hgo => ?_⟩
  ·have hmost:m.steps=g.most:=by omega
   walk_at "rh"
   refine⟨rfl,?_⟩
   rw [decide_eq_false (by intro z;cases z)]
   walk_at "rh"
   refine iteT ?_
   walk_at "rh"
   exact q2 m 1 m H m.steps m.taken m.st.length .refl (by rw [hst,if_pos hmost]) (by decide) R
  ·have hmost : ¬m.steps=g.most:=by omega
   rw [if_neg hmost] at hst
   have R1:=R.setSelf ra (m.steps+1) m.taken m.st.length m.sv m.bk
   have e1:Ext [r.self] H (upd H r.self (selfO r g.most (!g.mean) "ended" (m.steps+1) m.taken m.st.length m.sv m.bk)) :=.put (by simp)
   have c1:=c.after R R1 (e1.mono gmut)
   have hwy1:(upd H r.self (selfO r g.most (!g.mean) "ended" (m.steps+1) m.taken m.st.length m.sv m.bk)) wy=some (.tup [.int fr.w0,.int fr.w1]):=by rw [qA6 (fun z=>by rw [z,R.ob] at hwy;cases hwy)];exact hwy
   generalize upd H r.self (selfO r g.most (!g.mean) "ended" (m.steps+1) m.taken m.st.length m.sv m.bk)=H1 at R1 e1 c1 hwy1 ⊢
   refine hide fun G_ hG_ => ?_
   have E1:Ext (hb::ha::mutR g r) H H1:=e1.mono fun z hz=>by rw [List.mem_singleton.mp hz];simp [mutR]
   obtain⟨hdx1,hob1⟩:=c1.ob
   obtain⟨ks,k1,k2,k3,k4⟩:=R1.gone
   refine hG_ ?_
   have hll:=ms.log
   walk_at "rh"
   refine⟨rfl,?_⟩
   rw [decide_eq_true rfl]
   walk_at "rh"
   refine iteF ?_
   walk_at "rh"
   refine⟨r.self,r.dx,_,rfl,R1.ob,by rfl,?_⟩
   walk_at "rh"
   (try refine hideQ fun QQ_ hQQ_ => ?_)
   refine⟨r,g.most,!g.mean,"ended",m.steps+1,m.taken,m.st.length,m.sv,m.bk,hp,hdx1,hb,hg,ha,wy,(fr.n:Int),fr.w0,fr.w1,ks,rfl,rfl,rfl,R1.ob,hob1,hwy1,k1,k2,by have:ks.length<=m.log.length:=k3;omega,fun p H2 hp2 e2 hga2 hn2 => ?_⟩
   have R2':=R1.setGone ra (k:=((fr.n:Int),fr.w0,fr.w1)) k1 k2 k3 k4 e2 hga2 hn2
   have c2':=c1.after R1 R2' (e2.mono fun z hz=>by rw [List.mem_singleton.mp hz];exact qR3)
   have hl0:((({ fr with pos:=0 }:Fr)::rest).length:Int)=m.st.length:=by rw [est];rfl
   have R2:RunAt P w g r G0 H2 { m with steps:=m.steps+1,log:=m.log ++ [((fr.n:Int),fr.w0,fr.w1)],st :={ fr with pos:=0 }::rest } (m.steps+1) m.taken ((({ fr with pos:=0 }:Fr)::rest).length:Int):=by
    rw [hl0]
    exact R2'.same rfl rfl rfl rfl rfl rfl (by show m.steps - (m.st.length:Int)<=m.steps+1 - _;rw [hl0];omega)
   have c2:CallAt g r G0 H2 { m with steps:=m.steps+1,log:=m.log ++ [((fr.n:Int),fr.w0,fr.w1)],st :={ fr with pos:=0 }::rest } { fr with pos:=0 } hp hb hg ha:=c2'.eq rfl rfl rfl rfl
   have E2:Ext (hb::ha::mutR g r) H H2:=E1.trans (e2.mono fun z hz=>by rw [List.mem_singleton.mp hz];simp [mutR])
   have hwy2:H2 wy=some (.tup [.int fr.w0,.int fr.w1]):=e2 _ _ (by simp;intro z;rw [z,k1] at hwy1;cases hwy1) hwy1
   obtain⟨hdx2,hob2⟩:=c2.ob
   refine hide fun G_ hG_ => ?_
   obtain⟨wa',us,ea,hSw,hDus⟩:=ra.works.ofList
   cases ea
   obtain⟨vw,hvw,dw⟩:=hDus.get' (i:=fr.n) (d:=workD wk) (by rw [List.getElem?_map,hwk];rfl)
   obtain⟨a0,bs,rfl,hSb,hDb⟩:=dw.ofList
   obtain⟨j0,hj0⟩ : ∃j:Nat,fr.w1=(j:Int):=⟨fr.w1.toNat,by omega⟩
   obtain⟨vb,hvb,db⟩:=hDb.get' (i:=fr.w1.toNat) (d:=blkD b) (by rw [List.getElem?_map,hbk];rfl)
   obtain⟨pt,pvs,rfl,hSp,hDp⟩:=db.ofTuple
   obtain⟨v1,q1',rfl,k5,d5⟩:=hDp.ofCons
   obtain⟨v2,q2',rfl,k6,d6⟩:=d5.ofCons
   have:=d6.ofNil
   subst this
   obtain⟨dl,dvs,rfl,hSd,hDd⟩:=k5.ofList
   refine hG_ ?_
   have hdl:=hDd.len
   rw [List.length_map] at hdl
   walk_at "rh"
   refine⟨_,_,_,_,_,rfl,R2.ob,T.cl,T.works,qJx _ _ _ _ _ _ _ _ _,?_⟩
   walk_at "rh"
   refine⟨_,_,_,_,_,rfl,hob2,T.ccl,T.number,qEb _ _ _ _,?_⟩
   refine qAq (R2.old.toSame.seq hSw) (qBf hvw) ?_
   walk_at "rh"
   refine qCi (SqT.of hwy2) rfl ?_
   refine qAq (R2.old.toSame.seq hSb) (by rw [hj0] at hvb ⊢;exact qBf hvb) ?_
   walk_at "rh"
   refine qCi (R2.old.toSame.seqT hSp) rfl ?_
   refine⟨dl,rfl,⟨_,R2.old.toSame.seq hSd⟩,qIf (xs:=dvs) (fun j σ' G => ∃(o3 o4:Option V) (m':Ms) (f':Fr),σ' = [some (.ref r.self),some (.ref hp),some (.ref wy),o3,o4]/\Go g m m'/\m'.st=f'::rest/\f'.n=fr.n/\f'.w0=fr.w0/\f'.w1=fr.w1/\f'.pos=(j:Int)/\RunAt P w g r G0 G m' m'.steps m'.taken m'.st.length/\CallAt g r G0 G m' f' hp hb hg ha/\Ext (hb::ha::mutR g r) H G) ?_ ?_ ?_ ?_⟩
   ·exact⟨_,_,_,_,rfl,.one hst,rfl,rfl,rfl,rfl,rfl,R2,c2,E2⟩
   ·intro j σ' G hj hq_
    refine hide fun G_ hG_ => ?_
    obtain⟨o3,o4,m',f',rfl,hgo,hms,h1,h2,h3,h4,RG,cG,eG⟩:=hq_
    refine hG_ ?_
    exact RG.old.toSame.seq hSd
   ·intro j v σ' G hv hq_ N_ B_ C_ R_ hN_ hC_ hR_
    refine hide fun G_ hG_ => ?_
    obtain⟨o3,o4,m',f',rfl,hgo,hms,h1,h2,h3,h4,RG,cG,eG⟩:=hq_
    refine hG_ ?_
    refine hide fun G_ hG_ => ?_
    obtain⟨dd,hdd,hDx⟩:=hDd.get hv
    obtain⟨x,hx,rfl⟩:=qJh hdd
    have hDG:=hDx.mono RG.old.toSame
    have hms':=hgo.ok gv ms
    have hAt:DeedAt g f' x:=⟨wk,b,by rw [h1];exact hwk,by rw [h3];exact hw1,by rw [h3];exact hbk,by omega,by rw [h4,Int.toNat_natCast];exact hx⟩
    have pre':Pre P w K r.C r.CC g r G0 G m' f' rest hp hb hg ha:=⟨gv,ra,hms',RG,cG,hms,rfl,rfl⟩
    have hlen':m'.st.length=m.st.length:=by rw [hms,est];rfl
    obtain⟨wd,rr,hxd⟩ : ∃(s:Str) (r:List PyData),deedD x = .tuple (.str s::r):=by cases x <;> exact⟨_,_,rfl⟩
    have hDG2:=hDG
    rw [hxd] at hDG2
    obtain⟨da,dvs',rfl,hT,hDL⟩:=hDG2.ofTuple
    obtain⟨u1,r1,rfl,w1',z1⟩:=hDL.ofCons
    refine hG_ ?_
    cases w1'.ofStr
    have cont : ∀(o4:Option V) (D:Ends) (tt:TS),True:=fun _ _ _=>trivial
    walk_at "rh"
    refine qCi hT (show _=some (V.str wd) from qBf (j:=0) rfl) ?_
    walk_at "rh"
    refine⟨len2 (by show 2<=1000;decide),fun tp htp => ?_⟩
    have X3:Ext [] G (upd G tp (.tup [.str "save",.str "back"])) :=.laid htp
    have htp3:(upd G tp (.tup [.str "save",.str "back"])) tp=some (.tup [.str "save",.str "back"]):=qA1
    generalize upd G tp (.tup [.str "save",.str "back"])=G3 at X3 htp3 ⊢
    have RG3:=RG.fresh X3
    have cG3:=cG.fresh X3
    have pre3:Pre P w K r.C r.CC g r G0 G3 m' f' rest hp hb hg ha:=⟨gv,ra,hms',RG3,cG3,hms,rfl,rfl⟩
    have hDG3:=hDG.mono X3.toSame
    have eG3:Ext (hb::ha::mutR g r) H G3:=eG.trans (X3.mono (by simp))
    walk_at "rh"
    refine⟨tp,_,rfl,.inr (SqT.of htp3),rfl,rfl,?_⟩
    rw [if_neg Bool.false_ne_true]
    walk_at "rh"
    have isin:inV (.str wd) [V.str "save",.str "back"]=true↔((∃b,x = .save b) \/ ∃b,x = .back b):=by
     cases x <;> cases hxd
     all_goals first
      | exact⟨fun _ =>.inl ⟨_,rfl⟩,fun _=>by decide +kernel⟩
      | exact⟨fun _ =>.inr ⟨_,rfl⟩,fun _=>by decide +kernel⟩
      | exact⟨fun h=>absurd h (by decide +kernel),by rintro (⟨_,h⟩ | ⟨_,h⟩) <;> cases h⟩
    by_cases hsb:(∃b,x = .save b) \/ ∃b,x = .back b
    ·rw [isin.mpr hsb]
     refine iteT ?_
     walk_at "rh"
     refine⟨r.self,r.dx,_,rfl,RG3.ob,by rfl,?_⟩
     walk_at "rh"
     (try refine hideQ fun QQ_ hQQ_ => ?_)
     refine⟨r,g,G0,m',f',rest,hp,hb,hg,ha,_,x,rfl,pre3,hDG3,hAt,hsb,fun m2 f2 H4 hgo2 hst2 i1 i2 i3 i4 RR CC ee => ?_,fun m2 cc mid H4 s' t' d' hgo2 hstp hcc RR => ?_⟩
     ·walk_at "rh"
      refine⟨rfl,?_⟩
      rw [decide_eq_true rfl]
      walk_at "rh"
      refine iteF ?_
      walk_at "rh"
      exact⟨_,_,m2,f2,rfl,hgo.trans hgo2,hst2,i1.trans h1,i2.trans h2,i3.trans h3,by rw [i4,h4];push_cast;rfl,RR,CC,eG3.trans ee⟩
     ·walk_at "rh"
      refine⟨rfl,?_⟩
      rw [decide_eq_false (by intro z;cases z)]
      walk_at "rh"
      refine iteT ?_
      walk_at "rh"
      exact q2 m2 cc mid H4 s' t' d' (hgo.trans hgo2) hstp hcc RR
    ·rw [show inV (.str wd) [V.str "save",.str "back"]=false by rw [Bool.eq_false_iff];exact fun z=>hsb (isin.mp z)]
     refine iteF ?_
     walk_at "rh"
     refine⟨r.self,r.dx,_,rfl,RG3.ob,by rfl,?_⟩
     walk_at "rh"
     (try refine hideQ fun QQ_ hQQ_ => ?_)
     refine⟨r,g,G0,m',f',rest,hp,hb,hg,ha,_,x,rfl,pre3,hDG3,hAt,fun y z=>hsb (.inl ⟨y,z⟩),fun y z=>hsb (.inr ⟨y,z⟩),by rw [hlen'];exact hN,fun m2 f2 H4 hgo2 hst2 i1 i2 i3 i4 RR CC ee => ?_,fun m2 cc mid H4 s' t' d' hgo2 hstp hcc RR => ?_⟩
     ·walk_at "rh"
      refine⟨rfl,?_⟩
      rw [decide_eq_true rfl]
      walk_at "rh"
      refine iteF ?_
      walk_at "rh"
      exact⟨_,_,m2,f2,rfl,hgo.trans hgo2,hst2,i1.trans h1,i2.trans h2,i3.trans h3,by rw [i4,h4];push_cast;rfl,RR,CC,eG3.trans ee⟩
     ·walk_at "rh"
      refine⟨rfl,?_⟩
      rw [decide_eq_false (by intro z;cases z)]
      walk_at "rh"
      refine iteT ?_
      walk_at "rh"
      exact q2 m2 cc mid H4 s' t' d' (hgo.trans hgo2) hstp hcc RR
   ·intro σ' G hq_
    refine hide fun G_ hG_ => ?_
    obtain⟨o3,o4,m',f',rfl,hgo,hms,h1,h2,h3,h4,RG,cG,eG⟩:=hq_
    refine hG_ ?_
    walk_at "rh"
    exact q1 m' f' G hgo hms h1 h2 h3 (by rw [h4,hdl]) RG cG eG
end
section
variable {P:Program} {w:World} {K:PySem.W.Frag} {mg:Str->Option Value} {base:Heap}
abbrev sWalk:Stmt:=qC9 (top 3) 3
theorem scWalk:FnScope ["self","here","work","way","stop","changed"] ["self","here"] (qA8 sWalk):=⟨rfl,rfl,rfl,by decide +kernel,rfl,by decide +kernel,by decide +kernel⟩
theorem qSf {f C CC:Addr} {fd:FuncData} {N:Nat} (F:Fun K "walk" "Running.walk" sWalk f fd) (T:RTx K C CC) (nlen:mg "len" = none) (nenumerate:mg "enumerate" = none) (hV:HasM P w K mg base C "visit" (4*N+6) ["self","here","way"] (qIy P w K C CC N)) (hW:HasM P w K mg base C "count_way" 1 ["self","here","way"] (qF8 P w K C CC)) (hL:HasM P w K mg base C "led_by" 2 ["self","end","beyond"] (qGy K C)) :
  FnOk P w K mg base CX0 (4*N+7) f fd ["self","here"] (qJv P w K C CC N):=by
 refine F.ok scWalk (fun vs H Q E h => ?_) (fun cdv A outer s H vs Q E hr h => ?_)
 ·refine hide fun G_ hG_ => ?_
  obtain⟨r,g,G0,m,f,rest,hp,hb,hg,ha,rfl,_⟩:=h
  refine hG_ ?_
  rfl
 ·refine hide fun G_ hG_ => ?_
  obtain⟨r,g,G0,m,fr,rest,hp,hb,hg,ha,rfl,pre,hw0,hw1,hpos,hN,q1,q2⟩:=h
  obtain⟨gv,ra,ms,R,c,est,rfl,rfl⟩:=pre
  have hfr:=ms.top est
  have hmostb:=gv.most
  obtain⟨hdx,hob⟩:=c.ob
  obtain⟨wk,hwk,_,_⟩:=hfr.wk
  obtain⟨mm,hm1,hm2,hOk⟩:=gv.ws.all wk (List.mem_of_getElem? hwk)
  refine hG_ ?_
  have hlen:=hOk.len
  refine⟨_,(qA3 (qAe (i:=2) scWalk.nd rfl (Or.inl rfl) (qAb qAa (qB0 (pv 0) rfl) (qB0 (pv 1) rfl) (fun _ _=>rfl)))
   (qA3 (qAe (i:=3) scWalk.nd rfl (Or.inl rfl) (qB7 (qA0 (qEu qCx qA2) (qA0 qA2 qA4))))
   (qA3 (qK5 PassesOwn.never (qA9 qI2 (qAb qAm (pv 3) qA2 (fun _ _=>rfl)) (qAl qAf (by rfl) nlen PySem.boot_len (qA0 (pv 2) qA4)) (qAd _))
   (qA3 (qAe (i:=4) scWalk.nd rfl (Or.inl rfl) (qH7 hV T.cl hr (by omega) (pv 0) (qA0 (pv 1) (qA0 (pv 3) qA4))))
   (qA3 (qBa (qA9 qFl (pv 4) qD7 (qAd _)) (qA7 (qAk (pv 4))) qAu)
   (qA7 (qAe (i:=3) scWalk.nd rfl (Or.inl rfl) (qB7 (qA0 (qAb qAm (pv 3) qA2 (fun _ _=>rfl)) (qA0 (qH7 hL T.cl hr (by omega) (pv 0) (qA0 (qAb qAm (qAb qAa (pv 2) (qAb qAm (pv 3) qA2 (fun _ _=>rfl)) (fun _ _=>rfl)) qA2 (fun _ _=>rfl)) (qA0 (qAl qAf (by rfl) nlen PySem.boot_len (qA0 (pv 2) qA4)) qA4))) qA4))))))))
   (qA3 (qBe (qH7 hW T.cl hr (by omega) (pv 0) (qA0 (pv 1) (qA0 (pv 3) qA4))))
   (qA3 (qOp (i:=5) ["box","held"] [1] rfl (.of rfl) scWalk.nd rfl (Or.inl rfl) (qH6 rfl nenumerate (qA0 (qB0 (pv 1) rfl) qA4)) (fun _ _ _ _=>(qEi (n:=2) K rfl rfl (qAs (qAg (i:=0) (by show (((["box","held","here"]:List Str))).Nodup;decide) rfl (Or.inl rfl)) (qAs (qAg (i:=1) (by show (((["box","held","here"]:List Str))).Nodup;decide) rfl (Or.inl rfl)) qC6)))) (fun _ _ _ _ =>.cons (qA9 qMt (qAb (qCf K rfl) (qMq K rfl (pv 2) rfl) (pv 0) (fun _ _=>rfl)) (pv 1) (qAd _)) .nil) (fun _ _ _ _=>(pv 0)))
   (qA3 (qBe (qDs PySem.F.plainAttrs_list PySem.F.slot_list_extend PySem.F.type_list_extend qFn (qB0 (pv 0) rfl) (qA0 (qEv ["box"] [1] rfl (.of rfl) (qCs (pv 5)) (fun _ _ _ _=>(qAg (i:=0) (by show (((["box","here"]:List Str))).Nodup;decide) rfl (Or.inl rfl))) (fun _ _ _ _ =>.nil) (fun _ _ _ _=>(qB7 (qA0 (qMq K rfl (pv 1) rfl) (qA0 (pv 0) qA4))))) qA4)))
   (qA7 (qAk qD7)))))))),?_⟩
  dsimp only [qBp,qB9]
  refine hide fun G_ hG_ => ?_
  obtain⟨wa',us,ea,hSw,hDus⟩:=ra.works.ofList
  cases ea
  obtain⟨vw,hvw,dw⟩:=hDus.get' (i:=fr.n) (d:=workD wk) (by rw [List.getElem?_map,hwk];rfl)
  obtain⟨a0,bs,rfl,hSb,hDb⟩:=dw.ofList
  refine hG_ ?_
  have hbl:=hDb.len
  rw [List.length_map] at hbl
  walk_at "rh"
  refine⟨_,_,_,_,_,rfl,R.ob,T.cl,T.works,qJx _ _ _ _ _ _ _ _ _,?_⟩
  walk_at "rh"
  refine⟨_,_,_,_,_,rfl,hob,T.ccl,T.number,qEb _ _ _ _,?_⟩
  refine qAq (R.old.toSame.seq hSw) (qBf hvw) ?_
  walk_at "rh"
  refine⟨len2 (by show 2<=1000;decide),fun tp htp => ?_⟩
  have X1:Ext [] H (upd H tp (.tup [.int (-1),.int 0])) :=.laid htp
  have htp1:(upd H tp (.tup [.int (-1),.int 0])) tp=some (.tup [.int (-1),.int 0]):=qA1
  generalize upd H tp (.tup [.int (-1),.int 0])=H1 at X1 htp1 ⊢
  have R1:=R.fresh X1
  have c1:=c.fresh X1
  have E1:Ext (hb::ha::mutR g r) H H1:=X1.mono (by simp)
  walk_at "rh"
  refine⟨fun n σ' G => ∃(m':Ms) (f':Fr) (wy:Addr) (o4 o5:Option V),σ' = [some (.ref r.self),some (.ref hp),some (.ref a0),some (.ref wy),o4,o5]/\Go g m m'/\m'.st=f'::rest/\f'.n=fr.n/\f'.pos = -1/\G wy=some (.tup [.int f'.w0,.int f'.w1])/\RunAt P w g r G0 G m' m'.steps m'.taken m'.st.length/\CallAt g r G0 G m' f' hp hb hg ha/\Ext (hb::ha::mutR g r) H G/\n=(g.most - m'.steps).toNat,⟨_,m,fr,tp,_,_,rfl,.refl,est,rfl,hpos,by rw [hw0,hw1];exact htp1,R1,c1,E1,rfl⟩,?_⟩
  intro n σ' G hq_
  refine hide fun G_ hG_ => ?_
  obtain⟨m',f',wy,o4,o5,rfl,hgo,hms,h1,h2,hwy,RG,cG,eG,hn⟩:=hq_
  refine hG_ ?_
  refine hide fun G_ hG_ => ?_
  have ms':=hgo.ok gv ms
  have hf':=ms'.top hms
  obtain⟨wk',hwk',hwa,hwb⟩:=hf'.wk
  refine hG_ ?_
  rw [h1,hwk] at hwk'
  cases hwk'
  have hlen':m'.st.length=m.st.length:=by rw [hms,est];rfl
  walk_at "rh"
  refine qCi (SqT.of hwy) rfl ?_
  walk_at "rh"
  refine qC4 (RG.old.toSame.seq hSb) ?_
  walk_at "rh"
  by_cases hin:f'.w1<(wk.length:Int)
  ·rw [decide_eq_true (by omega)]
   refine iteT ?_
   have hne:f'.w1≠(wk.length:Int):=by omega
   obtain⟨b,hbk⟩ : ∃b,wk[f'.w1.toNat]? = some b:=⟨_,List.getElem?_eq_getElem (by omega)⟩
   refine⟨fun σ' G' => ∃(m'':Ms) (f'':Fr) (wy:Addr) (o4 o5:Option V),σ' = [some (.ref r.self),some (.ref hp),some (.ref a0),some (.ref wy),o4,o5]/\Go g m m''/\m''.st=f''::rest/\f''.n=fr.n/\f''.pos = -1/\G' wy=some (.tup [.int f''.w0,.int f''.w1])/\RunAt P w g r G0 G' m'' m''.steps m''.taken m''.st.length/\CallAt g r G0 G' m'' f'' hp hb hg ha/\Ext (hb::ha::mutR g r) H G'/\m'.steps<m''.steps,?_,?_⟩
   ·intro σ2 H2 hq_
    refine hide fun G_ hG_ => ?_
    obtain⟨m'',f'',wy2,o42,o52,i1,i2,i3,i4,i5,i6,i7,i8,i9,i10⟩:=hq_
    refine hG_ ?_
    have:=(i2.ok gv ms).steps
    exact⟨_,by omega,m'',f'',wy2,o42,o52,i1,i2,i3,i4,i5,i6,i7,i8,i9,rfl⟩
   walk_at "rh"
   refine⟨r.self,r.dx,_,rfl,RG.ob,by rfl,?_⟩
   walk_at "rh"
   (try refine hideQ fun QQ_ hQQ_ => ?_)
   refine⟨r,g,G0,m',f',rest,hp,hb,hg,ha,wy,wk,b,rfl,⟨gv,ra,ms',RG,cG,hms,rfl,rfl⟩,hwy,h2,by rw [h1];exact hwk,hne,hbk,by rw [hlen'];exact hN,fun m2 f2 H2 hgo2 hst2 i1 i2 i3 i4 RR CC ee => ?_,fun m2 cc mid H4 s' t' d' hgo2 hstp hcc RR => ?_⟩
   ·refine hide fun G_ hG_ => ?_
    have hmv:=hgo2.moved hms h2 (by rw [h1];exact hwk) hne hbk hst2 (by rw [i4];omega)
    have hnx:=qN0 hst2 i4 (by rw [i1,h1];exact hwk) (by rw [i3];exact hne) (by rw [i3];exact hbk)
    obtain⟨vb,hvb,db⟩:=hDb.get' (i:=f'.w1.toNat) (d:=blkD b) (by rw [List.getElem?_map,hbk];rfl)
    obtain⟨pt,pvs,rfl,hSp,hDp⟩:=db.ofTuple
    obtain⟨v1,q1',rfl,k5,d5⟩:=hDp.ofCons
    obtain⟨v2,q2',rfl,k6,d6⟩:=d5.ofCons
    have:=d6.ofNil
    subst this
    refine hG_ ?_
    have hbok:=hOk.blk b (List.mem_of_getElem? hbk)
    have hwy2:H2 wy=some (.tup [.int f'.w0,.int f'.w1]):=ee _ _ (qLq (K:=K) RG cG hwy) hwy
    walk_at "rh"
    refine⟨rfl,?_⟩
    rw [decide_eq_true rfl]
    walk_at "rh"
    refine iteF ?_
    walk_at "rh"
    refine qCi (SqT.of hwy2) rfl ?_
    walk_at "rh"
    refine⟨r.self,r.dx,_,rfl,RR.ob,by rfl,?_⟩
    walk_at "rh"
    refine qCi (SqT.of hwy2) rfl ?_
    obtain⟨j0,hj0⟩ : ∃j:Nat,f'.w1=(j:Int):=⟨f'.w1.toNat,by omega⟩
    refine qAq (RR.old.toSame.seq hSb) (by rw [hj0] at hvb ⊢;exact qBf hvb) ?_
    walk_at "rh"
    refine qCi (RR.old.toSame.seqT hSp) rfl ?_
    walk_at "rh"
    refine qC4 (RR.old.toSame.seq hSb) ?_
    rw [hbl]
    walk_at "rh"
    have ms2:=(hgo.trans hgo2).ok gv ms
    (try refine hideQ fun QQ_ hQQ_ => ?_)
    refine⟨r,g.most,!g.mean,"ended",m2.steps,m2.taken,m2.st.length,m2.sv,m2.bk,g.ch,b.ns,_,(wk.length:Int),mm,rfl,rfl,RR.ob,RR.old.toSame.seq ra.ch,ms2.taken,gv.ch,k6.mono RR.old.toSame,hbok.ns,fun H3 hs3 hne3 => ?_⟩
    generalize hnn:qB1 g.ch m2.taken wk.length b.ns=nn at hs3 hnx ⊢
    have e3:H3=upd H2 r.self (selfO r g.most (!g.mean) "ended" m2.steps nn.2 m2.st.length m2.sv m2.bk):=by
     funext x
     by_cases hx:x=r.self
     ·rw [hx,qA1];exact hs3
     ·rw [qA6 hx];exact hne3 x hx
    have R3:=RR.setSelf ra m2.steps nn.2 m2.st.length m2.sv m2.bk
    have x3:Ext [r.self] H2 (upd H2 r.self (selfO r g.most (!g.mean) "ended" m2.steps nn.2 m2.st.length m2.sv m2.bk)) :=.put (by simp)
    rw [<-e3] at R3 x3
    have c3:=CC.after RR R3 (x3.mono fun z hz=>by rw [List.mem_singleton.mp hz];exact qCd)
    have E3:Ext (hb::ha::mutR g r) H H3:=(eG.trans ee).trans (x3.mono fun z hz=>by rw [List.mem_singleton.mp hz];simp [mutR])
    clear e3 hs3 hne3
    walk_at "rh"
    refine⟨len2 (by show 2<=1000;decide),fun tq htq => ?_⟩
    have X4:Ext [] H3 (upd H3 tq (.tup [.int f'.w1,.int nn.1])) :=.laid htq
    have htq4:(upd H3 tq (.tup [.int f'.w1,.int nn.1])) tq=some (.tup [.int f'.w1,.int nn.1]):=qA1
    generalize upd H3 tq (.tup [.int f'.w1,.int nn.1])=H4 at X4 htq4 ⊢
    have hl0:((({ f2 with w0:=f2.w1,w1:=nn.1,pos := -1 }:Fr)::rest).length:Int)=m2.st.length:=by rw [hst2];rfl
    have R4:RunAt P w g r G0 H4 { m2 with taken:=nn.2,st :={ f2 with w0:=f2.w1,w1:=nn.1,pos := -1 }::rest } m2.steps nn.2 ((({ f2 with w0:=f2.w1,w1:=nn.1,pos := -1 }:Fr)::rest).length:Int):=by
     rw [hl0]
     exact (R3.fresh X4).same rfl rfl rfl rfl rfl rfl (by show m2.steps - (m2.st.length:Int)<=m2.steps - _;rw [hl0];omega)
    have c4:CallAt g r G0 H4 { m2 with taken:=nn.2,st :={ f2 with w0:=f2.w1,w1:=nn.1,pos := -1 }::rest } { f2 with w0:=f2.w1,w1:=nn.1,pos := -1 } hp hb hg ha:=(c3.fresh X4).eq rfl rfl rfl rfl
    walk_at "rh"
    exact⟨_,_,tq,_,_,rfl,(hgo.trans hgo2).trans (.one hnx),rfl,i1.trans h1,rfl,by rw [htq4,<-i3],R4,c4,E3.trans (X4.mono (by simp)),hmv⟩
   ·walk_at "rh"
    refine⟨rfl,?_⟩
    rw [decide_eq_false (by intro z;cases z)]
    walk_at "rh"
    refine iteT ?_
    walk_at "rh"
    exact q2 m2 cc mid H4 s' t' d' (hgo.trans hgo2) hstp hcc RR
  ·rw [decide_eq_false (by omega)]
   refine iteF ?_
   refine hide fun G_ hG_ => ?_
   have hout:=qP0 hms (by rw [h1];exact hwk) (by omega:f'.w1=(wk.length:Int))
   obtain⟨hdx',hob'⟩:=cG.ob
   obtain⟨ks,k1,k2,k3,k4⟩:=RG.gone
   refine hG_ ?_
   have hll:=ms'.log
   have hms2:=ms'.steps
   walk_at "rh"
   refine⟨r.self,r.dx,_,rfl,RG.ob,by rfl,?_⟩
   walk_at "rh"
   (try refine hideQ fun QQ_ hQQ_ => ?_)
   refine⟨r,g.most,!g.mean,"ended",m'.steps,m'.taken,m'.st.length,m'.sv,m'.bk,hp,hdx',hb,hg,ha,wy,(f'.n:Int),f'.w0,f'.w1,ks,rfl,rfl,rfl,RG.ob,hob',hwy,k1,k2,by have:ks.length<=m'.log.length:=k3;omega,fun p H2 hp2 e2 hga2 hn2 => ?_⟩
   refine hide fun G_ hG_ => ?_
   have R2:=RG.setGone ra (k:=((f'.n:Int),f'.w0,f'.w1)) k1 k2 k3 k4 e2 hga2 hn2
   have c2:=cG.after RG R2 (e2.mono fun z hz=>by rw [List.mem_singleton.mp hz];exact qR3)
   have E2:Ext (hb::ha::mutR g r) H H2:=eG.trans (e2.mono fun z hz=>by rw [List.mem_singleton.mp hz];simp [mutR])
   obtain⟨hdx2,hob2⟩:=c2.ob
   obtain⟨bl,hg2,hbl8,hbf⟩:=c2.bg
   refine hG_ ?_
   have hbx2:=c2.bx
   have hcl:(mine g { m' with log:=m'.log ++ [((f'.n:Int),f'.w0,f'.w1)] } f').length=8:=show (mine g m' f').length=8 from qDh ms' hf'
   generalize hcur:mine g { m' with log:=m'.log ++ [((f'.n:Int),f'.w0,f'.w1)] } f'=cur at hbx2 hcl
   walk_at "rh"
   refine⟨_,_,_,_,_,rfl,hob2,T.ccl,T.begun,qQ8 _ _ _ _,?_⟩
   walk_at "rh"
   refine⟨hg,rfl,⟨_,SqL.of hg2⟩,fun l hl => ?_⟩
   refine qI8 (xs:=bl.map V.int) (fun i σ' G => ∃(o0 o1:Option V),σ' = [o0,o1,some (.ref hp)]/\Ext [l] H2 G/\G l=some (.lst ((offB cur bl i).map V.int))) ?_ ?_ ?_ ?_
   ·exact⟨_,_,rfl,.laid hl,qA1⟩
   ·intro i σ' G hi hq_
    refine hide fun G_ hG_ => ?_
    obtain⟨o0,o1,rfl,eX,hlX⟩:=hq_
    refine hG_ ?_
    exact (eX.drop hl).toSame.seq (SqL.of hg2)
   ·intro i x σ' G pt RK hx hq_ hpt hR
    refine hide fun G_ hG_ => ?_
    obtain⟨o0,o1,rfl,eX,hlX⟩:=hq_
    refine hG_ ?_
    rw [List.getElem?_map] at hx
    obtain⟨n0,hn0,rfl⟩ : ∃n0,bl[i]? = some n0/\x=V.int n0:=by
     cases hq:bl[i]? with
     | none=>rw [hq] at hx;cases hx
     | some n0=>rw [hq] at hx;exact⟨n0,rfl,(Option.some.inj hx).symm⟩
    have hi:i<bl.length:=(List.getElem?_eq_some_iff.mp hn0).1
    have hgb:getB bl (i:Int)=n0:=by unfold getB;rw [List.getD_eq_getElem?_getD,Int.toNat_natCast,hn0];rfl
    have X1:Ext [] G (upd G pt (.tup [.int i,.int n0])) :=.laid hpt
    have hpt1:SqT K (upd G pt (.tup [.int i,.int n0])) pt [.int i,.int n0]:=SqT.of qA1
    have hl1:(upd G pt (.tup [.int i,.int n0])) l=some (.lst ((offB cur bl i).map V.int)):=X1 _ _ (by simp) hlX
    have eX1:Ext [l] H2 (upd G pt (.tup [.int i,.int n0])):=eX.trans (X1.mono (by simp))
    generalize upd G pt (.tup [.int i,.int n0])=G1 at X1 hpt1 hl1 eX1 ⊢
    have nl : ∀ {x:Addr} {o:HO},H2 x=some o->x≠l:=fun {x o} hx z=>by rw [z,hl] at hx;cases hx
    have hob3:=eX1 _ _ (by simpa using nl hob2) hob2
    have hbx3:=eX1 _ _ (by simpa using nl hbx2) hbx2
    refine qD3 hpt1 rfl ?_
    walk_at "rh"
    refine⟨_,_,_,_,_,rfl,hob3,T.ccl,T.cboxes,qCg _ _ _ _,?_⟩
    walk_at "rh"
    refine qAq (SqL.of hbx3) (qCb (by omega) (by omega)) ?_
    walk_at "rh"
    refine qRt ?_
    walk_at "rh"
    rw [<-hgb]
    by_cases hq:getB cur (i:Int)=getB bl (i:Int)
    ·rw [decide_eq_true hq]
     refine iteF ?_
     refine iteF ?_
     exact hR _ _ ⟨_,_,rfl,eX1,by rw [qE2,if_pos hq,List.append_nil];exact hl1⟩
    ·rw [decide_eq_false hq]
     refine iteT ?_
     walk_at "rh"
     refine iteT ?_
     walk_at "rh"
     have:=qE3 cur bl i
     refine⟨_,hl1,?_,?_⟩
     ·rw [List.length_map]
      exact Nat.lt_of_le_of_lt (Nat.le_trans this (by omega:i<=8)) (by decide)
     ·exact hR _ _ ⟨_,_,rfl,eX1.trans (.put (by simp)),by rw [qA1,qE2,if_neg hq,List.map_append];rfl⟩
   intro σ' G hq_
   refine hide fun G_ hG_ => ?_
   obtain⟨o0,o1,rfl,eX,hlX⟩:=hq_
   refine hG_ ?_
   refine hide fun G_ hG_ => ?_
   rw [List.length_map,hbl8] at hlX
   have e0X:=eX.drop hl
   have R3:=R2.fresh e0X
   have c3:=c2.fresh e0X
   obtain⟨fl,f1,f2,f3⟩:=R3.flt
   obtain⟨hdx3,hob3⟩:=c3.ob
   refine hG_ ?_
   walk_at "rh"
   refine⟨_,_,_,_,_,rfl,R3.ob,T.cl,T.faults,qMa _ _ _ _ _ _ _ _ _,?_⟩
   refine qCz f1 ?_
   walk_at "rh"
   refine⟨l,rfl,⟨_,SqL.of hlX⟩,fun l2 hl2 => ?_⟩
   refine qBx (xs:=(offB cur bl 8).map V.int) (fun i σ' G' => ∃(o0:Option V) (us:List V),σ' = [o0,some (.ref hp)]/\Ext [l2] G G'/\G' l2=some (.lst us)/\PrsAt G' us (((offB cur bl 8).take i).map fun b=>((f'.n:Int),b))) ?_ ?_ ?_ ?_
   ·exact⟨_,[],rfl,.laid hl2,qA1,.nil⟩
   ·intro i σ' G' hi hq_
    refine hide fun G_ hG_ => ?_
    obtain⟨o0,us,rfl,eY,hlY,hP⟩:=hq_
    refine hG_ ?_
    exact (eY.drop hl2).toSame.seq (SqL.of hlX)
   ·intro i x σ' G' RK hx hq_ hR
    refine hide fun G_ hG_ => ?_
    obtain⟨o0,us,rfl,eY,hlY,hP⟩:=hq_
    refine hG_ ?_
    have hoff:=qE3 cur bl 8
    rw [List.getElem?_map] at hx
    obtain⟨n0,hn0,rfl⟩ : ∃n0,(offB cur bl 8)[i]? = some n0/\x=V.int n0:=by
     cases hq:(offB cur bl 8)[i]? with
     | none=>rw [hq] at hx;cases hx
     | some n0=>rw [hq] at hx;exact⟨n0,rfl,(Option.some.inj hx).symm⟩
    have hi:i<(offB cur bl 8).length:=(List.getElem?_eq_some_iff.mp hn0).1
    have hob4:=eY _ _ (by simpa using fun z=>by rw [z,hl2] at hob3;cases hob3) hob3
    have hus:=hP.len
    rw [List.length_map,List.length_take] at hus
    walk_at "rh"
    refine iteT ?_
    walk_at "rh"
    refine⟨_,_,_,_,_,rfl,hob4,T.ccl,T.number,qEb _ _ _ _,?_⟩
    walk_at "rh"
    refine⟨len2 (by show 2<=1000;decide),fun tq htq => ?_⟩
    have X4:Ext [] G' (upd G' tq (.tup [.int (f'.n:Int),.int n0])) :=.laid htq
    have htq4:(upd G' tq (.tup [.int (f'.n:Int),.int n0])) tq=some (.tup [.int (f'.n:Int),.int n0]):=qA1
    generalize upd G' tq (.tup [.int (f'.n:Int),.int n0])=G4 at X4 htq4 ⊢
    have hl4:G4 l2=some (.lst us):=X4 _ _ (by simp) hlY
    refine⟨us,hl4,Nat.lt_of_le_of_lt (by omega:us.length<=8) (by decide),?_⟩
    have x5:Ext [l2] G4 (upd G4 l2 (.lst (us ++ [.ref tq]))) :=.put (by simp)
    have nt5 : ∀t ∈ [l2],∀xs,G4 t≠some (.tup xs):=fun z hz xs h=>by rw [List.mem_singleton.mp hz,hl4] at h;cases h
    refine hR _ _ ⟨_,_,rfl,(eY.trans (X4.mono (by simp))).trans x5,qA1,?_⟩
    rw [List.take_succ,hn0,List.map_append]
    exact ((hP.mono X4 (by simp)).app (.cons ⟨tq,rfl,htq4⟩ .nil)).mono x5 nt5
   intro σ' G' hq_
   refine hide fun G_ hG_ => ?_
   obtain⟨o0',us,rfl,eY,hlY,hP⟩:=hq_
   refine hG_ ?_
   rw [List.length_map,List.take_length] at hP
   have e0Y:=eY.drop hl2
   have R4:=R3.fresh e0Y
   have f14:G' r.fa=some (.lst fl):=e0Y _ _ (by simp) f1
   have hus:=hP.len
   rw [List.length_map] at hus
   have hoff:=qE3 cur bl 8
   have hml:(m'.st.length:Int)=rest.length+1:=by rw [hms];simp
   walk_at "rh"
   refine⟨r.fa,l2,fl,us,rfl,rfl,f14,hlY,?_,?_⟩
   ·refine Nat.le_trans (m:=200000) ?_ (by decide)
    have:({ m' with log:=m'.log ++ [((f'.n:Int),f'.w0,f'.w1)] }:Ms).st.length=m'.st.length:=rfl
    have:({ m' with log:=m'.log ++ [((f'.n:Int),f'.w0,f'.w1)] }:Ms).steps=m'.steps:=rfl
    omega
   walk_at "rh"
   refine q1 { m' with log:=m'.log ++ [((f'.n:Int),f'.w0,f'.w1)],flt:=if g.mean=true then m'.flt else m'.flt++(badB m' f').map fun b=>((f'.n:Int),b),st:=rest } _ (hgo.trans (.one hout)) rfl ?_ ?_
   ·refine hlen'▸R4.setFlt ra (m' :={ m' with log:=m'.log ++ [((f'.n:Int),f'.w0,f'.w1)],flt:=if g.mean=true then m'.flt else m'.flt++(badB m' f').map fun b=>((f'.n:Int),b),st:=rest }) f14 hP ?_ (fun z=>(f3 z).mono e0Y (by simp)) rfl ?_ rfl rfl rfl rfl
    ·show ((fl++us).length:Int)+8*(rest.length:Int)<=8*(m'.steps+1)
     have f2:(fl.length:Int)+8*(m'.st.length:Int)<=8*(m'.steps+1):=f2
     rw [List.length_append];push_cast;omega
    ·show (if g.mean=true then m'.flt else m'.flt++(badB m' f').map fun b=>((f'.n:Int),b))=if g.mean=true then m'.flt else _
     by_cases hmm:g.mean=true
     ·rw [if_pos hmm,if_pos hmm]
     ·have hmm':g.mean=false:=by simpa using hmm
      rw [if_neg hmm,if_neg hmm]
      have:cur=m'.held:=by rw [<-hcur];unfold mine;rw [if_neg hmm]
      rw [this,hbf hmm']
      rfl
   ·exact ((E2.trans (e0X.mono (by simp))).trans (e0Y.mono (by simp))).trans (.put (by simp [mutR]))
end
section
variable {P:Program} {w:World} {K:PySem.W.Frag} {mg:Str->Option Value} {base:Heap}
abbrev qGh:Stmt:=qC9 (top 2) 0
theorem qRq:FnScope ["self","number","boxes"] ["self","number","boxes"] (qA8 qGh):=⟨rfl,rfl,rfl,by decide +kernel,rfl,by decide +kernel,by decide +kernel⟩
theorem qPb {f C CC:Addr} {fd:FuncData} (F:Fun K "__init__" "Call.__init__" qGh f fd) (T:RTx K C CC) (nlist:mg "list" = none) :
  FnOk P w K mg base CX0 1 f fd ["self","number","boxes"] (qFa CC):=by
 refine F.ok qRq (fun vs H Q E h => ?_) (fun cdv A outer s H vs Q E hr h => ?_)
 ·refine hide fun G_ hG_ => ?_
  obtain⟨hp,hdx,hb,n,bl,rfl,_⟩:=h
  refine hG_ ?_
  rfl
 ·refine hide fun G_ hG_ => ?_
  obtain⟨hp,hdx,hb,n,bl,rfl,hob,hbx,hl8,q⟩:=h
  refine hG_ ?_
  have nbp:hb≠hp:=fun z=>by rw [z,hob] at hbx;cases hbx
  refine⟨_,(qA3 (qBt (pv 0) (pv 1) rfl)
   (qA3 (qBt (pv 0) (pv 2) rfl)
   (qA3 (qBt (pv 0) (qAv qBi (by rfl) nlist PyProof.Rows.boot_list (qA0 (pv 2) qA4)) rfl)
   (qA7 (qBt (pv 0) qEz rfl))))),?_⟩
  dsimp only [qBp,qB9]
  walk_at "rg"
  refine⟨hp,CC,hdx,_,rfl,hob,T.ccl,T.number,by show 0<1000;decide,?_⟩
  walk_at "rg"
  refine⟨hp,CC,hdx,_,rfl,qA1,T.ccl,T.cboxes,by show 1<1000;decide,?_⟩
  have x1:Ext [hp] H (upd (upd H hp (.ins CC hdx (putF "number" (.int n) []))) hp (.ins CC hdx (putF "boxes" (.ref hb) (putF "number" (.int n) [])))):=(Ext.put (by simp)).trans (.put (by simp))
  have o1:(upd (upd H hp (.ins CC hdx (putF "number" (.int n) []))) hp (.ins CC hdx (putF "boxes" (.ref hb) (putF "number" (.int n) [])))) hp=some (.ins CC hdx (putF "boxes" (.ref hb) (putF "number" (.int n) []))):=qA1
  generalize (upd (upd H hp (.ins CC hdx (putF "number" (.int n) []))) hp (.ins CC hdx (putF "boxes" (.ref hb) (putF "number" (.int n) []))))=H1 at x1 o1 ⊢
  have b1:=x1 _ _ (by simpa using nbp) hbx
  walk_at "rg"
  refine⟨hb,_,rfl,.inl (SqL.of b1),fun hg hgn => ?_⟩
  have ng1:hg≠hp:=(qA5 o1 hgn).symm
  have hgn0:H hg=none:=x1.none (by simpa using ng1) hgn
  have x2:Ext [hp] H (upd H1 hg (.lst (bl.map V.int))):=x1.trans (.laid hgn)
  have o2:(upd H1 hg (.lst (bl.map V.int))) hp=some (.ins CC hdx (putF "boxes" (.ref hb) (putF "number" (.int n) []))):=by rw [qA6 ng1.symm];exact o1
  have g2:(upd H1 hg (.lst (bl.map V.int))) hg=some (.lst (bl.map V.int)):=qA1
  generalize upd H1 hg (.lst (bl.map V.int))=H2 at x2 o2 g2 ⊢
  walk_at "rg"
  refine⟨hp,CC,hdx,_,rfl,o2,T.ccl,T.begun,by show 2<1000;decide,?_⟩
  have x3:Ext [hp] H (upd H2 hp (.ins CC hdx (putF "begun" (.ref hg) (putF "boxes" (.ref hb) (putF "number" (.int n) []))))):=x2.trans (.put (by simp))
  have o3:(upd H2 hp (.ins CC hdx (putF "begun" (.ref hg) (putF "boxes" (.ref hb) (putF "number" (.int n) []))))) hp=some (.ins CC hdx (putF "begun" (.ref hg) (putF "boxes" (.ref hb) (putF "number" (.int n) [])))):=qA1
  have g3:(upd H2 hp (.ins CC hdx (putF "begun" (.ref hg) (putF "boxes" (.ref hb) (putF "number" (.int n) []))))) hg=some (.lst (bl.map V.int)):=by rw [qA6 ng1];exact g2
  generalize upd H2 hp (.ins CC hdx (putF "begun" (.ref hg) (putF "boxes" (.ref hb) (putF "number" (.int n) []))))=H3 at x3 o3 g3 ⊢
  walk_at "rg"
  refine qH2 fun ha han => ?_
  have na1:ha≠hp:=(qA5 o3 han).symm
  have na2:ha≠hg:=(qA5 g3 han).symm
  walk_at "rg"
  refine⟨hp,CC,hdx,_,rfl,by rw [qA6 na1.symm];exact o3,T.ccl,T.aside,by show 3<1000;decide,?_⟩
  exact q hg ha _ hgn0 (x3.none (by simpa using na1) han) ((x3.trans (.laid han)).trans (.put (by simp))) qA1 (by rw [qA6 ng1,qA6 na2.symm];exact g3) (by rw [qA6 na1,qA1])
end
section
variable {P:Program} {w:World} {K:PySem.W.Frag} {mg:Str->Option Value} {base:Heap}
abbrev sRunI:Stmt:=qC9 (top 3) 0
theorem qTo:FnScope ["self","works","boxes","choices","most","sharing"] ["self","works","boxes","choices","most","sharing"] (qA8 sRunI):=⟨rfl,rfl,rfl,by decide +kernel,rfl,by decide +kernel,by decide +kernel⟩
theorem qSi {f C CC:Addr} {fd:FuncData} (F:Fun K "__init__" "Running.__init__" sRunI f fd) (T:RTx K C CC) (nlist:mg "list" = none) :
  FnOk P w K mg base CX0 1 f fd ["self","works","boxes","choices","most","sharing"] (qLy P w K C CC):=by
 refine F.ok qTo (fun vs H Q E h => ?_) (fun cdv A outer s H vs Q E hr h => ?_)
 ·refine hide fun G_ hG_ => ?_
  obtain⟨self,dx,wa,bx,ca,most,sh,bl,rfl,_⟩:=h
  refine hG_ ?_
  rfl
 ·refine hide fun G_ hG_ => ?_
  obtain⟨self,dx,wa,bx,ca,most,sh,bl,rfl,hob,hbx,hl8,q⟩:=h
  refine hG_ ?_
  have I:IniAt H H self C dx [] 0 []:=⟨.refl _ _,hob,Nat.le_refl _,(fun p hp=>by cases hp),.nil⟩
  refine⟨_,(qA3 (qBt (pv 0) (pv 1) rfl)
   (qA3 (qBt (pv 0) (qAv qBi (by rfl) nlist PyProof.Rows.boot_list (qA0 (pv 2) qA4)) rfl)
   (qA3 (qBt (pv 0) (pv 3) rfl)
   (qA3 (qBt (pv 0) (pv 4) rfl)
   (qA3 (qBt (pv 0) (pv 5) rfl)
   (qA3 (qBt (pv 0) qAc rfl)
   (qA3 (qBt (pv 0) qA2 rfl)
   (qA3 (qBt (pv 0) qA2 rfl)
   (qA3 (qBt (pv 0) qA2 rfl)
   (qA3 (qBt (pv 0) (qAr qA4) rfl)
   (qA3 (qBt (pv 0) (qAr qA4) rfl)
   (qA3 (qBt (pv 0) qA2 rfl)
   (qA3 (qBt (pv 0) qA2 rfl)
   (qA7 (qBt (pv 0) qOv rfl))))))))))))))),?_⟩
  dsimp only [qBp,qB9]
  walk_at "rg"
  refine⟨self,C,dx,_,rfl,I.o,T.cl,T.works,I.few (by decide),?_⟩
  replace I:=I.put "works" (.ref wa)
  generalize upd H self _=H1 at I ⊢
  walk_at "rg"
  refine⟨bx,_,rfl,.inl (qRn hob I.x hbx),fun ba hba => ?_⟩
  replace I:=I.lay (.lst (bl.map V.int)) hba
  clear hba
  generalize upd H1 ba _=G1 at I ⊢
  walk_at "rg"
  refine⟨self,C,dx,_,rfl,I.o,T.cl,T.boxes,I.few (by decide),?_⟩
  replace I:=I.put "boxes" (.ref ba)
  generalize upd G1 self _=H2 at I ⊢
  walk_at "rg"
  refine⟨self,C,dx,_,rfl,I.o,T.cl,T.choices,I.few (by decide),?_⟩
  replace I:=I.put "choices" (.ref ca)
  generalize upd H2 self _=H3 at I ⊢
  walk_at "rg"
  refine⟨self,C,dx,_,rfl,I.o,T.cl,T.most,I.few (by decide),?_⟩
  replace I:=I.put "most" (.int most)
  generalize upd H3 self _=H4 at I ⊢
  walk_at "rg"
  refine⟨self,C,dx,_,rfl,I.o,T.cl,T.sharing,I.few (by decide),?_⟩
  replace I:=I.put "sharing" (.bl sh)
  generalize upd H4 self _=H5 at I ⊢
  walk_at "rg"
  refine⟨self,C,dx,_,rfl,I.o,T.cl,T.state,I.few (by decide),?_⟩
  replace I:=I.put "state" (.str "ended")
  generalize upd H5 self _=H6 at I ⊢
  walk_at "rg"
  refine⟨self,C,dx,_,rfl,I.o,T.cl,T.steps,I.few (by decide),?_⟩
  replace I:=I.put "steps" (.int 0)
  generalize upd H6 self _=H7 at I ⊢
  walk_at "rg"
  refine⟨self,C,dx,_,rfl,I.o,T.cl,T.forks,I.few (by decide),?_⟩
  replace I:=I.put "forks" (.int 0)
  generalize upd H7 self _=H8 at I ⊢
  walk_at "rg"
  refine⟨self,C,dx,_,rfl,I.o,T.cl,T.depth,I.few (by decide),?_⟩
  replace I:=I.put "depth" (.int 0)
  generalize upd H8 self _=H9 at I ⊢
  walk_at "rg"
  refine⟨len2 (by show 0<=1000;decide),fun ta hta => ?_⟩
  replace I:=I.lay (.lst []) hta
  clear hta
  generalize upd H9 ta _=G9 at I ⊢
  walk_at "rg"
  refine⟨self,C,dx,_,rfl,I.o,T.cl,T.told,I.few (by decide),?_⟩
  replace I:=I.put "told" (.ref ta)
  generalize upd G9 self _=H10 at I ⊢
  walk_at "rg"
  refine⟨len2 (by show 0<=1000;decide),fun fa hfa => ?_⟩
  replace I:=I.lay (.lst []) hfa
  clear hfa
  generalize upd H10 fa _=G10 at I ⊢
  walk_at "rg"
  refine⟨self,C,dx,_,rfl,I.o,T.cl,T.faults,I.few (by decide),?_⟩
  replace I:=I.put "faults" (.ref fa)
  generalize upd G10 self _=H11 at I ⊢
  walk_at "rg"
  refine⟨self,C,dx,_,rfl,I.o,T.cl,T.saves,I.few (by decide),?_⟩
  replace I:=I.put "saves" (.int 0)
  generalize upd H11 self _=H12 at I ⊢
  walk_at "rg"
  refine⟨self,C,dx,_,rfl,I.o,T.cl,T.backs,I.few (by decide),?_⟩
  replace I:=I.put "backs" (.int 0)
  generalize upd H12 self _=H13 at I ⊢
  walk_at "rg"
  refine qRx (P:=P) (w:=w) fun ga hga => ?_
  replace I:=I.lay (gO P w []) hga
  clear hga
  generalize upd H13 ga _=G13 at I ⊢
  walk_at "rg"
  refine⟨self,C,dx,_,rfl,I.o,T.cl,T.gone,I.few (by decide),?_⟩
  replace I:=I.put "gone" (.ref ga)
  generalize upd G13 self _=H14 at I ⊢
  refine hide fun G_ hG_ => ?_
  have nd : [ga,fa,ta,ba].Nodup:=I.nd
  have cs:=I.ce
  obtain⟨g1,_,g2⟩:=cs (ga,gO P w []) (by simp)
  obtain⟨f1,_,f2⟩:=cs (fa,.lst []) (by simp)
  obtain⟨t1,_,t2⟩:=cs (ta,.lst []) (by simp)
  obtain⟨b1,_,b2⟩:=cs (ba,.lst (bl.map V.int)) (by simp)
  refine hG_ ?_
  have ne : ∀ {i j:Nat} {x y:Addr},i<j -> [ga,fa,ta,ba][i]? = some x -> [ga,fa,ta,ba][j]? = some y->x≠y:=by
   intro i j x y hij hi hj
   refine hide fun G_ hG_ => ?_
   obtain⟨p,e⟩:=List.getElem?_eq_some_iff.mp hi
   obtain⟨p',e'⟩:=List.getElem?_eq_some_iff.mp hj
   refine hG_ ?_
   rw [<-e,<-e']
   exact List.pairwise_iff_getElem.mp nd i j p p' hij
  exact q ⟨self,dx,wa,ba,ca,ta,fa,ga,C,CC⟩ _ rfl rfl rfl rfl rfl rfl b2 t2 f2 g2 (ne (i:=1) (j:=2) (by decide) rfl rfl).symm (ne (i:=2) (j:=3) (by decide) rfl rfl) (ne (i:=1) (j:=3) (by decide) rfl rfl) I.x I.o b1 t1 f1 g1
end
section
variable {P:Program} {w:World} {K:PySem.W.Frag} {mg:Str->Option Value} {base:Heap}
abbrev sGone:Stmt:=top 4
theorem scGone:FnScope ["works","number","boxes","choices","most","sharing","running","stop"] ["works","number","boxes","choices","most","sharing"] (qA8 sGone):=⟨rfl,rfl,rfl,by decide +kernel,rfl,by decide +kernel,by decide +kernel⟩
theorem qSn {f C CC:Addr} {fd:FuncData} (F:Fun K "gone_through" "gone_through" sGone f fd) (T:RTx K C CC) (hR:HasC P w K mg base "Running" C 1 ["self","works","boxes","choices","most","sharing"] (qLy P w K C CC)) (hC:HasM P w K mg base C "call" 84 ["self","number","boxes"] (qF9 P w K C CC 20)) :
  FnOk P w K mg base CX0 85 f fd ["works","number","boxes","choices","most","sharing"] (qM3 P w K C CC):=by
 refine F.ok scGone (fun vs H Q E h => ?_) (fun cdv A outer s H vs Q E hr h => ?_)
 ·refine hide fun G_ hG_ => ?_
  obtain⟨g,wa,bx,ca,c,bl,rfl,_⟩:=h
  refine hG_ ?_
  rfl
 ·refine hide fun G_ hG_ => ?_
  obtain⟨g,wa,bx,ca,c,bl,rfl,gv,hD,hbx,hl8,hca,c0,c1,q⟩:=h
  refine hG_ ?_
  refine⟨_,(qA3 (qAe (i:=6) scGone.nd rfl (Or.inl rfl) (qUo hR hr (by omega) (qA0 (pv 0) (qA0 (pv 2) (qA0 (pv 3) (qA0 (pv 4) (qA0 (pv 5) qA4)))))))
   (qA3 (qAe (i:=7) scGone.nd rfl (Or.inl rfl) (qH7 hC T.cl hr (by omega) (pv 6) (qA0 (pv 1) (qA0 (qB0 (pv 6) rfl) qA4))))
   (qA3 (qBa (qA9 qFl (pv 7) qD7 (qAd _)) (qA7 (qBt (pv 6) (pv 7) rfl)) qAu)
   (qA7 (qAk (pv 6)))))),?_⟩
  dsimp only [qBp,qB9]
  walk_at "rg"
  refine fun x dx hx hdx hne => ?_
  have x1:Ext [] H (upd (upd H dx (.own x)) x (.ins C dx [])):=(Ext.laid hdx).trans (.laid (by rw [qA6 hne.symm];exact hx))
  have o1:(upd (upd H dx (.own x)) x (.ins C dx [])) x=some (.ins C dx []):=qA1
  generalize upd (upd H dx (.own x)) x (.ins C dx [])=H1 at x1 o1 ⊢
  refine⟨x,dx,wa,bx,ca,g.most,!g.mean,bl,rfl,o1,x1.toSame.seq hbx,hl8,fun r H2 e1 e2 e3 e4 e5 e6 n1 n2 n3 n4 m1 m2 m3 x2 o2 t1 t2 t3 t4=>⟨rfl,?_⟩⟩
  subst e1 e2 e3 e4 e5 e6
  have x12:Ext [] H H2:=((x1.mono (us :=[r.self]) (by simp)).trans x2).drop hx
  have ra:RaOk K g r H:=⟨T,hD,hca,hx,x1.none (by simp) n2,x1.none (by simp) n3,x1.none (by simp) n1,x1.none (by simp) n4,m1,m2,m3⟩
  have R:RunAt P w g r H H2 (qB3 (ms0 bl) c bl) (ms0 bl).steps (ms0 bl).taken (ms0 bl).st.length:=⟨o2,t2,⟨[],t3,by show ((0:Nat):Int)+8*((1:Nat):Int)<=8*(0+1);decide,fun _ =>.nil⟩,t1,⟨[],t4,(fun _ h=>nomatch h),Nat.zero_le _,fun k=>rfl⟩,x12⟩
  walk_at "rg"
  refine⟨r.self,r.dx,_,rfl,R.ob,by rfl,?_⟩
  walk_at "rg"
  refine⟨_,_,_,_,_,rfl,R.ob,T.cl,T.boxes,qOh _ _ _ _ _ _ _ _ _,?_⟩
  walk_at "rg"
  refine⟨r,g,H,ms0 bl,c,r.ba,bl,rfl,rfl,rfl,gv,ra,R,by show 0<=20;decide,t1,hl8,fun _=>⟨rfl,rfl⟩,c0,by show 20<=0+20;decide,fun h=>absurd h (by show ¬ 0=20;decide),fun _=>⟨qKg gv hl8 c0 c1,fun m' H' hgo hst RR ee => ?_,fun m' cc mid H' s' t' d' hgo hstp hcc RR => ?_⟩⟩
  ·walk_at "rg"
   refine⟨rfl,?_⟩
   rw [decide_eq_true rfl]
   walk_at "rg"
   refine iteF ?_
   walk_at "rg"
   exact q r m' 0 H' (.of hgo (.done hst)) (.of RR) ra rfl (hgo.ok gv (qKg gv hl8 c0 c1)) RR.old
  ·walk_at "rg"
   refine⟨rfl,?_⟩
   rw [decide_eq_false (by intro z;cases z)]
   walk_at "rg"
   refine iteT ?_
   walk_at "rg"
   refine⟨r.self,r.C,r.dx,_,rfl,RR.ob,T.cl,T.state,qFd _ _ _ _ _ _ _ _ _,?_⟩
   rw [qOc]
   walk_at "rg"
   refine q r m' cc _ (.of hgo (.stop hstp hcc)) (.stop RR ra hcc) ra rfl (qE5 gv (hgo.ok gv (qKg gv hl8 c0 c1)) hstp) ?_
   exact (((RR.old.mono (us :=[r.self]) (by simp)).trans (.put (by simp))).drop hx)
end
section
variable {P:Program} {w:World} {K:PySem.W.Frag} {mg:Str->Option Value} {base:Heap}
abbrev sMeas:Stmt:=top 8
theorem scMeas:FnScope ["works","number","boxes","choices","most","gone"] ["works","number","boxes","choices","most"] (qA8 sMeas):=⟨rfl,rfl,rfl,by decide +kernel,rfl,by decide +kernel,by decide +kernel⟩
theorem qSj {f C CC:Addr} {fd:FuncData} (F:Fun K "measured" "measured" sMeas f fd) (T:RTx K C CC) (nenum:mg "enumerate" = none) (hG:Has P w K mg base "gone_through" 85 ["works","number","boxes","choices","most","sharing"] (qM3 P w K C CC)) (hW:Has P w K mg base "ways_of" 1 ["work"] (qGx K)) :
  FnOk P w K mg base CX0 86 f fd ["works","number","boxes","choices","most"] (qEd K):=by
 refine F.ok scMeas (fun vs H Q E h => ?_) (fun cdv A outer s H vs Q E hr h => ?_)
 ·obtain⟨g,wa,bx,ca,c,bl,rfl,_⟩:=h
  rfl
 ·obtain⟨g,wa,bx,ca,c,bl,rfl,gv,hm,hD,hbx,hl8,hca,c0,c1,q⟩:=h
  have hu:(A.deeper (PyProof.Rows.envOfC "measured" (qA8 sMeas) s.heap.objs.size f cdv)).units+20<cLine:=by have:=hr.un;omega
  refine⟨_,(qA3 (qAe (i:=5) scMeas.nd rfl (Or.inr rfl) (qB0 (qAy hG hr (by omega) (qA0 (pv 0) (qA0 (pv 1) (qA0 (pv 2) (qA0 (pv 3) (qA0 (pv 4) (qA0 qH8 qA4))))))) rfl))
   (qA7 (qAk (qUp ["at","work"] [5] "at" rfl (.of rfl) (qH6 rfl nenum (qA0 (pv 0) qA4)) (fun _ _ _ _=>qEi (n:=2) K rfl rfl (qAs (qAg (i:=0) (by show (((["at","work","gone"]:List Str))).Nodup;decide) rfl (Or.inr rfl)) (qAs (qAg (i:=1) (by show (((["at","work","gone"]:List Str))).Nodup;decide) rfl (Or.inl rfl)) qC6))) (fun _ _ _ _ =>.nil) (fun _ _ _ _=>(qEv ["way"] [0,2] rfl (.of rfl) (qK8 K rfl (qAy hW hr (by omega) (qA0 (pv 1) qA4))) (fun _ _ _ _=>qAg (i:=0) (by show (((["way","at","gone"]:List Str))).Nodup;decide) rfl (Or.inl rfl)) (fun _ _ _ _ =>.nil) (fun _ _ _ _=>qMs K rfl rfl rfl hu (pv 2) (qB7 (qA0 (pv 1) (qA0 (pv 0) qA4))) qA2 ⟨rfl,rfl,rfl,rfl⟩))))))),?_⟩
  dsimp only [qBp,qB9,qNq]
  walk_at "rh"
  refine⟨g,wa,bx,ca,c,bl,by rw [hm];rfl,gv,hD,hbx,hl8,hca,c0,c1,fun r m' cc H1 hfi en ra hC mo e1 => ?_⟩
  subst hC
  obtain⟨s',t',d',ob⟩:=en.ob
  obtain⟨ks,k1,k2,k3,k4⟩:=en.gone
  walk_at "rh"
  refine⟨_,_,_,_,_,rfl,ob,T.cl,T.gone,qJ4 _ _ _ _ _ _ _ _ _,?_⟩
  walk_at "rh"
  obtain⟨wa',us,ee,hSw,hDus⟩:=(hD.mono e1.toSame).ofList
  cases ee
  have hul:=hDus.len
  rw [List.length_map] at hul
  have hfew:=gv.ws.few
  refine⟨wa,rfl,⟨_,hSw⟩,fun l hl => ?_⟩
  have nl:H l=none:=e1.none (by simp) hl
  refine qI8 (K:=K) (a:=wa) (xs:=us) (fun j σ' G => ∃(o0 o1:Option V) (as:List Addr),σ' = [o0,o1,some (.ref r.ga)]/\Ext [l] H1 G/\G l=some (.lst (as.map V.ref))/\IntsL G as (msOf g.ws m'.log j) /\ ∀a∈as,H1 a=none/\a≠l) ?_ ?_ ?_ ?_
  ·exact⟨_,_,[],rfl,.laid hl,qA1,.nil,by simp⟩
  ·intro j σ' G hj hq_
   obtain⟨_,_,_,_,eG,_⟩:=hq_
   exact (eG.drop hl).toSame.seq hSw
  ·intro j x σ' G p R hx hq_ hp hR_
   refine hide fun G_ hG_ => ?_
   obtain⟨o0,o1,as,rfl,eG,hlG,hA,has⟩:=hq_
   have hjl:j<g.ws.length:=by rw [<-hul];exact (List.getElem?_eq_some_iff.mp hx).1
   obtain⟨wk,hwk⟩ : ∃wk,g.ws[j]? = some wk:=⟨_,List.getElem?_eq_getElem hjl⟩
   have hal:as.length=j:=by rw [hA.len,qE7]
   refine hG_ ?_
   have e2:Ext [] G (upd G p (.tup [.int (j:Int),x])) :=.laid hp
   have y2:(upd G p (.tup [.int (j:Int),x])) p=some (.tup [.int (j:Int),x]):=qA1
   generalize upd G p (.tup [.int (j:Int),x])=G2 at e2 y2 ⊢
   walk_at "rh"
   refine qD3 (SqT.of y2) rfl ?_
   walk_at "rh"
   refine iteT ?_
   walk_at "rh"
   obtain⟨d,hd,dX⟩:=hDus.get hx
   rw [List.getElem?_map,hwk] at hd
   have hd:d=workD wk:=(Option.some.inj hd).symm
   subst hd
   obtain⟨xa,xs',hxa,_,_⟩:=dX.ofList
   subst hxa
   obtain⟨mm,_,mm2,hOk⟩:=gv.ws.all wk (List.mem_of_getElem? hwk)
   have E12:Ext [] H1 G2:=(eG.drop hl).trans e2
   refine⟨xa,wk,mm,_,rfl,dX.mono E12.toSame,hOk,mm2,fun lw us2 G3 hlw e3 hlw3 hW3 => ?_⟩
   have hW:DenL K G3 ((qAi wk wk.length).map pairD) us2:=hW3.mono yo_same
   have hwl:=hW.len
   rw [List.length_map] at hwl
   have hwb:=qBr (fun b hb=>(hOk.blk b hb).ns.few) wk.length
   have hml:=hOk.len
   walk_at "rh"
   refine⟨lw,rfl,⟨_,SqL.of hlw3⟩,fun l2 hl2 => ?_⟩
   have E13:=E12.trans e3
   have kga:H1 r.ga=some (gO P w ks):=k1
   have nl2:l2≠l:=fun z=>by rw [z,(e2.trans e3) _ _ (by simp) hlG] at hl2;cases hl2
   refine qBx (K:=K) (a:=lw) (xs:=us2) (fun i σ' G4 => ∃(o0:Option V),σ' = [o0,some (.int (j:Int)),some (.ref r.ga)]/\Ext [l2] G3 G4/\G4 l2=some (.lst ((((qAi wk wk.length).take i).map (cntOf m'.log j)).map V.int))) ?_ ?_ ?_ ?_
   ·exact⟨_,rfl,.laid hl2,qA1⟩
   ·intro i σ' G4 hi hq_
    obtain⟨_,_,e4,_⟩:=hq_
    exact (e4.drop hl2).toSame.seq (SqL.of hlw3)
   ·intro i v σ' G4 R2 hv hq_ hR2_
    refine hide fun G_ hG_ => ?_
    obtain⟨o0,rfl,e4,hl24⟩:=hq_
    obtain⟨d2,hd2,dV⟩:=hW.get hv
    obtain⟨pr,hpr,hd2⟩ : ∃pr,(qAi wk wk.length)[i]? = some pr/\d2=pairD pr:=by
     rw [List.getElem?_map] at hd2
     cases hc:(qAi wk wk.length)[i]? with
     | none=>rw [hc] at hd2;cases hd2
     | some pr=>rw [hc] at hd2;exact⟨pr,rfl,(Option.some.inj hd2).symm⟩
    subst hd2
    refine hG_ ?_
    have E34:=e4.drop hl2
    have kga4:=(E13.trans E34) _ _ (by simp) kga
    walk_at "rh"
    refine iteT ?_
    walk_at "rh"
    refine qRz ?_
    walk_at "rh"
    refine⟨r.ga,ks,rfl,kga4,?_⟩
    walk_at "rh"
    refine⟨len2 (by show 2<=1000;decide),fun p5 hp5 => ?_⟩
    have e5:Ext [] G4 (upd G4 p5 (.tup [.int (j:Int),v])) :=.laid hp5
    have y5:(upd G4 p5 (.tup [.int (j:Int),v])) p5=some (.tup [.int (j:Int),v]):=qA1
    generalize upd G4 p5 (.tup [.int (j:Int),v])=G5 at e5 y5 ⊢
    obtain⟨qa,rfl,hqa⟩:=qNh dV
    have E35:=E34.trans e5
    have n5:qBv G5 ks:=fun x hx=>(k2 x hx).mono (ts :=[]) (E13.trans E35) (by simp)
    walk_at "rh"
    refine⟨ks,((j:Int),pr.1,pr.2),p5,rfl,e5 _ _ (by simp) kga4,n5,⟨qa,SqT.of y5,E35.toSame.seqT hqa⟩,?_⟩
    refine⟨_,e5 _ _ (by simp) hl24,qAn (by rw [List.length_map,List.length_map,List.length_take];omega),hR2_ _ _ ⟨_,rfl,(e4.trans (e5.mono (by simp))).trans (.put (by simp)),?_⟩⟩
    rw [qA1,List.take_add_one,hpr,k4,qPz]
    simp only [Option.toList_some,List.map_append,List.map_cons,List.map_nil]
   ·intro σ' G4 hq_
    refine hide fun G_ hG_ => ?_
    obtain⟨o0,rfl,e4,hl24⟩:=hq_
    refine hG_ ?_
    rw [hwl,List.take_length] at hl24
    have E34:=e4.drop hl2
    have E24:=e3.trans E34
    have hl4:=(e2.trans E24) _ _ (by simp) hlG
    have hl2H:H1 l2=none:=(E13).none (by simp) hl2
    refine⟨_,hl4,qAn (by rw [List.length_map];omega),hR_ _ _ ⟨_,_,as ++ [l2],rfl,(eG.trans ((e2.trans E24).mono (by simp))).trans (.put (by simp)),by rw [qA1,List.map_append];rfl,?_,?_⟩⟩
    ·rw [qI6]
     refine IntsL.snoc (hA.mono fun a ha o e => ?_) ?_
     ·rw [qA6 (has a ha).2];exact (e2.trans E24) _ _ (by simp) e
     ·rw [qA6 nl2,hl24]
      unfold qBy
      rw [List.getD_eq_getElem?_getD,hwk];rfl
    ·intro a ha
     rcases List.mem_append.mp ha with z | z
     ·exact has a z
     ·rw [List.mem_singleton.mp z];exact⟨hl2H,nl2⟩
  ·intro σ' G hq_
   refine hide fun G_ hG_ => ?_
   obtain⟨o0,o1,as,rfl,eG,hlG,hA,has⟩:=hq_
   refine hG_ ?_
   rw [hul] at hA
   exact q l as m' cc G hfi mo nl (fun a ha=>⟨e1.none (by simp) (has a ha).1,(has a ha).2⟩) (e1.trans (eG.drop hl)) hlG hA
end
section
variable {P:Program} {w:World} {K:PySem.W.Frag} {mg:Str->Option Value} {base:Heap}
abbrev qGe:Stmt:=top 21
theorem scLNext:FnScope ["_law_now","_law_work_here","_law_block","_law_choices_here","_law_end"] ["_law_now","_law_work_here","_law_block","_law_choices_here"] (qA8 qGe):=⟨rfl,rfl,rfl,by decide +kernel,rfl,by decide +kernel,by decide +kernel⟩
theorem qP6 {f:Addr} {fd:FuncData} (F:Fun K "_law_next" "_law_next" qGe f fd) (nlen:mg "len" = none) :
  FnOk P w K mg base CX0 1 f fd ["_law_now","_law_work_here","_law_block","_law_choices_here"] (qJ1 K):=by
 refine F.ok scLNext (fun vs H Q E h => ?_) (fun cdv A outer s H vs Q E hr h => ?_)
 ·refine hide fun G_ hG_ => ?_
  obtain⟨now,wa,ca,hd,td,fa,mv,j,st,tk,m,wk,b,ch,rfl,_⟩:=h
  refine hG_ ?_
  rfl
 ·refine hide fun G_ hG_ => ?_
  obtain⟨now,wa,ca,hd,td,fa,mv,j,st,tk,m,wk,b,ch,rfl,hnow,hD,hb,hok,hca,htk,hch,q⟩:=h
  obtain⟨wa',bs,ea,hSb,hDb⟩:=hD.ofList
  cases ea
  have hbl:=hDb.len
  rw [List.length_map] at hbl
  obtain⟨vb,hvb,db⟩:=hDb.get' (i:=j) (d:=blkD b) (by rw [List.getElem?_map,hb];rfl)
  obtain⟨pt,pvs,rfl,hSp,hDp⟩:=db.ofTuple
  obtain⟨v1,q1',rfl,k5,d5⟩:=hDp.ofCons
  obtain⟨v2,q2',rfl,k6,d6⟩:=d5.ofCons
  have:=d6.ofNil
  subst this
  refine hG_ ?_
  have hu:=qLf hr
  refine⟨_,(qA3 (qAe (i:=4) scLNext.nd rfl (Or.inl rfl) (qAb qAm (qAb qAa (pv 1) (pv 2) (fun _ _=>rfl)) qA2 (fun _ _=>rfl)))
   (qA3 (qBa (qA9 qMt (qAb qAm (pv 4) qA2 (fun _ _=>rfl)) qAc (qAd _)) (qA7 (qAk (qBn (qA9 qBc (qAb qAm (pv 4) qA2 (fun _ _=>rfl)) qAc (qAd _)) (qAl qAf (by rfl) nlen PySem.boot_len (qA0 (pv 1) qA4)) (qAb qAm (pv 4) qA2 (fun _ _=>rfl))))) qAu)
   (qA3 (qDr hu (pv 0) qAc (qAp qAx (qBb hu (pv 0) qAc (fun _ _=>rfl)) qA2) rfl)
   (qA3 (qBa (qS2 (qA9 qSc (qBb hu (pv 0) qAc (fun _ _=>rfl)) (qAl qAf (by rfl) nlen PySem.boot_len (qA0 (pv 3) qA4)) (qAd _)) (qMi (qA9 qBc (qAb qAa (pv 3) (qAp qGl (qBb hu (pv 0) qAc (fun _ _=>rfl)) qA2) (fun _ _=>rfl)) qA2 (qAd _)))).pt (qA7 (qAk (qAb qAm (pv 4) qA2 (fun _ _=>rfl)))) qAu)
   (qA7 (qAk (qAb qAm (pv 4) qA2 (fun _ _=>rfl)))))))),?_⟩
  dsimp only [qBp,qB9]
  walk_at "rg"
  refine qAq hSb (qBf hvb) ?_
  walk_at "rg"
  rcases hok with h | ⟨x,h,h1,h2⟩ | ⟨x,y,h,hxy,h1,h2,h3,h4⟩
  ·refine hide fun G_ hG_ => ?_
   rw [h] at k6 q
   obtain⟨a,vs,rfl,hT,hDL⟩:=k6.ofTuple
   obtain⟨v1,r1,rfl,c1,d1⟩:=hDL.ofCons
   have:=d1.ofNil
   subst this
   cases c1.ofStr
   refine hG_ ?_
   walk_at "rg"
   refine qOl ?_
   walk_at "rg"
   rw [decide_eq_false (by decide +kernel)]
   refine iteT ?_
   walk_at "rg"
   refine qB5 ?_
   walk_at "rg"
   rw [decide_eq_true (by rfl)]
   refine iteT ?_
   walk_at "rg"
   refine qC4 hSb ?_
   rw [hbl]
   walk_at "rg"
   exact q H hnow fun _ _=>rfl
  ·refine hide fun G_ hG_ => ?_
   rw [h] at k6 q
   obtain⟨a,vs,rfl,hT,hDL⟩:=k6.ofTuple
   obtain⟨v1,r1,rfl,c1,d1⟩:=hDL.ofCons
   obtain⟨v2,r2,rfl,c2,d2⟩:=d1.ofCons
   have:=d2.ofNil
   subst this
   cases c1.ofStr
   cases c2.ofInt
   refine hG_ ?_
   walk_at "rg"
   refine qOl ?_
   walk_at "rg"
   rw [decide_eq_false (by decide +kernel)]
   refine iteT ?_
   walk_at "rg"
   refine qB5 ?_
   walk_at "rg"
   rw [decide_eq_false (by decide +kernel)]
   refine iteF ?_
   walk_at "rg"
   exact q H hnow fun _ _=>rfl
  ·refine hide fun G_ hG_ => ?_
   rw [h] at k6 q
   obtain⟨a,vs,rfl,hT,hDL⟩:=k6.ofTuple
   obtain⟨v1,r1,rfl,c1,d1⟩:=hDL.ofCons
   obtain⟨v2,r2,rfl,c2,d2⟩:=d1.ofCons
   obtain⟨v3,r3,rfl,c3,d3⟩:=d2.ofCons
   have:=d3.ofNil
   subst this
   cases c1.ofStr
   cases c2.ofInt
   cases c3.ofInt
   refine hG_ ?_
   walk_at "rg"
   refine qOl ?_
   walk_at "rg"
   rw [decide_eq_true (by rfl)]
   refine iteF ?_
   walk_at "rg"
   refine qB4 hnow (qHa _ _ _ _ _ _) ?_
   walk_at "rg"
   refine qGj hnow (qPc _ _ _ _ _ _ _) (by show 6<sizeLine;decide) ?_
   have hn1:(upd H now (.dK (nowD hd td fa mv st (tk+1)))) now=some (.dK (nowD hd td fa mv st (tk+1))):=qA1
   have hT1:SqT K (upd H now (.dK (nowD hd td fa mv st (tk+1)))) a [.str "fork",.int x,.int y]:=qCk hnow hT
   have hc1:SqL K (upd H now (.dK (nowD hd td fa mv st (tk+1)))) ca (ch.map V.int):=qO8 hnow hca
   have q':=q _ hn1 fun z hz=>qA6 hz
   generalize upd H now (.dK (nowD hd td fa mv st (tk+1)))=H1 at hn1 hT1 hc1 q' ⊢
   walk_at "rg"
   refine qB4 hn1 (qHa _ _ _ _ _ _) ?_
   walk_at "rg"
   refine qC4 hc1 ?_
   rw [List.length_map]
   walk_at "rg"
   have q':Q (.int (if tk+1>(ch.length:Int)\/getB ch tk=0 then x else y)) H1:=q'
   by_cases hgt:tk+1>(ch.length:Int)
   ·rw [if_pos (.inl hgt)] at q'
    rw [decide_eq_true hgt]
    walk_at "rg"
    refine iteT ?_
    refine iteT ?_
    walk_at "rg"
    exact q'
   ·rw [decide_eq_false hgt]
    walk_at "rg"
    refine iteF ?_
    walk_at "rg"
    refine qB4 hn1 (qHa _ _ _ _ _ _) ?_
    walk_at "rg"
    rw [show tk+1 - 1=tk by omega]
    refine qAq hc1 (qCb htk (by omega)) ?_
    walk_at "rg"
    refine qC1 ?_
    walk_at "rg"
    by_cases hz:getB ch tk=0
    ·rw [if_pos (.inr hz)] at q'
     rw [decide_eq_true hz]
     refine iteT ?_
     walk_at "rg"
     exact q'
    ·rw [if_neg (by rintro (z | z);exact hgt z;exact hz z)] at q'
     rw [decide_eq_false hz]
     refine iteF ?_
     walk_at "rg"
     exact q'
end
section
variable {P:Program} {w:World} {K:PySem.W.Frag} {mg:Str->Option Value} {base:Heap}
abbrev qGf:Stmt:=top 22
theorem scLDeed:FnScope ["_law_now","_law_stack","_law_deed_here","_law_most","_law_mean","_law_frame","_law_aside","_law_word","_law_mine"] ["_law_now","_law_stack","_law_deed_here","_law_most","_law_mean"] (qA8 qGf):=⟨rfl,rfl,rfl,by decide +kernel,rfl,by decide +kernel,by decide +kernel⟩
theorem qP8 {f:Addr} {fd:FuncData} (F:Fun K "_law_deed" "_law_deed" qGf f fd) (nlen:mg "len" = none) (nint:mg "int" = none) (nlist:mg "list" = none) :
  FnOk P w K mg base CX0 1 f fd ["_law_now","_law_stack","_law_deed_here","_law_most","_law_mean"] (qJ2 K):=by
 refine F.ok scLDeed (fun vs H Q E h => ?_) (fun cdv A outer s H vs Q E hr h => ?_)
 ·refine hide fun G_ hG_ => ?_
  obtain⟨g,l,G0,m,f,rest,a,fas,dv,d,rfl,_⟩:=h
  refine hG_ ?_
  rfl
 ·refine hide fun G_ hG_ => ?_
  obtain⟨g,l,G0,m,f,rest,a,fas,dv,d,rfl,gv,ms,est,L,hD0,hok,hpl,q⟩:=h
  have hu:=qLf hr
  have hD:Den K H (deedD d) dv:=hD0.mono L.old.toSame
  obtain⟨da,rfl,hT⟩:=qTa hD
  obtain⟨⟨t1,t2,t3,t4⟩,tr⟩:=L.top est
  refine hG_ ?_
  refine⟨_,(qA3 (qAe (i:=5) scLDeed.nd rfl (Or.inl rfl) (qAb qAa (pv 1) (qEu qCx qA2) (fun _ _=>rfl)))
   (qA3 (qK6 (i:=6) (j:=7) rfl scLDeed.nd rfl rfl (by decide) rfl rfl (qA0 (qAb qAa (pv 5) qA2 (fun _ _=>rfl)) (qA0 (qAb qAm (pv 2) qA2 (fun _ _=>rfl)) qA4)) rfl)
   (qA3 (qAe (i:=8) scLDeed.nd rfl (Or.inl rfl) (qBn (qC5 K rfl (pv 4) (fun _=>rfl)) (qAb qAa (pv 5) qA2 (fun _ _=>rfl)) (qBb hu (pv 0) qAc (fun _ _=>rfl))))
   (qA3 (qBa (qA9 (inK K rfl) (pv 7) (qB7 (qA0 qAc (qA0 qAc qA4))) rfl) (qA3 (qBa (qD4 (qA9 qBc (pv 7) qAc (qAd _)) (qCj (qK4 (qC5 K rfl (pv 4) (fun _=>rfl))))).pt (qA7 (qDr hu (pv 6) (qAb qAm (pv 2) qA2 (fun _ _=>rfl)) (qAb qAa (pv 8) (qAb qAm (pv 2) qA2 (fun _ _=>rfl)) (fun _ _=>rfl)) rfl)) qAu)
   (qA3 (qBa (qD4 (qA9 qBc (pv 7) qAc (qAd _)) (qD4 (qK4 (qC5 K rfl (pv 4) (fun _=>rfl))) (qCj (qMk (qHz hu (qAb qAm (pv 2) qA2 (fun _ _=>rfl)) (pv 6)))))).pt (qA7 (qAk qAc)) qAu)
   (qA3 (qBa (qD4 (qA9 qBc (pv 7) qAc (qAd _)) (qCj (qK4 (qC5 K rfl (pv 4) (fun _=>rfl))))).pt (qA7 (qCy (qBb hu (pv 6) (qAb qAm (pv 2) qA2 (fun _ _=>rfl)) (fun _ _=>rfl)) (qD6 (pv 8) (qAb qAm (pv 2) qA2 (fun _ _=>rfl)) qBm))) qAu)
   (qA3 (qCy (qAp qAx (qAb qAa (qBb hu (pv 0) qAc (fun _ _=>rfl)) (qAv qBz (by rfl) nint PyProof.Rows.boot_int (qA0 (qD8 qBc (pv 7) qAc (qAd _)) qA4)) (fun _ _=>rfl)) qA2) (qD6 (qBb hu (pv 0) qAc (fun _ _=>rfl)) (qAv qBz (by rfl) nint PyProof.Rows.boot_int (qA0 (qD8 qBc (pv 7) qAc (qAd _)) qA4)) qBm))
   (qA7 (qAk qAc)))))) qAu)
   (qA3 (qBa (qA9 qBc (qBb hu (pv 0) qAc (fun _ _=>rfl)) (pv 3) (qAd _)) (qA7 (qAk qAc)) qAu)
   (qA3 (qBa (qD4 (qA9 qBc (pv 7) qAc (qAd _)) (qCj (qA9 qBc (qAl qAf (by rfl) nlen PySem.boot_len (qA0 (pv 1) qA4)) qA2 (qAd _)))).pt (qA7 (qAk qAc)) qAu)
   (qA3 (qDr hu (pv 0) qAc (qAp qAx (qBb hu (pv 0) qAc (fun _ _=>rfl)) qA2) rfl)
   (qA3 (qBa (qA9 qBc (pv 7) qAc (qAd _)) (qA7 (qBe (qDs PySem.F.plainAttrs_list PySem.F.slot_list_append PySem.F.type_list_append qBh (pv 1) (qA0 (qAr (qA0 (qAb qAm (pv 2) qA2 (fun _ _=>rfl)) (qA0 (qB7 (qA0 (qEu qCx qA2) (qA0 qA2 qA4))) (qA0 (qEu qCx qA2) (qA0 (qAv qBi (by rfl) nlist PyProof.Rows.boot_list (qA0 (pv 8) qA4)) (qA0 qEz qA4)))))) qA4)))) (qA7 (qBa (qA9 qBc (pv 7) qAc (qAd _)) (qA7 (qBe (qDs PySem.F.plainAttrs_list PySem.F.slot_list_append PySem.F.type_list_append qBh (qBb hu (pv 0) qAc (fun _ _=>rfl)) (qA0 (qAb qAa (pv 8) (qAb qAm (pv 2) qA2 (fun _ _=>rfl)) (fun _ _=>rfl)) qA4)))) (qA7 (qCy (qBn (qA9 qBc (pv 7) qAc (qAd _)) (qAb qAm (pv 2) qA2 (fun _ _=>rfl)) (qAp qAx (qAb qAa (pv 8) (qAb qAm (pv 2) qA2 (fun _ _=>rfl)) (fun _ _=>rfl)) (qAb qAa (pv 8) (qAb qAm (pv 2) qA2 (fun _ _=>rfl)) (fun _ _=>rfl)))) (qD6 (pv 8) (qAb qAm (pv 2) qA2 (fun _ _=>rfl)) qBm))))))
   (qA7 (qAk qAc)))))))))),?_⟩
  dsimp only [qBp,qB9]
  walk_at "rg"
  refine qAq (SqL.of L.skA) (qKs _ _) ?_
  walk_at "rg"
  refine qAq (SqL.of t1) (v :=.ref a.as) rfl ?_
  walk_at "rg"
  refine qCi hT (v :=.str (qDz d)) (by exact qBf (show (V.str (qDz d)::argsV d)[0]? = some _ from rfl)) ?_
  walk_at "rg"
  refine⟨_,_,rfl,?_⟩
  walk_at "rg"
  refine qG4 ?_
  refine qRu (v :=.ref (maOf g l a)) (fun hm R hR => ?_) (fun hm R hR => ?_) ?_
  ·walk_at "rg"
   refine qAq (SqL.of t1) (v :=.ref a.bx) rfl ?_
   unfold maOf at hR
   rw [if_pos hm] at hR
   exact hR
  ·walk_at "rg"
   refine qB4 L.now (qHb _ _ _ _ _ _) ?_
   unfold maOf at hR
   rw [if_neg (by rw [hm];exact Bool.false_ne_true)] at hR
   exact hR
  walk_at "rg"
  refine⟨len2 (by show 2<=1000;decide),fun pt hpt => ?_⟩
  walk_at "rg"
  refine⟨pt,_,rfl,.inr (SqT.of qA1),rfl,rfl,?_⟩
  have L1:=L.fresh (.laid (o :=.tup [.str "save",.str "back"]) hpt)
  have hT1:=(Ext.laid (ts :=[]) (o :=.tup [.str "save",.str "back"]) hpt).toSame.seqT hT
  generalize upd H pt (.tup [.str "save",.str "back"])=H1 at L1 hT1 ⊢
  refine hide fun G_ hG_ => ?_
  have hma:=L1.mineAt est
  obtain⟨⟨u1,u2,u3,u4⟩,ur⟩:=L1.top est
  refine hG_ ?_
  clear hT t1 t2 t3 t4 tr hD hpt L
  cases d with
  | save b =>
   dsimp only [qDz,argsV] at hT1 ⊢
   obtain⟨b0,b1⟩:0<=b/\b<8:=hok
   have hmean:g.mean=false:=by
    cases hc:g.mean with
    | false=>rfl
    | true=>exact absurd rfl ((hpl hc).1 b)
   have hmi:mine g m f=m.held:=by unfold mine;rw [hmean,if_neg Bool.false_ne_true]
   have hal:=qR9 (ms.top est).as
   rw [hmi] at hma
   rw [if_neg Bool.false_ne_true,show inV (.str "save") [V.str "save",.str "back"]=true by decide +kernel]
   walk_at "rg"
   refine iteT ?_
   walk_at "rg"
   refine qB5 ?_
   walk_at "rg"
   rw [decide_eq_true (by rfl)]
   refine iteT ?_
   walk_at "rg"
   refine qG4 ?_
   first | rw [hmean] | skip
   walk_at "rg"
   refine iteT ?_
   walk_at "rg"
   refine qAq (SqL.of hma) (qCb b0 (by rw [ms.held];exact b1)) ?_
   walk_at "rg"
   refine⟨a.as,_,rfl,DPut.k (k:=Sum.inl b) u4 (qAn (by unfold asD;rw [List.length_map];omega)),?_⟩
   rw [qNx]
   have L2:=L1.setAs est (putA f.as b (getB m.held b))
   have hT2:SqT K (upd H1 a.as (.dK (asD (putA f.as b (getB m.held b))))) da [.str "save",.int b]:=qCk u4 hT1
   generalize upd H1 a.as (.dK (asD (putA f.as b (getB m.held b))))=H2 at L2 hT2 ⊢
   walk_at "rg"
   refine qB5 ?_
   walk_at "rg"
   rw [decide_eq_false (by decide +kernel)]
   refine iteF ?_
   refine iteF ?_
   walk_at "rg"
   refine qB5 ?_
   walk_at "rg"
   rw [decide_eq_false (by decide +kernel)]
   refine iteF ?_
   refine iteF ?_
   walk_at "rg"
   refine qB4 L2.now (qDf _ _ _ _ _ _) ?_
   walk_at "rg"
   refine qB5 ?_
   walk_at "rg"
   rw [decide_eq_false (by decide +kernel)]
   refine .inr ⟨false,rfl,?_⟩
   walk_at "rg"
   refine qAq (SqL.of L2.mv) (v :=.int m.sv) rfl ?_
   walk_at "rg"
   refine qB4 L2.now (qDf _ _ _ _ _ _) ?_
   walk_at "rg"
   refine qB5 ?_
   walk_at "rg"
   rw [decide_eq_false (by decide +kernel)]
   refine .inr ⟨false,rfl,?_⟩
   walk_at "rg"
   refine qCc (n:=0) L2.mv rfl ?_
   walk_at "rg"
   exact q _ (a::fas) (L2.setMv (m.sv+1) m.bk)
  | back b =>
   dsimp only [qDz,argsV] at hT1 ⊢
   obtain⟨b0,b1⟩:0<=b/\b<8:=hok
   have hmean:g.mean=false:=by
    cases hc:g.mean with
    | false=>rfl
    | true=>exact absurd rfl ((hpl hc).2 b)
   have hmi:mine g m f=m.held:=by unfold mine;rw [hmean,if_neg Bool.false_ne_true]
   rw [hmi] at hma
   rw [if_neg Bool.false_ne_true,show inV (.str "back") [V.str "save",.str "back"]=true by decide +kernel]
   walk_at "rg"
   refine iteT ?_
   walk_at "rg"
   refine qB5 ?_
   walk_at "rg"
   rw [decide_eq_false (by decide +kernel)]
   refine iteF ?_
   refine iteF ?_
   walk_at "rg"
   refine qB5 ?_
   walk_at "rg"
   rw [decide_eq_true (by rfl)]
   refine iteT ?_
   walk_at "rg"
   refine qG4 ?_
   first | rw [hmean] | skip
   walk_at "rg"
   refine iteT ?_
   walk_at "rg"
   refine⟨a.as,_,rfl,DGet.k (k:=Sum.inl b) u4,?_⟩
   rw [qFz]
   walk_at "rg"
   simp only [mdeed] at q
   cases hlk:f.as.lookup b with
   | none =>
    rw [hlk] at q
    refine iteT ?_
    walk_at "rg"
    refine q H1 (a::fas) ?_
    show LawAt g l G0 H1 { m with st:=f::rest } (a::fas)
    rw [qG7 est];exact L1
   | some v =>
    rw [hlk] at q
    refine iteF ?_
    walk_at "rg"
    refine qB5 ?_
    walk_at "rg"
    rw [decide_eq_true (by rfl)]
    refine iteT ?_
    walk_at "rg"
    refine qG4 ?_
    first | rw [hmean] | skip
    walk_at "rg"
    refine iteT ?_
    walk_at "rg"
    refine⟨a.as,.int v,rfl,by have:=DGet.k (k:=Sum.inl b) u4;rw [qFz,hlk] at this;exact this,?_⟩
    walk_at "rg"
    obtain⟨j,rfl⟩:=Int.eq_ofNat_of_zero_le b0
    have hmal:maOf g l a=l.hd:=by unfold maOf;rw [if_neg (by rw [hmean];exact Bool.false_ne_true)]
    refine qCc (n:=j) hma (by rw [List.length_map,ms.held];exact qEj (by omega)) ?_
    rw [qEg]
    have L2:=L1.setMine est (putB m.held (j:Int) v)
    have eL:setMine g m f rest (putB m.held (j:Int) v) = { m with held:=putB m.held (j:Int) v,st:=f::rest }:=by unfold setMine;rw [hmean,if_neg Bool.false_ne_true]
    rw [eL] at L2
    generalize upd H1 (maOf g l a) (.lst ((putB m.held (j:Int) v).map V.int))=H2 at L2 ⊢
    walk_at "rg"
    refine qB4 L2.now (qDf _ _ _ _ _ _) ?_
    walk_at "rg"
    refine qB5 ?_
    walk_at "rg"
    rw [decide_eq_true (by rfl)]
    refine .inr ⟨true,rfl,?_⟩
    walk_at "rg"
    refine qAq (SqL.of L2.mv) (v :=.int m.bk) rfl ?_
    walk_at "rg"
    refine qB4 L2.now (qDf _ _ _ _ _ _) ?_
    walk_at "rg"
    refine qB5 ?_
    walk_at "rg"
    rw [decide_eq_true (by rfl)]
    refine .inr ⟨true,rfl,?_⟩
    walk_at "rg"
    refine qCc (n:=1) L2.mv rfl ?_
    walk_at "rg"
    exact q _ (a::fas) (L2.setMv m.sv (m.bk+1))
  | call x =>
   dsimp only [qDz,argsV] at hT1 ⊢
   rw [if_neg Bool.false_ne_true,show inV (.str "call") [V.str "save",.str "back"]=false by decide +kernel]
   walk_at "rg"
   refine iteF ?_
   walk_at "rg"
   refine qB4 L1.now (qBw _ _ _ _ _ _) ?_
   walk_at "rg"
   refine qC1 ?_
   walk_at "rg"
   simp only [mdeed] at q
   by_cases hmost:m.steps=g.most
   ·rw [if_pos hmost] at q
    rw [decide_eq_true hmost]
    refine iteT ?_
    walk_at "rg"
    refine q H1 (a::fas) ?_
    show LawAt g l G0 H1 { m with st:=f::rest } (a::fas)
    rw [qG7 est];exact L1
   rw [if_neg hmost] at q
   rw [decide_eq_false hmost]
   refine iteF ?_
   walk_at "rg"
   refine qB5 ?_
   walk_at "rg"
   rw [decide_eq_true (by rfl)]
   refine iteT ?_
   walk_at "rg"
   refine qC4 (SqL.of L1.skA) ?_
   rw [L1.skLen est]
   walk_at "rg"
   refine qC1 ?_
   walk_at "rg"
   by_cases h20:rest.length+1=20
   ·rw [if_pos h20] at q
    rw [decide_eq_true (by omega)]
    refine iteT ?_
    walk_at "rg"
    refine q H1 (a::fas) ?_
    show LawAt g l G0 H1 { m with st:=f::rest } (a::fas)
    rw [qG7 est];exact L1
   rw [if_neg h20] at q
   rw [decide_eq_false (by omega)]
   refine iteF ?_
   walk_at "rg"
   refine qB4 L1.now (qBw _ _ _ _ _ _) ?_
   walk_at "rg"
   refine qGj L1.now (qE4 _ _ _ _ _ _ _) (by show 6<sizeLine;decide) ?_
   have L2:=L1.setNow (m.steps+1) m.taken
   have hT2:=qCk (o :=.dK (nowD l.hd l.td l.fd l.mv (m.steps+1) m.taken)) L1.now hT1
   generalize upd H1 l.now (.dK (nowD l.hd l.td l.fd l.mv (m.steps+1) m.taken))=H2 at L2 hT2 ⊢
   have est2:({ m with steps:=m.steps+1,taken:=m.taken }:Ms).st=f::rest:=est
   have hma2:=L2.mineAt est2
   have hmm:mine g { m with steps:=m.steps+1,taken:=m.taken } f=mine g m f:=rfl
   rw [hmm] at hma2
   walk_at "rg"
   refine qB5 ?_
   walk_at "rg"
   rw [decide_eq_true (by rfl)]
   refine iteT ?_
   walk_at "rg"
   refine qCz L2.skA ?_
   walk_at "rg"
   refine⟨len2 (by show 2<=1000;decide),fun p1 hp1 => ?_⟩
   walk_at "rg"
   have e1:Ext [] H2 (upd H2 p1 (.tup [.int (-1),.int 0])) :=.laid hp1
   have y1:(upd H2 p1 (.tup [.int (-1),.int 0])) p1=some (.tup [.int (-1),.int 0]):=qA1
   generalize upd H2 p1 (.tup [.int (-1),.int 0])=G1 at e1 y1 ⊢
   refine⟨maOf g l a,_,rfl,.inl (SqL.of (e1 _ _ (by simp) hma2)),fun p2 hp2 => ?_⟩
   walk_at "rg"
   have e2:Ext [] G1 (upd G1 p2 (.lst ((mine g m f).map V.int))) :=.laid hp2
   have y2:(upd G1 p2 (.lst ((mine g m f).map V.int))) p2=some (.lst ((mine g m f).map V.int)):=qA1
   generalize upd G1 p2 (.lst ((mine g m f).map V.int))=G2 at e2 y2 ⊢
   refine qH2 fun p3 hp3 => ?_
   walk_at "rg"
   have e3:Ext [] G2 (upd G2 p3 (.dK [])) :=.laid hp3
   have y3:(upd G2 p3 (.dK [])) p3=some (.dK (asD [])):=qA1
   generalize upd G2 p3 (.dK [])=G3 at e3 y3 ⊢
   refine⟨len2 (by show 5<=1000;decide),fun p4 hp4 => ?_⟩
   walk_at "rg"
   have e4:Ext [] G3 (upd G3 p4 (.lst [.int x,.ref p1,.int (-1),.ref p2,.ref p3])) :=.laid hp4
   have y4:(upd G3 p4 (.lst [.int x,.ref p1,.int (-1),.ref p2,.ref p3])) p4=some (.lst [.int x,.ref p1,.int (-1),.ref p2,.ref p3]):=qA1
   generalize upd G3 p4 (.lst [.int x,.ref p1,.int (-1),.ref p2,.ref p3])=G4 at e4 y4 ⊢
   have e24:=e3.trans e4
   have e14:=e2.trans e24
   have e04:=e1.trans e14
   have L4:=L2.fresh e04
   refine qDl L4.skA (by rw [L1.skLen est];exact qAn (by have:=ms.deep;rw [est] at this;have h2:rest.length+1<=20:=this;omega)) ?_
   walk_at "rg"
   obtain⟨x0,x1⟩:0<=x/\x<(g.ws.length:Int):=hok
   have hx:((x.toNat:Nat):Int)=x:=by omega
   have nn : ∀ {z:Addr} {A B:Hp},Ext [] A B->B z=none->A z=none:=fun e h=>e.none (by simp) h
   have L5:=L2.push e04 (a:=⟨p4,p1,p2,p3⟩) (f:=⟨x.toNat,-1,0,-1,mine g m f,[]⟩) ⟨by rw [hx];exact y4,e14 _ _ (by simp) y1,e24 _ _ (by simp) y2,e4 _ _ (by simp) y3⟩ (nn (e1.trans (e2.trans e3)) hp4) (nn e1 hp2) (nn (e1.trans e2) hp3) (qA5 (e3 _ _ (by simp) y2) hp4).symm (qA5 y3 hp4).symm (qA5 y2 hp3)
   have hz:({ ({ m with steps:=m.steps+1,taken:=m.taken }:Ms) with st:=⟨x.toNat,-1,0,-1,mine g m f,[]⟩::m.st }:Ms) = { m with steps:=m.steps+1,st:=⟨x.toNat,-1,0,-1,mine g m f,[]⟩::f::rest }:=by rw [est]
   refine q (upd G4 l.sk (.lst ((fas.reverse.map fun a=>V.ref a.fa) ++ [.ref a.fa] ++ [.ref p4]))) (⟨p4,p1,p2,p3⟩::a::fas) ?_
   show LawAt g l G0 _ { m with steps:=m.steps+1,st:=⟨x.toNat,-1,0,-1,mine g m f,[]⟩::f::rest } _
   rw [List.reverse_cons,List.map_append] at L5
   rw [<-hz]
   exact L5
  | tell b =>
   dsimp only [qDz,argsV] at hT1 ⊢
   obtain⟨b0,b1⟩:0<=b/\b<8:=hok
   have hml:=qDh ms (ms.top est)
   rw [if_neg Bool.false_ne_true,show inV (.str "tell") [V.str "save",.str "back"]=false by decide +kernel]
   walk_at "rg"
   refine iteF ?_
   walk_at "rg"
   refine qB4 L1.now (qBw _ _ _ _ _ _) ?_
   walk_at "rg"
   refine qC1 ?_
   walk_at "rg"
   simp only [mdeed] at q
   by_cases hmost:m.steps=g.most
   ·rw [if_pos hmost] at q
    rw [decide_eq_true hmost]
    refine iteT ?_
    walk_at "rg"
    refine q H1 (a::fas) ?_
    show LawAt g l G0 H1 { m with st:=f::rest } (a::fas)
    rw [qG7 est];exact L1
   rw [if_neg hmost] at q
   rw [decide_eq_false hmost]
   refine iteF ?_
   walk_at "rg"
   refine qB5 ?_
   walk_at "rg"
   rw [decide_eq_false (by decide +kernel)]
   refine iteF ?_
   refine iteF ?_
   walk_at "rg"
   refine qB4 L1.now (qBw _ _ _ _ _ _) ?_
   walk_at "rg"
   refine qGj L1.now (qE4 _ _ _ _ _ _ _) (by show 6<sizeLine;decide) ?_
   have L2:=L1.setNow (m.steps+1) m.taken
   have hT2:=qCk (o :=.dK (nowD l.hd l.td l.fd l.mv (m.steps+1) m.taken)) L1.now hT1
   generalize upd H1 l.now (.dK (nowD l.hd l.td l.fd l.mv (m.steps+1) m.taken))=H2 at L2 hT2 ⊢
   have est2:({ m with steps:=m.steps+1,taken:=m.taken }:Ms).st=f::rest:=est
   have hma2:=L2.mineAt est2
   have hmm:mine g { m with steps:=m.steps+1,taken:=m.taken } f=mine g m f:=rfl
   rw [hmm] at hma2
   walk_at "rg"
   refine qB5 ?_
   walk_at "rg"
   rw [decide_eq_false (by decide +kernel)]
   refine iteF ?_
   walk_at "rg"
   refine qB5 ?_
   walk_at "rg"
   rw [decide_eq_true (by rfl)]
   refine iteT ?_
   walk_at "rg"
   refine qB4 L2.now (qJb _ _ _ _ _ _) ?_
   refine qCz L2.told ?_
   walk_at "rg"
   refine qAq (SqL.of hma2) (qCb b0 (by rw [hml];exact b1)) ?_
   walk_at "rg"
   have htl:=ms.told
   have hst:=ms.steps
   have hmo:=gv.most
   refine qDl L2.told (by rw [List.length_map,sizeLine_eq];show m.told.length<_;omega) ?_
   walk_at "rg"
   have L3:=L2.setTold (m.told ++ [getB (mine g m f) b])
   rw [List.map_append] at L3
   have hz:({ ({ m with steps:=m.steps+1,taken:=m.taken }:Ms) with told:=m.told ++ [getB (mine g m f) b] }:Ms) = { m with steps:=m.steps+1,told:=m.told ++ [getB (mine g m f) b],st:=f::rest }:=by rw [<-est]
   refine q _ (a::fas) ?_
   show LawAt g l G0 _ { m with steps:=m.steps+1,told:=m.told ++ [getB (mine g m f) b],st:=f::rest } _
   rw [<-hz]
   exact L3
  | set b v =>
   dsimp only [qDz,argsV] at hT1 ⊢
   refine hide fun G_ hG_ => ?_
   obtain⟨b0,b1,_,_⟩:=hok
   refine hG_ ?_
   have hml:=qDh ms (ms.top est)
   rw [if_neg Bool.false_ne_true,show inV (.str "set") [V.str "save",.str "back"]=false by decide +kernel]
   walk_at "rg"
   refine iteF ?_
   walk_at "rg"
   refine qB4 L1.now (qBw _ _ _ _ _ _) ?_
   walk_at "rg"
   refine qC1 ?_
   walk_at "rg"
   simp only [mdeed] at q
   by_cases hmost:m.steps=g.most
   ·rw [if_pos hmost] at q
    rw [decide_eq_true hmost]
    refine iteT ?_
    walk_at "rg"
    refine q H1 (a::fas) ?_
    show LawAt g l G0 H1 { m with st:=f::rest } (a::fas)
    rw [qG7 est];exact L1
   rw [if_neg hmost] at q
   rw [decide_eq_false hmost]
   refine iteF ?_
   walk_at "rg"
   refine qB5 ?_
   walk_at "rg"
   rw [decide_eq_false (by decide +kernel)]
   refine iteF ?_
   refine iteF ?_
   walk_at "rg"
   refine qB4 L1.now (qBw _ _ _ _ _ _) ?_
   walk_at "rg"
   refine qGj L1.now (qE4 _ _ _ _ _ _ _) (by show 6<sizeLine;decide) ?_
   have L2:=L1.setNow (m.steps+1) m.taken
   have hT2:=qCk (o :=.dK (nowD l.hd l.td l.fd l.mv (m.steps+1) m.taken)) L1.now hT1
   generalize upd H1 l.now (.dK (nowD l.hd l.td l.fd l.mv (m.steps+1) m.taken))=H2 at L2 hT2 ⊢
   have est2:({ m with steps:=m.steps+1,taken:=m.taken }:Ms).st=f::rest:=est
   have hma2:=L2.mineAt est2
   have hmm:mine g { m with steps:=m.steps+1,taken:=m.taken } f=mine g m f:=rfl
   rw [hmm] at hma2
   walk_at "rg"
   refine qB5 ?_
   walk_at "rg"
   rw [decide_eq_false (by decide +kernel)]
   refine iteF ?_
   walk_at "rg"
   refine qB5 ?_
   walk_at "rg"
   rw [decide_eq_false (by decide +kernel)]
   refine iteF ?_
   walk_at "rg"
   refine qB5 ?_
   walk_at "rg"
   rw [decide_eq_true (by rfl)]
   refine iteT ?_
   walk_at "rg"
   obtain⟨j,rfl⟩:=Int.eq_ofNat_of_zero_le b0
   refine qCc (n:=j) hma2 (by rw [List.length_map,hml];exact qEj (by omega)) ?_
   rw [qEg]
   walk_at "rg"
   exact q _ _ (L2.setMine est2 _)
  | add b o =>
   dsimp only [qDz,argsV] at hT1 ⊢
   refine hide fun G_ hG_ => ?_
   obtain⟨b0,b1,o0,o1⟩:=hok
   refine hG_ ?_
   have hml:=qDh ms (ms.top est)
   rw [if_neg Bool.false_ne_true,show inV (.str "add") [V.str "save",.str "back"]=false by decide +kernel]
   walk_at "rg"
   refine iteF ?_
   walk_at "rg"
   refine qB4 L1.now (qBw _ _ _ _ _ _) ?_
   walk_at "rg"
   refine qC1 ?_
   walk_at "rg"
   simp only [mdeed] at q
   by_cases hmost:m.steps=g.most
   ·rw [if_pos hmost] at q
    rw [decide_eq_true hmost]
    refine iteT ?_
    walk_at "rg"
    refine q H1 (a::fas) ?_
    show LawAt g l G0 H1 { m with st:=f::rest } (a::fas)
    rw [qG7 est];exact L1
   rw [if_neg hmost] at q
   rw [decide_eq_false hmost]
   refine iteF ?_
   walk_at "rg"
   refine qB5 ?_
   walk_at "rg"
   rw [decide_eq_false (by decide +kernel)]
   refine iteF ?_
   refine iteF ?_
   walk_at "rg"
   refine qB4 L1.now (qBw _ _ _ _ _ _) ?_
   walk_at "rg"
   refine qGj L1.now (qE4 _ _ _ _ _ _ _) (by show 6<sizeLine;decide) ?_
   have L2:=L1.setNow (m.steps+1) m.taken
   have hT2:=qCk (o :=.dK (nowD l.hd l.td l.fd l.mv (m.steps+1) m.taken)) L1.now hT1
   generalize upd H1 l.now (.dK (nowD l.hd l.td l.fd l.mv (m.steps+1) m.taken))=H2 at L2 hT2 ⊢
   have est2:({ m with steps:=m.steps+1,taken:=m.taken }:Ms).st=f::rest:=est
   have hma2:=L2.mineAt est2
   have hmm:mine g { m with steps:=m.steps+1,taken:=m.taken } f=mine g m f:=rfl
   rw [hmm] at hma2
   walk_at "rg"
   refine qB5 ?_
   walk_at "rg"
   rw [decide_eq_false (by decide +kernel)]
   refine iteF ?_
   walk_at "rg"
   refine qB5 ?_
   walk_at "rg"
   rw [decide_eq_false (by decide +kernel)]
   refine iteF ?_
   walk_at "rg"
   refine qB5 ?_
   walk_at "rg"
   rw [decide_eq_false (by decide +kernel)]
   refine iteF ?_
   walk_at "rg"
   refine qAq (SqL.of hma2) (qCb b0 (by rw [hml];exact b1)) ?_
   walk_at "rg"
   refine qAq (SqL.of hma2) (qCb o0 (by rw [hml];exact o1)) ?_
   walk_at "rg"
   obtain⟨j,rfl⟩:=Int.eq_ofNat_of_zero_le b0
   refine qCc (n:=j) hma2 (by rw [List.length_map,hml];exact qEj (by omega)) ?_
   rw [qEg]
   walk_at "rg"
   exact q _ _ (L2.setMine est2 _)
end
section
variable {P:Program} {w:World} {K:PySem.W.Frag} {mg:Str->Option Value} {base:Heap}
abbrev sLRun:Stmt:=top 20
theorem scLRun:FnScope ["_law_works_here","_law_number_here","_law_boxes","_law_choices_here","_law_most","_law_mean","_law_now","_law_gone","_law_stack","_law_state","_law_frame","_law_work_here","_law_way","_law_ways_here","_law_bad"] ["_law_works_here","_law_number_here","_law_boxes","_law_choices_here","_law_most","_law_mean"] (qA8 sLRun):=⟨rfl,rfl,rfl,by decide +kernel,rfl,by decide +kernel,by decide +kernel⟩
theorem qSl {f:Addr} {fd:FuncData} (F:Fun K "_law_run" "_law_run" sLRun f fd) (nlen:mg "len" = none) (nlist:mg "list" = none) (nrange:mg "range" = none)
  (hN:Has P w K mg base "_law_next" 1 ["_law_now","_law_work_here","_law_block","_law_choices_here"] (qJ1 K)) (hDd:Has P w K mg base "_law_deed" 1 ["_law_now","_law_stack","_law_deed_here","_law_most","_law_mean"] (qJ2 K)) :
  FnOk P w K mg base CX0 2 f fd ["_law_works_here","_law_number_here","_law_boxes","_law_choices_here","_law_most","_law_mean"] (qM1 K):=by
 refine F.ok scLRun (fun vs H Q E h => ?_) (fun cdv A outer s H vs Q E hr h => ?_)
 ·refine hide fun G_ hG_ => ?_
  obtain⟨g,wa,bx,ca,c,bl,rfl,_⟩:=h
  refine hG_ ?_
  rfl
 ·refine hide fun G_ hG_ => ?_
  obtain⟨g,wa,bx,ca,c,bl,rfl,gv,hD,hbx,hl8,hca,c0,c1,q⟩:=h
  refine hG_ ?_
  have hu:=qLf hr
  refine⟨_,(qA3 (qAe (i:=6) scLRun.nd rfl (Or.inr rfl) (qSa (qDe qAc (qAv qBi (by rfl) nlist PyProof.Rows.boot_list (qA0 (pv 2) qA4)) (qDe qAc (qAr qA4) (qDe qAc (qAr qA4) (qDe qAc (qAr (qA0 qA2 (qA0 qA2 qA4))) (qDe qAc qA2 (qDe qAc qA2 qS6)))))) rfl rfl (by simp) (by decide)))
   (qA3 (qOp (i:=7) ["_law_work_here"] [] rfl (.of rfl) scLRun.nd rfl (Or.inl rfl) (qCs (pv 0)) (fun _ _ _ _=>(qAg (i:=0) (by show (((["_law_work_here"]:List Str))).Nodup;decide) rfl (Or.inl rfl))) (fun _ _ _ _ =>.nil) (fun _ _ _ _=>qOu))
   (qA3 (qAe (i:=8) scLRun.nd rfl (Or.inl rfl) (qAr (qA0 (qAr (qA0 (pv 1) (qA0 (qB7 (qA0 (qEu qCx qA2) (qA0 qA2 qA4))) (qA0 (qEu qCx qA2) (qA0 (qAv qBi (by rfl) nlist PyProof.Rows.boot_list (qA0 (pv 2) qA4)) (qA0 qEz qA4)))))) qA4)))
   (qA3 (qAe (i:=9) scLRun.nd rfl (Or.inl rfl) qAc)
   (qA3 (qK5 PassesOwn.never (qD4 (qA9 (qP1 hr) (pv 8) (qAr qA4) (qAd _)) (qCj (qA9 qBc (pv 9) qAc (qAd _)))).pt
   (qA3 (qAe (i:=10) scLRun.nd rfl (Or.inr rfl) (qAb qAa (pv 8) (qEu qCx qA2) (fun _ _=>rfl)))
   (qA3 (qK6 (i:=11) (j:=12) rfl scLRun.nd rfl rfl (by decide) rfl rfl (qA0 (qAb qAa (pv 0) (qAb (qCf K rfl) (pv 10) qA2 (fun _ _=>rfl)) (fun _ _=>rfl)) (qA0 (qAb qAa (pv 10) qA2 (fun _ _=>rfl)) qA4)) rfl)
   (qA3 (qAe (i:=13) scLRun.nd rfl (Or.inl rfl) (qAb qAa (pv 7) (qAb (qCf K rfl) (pv 10) qA2 (fun _ _=>rfl)) (fun _ _=>rfl)))
   (qA7 (qBa (qA9 qBc (qAb qAm (pv 12) qA2 (fun _ _=>rfl)) (qAl qAf (by rfl) nlen PySem.boot_len (qA0 (pv 11) qA4)) (qAd _)) (qA3 (qDr hu (pv 13) (pv 12) (qAp qAx (qKa hu (pv 13) (pv 12) qA2 ⟨rfl,rfl,rfl,rfl⟩) qA2) rfl)
   (qA3 (qBa (qC5 K rfl (pv 5) (fun _=>rfl)) (qA7 (qAe (i:=14) scLRun.nd rfl (Or.inl rfl) (qAr qA4))) (qA7 (qOp (i:=14) ["_law_box"] [6,10] rfl (.of rfl) scLRun.nd rfl (Or.inl rfl) (qBj rfl nrange (qA0 qA2 qA4)) (fun _ _ _ _=>(qAg (i:=0) (by show (((["_law_box","_law_now","_law_frame"]:List Str))).Nodup;decide) rfl (Or.inl rfl))) (fun _ _ _ _ =>.cons (qA9 qMt (qAb (qCf K rfl) (qBb hu (pv 1) qAc (fun _ _=>rfl)) (pv 0) (fun _ _=>rfl)) (qAb (qCf K rfl) (qAb (qCf K rfl) (pv 2) qA2 (fun _ _=>rfl)) (pv 0) (fun _ _=>rfl)) (qAd _)) .nil) (fun _ _ _ _=>(pv 0)))))
   (qA3 (qBe (qDs PySem.F.plainAttrs_list PySem.F.slot_list_extend PySem.F.type_list_extend qFn (qBb hu (pv 6) qAc (fun _ _=>rfl)) (qA0 (qEv ["_law_box"] [10] rfl (.of rfl) (qCs (pv 14)) (fun _ _ _ _=>(qAg (i:=0) (by show (((["_law_box","_law_frame"]:List Str))).Nodup;decide) rfl (Or.inl rfl))) (fun _ _ _ _ =>.nil) (fun _ _ _ _=>(qB7 (qA0 (qAb (qCf K rfl) (pv 1) qA2 (fun _ _=>rfl)) (qA0 (pv 0) qA4))))) qA4)))
   (qA7 (qBe (qQy PySem.F.plainAttrs_list PySem.F.slot_list_pop PySem.F.type_list_pop qV2 (pv 8))))))) (qA7 (qBa (qD4 (qA9 qI2 (qAb qAa (pv 10) qA2 (fun _ _=>rfl)) qA2 (qAd _)) (qCj (qA9 qBc (qBb hu (pv 6) qAc (fun _ _=>rfl)) (pv 4) (qAd _)))).pt (qA7 (qAe (i:=9) scLRun.nd rfl (Or.inl rfl) qAc)) (qA7 (qBa (qA9 qI2 (qAb qAa (pv 10) qA2 (fun _ _=>rfl)) qA2 (qAd _)) (qA3 (qDr hu (pv 6) qAc (qAp qAx (qBb hu (pv 6) qAc (fun _ _=>rfl)) qA2) rfl)
   (qA3 (qDr hu (pv 13) (pv 12) (qAp qAx (qKa hu (pv 13) (pv 12) qA2 ⟨rfl,rfl,rfl,rfl⟩) qA2) rfl)
   (qA7 (qCy qA2 (qD6 (pv 10) qA2 qBm))))) (qA7 (qBa (qA9 qBc (qAb qAa (pv 10) qA2 (fun _ _=>rfl)) (qAl qAf (by rfl) nlen PySem.boot_len (qA0 (qAb qAm (qAb qAa (pv 11) (qAb qAm (pv 12) qA2 (fun _ _=>rfl)) (fun _ _=>rfl)) qA2 (fun _ _=>rfl)) qA4)) (qAd _)) (qA3 (qCy (qB7 (qA0 (qAb qAm (pv 12) qA2 (fun _ _=>rfl)) (qA0 (qAy hN hr (by decide) (qA0 (pv 6) (qA0 (pv 11) (qA0 (qAb qAm (pv 12) qA2 (fun _ _=>rfl)) (qA0 (pv 3) qA4))))) qA4))) (qD6 (pv 10) qA2 qBm))
   (qA7 (qCy (qEu qCx qA2) (qD6 (pv 10) qA2 qBm)))) (qA3 (qCy (qAp qAx (qAb qAa (pv 10) qA2 (fun _ _=>rfl)) qA2) (qD6 (pv 10) qA2 qBm))
   (qA7 (qAe (i:=9) scLRun.nd rfl (Or.inl rfl) (qAy hDd hr (by decide) (qA0 (pv 6) (qA0 (pv 8) (qA0 (qAb qAa (qAb qAm (qAb qAa (pv 11) (qAb qAm (pv 12) qA2 (fun _ _=>rfl)) (fun _ _=>rfl)) qA2 (fun _ _=>rfl)) (qAp qGl (qAb qAa (pv 10) qA2 (fun _ _=>rfl)) qA2) (fun _ _=>rfl)) (qA0 (pv 4) (qA0 (pv 5) qA4)))))))))))))))))))))
   (qA7 (qAk (qB7 (qA0 (pv 9) (qA0 (qBb hu (pv 6) qAc (fun _ _=>rfl)) (qA0 (qBb hu (pv 6) qAc (fun _ _=>rfl)) (qA0 (qBb hu (pv 6) qAc (fun _ _=>rfl)) (qA0 (qBb hu (pv 6) qAc (fun _ _=>rfl)) (qA0 (pv 7) qA4)))))))))))))),?_⟩
  dsimp only [qBp,qB9]
  walk_at "rg"
  refine qUa fun pn hpn => ?_
  have La0:=(Laid.nil H).add hpn (.dK [])
  have y0:(upd H pn (.dK [])) pn=some (.dK []):=qA1
  generalize upd H pn (.dK [])=G0 at La0 y0 ⊢
  refine qTf ?_
  walk_at "rg"
  refine⟨bx,_,rfl,.inl (La0.old.toSame.seq hbx),fun hd hhd => ?_⟩
  have La1:=La0.add hhd (.lst (bl.map V.int))
  have e1:Ext [] G0 (upd G0 hd (.lst (bl.map V.int))) :=.laid hhd
  have y1:(upd G0 hd (.lst (bl.map V.int))) hd=some (.lst (bl.map V.int)):=qA1
  generalize upd G0 hd (.lst (bl.map V.int))=G1 at La1 e1 y1 ⊢
  refine qTf ?_
  walk_at "rg"
  refine⟨len2 (by show 0<=1000;decide),fun td htd => ?_⟩
  have La2:=La1.add htd (.lst [])
  have e2:Ext [] G1 (upd G1 td (.lst [])) :=.laid htd
  have y2:(upd G1 td (.lst [])) td=some (.lst []):=qA1
  generalize upd G1 td (.lst [])=G2 at La2 e2 y2 ⊢
  refine qTf ?_
  walk_at "rg"
  refine⟨len2 (by show 0<=1000;decide),fun fd' hfd => ?_⟩
  have La3:=La2.add hfd (.lst [])
  have e3:Ext [] G2 (upd G2 fd' (.lst [])) :=.laid hfd
  have y3:(upd G2 fd' (.lst [])) fd'=some (.lst []):=qA1
  generalize upd G2 fd' (.lst [])=G3 at La3 e3 y3 ⊢
  refine qTf ?_
  walk_at "rg"
  refine⟨len2 (by show 2<=1000;decide),fun mv hmv => ?_⟩
  have La4:=La3.add hmv (.lst [.int 0,.int 0])
  have e4:Ext [] G3 (upd G3 mv (.lst [.int 0,.int 0])) :=.laid hmv
  have y4:(upd G3 mv (.lst [.int 0,.int 0])) mv=some (.lst [.int 0,.int 0]):=qA1
  generalize upd G3 mv (.lst [.int 0,.int 0])=G4 at La4 e4 y4 ⊢
  refine qTf ?_
  walk_at "rg"
  refine qTf ?_
  walk_at "rg"
  refine r_pn ?_
  have e34:=e3.trans e4
  have e24:=e2.trans e34
  refine⟨(e1.trans e24) _ _ (by simp) y0,[(.inr "held",.ref hd),(.inr "told",.ref td),(.inr "faults",.ref fd'),(.inr "moves",.ref mv),(.inr "steps",.int 0),(.inr "taken",.int 0)],rfl,by show 6<=15;decide,?_⟩
  rw [show qDm [] [((.inr "held" : Key),V.ref hd),(.inr "told",.ref td),(.inr "faults",.ref fd'),(.inr "moves",.ref mv),(.inr "steps",.int 0),(.inr "taken",.int 0)]=nowD hd td fd' mv 0 0 from rfl]
  have La5:=La4.put (x:=pn) (by simp) (.dK (nowD hd td fd' mv 0 0))
  have n5:=La4.nd
  have z1:(upd G4 pn (.dK (nowD hd td fd' mv 0 0))) hd=some (.lst (bl.map V.int)):=by rw [qA6 (ndNe n5 (i:=3) (j:=4) (by decide) rfl rfl)];exact e24 _ _ (by simp) y1
  have z2:(upd G4 pn (.dK (nowD hd td fd' mv 0 0))) td=some (.lst []):=by rw [qA6 (ndNe n5 (i:=2) (j:=4) (by decide) rfl rfl)];exact e34 _ _ (by simp) y2
  have z3:(upd G4 pn (.dK (nowD hd td fd' mv 0 0))) fd'=some (.lst []):=by rw [qA6 (ndNe n5 (i:=1) (j:=4) (by decide) rfl rfl)];exact e4 _ _ (by simp) y3
  have z4:(upd G4 pn (.dK (nowD hd td fd' mv 0 0))) mv=some (.lst [.int 0,.int 0]):=by rw [qA6 (ndNe n5 (i:=0) (j:=4) (by decide) rfl rfl)];exact y4
  have z0:(upd G4 pn (.dK (nowD hd td fd' mv 0 0))) pn=some (.dK (nowD hd td fd' mv 0 0)):=qA1
  generalize upd G4 pn (.dK (nowD hd td fd' mv 0 0))=G5 at La5 z0 z1 z2 z3 z4 ⊢
  walk_at "rg"
  refine hide fun G_ hG_ => ?_
  obtain⟨wa',us,ea,hSw,hDus⟩:=hD.ofList
  cases ea
  refine hG_ ?_
  have hul:=hDus.len
  rw [List.length_map] at hul
  have hfew:=gv.ws.few
  refine⟨wa,rfl,⟨_,La5.old.toSame.seq hSw⟩,fun gn hgn => ?_⟩
  refine qBx (xs:=us) (fun i σ' G => ∃(o0:Option V) (gs:List Addr),σ' = [o0]/\gs.length=i/\G gn=some (.lst (gs.map V.ref))/\Laid H G (gn::mv::fd'::td::hd::pn::gs)/\(∀x∈gs,G x=some (.dT []))/\Ext [gn] G5 G) ?_ ?_ ?_ ?_
  ·exact⟨_,[],rfl,rfl,qA1,La5.add hgn _,fun x hx=>(List.not_mem_nil hx).elim,.laid hgn⟩
  ·intro i σ' G hi hq_
   refine hide fun G_ hG_ => ?_
   obtain⟨o0,gs,rfl,_,_,_,_,eX⟩:=hq_
   refine hG_ ?_
   exact (eX.drop hgn).toSame.seq (La5.old.toSame.seq hSw)
  ·intro i x σ' G RK hx hq_ hR
   refine hide fun G_ hG_ => ?_
   obtain⟨o0,gs,rfl,hgl,hgn',LaX,hgs,eX⟩:=hq_
   refine hG_ ?_
   have hi:i<us.length:=(List.getElem?_eq_some_iff.mp hx).1
   walk_at "rg"
   refine iteT ?_
   walk_at "rg"
   refine qRw fun p hp => ?_
   have npg:gn≠p:=qA5 hgn' hp
   refine⟨gs.map V.ref,by rw [qA6 npg];exact hgn',qAn (by rw [List.length_map];omega),?_⟩
   have LaY:=((LaX.add hp (.dT [])).put (x:=gn) (by simp) (.lst (gs.map V.ref ++ [.ref p]))).perm (List.perm_append_singleton p _).symm
   refine hR _ _ ⟨_,gs ++ [p],rfl,by rw [List.length_append,hgl];rfl,by rw [qA1,List.map_append];rfl,LaY,fun x hx => ?_,(eX.trans (.laid hp)).trans (.put (by simp))⟩
   have nxg:x≠gn:=fun z=>by
    have h0:([gn]++(mv::fd'::td::hd::pn::(gs ++ [p]))).Nodup:=LaY.nd
    exact qKf h0 (x:=gn) (by simp) (by rw [<-z];simp only [List.mem_cons];exact .inr (.inr (.inr (.inr (.inr hx)))))
   rw [qA6 nxg]
   rcases List.mem_append.mp hx with z | z
   ·rw [qA6 (fun (e:x=p)=>by rw [<-e,hgs x z] at hp;cases hp)];exact hgs x z
   ·rw [List.mem_singleton.mp z,qA1]
  intro σ' G hq_
  refine hide fun G_ hG_ => ?_
  obtain⟨o0,gs,rfl,hgl,hgn',LaX,hgs,eX⟩:=hq_
  refine hG_ ?_
  have e5:=eX.drop hgn
  walk_at "rg"
  have w0:=e5 _ _ (by simp) z0
  have w1:=e5 _ _ (by simp) z1
  have w2:=e5 _ _ (by simp) z2
  have w3:=e5 _ _ (by simp) z3
  have w4:=e5 _ _ (by simp) z4
  refine⟨len2 (by show 2<=1000;decide),fun wy hwy => ?_⟩
  walk_at "rg"
  have LaA:=LaX.add hwy (.tup [.int (-1),.int 0])
  have eA:Ext [] G (upd G wy (.tup [.int (-1),.int 0])) :=.laid hwy
  have yA:(upd G wy (.tup [.int (-1),.int 0])) wy=some (.tup [.int (-1),.int 0]):=qA1
  generalize upd G wy (.tup [.int (-1),.int 0])=GA at LaA eA yA ⊢
  refine⟨bx,_,rfl,.inl (LaA.old.toSame.seq hbx),fun b2 hb2 => ?_⟩
  walk_at "rg"
  have LaB:=LaA.add hb2 (.lst (bl.map V.int))
  have eB:Ext [] GA (upd GA b2 (.lst (bl.map V.int))) :=.laid hb2
  have yB:(upd GA b2 (.lst (bl.map V.int))) b2=some (.lst (bl.map V.int)):=qA1
  generalize upd GA b2 (.lst (bl.map V.int))=GB at LaB eB yB ⊢
  refine qH2 fun as has => ?_
  walk_at "rg"
  have LaC:=LaB.add has (.dK [])
  have eC:Ext [] GB (upd GB as (.dK [])) :=.laid has
  have yC:(upd GB as (.dK [])) as=some (.dK []):=qA1
  generalize upd GB as (.dK [])=GC at LaC eC yC ⊢
  refine⟨len2 (by show 5<=1000;decide),fun fa hfa => ?_⟩
  walk_at "rg"
  have LaD:=LaC.add hfa (.lst [.int c,.ref wy,.int (-1),.ref b2,.ref as])
  have eD:Ext [] GC (upd GC fa (.lst [.int c,.ref wy,.int (-1),.ref b2,.ref as])) :=.laid hfa
  have yD:(upd GC fa (.lst [.int c,.ref wy,.int (-1),.ref b2,.ref as])) fa=some (.lst [.int c,.ref wy,.int (-1),.ref b2,.ref as]):=qA1
  generalize upd GC fa (.lst [.int c,.ref wy,.int (-1),.ref b2,.ref as])=GD at LaD eD yD ⊢
  refine⟨len2 (by show 1<=1000;decide),fun sk hsk => ?_⟩
  have LaE:=LaD.add hsk (.lst [.ref fa])
  have eE:Ext [] GD (upd GD sk (.lst [.ref fa])) :=.laid hsk
  have yE:(upd GD sk (.lst [.ref fa])) sk=some (.lst [.ref fa]):=qA1
  generalize upd GD sk (.lst [.ref fa])=GE at LaE eE yE ⊢
  refine hide fun G_ hG_ => ?_
  have eBE:=eC.trans (eD.trans eE)
  have eAE:=eB.trans eBE
  have eGE:=eA.trans eAE
  have kG : ∀ {x:Addr} {o:HO},G x=some o->GE x=some o:=fun h=>eGE _ _ (by simp) h
  obtain⟨l,hl⟩ : ∃l:LR,l=⟨pn,hd,td,fd',mv,sk,gn,gs⟩:=⟨_,rfl⟩
  refine hG_ ?_
  have L0:LawAt g l H GE (qB3 (ms0 bl) c bl) [⟨fa,wy,b2,as⟩]:=by
   subst hl
   exact LawAt.init c0 LaE (kG w0) (kG w1) (kG w2) (kG w3) (kG w4) yE (kG hgn') (by rw [hgl];exact hul) (fun x hx=>kG (hgs x hx)) (eE _ _ (by simp) yD) (eAE _ _ (by simp) yA) (eBE _ _ (by simp) yB) ((eD.trans eE) _ _ (by simp) yC)
  have ms00:=qKg gv hl8 c0 c1
  walk_at "rg"
  refine⟨LW g l H (qB3 (ms0 bl) c bl) wa bx ca c,⟨_,qB3 (ms0 bl) c bl,_,0,none,none,none,none,none,by subst hl;rfl,L0,ms00,.inl ⟨rfl,.refl,rfl,pos0 bl c⟩⟩,?_⟩
  clear L0 kG eGE eAE eBE yE eE LaE hsk yD eD LaD hfa yC eC LaC has yB eB LaB hb2 yA eA LaA hwy w0 w1 w2 w3 w4 e5 eX hgs LaX hgn' hgn z0 z1 z2 z3 z4 La5 n5 e34 e24 y4 e4 La4 hmv y3 e3 La3 hfd y2 e2 La2 htd y1 e1 La1 hhd y0 La0 hpn hl
  intro n σ' G' hq_
  refine hide fun G_ hG_ => ?_
  obtain⟨m,fas,cc,o10,o11,o12,o13,o14,rfl,L,ms,hst⟩:=hq_
  refine hG_ ?_
  walk_at "rg"
  refine⟨len2 (by show 0<=1000;decide),fun pe hpe => ?_⟩
  walk_at "rg"
  have L1:=L.fresh (.laid (o :=.lst []) hpe)
  have ye:(upd G' pe (.lst [])) pe=some (.lst []):=qA1
  generalize upd G' pe (.lst [])=G1 at L1 ye ⊢
  refine⟨l.sk,pe,_,rfl,rfl,SqL.of L1.sk,SqL.of ye,?_⟩
  walk_at "rg"
  cases fas with
  | nil =>
   refine iteF ?_
   refine iteF ?_
   have hfin:Fi g (qB3 (ms0 bl) c bl) cc m:=by
    rcases hst with ⟨z,hgo,_,_⟩ | ⟨_,hfi,_⟩
    ·subst z
     have:m.st = []:=by
      have:=L1.frs
      cases hs:m.st with
      | nil=>rfl
      | cons f r=>rw [hs] at this;cases this
     exact .of hgo (.done this)
    ·exact hfi
   walk_at "rg"
   refine qB4 L1.now (qJb _ _ _ _ _ _) ?_
   walk_at "rg"
   refine qB4 L1.now (qFm _ _ _ _ _ _) ?_
   walk_at "rg"
   refine qB4 L1.now (qHb _ _ _ _ _ _) ?_
   walk_at "rg"
   refine qB4 L1.now (qDf _ _ _ _ _ _) ?_
   walk_at "rg"
   refine⟨len2 (by show 6<=1000;decide),fun tp htp => ?_⟩
   walk_at "rg"
   exact q tp l _ m cc _ hfin qA1 (L1.fresh (.laid htp)) (L1.old.none (by simp) htp) ms (L1.old.trans (.laid htp))
  | cons a fas =>
   rw [show (!(List.map (fun a=>V.ref a.fa) (a::fas).reverse).isEmpty)=true by rw [List.reverse_cons,List.map_append];simp]
   refine iteT ?_
   walk_at "rg"
   refine qB5 ?_
   walk_at "rg"
   rcases hst with ⟨z,hgo,hn,hps⟩ | ⟨hc,hfin,hn⟩
   ·subst z
    rw [decide_eq_true (by rfl)]
    refine iteT ?_
    refine⟨fun σ' G' => ∃n',n'<n/\LW g l H (qB3 (ms0 bl) c bl) wa bx ca c n' σ' G',fun _ _ h=>h,?_⟩
    refine hide fun G_ hG_ => ?_
    obtain⟨f,rest,est⟩ : ∃f rest,m.st=f::rest:=by
     have:=L1.frs
     cases hs:m.st with
     | nil=>rw [hs] at this;cases this
     | cons f r=>exact⟨f,r,rfl⟩
    obtain⟨⟨t1,t2,t3,t4⟩,tr⟩:=L1.top est
    have hfr:=ms.top est
    obtain⟨wk,hwk,w1a,w1b⟩:=hfr.wk
    have hnl:f.n<g.ws.length:=(List.getElem?_eq_some_iff.mp hwk).1
    obtain⟨mm,hm1,hm2,hOk⟩:=gv.ws.all wk (List.mem_of_getElem? hwk)
    obtain⟨vw,hvw,dw⟩:=hDus.get' (i:=f.n) (d:=workD wk) (by rw [List.getElem?_map,hwk];rfl)
    obtain⟨a0,bs,rfl,hSb,hDb⟩:=dw.ofList
    have hbl:=hDb.len
    rw [List.length_map] at hbl
    obtain⟨x,hx⟩:=L1.live hnl
    obtain⟨kvs,hk1,hk2,hk3⟩:=L1.gw f.n x hx
    refine hG_ ?_
    have hsteps:=ms.steps
    have hmost:=gv.most
    have hlog:=ms.log
    have hkl:kvs.length<sizeLine:=by rw [sizeLine_eq];omega
    walk_at "rg"
    refine qAq (SqL.of L1.skA) (qKs _ _) ?_
    walk_at "rg"
    refine qAq (SqL.of t1) (v :=.int (f.n:Int)) rfl ?_
    walk_at "rg"
    refine qAq (L1.old.toSame.seq hSw) (qBf hvw) ?_
    walk_at "rg"
    refine qAq (SqL.of t1) (v :=.ref a.wy) rfl ?_
    walk_at "rg"
    refine⟨_,_,rfl,?_⟩
    walk_at "rg"
    refine qAq (SqL.of t1) (v :=.int (f.n:Int)) rfl ?_
    walk_at "rg"
    refine qAq (SqL.of L1.gn) (qBf (by rw [List.getElem?_map,hx];rfl)) ?_
    walk_at "rg"
    refine qCi (SqT.of t2) (v :=.int f.w1) rfl ?_
    walk_at "rg"
    refine qC4 (L1.old.toSame.seq hSb) ?_
    rw [hbl]
    walk_at "rg"
    refine qC1 ?_
    walk_at "rg"
    by_cases hout:f.w1=(wk.length:Int)
    ·rw [decide_eq_true hout]
     refine iteT ?_
     walk_at "rg"
     refine⟨x,rfl,.inr ⟨kvs,.inl hk1⟩,?_⟩
     walk_at "rg"
     refine⟨_,DGet.t hk1 (k :=[Sum.inl f.w0,Sum.inl f.w1]) t2,?_⟩
     rw [hk3,qNr]
     walk_at "rg"
     refine⟨x,_,rfl,DPut.t hk1 (k :=[Sum.inl f.w0,Sum.inl f.w1]) t2 hkl,?_⟩
     have L2:=L1.logged (w0:=f.w0) (w1:=f.w1) hx hk1 hk2 hk3
     generalize upd G1 x _=G2 at L2 ⊢
     have est2:({ m with log:=m.log ++ [((f.n:Int),f.w0,f.w1)] }:Ms).st=f::rest:=est
     (try with_reducible refine qBq (by assumption) ?_)
     with_reducible refine qQl (fun σ' G3 => ∃(lb:Addr),σ' = [some (.ref wa),some (.int c),some (.ref bx),some (.ref ca),some (.int g.most),some (.bl g.mean),some (.ref l.now),some (.ref l.gn),some (.ref l.sk),some (.str "ended"),some (.ref a.fa),some (.ref a0),some (.ref a.wy),some (.ref x),some (.ref lb)]/\Ext [] G2 G3/\G3 lb=some (.lst ((if g.mean=true then [] else badB m f).map V.int))) ?_ (fun hC => ?_)
     ·intro σ' G3 hq_
      refine hide fun G_ hG_ => ?_
      obtain⟨lb,rfl,e3,hlb⟩:=hq_
      refine hG_ ?_
      refine hide fun G_ hG_ => ?_
      have L3:=L2.fresh e3
      obtain⟨⟨v1,v2,v3,v4⟩,vr⟩:=L3.top est2
      obtain⟨fl,f1,f2⟩:=L3.flt
      refine hG_ ?_
      generalize hbd:(if g.mean=true then [] else badB m f)=bd at hlb
      have hbdl:bd.length<=8:=by
       rw [<-hbd]
       split
       ·exact Nat.zero_le _
       ·exact qE3 m.held f.bx 8
      have hfl:fl.length=m.flt.length:=f2.len
      have hflt:=ms.flt
      walk_at "rg"
      refine qB4 L3.now (qFm _ _ _ _ _ _) ?_
      refine qCz f1 ?_
      walk_at "rg"
      refine⟨lb,rfl,⟨_,SqL.of hlb⟩,fun lq hlq => ?_⟩
      refine qBx (xs:=bd.map V.int) (fun i σ' G4 => ∃(o0:Option V) (us:List V),σ' = [o0,some (.ref a.fa)]/\Ext [lq] G3 G4/\G4 lq=some (.lst us)/\PrsAt G4 us ((bd.take i).map fun b=>((f.n:Int),b))) ?_ ?_ ?_ ?_
      ·exact⟨_,[],rfl,.laid hlq,qA1,.nil⟩
      ·intro i σ' G4 hi hq_
       refine hide fun G_ hG_ => ?_
       obtain⟨o0,us,rfl,eY,hlY,hP⟩:=hq_
       refine hG_ ?_
       exact (eY.drop hlq).toSame.seq (SqL.of hlb)
      ·intro i z σ' G4 RK hz hq_ hR
       refine hide fun G_ hG_ => ?_
       obtain⟨o0,us,rfl,eY,hlY,hP⟩:=hq_
       refine hG_ ?_
       rw [List.getElem?_map] at hz
       obtain⟨n0,hn0,rfl⟩ : ∃n0,bd[i]? = some n0/\z=V.int n0:=by
        cases hq:bd[i]? with
        | none=>rw [hq] at hz;cases hz
        | some n0=>rw [hq] at hz;exact⟨n0,rfl,(Option.some.inj hz).symm⟩
       have hi:i<bd.length:=(List.getElem?_eq_some_iff.mp hn0).1
       have v14:=eY _ _ (by simpa using fun z=>by rw [z,hlq] at v1;cases v1) v1
       have hus:=hP.len
       rw [List.length_map,List.length_take] at hus
       walk_at "rg"
       refine iteT ?_
       walk_at "rg"
       refine qAq (SqL.of v14) (v :=.int (f.n:Int)) rfl ?_
       walk_at "rg"
       refine⟨len2 (by show 2<=1000;decide),fun tq htq => ?_⟩
       have X4:Ext [] G4 (upd G4 tq (.tup [.int (f.n:Int),.int n0])) :=.laid htq
       have htq4:(upd G4 tq (.tup [.int (f.n:Int),.int n0])) tq=some (.tup [.int (f.n:Int),.int n0]):=qA1
       generalize upd G4 tq (.tup [.int (f.n:Int),.int n0])=G5 at X4 htq4 ⊢
       have hl4:G5 lq=some (.lst us):=X4 _ _ (by simp) hlY
       refine⟨us,hl4,Nat.lt_of_le_of_lt (by omega:us.length<=8) (by decide),?_⟩
       have x5:Ext [lq] G5 (upd G5 lq (.lst (us ++ [.ref tq]))) :=.put (by simp)
       have nt5 : ∀t ∈ [lq],∀xs,G5 t≠some (.tup xs):=fun z hz xs h=>by rw [List.mem_singleton.mp hz,hl4] at h;cases h
       refine hR _ _ ⟨_,_,rfl,(eY.trans (X4.mono (by simp))).trans x5,qA1,?_⟩
       rw [List.take_succ,hn0,List.map_append]
       exact ((hP.mono X4 (by simp)).app (.cons ⟨tq,rfl,htq4⟩ .nil)).mono x5 nt5
      intro σ' G4 hq_
      refine hide fun G_ hG_ => ?_
      obtain⟨o0',us,rfl,eY,hlY,hP⟩:=hq_
      refine hG_ ?_
      rw [List.length_map,List.take_length] at hP
      have e0Y:=eY.drop hlq
      have L4:=L3.fresh e0Y
      have f14:G4 l.fd=some (.lst fl):=e0Y _ _ (by simp) f1
      have hus:=hP.len
      rw [List.length_map] at hus
      walk_at "rg"
      refine⟨l.fd,lq,fl,us,rfl,rfl,f14,hlY,by rw [sizeLine_eq];omega,?_⟩
      have L5:=L4.setFlt ((f2.mono e0Y (by simp)).app hP)
      generalize upd G4 l.fd (.lst (fl++us))=G5 at L5 ⊢
      walk_at "rg"
      refine qCz L5.skA ?_
      refine⟨l.sk,_,.ref a.fa,rfl,rfl,L5.skA,by rw [List.length_append];simp,?_⟩
      rw [List.dropLast_concat]
      walk_at "rg"
      have L6:=L5.pop est2
      refine LW.go gv ms hps hgo hn (qV3 est hwk hout) (m' :={ m with log:=m.log ++ [((f.n:Int),f.w0,f.w1)],flt:=if g.mean=true then m.flt else m.flt++(badB m f).map fun b=>((f.n:Int),b),st:=rest }) (fas:=fas) ?_ rfl
      have hz:(if g.mean=true then m.flt else m.flt++(badB m f).map fun b=>((f.n:Int),b))=m.flt++bd.map fun b=>((f.n:Int),b):=by
       rw [<-hbd]
       split
       ·simp
       ·rfl
      rw [hz]
      exact L6
     ·refine hide fun G_ hG_ => ?_
      obtain⟨⟨v1,v2,v3,v4⟩,vr⟩:=L2.top est2
      refine hG_ ?_
      walk_at "rg"
      refine qG4 ?_
      cases hmean:g.mean with
      | true =>
       rw [hmean,if_pos rfl] at hC
       refine iteT ?_
       walk_at "rg"
       refine⟨len2 (by show 0<=1000;decide),fun lb hlb => ?_⟩
       with_reducible refine qIu ?_
       exact hC _ _ ⟨lb,rfl,.laid hlb,qA1⟩
      | false =>
       rw [hmean,if_neg Bool.false_ne_true] at hC
       refine iteF ?_
       walk_at "rg"
       refine⟨8,rfl,by decide,by decide,fun lb hlb => ?_⟩
       have hh8:=ms.held
       have hb8:=hfr.bx
       refine qDj (lo:=0) (n:=(8:Int).toNat) (fun i σ' G3 => ∃(o0:Option V),σ' = [o0,some (.ref l.now),some (.ref a.fa)]/\Ext [lb] G2 G3/\G3 lb=some (.lst ((offB m.held f.bx i).map V.int))) ?_ ?_ ?_
       ·exact⟨_,rfl,.laid hlb,qA1⟩
       ·intro i σ' G3 RK hi hq_ hR
        refine hide fun G_ hG_ => ?_
        obtain⟨o0,rfl,eX,hlX⟩:=hq_
        refine hG_ ?_
        refine hide fun G_ hG_ => ?_
        have hi:i<8:=hi
        have L3:=L2.fresh (eX.drop hlb)
        obtain⟨⟨x1,x2,x3,x4⟩,xr⟩:=L3.top est2
        refine hG_ ?_
        walk_at "rg"
        rw [show (0:Int)+(i:Int)=(i:Int) by omega]
        refine qB4 L3.now (qHb _ _ _ _ _ _) ?_
        walk_at "rg"
        refine qAq (SqL.of L3.held) (qCb (l:=m.held) (by omega) (by omega)) ?_
        walk_at "rg"
        refine qAq (SqL.of x1) (v :=.ref a.bx) rfl ?_
        walk_at "rg"
        refine qAq (SqL.of x3) (qCb (l:=f.bx) (by omega) (by omega)) ?_
        walk_at "rg"
        refine qRt ?_
        walk_at "rg"
        by_cases hq:getB m.held (i:Int)=getB f.bx (i:Int)
        ·rw [decide_eq_true hq]
         refine iteF ?_
         exact hR _ _ ⟨_,rfl,eX,by rw [qE2,if_pos hq,List.append_nil];exact hlX⟩
        ·rw [decide_eq_false hq]
         refine iteT ?_
         walk_at "rg"
         refine⟨.int (i:Int),rfl,_,hlX,by rw [List.length_map,sizeLine_eq];have:=qE3 m.held f.bx i;omega,?_⟩
         exact hR _ _ ⟨_,rfl,eX.trans (.put (by simp)),by rw [qA1,qE2,if_neg hq,List.map_append];rfl⟩
       intro σ' G3 hq_
       refine hide fun G_ hG_ => ?_
       obtain⟨o0,rfl,eX,hlX⟩:=hq_
       refine hG_ ?_
       with_reducible refine qIu ?_
       exact hC _ _ ⟨lb,rfl,eX.drop hlb,hlX⟩
    ·rw [decide_eq_false hout]
     refine iteF ?_
     walk_at "rg"
     refine hide fun G_ hG_ => ?_
     obtain⟨b,hbk⟩ : ∃b,wk[f.w1.toNat]? = some b:=⟨_,List.getElem?_eq_getElem (by omega)⟩
     obtain⟨j,hj⟩ : ∃j:Nat,f.w1=(j:Int):=⟨f.w1.toNat,by omega⟩
     have hjn:f.w1.toNat=j:=by omega
     have hbkj:wk[j]? = some b:=by rw [<-hjn];exact hbk
     obtain⟨vb,hvb,db⟩:=hDb.get' (i:=j) (d:=blkD b) (by rw [List.getElem?_map,hbkj];rfl)
     obtain⟨pt,pvs,rfl,hSp,hDp⟩:=db.ofTuple
     obtain⟨v1,q1',rfl,k5,d5⟩:=hDp.ofCons
     obtain⟨v2,q2',rfl,k6,d6⟩:=d5.ofCons
     have:=d6.ofNil
     subst this
     obtain⟨dl,dvs,rfl,hSd,hDd'⟩:=k5.ofList
     refine hG_ ?_
     have hdl:=hDd'.len
     rw [List.length_map] at hdl
     have hbok:=hOk.blk b (List.mem_of_getElem? hbk)
     refine qAq (SqL.of t1) (v :=.int f.pos) rfl ?_
     walk_at "rg"
     by_cases hpos:f.pos<0
     ·rw [decide_eq_true hpos]
      have hst:=qT0 est hwk hout hbk hpos
      refine iteT ?_
      walk_at "rg"
      refine qB4 L1.now (qBw _ _ _ _ _ _) ?_
      walk_at "rg"
      refine qC1 ?_
      walk_at "rg"
      by_cases hmo:m.steps=g.most
      ·rw [if_pos hmo] at hst
       rw [decide_eq_true hmo]
       refine iteT ?_
       walk_at "rg"
       exact LW.stop gv ms hgo hn hst (by decide) L1 rfl
      ·rw [if_neg hmo] at hst
       rw [decide_eq_false hmo]
       refine iteF ?_
       walk_at "rg"
       refine qAq (SqL.of t1) (v :=.int f.pos) rfl ?_
       walk_at "rg"
       rw [decide_eq_true hpos]
       refine iteT ?_
       walk_at "rg"
       refine qB4 L1.now (qBw _ _ _ _ _ _) ?_
       walk_at "rg"
       refine qGj L1.now (qE4 _ _ _ _ _ _ _) (by show 6<sizeLine;decide) ?_
       have L2:=L1.setNow (m.steps+1) m.taken
       generalize upd G1 l.now (.dK (nowD l.hd l.td l.fd l.mv (m.steps+1) m.taken))=G2 at L2 ⊢
       refine hide fun G_ hG_ => ?_
       obtain⟨kv2,hk21,hk22,hk23⟩:=L2.gw f.n x hx
       obtain⟨⟨u1,u2,u3,u4⟩,ur⟩:=L2.top (f:=f) (rest:=rest) est
       refine hG_ ?_
       have hk22':kv2.length<=m.log.length:=hk22
       have hk23' : ∀a b:Int,valV kv2 [Sum.inl a,Sum.inl b]=(cntL m.log ((f.n:Int),a,b)).map V.int:=hk23
       walk_at "rg"
       refine⟨x,rfl,.inr ⟨kv2,.inl hk21⟩,?_⟩
       walk_at "rg"
       refine⟨_,DGet.t hk21 (k :=[Sum.inl f.w0,Sum.inl f.w1]) u2,?_⟩
       rw [hk23',qNr]
       walk_at "rg"
       refine⟨x,_,rfl,DPut.t hk21 (k :=[Sum.inl f.w0,Sum.inl f.w1]) u2 (by rw [sizeLine_eq];omega),?_⟩
       have L3:=L2.logged (w0:=f.w0) (w1:=f.w1) hx hk21 hk22 hk23
       generalize upd G2 x _=G3 at L3 ⊢
       refine hide fun G_ hG_ => ?_
       obtain⟨⟨x1,x2,x3,x4⟩,xr⟩:=L3.top (f:=f) (rest:=rest) est
       refine hG_ ?_
       walk_at "rg"
       refine qCc (n:=2) x1 rfl ?_
       walk_at "rg"
       have L4:=L3.setFr (f:=f) (rest:=rest) est 0 x2
       exact LW.go gv ms hps hgo hn hst L4 rfl
     ·rw [decide_eq_false hpos]
      refine iteF ?_
      refine iteF ?_
      walk_at "rg"
      refine qAq (SqL.of t1) (v :=.int f.pos) rfl ?_
      walk_at "rg"
      rw [decide_eq_false hpos]
      refine iteF ?_
      walk_at "rg"
      refine qAq (SqL.of t1) (v :=.int f.pos) rfl ?_
      walk_at "rg"
      refine qCi (SqT.of t2) (v :=.int f.w1) rfl ?_
      walk_at "rg"
      refine qAq (L1.old.toSame.seq hSb) (by rw [hj];exact qBf hvb) ?_
      walk_at "rg"
      refine qCi (L1.old.toSame.seqT hSp) (v :=.ref dl) rfl ?_
      walk_at "rg"
      refine qC4 (L1.old.toSame.seq hSd) ?_
      rw [hdl]
      walk_at "rg"
      refine qC1 ?_
      walk_at "rg"
      obtain⟨p0,hp0⟩ : ∃p:Nat,f.pos=(p:Int):=⟨f.pos.toNat,by omega⟩
      have hpt0:f.pos.toNat=p0:=by omega
      by_cases hend:f.pos=(b.ds.length:Int)
      ·rw [decide_eq_true hend]
       have hst:=qSy est hwk hout hbk hpos (by rw [List.getElem?_eq_none_iff];omega)
       refine iteT ?_
       walk_at "rg"
       refine qCi (SqT.of t2) (v :=.int f.w1) rfl ?_
       walk_at "rg"
       refine qCi (SqT.of t2) (v :=.int f.w1) rfl ?_
       walk_at "rg"
       rw [hj]
       refine⟨l.now,a0,ca,l.hd,l.td,l.fd,l.mv,j,m.steps,m.taken,mm,wk,b,g.ch,rfl,L1.now,(Den.list hSb hDb).mono L1.old.toSame,hbkj,hbok.ns,L1.old.toSame.seq hca,ms.taken,gv.ch,fun G2 hG2 hG2' => ?_⟩
       have eG2:G2=upd G1 l.now (.dK (nowD l.hd l.td l.fd l.mv m.steps (qB1 g.ch m.taken wk.length b.ns).2)):=by
        funext y
        by_cases hy:y=l.now
        ·rw [hy,hG2,qA1]
        ·rw [hG2' y hy,qA6 hy]
       have L2:=L1.setNow m.steps (qB1 g.ch m.taken wk.length b.ns).2
       rw [<-eG2] at L2
       clear eG2 hG2 hG2'
       walk_at "rg"
       refine⟨len2 (by show 2<=1000;decide),fun wy hwy => ?_⟩
       have L3:=L2.fresh (.laid (o :=.tup [.int (j:Int),.int (qB1 g.ch m.taken wk.length b.ns).1]) hwy)
       have yw:(upd G2 wy (.tup [.int (j:Int),.int (qB1 g.ch m.taken wk.length b.ns).1])) wy=some (.tup [.int (j:Int),.int (qB1 g.ch m.taken wk.length b.ns).1]):=qA1
       generalize upd G2 wy (.tup [.int (j:Int),.int (qB1 g.ch m.taken wk.length b.ns).1])=G3 at L3 yw ⊢
       refine hide fun G_ hG_ => ?_
       obtain⟨⟨x1,x2,x3,x4⟩,xr⟩:=L3.top (f:=f) (rest:=rest) est
       refine hG_ ?_
       walk_at "rg"
       refine qCc (n:=1) x1 rfl ?_
       have L4:=L3.setFr (f:=f) (rest:=rest) est f.pos yw
       have y4:(upd G3 a.fa (.lst [.int (f.n:Int),.ref wy,.int f.pos,.ref a.bx,.ref a.as])) a.fa=some (.lst [.int (f.n:Int),.ref wy,.int f.pos,.ref a.bx,.ref a.as]):=qA1
       have yw4:(upd G3 a.fa (.lst [.int (f.n:Int),.ref wy,.int f.pos,.ref a.bx,.ref a.as])) wy=some (.tup [.int (j:Int),.int (qB1 g.ch m.taken wk.length b.ns).1]):=by rw [qA6 (fun (z:wy=a.fa)=>by rw [z,x1] at yw;cases yw)];exact yw
       walk_at "rg"
       refine qCc (n:=2) y4 rfl ?_
       walk_at "rg"
       have L5:=L4.setFr (f :={ f with w0:=(j:Int),w1:=(qB1 g.ch m.taken wk.length b.ns).1,pos:=f.pos }) (rest:=rest) rfl (-1) yw4
       refine LW.go gv ms hps hgo hn hst (fas:=⟨a.fa,wy,a.bx,a.as⟩::fas) ?_ rfl
       rw [hj]
       exact L5
      ·rw [decide_eq_false hend]
       have hp1:=hfr.pos
       have hbf:=hbok.few
       refine iteF ?_
       walk_at "rg"
       refine hide fun G_ hG_ => ?_
       have hposl:p0<b.ds.length:=by
        have:=hps f (by rw [est];exact List.mem_cons_self ..) wk b hwk hbk
        omega
       obtain⟨d,hdd⟩ : ∃d,b.ds[p0]? = some d:=⟨_,List.getElem?_eq_getElem hposl⟩
       have hst:=qSz est hwk hout hbk hpos (by rw [hpt0];exact hdd)
       obtain⟨dv,hdv,dd⟩:=hDd'.get' (i:=p0) (d:=deedD d) (by rw [List.getElem?_map,hdd];rfl)
       refine hG_ ?_
       refine qAq (SqL.of t1) (v :=.int f.pos) rfl ?_
       walk_at "rg"
       refine qCc (n:=2) t1 rfl ?_
       have L2:=L1.setFr (f:=f) (rest:=rest) est (f.pos+1) t2
       have y2:(upd G1 a.fa (.lst [.int (f.n:Int),.ref a.wy,.int (f.pos+1),.ref a.bx,.ref a.as])) a.fa=some (.lst [.int (f.n:Int),.ref a.wy,.int (f.pos+1),.ref a.bx,.ref a.as]):=qA1
       have yw2:(upd G1 a.fa (.lst [.int (f.n:Int),.ref a.wy,.int (f.pos+1),.ref a.bx,.ref a.as])) a.wy=some (.tup [.int f.w0,.int f.w1]):=by rw [qA6 (fun (z:a.wy=a.fa)=>by rw [z,t1] at t2;cases t2)];exact t2
       have hset:([.int (f.n:Int),.ref a.wy,.int f.pos,.ref a.bx,.ref a.as]:List V).set 2 (.int (f.pos+1)) = [.int (f.n:Int),.ref a.wy,.int (f.pos+1),.ref a.bx,.ref a.as]:=rfl
       rw [hset]
       generalize upd G1 a.fa (.lst [.int (f.n:Int),.ref a.wy,.int (f.pos+1),.ref a.bx,.ref a.as])=G2 at L2 y2 yw2 ⊢
       walk_at "rg"
       refine qCi (SqT.of yw2) (v :=.int f.w1) rfl ?_
       walk_at "rg"
       refine qAq (L2.old.toSame.seq hSb) (by rw [hj];exact qBf hvb) ?_
       walk_at "rg"
       refine qCi (L2.old.toSame.seqT hSp) (v :=.ref dl) rfl ?_
       walk_at "rg"
       refine qAq (SqL.of y2) (v :=.int (f.pos+1)) rfl ?_
       walk_at "rg"
       rw [show f.pos+1 - 1=(p0:Int) by omega]
       refine qAq (L2.old.toSame.seq hSd) (qBf hdv) ?_
       walk_at "rg"
       have fok:FrOk g { f with pos:=f.pos+1 }:=⟨hfr.bx,hfr.wk,⟨by show -1<=f.pos+1;omega,by show f.pos+1<=20;omega⟩,hfr.as⟩
       have ms2:MsOk g { m with st :={ f with pos:=f.pos+1 }::rest }:=ms.same est fok ms.held (.inl rfl) ms.told rfl (by simp) (Int.le_refl _) rfl
       have hL2:LawAt g l H G2 { m with st :={ f with pos:=f.pos+1 }::rest } (a::fas):=L2
       refine⟨g,l,H,{ m with st :={ f with pos:=f.pos+1 }::rest },{ f with pos:=f.pos+1 },rest,a,fas,dv,d,rfl,gv,ms2,rfl,hL2,dd,hbok.ds d (List.mem_of_getElem? hdd) |> (fun z => ?_),fun hm=>gv.plain hm wk (List.mem_of_getElem? hwk) b (List.mem_of_getElem? hbk) d (List.mem_of_getElem? hdd),fun G3 fas' L3 => ?_⟩
       ·exact z
       rw [qPl] at L3 ⊢
       walk_at "rg"
       generalize hmd:mdeed g m { f with pos:=f.pos+1 } rest d=md at hst L3 ⊢
       obtain⟨m',cc⟩:=md
       by_cases hcc:cc=0
       ·subst hcc
        exact LW.go gv ms hps hgo hn hst L3 rfl
       ·exact LW.stop gv ms hgo hn hst hcc L3 rfl
   ·rw [decide_eq_false (qTk hc)]
    refine iteF ?_
    walk_at "rg"
    refine qB4 L1.now (qJb _ _ _ _ _ _) ?_
    walk_at "rg"
    refine qB4 L1.now (qFm _ _ _ _ _ _) ?_
    walk_at "rg"
    refine qB4 L1.now (qHb _ _ _ _ _ _) ?_
    walk_at "rg"
    refine qB4 L1.now (qDf _ _ _ _ _ _) ?_
    walk_at "rg"
    refine⟨len2 (by show 6<=1000;decide),fun tp htp => ?_⟩
    walk_at "rg"
    exact q tp l _ m cc _ hfin qA1 (L1.fresh (.laid htp)) (L1.old.none (by simp) htp) ms (L1.old.trans (.laid htp))
end
section
variable {P:Program} {w:World} {K:PySem.W.Frag} {mg:Str->Option Value} {base:Heap}
abbrev sHeld:Stmt:=top 23
theorem qTq:FnScope ["_law_tape_here"] ["_law_tape_here"] (qA8 sHeld):=⟨rfl,rfl,rfl,by decide +kernel,rfl,by decide +kernel,by decide +kernel⟩
theorem qSm {f:Addr} {fd:FuncData} (F:Fun K "_law_held" "_law_held" sHeld f fd) (nrange:mg "range" = none) (hN:Has P w K mg base "_law_number" 2 ["_law_tape_here"] qEx) :
  FnOk P w K mg base CX0 3 f fd ["_law_tape_here"] qM2:=by
 refine F.ok qTq (fun vs H Q E h => ?_) (fun cdv A outer s H vs Q E hr h => ?_)
 ·refine hide fun G_ hG_ => ?_
  obtain⟨t,k,rfl,_⟩:=h
  refine hG_ ?_
  rfl
 ·refine hide fun G_ hG_ => ?_
  obtain⟨t,k,rfl,T,hk,q⟩:=h
  refine hG_ ?_
  refine⟨_,(qA7 (qAk (qEv ["_law_box"] [0] rfl (.of rfl) (qBj rfl nrange (qA0 qA2 qA4)) (fun _ _ _ _=>(qAg (i:=0) (by show (((["_law_box","_law_tape_here"]:List Str))).Nodup;decide) rfl (Or.inl rfl))) (fun _ _ _ _ =>.nil) (fun _ _ _ _=>(qAy hN hr (by decide) (qA0 (pv 1) qA4)))))),?_⟩
  try dsimp only [qBp,qB9]
  walk_at "rg"
  refine⟨8,rfl,by decide,by decide,fun l hl => ?_⟩
  have nlt:l≠t:=T.ne hl
  refine qDj (lo:=0) (n:=(8:Int).toNat) (fun i σ' G => ∃(o:Option V) (ns:List Int),σ' = [o,some (.ref t)]/\ns.length=i/\(∀x∈ns,-(10^12)<=x/\x<=10^12)/\G l=some (.lst (ns.map V.int))/\Tape G t (k+3*i)/\Ext [l,t] H G) ?_ ?_ ?_
  ·exact⟨_,[],rfl,rfl,(fun _ h=>absurd h (by simp)),qA1,T.ext (ts :=[]) (.laid hl) (by simp),.laid hl⟩
  ·intro i σ' G R hi hq_ hR
   refine hide fun G_ hG_ => ?_
   obtain⟨o,ns,rfl,hnl,hns,hL,hT,hE⟩:=hq_
   refine hG_ ?_
   have hi8:i<8:=hi
   walk_at "rg"
   refine iteT ?_
   walk_at "rg"
   refine⟨t,k+3*i,rfl,hT,by omega,fun r G2 r1 r2 T2 e2 => ?_⟩
   walk_at "rg"
   have hL2:=e2 _ _ (by simpa using nlt) hL
   refine⟨_,hL2,qAn (by rw [List.length_map];omega),hR _ _ ⟨_,ns ++ [r],rfl,by rw [List.length_append,hnl];rfl,fun x hx => ?_,by rw [qA1,List.map_append];rfl,?_,?_⟩⟩
   ·rcases List.mem_append.mp hx with z | z
    ·exact hns x z
    ·rw [List.mem_singleton.mp z];exact⟨r1,r2⟩
   ·rw [Nat.mul_succ,<-Nat.add_assoc]
    exact T2.ext (ts :=[l]) (.put (by simp)) (by simpa using nlt.symm)
   ·exact (hE.trans (e2.mono (by simp))).trans (.put (by simp))
  ·intro σ' G hq_
   refine hide fun G_ hG_ => ?_
   obtain⟨o,ns,rfl,hnl,hns,hL,hT,hE⟩:=hq_
   refine hG_ ?_
   walk_at "rg"
   exact q l ns G hl nlt hnl hns hL hT (hE.drop hl)
end
section
variable {P:Program} {w:World} {K:PySem.W.Frag} {mg:Str->Option Value} {base:Heap}
abbrev qDb:Stmt:=top 24
theorem qM8:FnScope ["_law_tape_here"] ["_law_tape_here"] (qA8 qDb):=⟨rfl,rfl,rfl,by decide +kernel,rfl,by decide +kernel,by decide +kernel⟩
theorem qL6 {f:Addr} {fd:FuncData} (F:Fun K "_law_choices" "_law_choices" qDb f fd) (nrange:mg "range" = none) (hD:Has P w K mg base "_law_draw" 1 ["_law_tape_here","_law_many_here"] qD2) :
  FnOk P w K mg base CX0 2 f fd ["_law_tape_here"] (qLz 200 201 (-1) 2):=by
 refine F.ok qM8 (fun vs H Q E h => ?_) (fun cdv A outer s H vs Q E hr h => ?_)
 ·refine hide fun G_ hG_ => ?_
  obtain⟨t,k,rfl,_⟩:=h
  refine hG_ ?_
  rfl
 ·refine hide fun G_ hG_ => ?_
  obtain⟨t,k,rfl,T,hk,q⟩:=h
  refine hG_ ?_
  refine⟨_,(qA7 (qAk (qEv ["_law_k"] [0] rfl (.of rfl) (qBj rfl nrange (qA0 (qAb qAa (qAr (qA0 qA2 (qA0 qA2 (qA0 qA2 (qA0 qA2 (qA0 qA2 qA4)))))) (qAy hD hr (by decide) (qA0 (pv 0) (qA0 qA2 qA4))) (fun _ _=>rfl)) qA4)) (fun _ _ _ _=>(qAg (i:=0) (by show (((["_law_k","_law_tape_here"]:List Str))).Nodup;decide) rfl (Or.inl rfl))) (fun _ _ _ _ =>.nil) (fun _ _ _ _=>(qAb (qCf K rfl) (qAr (qA0 qA2 (qA0 qA2 (qA0 qA2 (qA0 qA2 (qA0 qA2 (qA0 qA2 (qA0 (qEu qCx qA2) (qA0 qA2 qA4))))))))) (qAy hD hr (by decide) (qA0 (pv 1) (qA0 qA2 qA4))) (fun _ _=>rfl)))))),?_⟩
  try dsimp only [qBp,qB9]
  walk_at "rg"
  refine⟨len2 (by show 5<=1000;decide),fun p hp => ?_⟩
  have X1:Ext [] H (upd H p (.lst [.int 0,.int 3,.int 12,.int 40,.int 200])) :=.laid hp
  have hp1:(upd H p (.lst [.int 0,.int 3,.int 12,.int 40,.int 200])) p=some (.lst (([0,3,12,40,200]:List Int).map V.int)):=qA1
  have npt:p≠t:=T.ne hp
  generalize upd H p (.lst [.int 0,.int 3,.int 12,.int 40,.int 200])=H1 at X1 hp1 ⊢
  have T1:=T.ext X1 (by simp)
  walk_at "rg"
  refine qB6 (n:=5) T1 (by omega) (by decide) (by decide) fun r0 H2 a0 b0 T2 e2 _ => ?_
  have hp2:=e2 _ _ (by simpa using npt) hp1
  obtain⟨m,hm,hat⟩:=qEc (ns :=[0,3,12,40,200]) a0 b0
  have hm2:0<=m/\m<=200:=by
   simp only [List.mem_cons,List.not_mem_nil,or_false] at hm
   omega
  have E2:Ext [t] H H2:=(X1.mono (by simp)).trans e2
  walk_at "rg"
  refine qAq (SqL.of hp2) hat ?_
  walk_at "rg"
  refine⟨m,rfl,by omega,by omega,fun l hl => ?_⟩
  have nlt:l≠t:=T2.ne hl
  have hl0:H l=none:=E2.none (by simpa using nlt) hl
  refine qDj (lo:=0) (n:=m.toNat) (fun i σ' G => ∃(o:Option V) (ns:List Int),σ' = [o,some (.ref t)]/\ns.length=i/\(∀x∈ns,-1<=x/\x<=2)/\G l=some (.lst (ns.map V.int))/\Tape G t (k+1+i)/\Ext [l,t] H G) ?_ ?_ ?_
  ·exact⟨_,[],rfl,rfl,(fun _ h=>absurd h (by simp)),qA1,T2.ext (ts :=[]) (.laid hl) (by simp),(E2.mono (by simp)).trans (.laid hl)⟩
  ·intro i σ' G R hi hq_ hR
   refine hide fun G_ hG_ => ?_
   obtain⟨o,ns,rfl,hnl,hns,hL,hT,hE⟩:=hq_
   refine hG_ ?_
   have hi2:i<200:=by omega
   walk_at "rg"
   refine iteT ?_
   walk_at "rg"
   refine⟨len2 (by show 8<=1000;decide),fun p2 hq => ?_⟩
   have X3:Ext [] G (upd G p2 (.lst [.int 0,.int 1,.int 0,.int 1,.int 1,.int 2,.int (-1),.int 0])) :=.laid hq
   have hq3:(upd G p2 (.lst [.int 0,.int 1,.int 0,.int 1,.int 1,.int 2,.int (-1),.int 0])) p2=some (.lst (([0,1,0,1,1,2,-1,0]:List Int).map V.int)):=qA1
   have nqt:p2≠t:=hT.ne hq
   generalize upd G p2 (.lst [.int 0,.int 1,.int 0,.int 1,.int 1,.int 2,.int (-1),.int 0])=G3 at X3 hq3 ⊢
   walk_at "rg"
   refine qB6 (n:=8) (hT.ext X3 (by simp)) (by omega) (by decide) (by decide) fun r1 G4 a1 b1 T4 e4 _ => ?_
   have hq4:=e4 _ _ (by simpa using nqt) hq3
   obtain⟨c,hc,hat2⟩:=qEc (ns :=[0,1,0,1,1,2,-1,0]) a1 b1
   have hc2 : -1<=c/\c<=2:=by
    simp only [List.mem_cons,List.not_mem_nil,or_false] at hc
    omega
   walk_at "rg"
   refine qAq (SqL.of hq4) hat2 ?_
   walk_at "rg"
   have hL4:=e4 _ _ (by simpa using nlt) (X3 _ _ (by simp) hL)
   refine⟨_,hL4,qAn (by rw [List.length_map];omega),hR _ _ ⟨_,ns ++ [c],rfl,by rw [List.length_append,hnl];rfl,fun x hx => ?_,by rw [qA1,List.map_append];rfl,?_,?_⟩⟩
   ·rcases List.mem_append.mp hx with z | z
    ·exact hns x z
    ·rw [List.mem_singleton.mp z];exact hc2
   ·rw [<-Nat.add_assoc]
    exact T4.ext (ts :=[l]) (.put (by simp)) (by simpa using nlt.symm)
   ·exact ((hE.trans (X3.mono (by simp))).trans (e4.mono (by simp))).trans (.put (by simp))
  ·intro σ' G hq_
   refine hide fun G_ hG_ => ?_
   obtain⟨o,ns,rfl,hnl,hns,hL,hT,hE⟩:=hq_
   refine hG_ ?_
   walk_at "rg"
   exact q l ns G hl0 nlt (by omega) hns hL (hT.mono (by omega)) (hE.drop hl0)
end
section
variable {P:Program} {w:World} {K:PySem.W.Frag} {mg:Str->Option Value} {base:Heap}
abbrev sEven:Stmt:=top 25
theorem scEven:FnScope ["_law_works_here","_law_counts","_law_work_here","_law_some","_law_ways_here","_law_block","_law_into"] ["_law_works_here","_law_counts"] (qA8 sEven):=⟨rfl,rfl,rfl,by decide +kernel,rfl,by decide +kernel,by decide +kernel⟩
theorem qHy {K:PySem.W.Frag} {G:Hp} {lw ya l:Addr} {us2:List V} {wk:List Blk} {log:List K3} {n:Nat} {b s:Int} {fld:Int×Int->Int} {Q:St->Hp->Prop} (hat : ∀p:Int×Int,atI [V.int p.1,V.int p.2] s=some (.int (fld p)))
  (hSlw:SqL K G lw us2) (hW:DenL K G ((qAi wk wk.length).map pairD) us2) (hy:G ya=some (.lst ((qBy log n wk).map V.int))) (hl:G l=none) (hwb:(qAi wk wk.length).length<=900)
  (q : ∀ σ' G',Ext [] G G'->G' l=some (.lst ((qEq wk log n (fun p=>decide (fld p=b)) (qAi wk wk.length).length).map V.int))->Q σ' G') :
  LoopT (Itz K lw ya) (gTup K 2 (gCons (gName 0) (gCons (gName 1) gNil))) (tAll [tTest (tOp rEq (tOp (rIxT K) (tVar 0) (tC (V.int s))) (tVar 2))]) (eApp (tVar 1) l) [none,none,some (.int b)] (upd G l (HO.lst [])) Q:=by
 have hwl:=hW.len
 rw [List.length_map] at hwl
 refine qKi (K:=K) (a:=lw) (b:=ya) (xs:=us2) (ys:=(qBy log n wk).map V.int) (by unfold qBy;rw [List.length_map,List.length_map];omega) (fun i σ' G4 => ∃(o0 o1:Option V),σ' = [o0,o1,some (.int b)]/\Ext [l] G G4/\G4 l=some (.lst ((qEq wk log n (fun p=>decide (fld p=b)) i).map V.int))) ?_ ?_ ?_ ?_
 ·exact⟨_,_,rfl,.laid hl,qA1⟩
 ·intro i σ' G4 hi hq_
  obtain⟨_,_,_,e4,_⟩:=hq_
  exact⟨(e4.drop hl).toSame.seq hSlw,(e4.drop hl).toSame.seq (SqL.of hy)⟩
 ·intro i x y σ' G4 p R hx hyy hq_ hp hR_
  obtain⟨o0,o1,rfl,e4,hl4⟩:=hq_
  obtain⟨d2,hd2,dV⟩:=hW.get hx
  obtain⟨pr,hpr,hd2⟩ : ∃pr,(qAi wk wk.length)[i]? = some pr/\d2=pairD pr:=by
   rw [List.getElem?_map] at hd2
   cases hc:(qAi wk wk.length)[i]? with
   | none=>rw [hc] at hd2;cases hd2
   | some pr=>rw [hc] at hd2;exact⟨pr,rfl,(Option.some.inj hd2).symm⟩
  subst hd2
  obtain⟨qa,rfl,hqa⟩:=qNh dV
  have hyy:y = .int (cntOf log n pr):=by
   unfold qBy at hyy
   rw [List.getElem?_map,List.getElem?_map,hpr] at hyy
   exact (Option.some.inj hyy).symm
  subst hyy
  have e5:Ext [] G4 (upd G4 p (.tup [.ref qa,.int (cntOf log n pr)])) :=.laid hp
  have y5:(upd G4 p (.tup [.ref qa,.int (cntOf log n pr)])) p=some (.tup [.ref qa,.int (cntOf log n pr)]):=qA1
  generalize upd G4 p (.tup [.ref qa,.int (cntOf log n pr)])=G5 at e5 y5 ⊢
  have E5:Ext [] G G5:=(e4.drop hl).trans e5
  have hl5:=e5 _ _ (by simp) hl4
  refine qD3 (SqT.of y5) rfl ?_
  walk_at "rh"
  refine qCi (E5.toSame.seqT hqa) (hat pr) ?_
  walk_at "rh"
  refine qC1 ?_
  refine⟨_,rfl,?_⟩
  by_cases c:fld pr=b
  ·rw [decide_eq_true c]
   refine iteT ?_
   walk_at "rh"
   refine iteT ?_
   walk_at "rh"
   refine⟨_,hl5,qAn (by rw [List.length_map];have:=qL4 wk log n (fun p=>decide (fld p=b)) i;omega),hR_ _ _ ⟨_,_,rfl,(e4.trans (e5.mono (by simp))).trans (.put (by simp)),?_⟩⟩
   rw [qA1,qFj hpr,if_pos (decide_eq_true c),List.map_append];rfl
  ·rw [decide_eq_false c]
   refine iteF ?_
   refine iteF ?_
   refine hR_ _ _ ⟨_,_,rfl,e4.trans (e5.mono (by simp)),?_⟩
   rw [hl5,qFj hpr,if_neg (fun z=>c (of_decide_eq_true z)),List.append_nil]
 ·intro σ' G4 hq_
  obtain⟨o0,o1,rfl,e4,hl4⟩:=hq_
  rw [hwl] at hl4
  exact q _ _ (e4.drop hl) hl4
theorem qSo {f:Addr} {fd:FuncData} (F:Fun K "_law_even" "_law_even" sEven f fd) (nrange:mg "range" = none) (nlen:mg "len" = none) (nzip:mg "zip" = none) (nsum:mg "sum" = none) (hW:Has P w K mg base "_law_ways" 2 ["_law_work_here"] (qHp K)) :
  FnOk P w K mg base CX0 3 f fd ["_law_works_here","_law_counts"] (qM4 K):=by
 refine F.ok scEven (fun vs H Q E h => ?_) (fun cdv A outer s H vs Q E hr h => ?_)
 ·obtain⟨wa,la,as,ws,log,rfl,_⟩:=h
  rfl
 ·obtain⟨wa,la,as,ws,log,rfl,hD,okw,hla,hA,hlog,hev,q⟩:=h
  refine⟨_,(qA3 (qD5 PassesOwn.never rfl (qK7 rfl nzip (qA0 (pv 0) (qA0 (pv 1) qA4))) (qGk (n:=2) rfl (qAs (qAg (i:=2) scEven.nd rfl (Or.inl rfl)) (qAs (qAg (i:=3) scEven.nd rfl (Or.inl rfl)) qC6)))
   (qA3 (qAe (i:=4) scEven.nd rfl (Or.inl rfl) (qAy hW hr (by decide) (qA0 (pv 2) qA4)))
   (qA7 (qD5 PassesOwn.never rfl (qBj rfl nrange (qA0 (qAl qAf (by rfl) nlen PySem.boot_len (qA0 (pv 2) qA4)) qA4)) (qAg (i:=5) scEven.nd rfl (Or.inr rfl))
   (qA3 (qAe (i:=6) scEven.nd rfl (Or.inl rfl) (qAl (qIl hr.hd) (by rfl) nsum PyProof.Rows.boot_sum (qA0 (qEv ["_law_way","_law_n"] [5] rfl (.of rfl) (qK7 rfl nzip (qA0 (pv 4) (qA0 (pv 3) qA4))) (fun _ _ _ _=>(qEi (n:=2) K rfl rfl (qAs (qAg (i:=0) (by show (((["_law_way","_law_n","_law_block"]:List Str))).Nodup;decide) rfl (Or.inl rfl)) (qAs (qAg (i:=1) (by show (((["_law_way","_law_n","_law_block"]:List Str))).Nodup;decide) rfl (Or.inl rfl)) qC6)))) (fun _ _ _ _ =>.cons (qA9 qBc (qAb (qN8 K rfl) (pv 0) qA2 (fun _ _=>rfl)) (pv 2) (qAd _)) .nil) (fun _ _ _ _=>(pv 1))) qA4)))
   (qA7 (qBa (qA9 qMt (pv 6) (qAl (qIl hr.hd) (by rfl) nsum PyProof.Rows.boot_sum (qA0 (qEv ["_law_way","_law_n"] [5] rfl (.of rfl) (qK7 rfl nzip (qA0 (pv 4) (qA0 (pv 3) qA4))) (fun _ _ _ _=>(qEi (n:=2) K rfl rfl (qAs (qAg (i:=0) (by show (((["_law_way","_law_n","_law_block"]:List Str))).Nodup;decide) rfl (Or.inl rfl)) (qAs (qAg (i:=1) (by show (((["_law_way","_law_n","_law_block"]:List Str))).Nodup;decide) rfl (Or.inl rfl)) qC6)))) (fun _ _ _ _ =>.cons (qA9 qBc (qAb (qN8 K rfl) (pv 0) qA2 (fun _ _=>rfl)) (pv 2) (qAd _)) .nil) (fun _ _ _ _=>(pv 1))) qA4)) (qAd _)) (qA7 (qAk qH8)) qAu)))))))
   (qA7 (qAk qH8))),?_⟩
  dsimp only [qBp,qB9]
  obtain⟨wa',us,ee,hSw,hDus⟩:=hD.ofList
  cases ee
  have hul:=hDus.len
  rw [List.length_map] at hul
  have hal:as.length=ws.length:=by rw [hA.len,qE7]
  walk_at "rh"
  refine qK0 ?_
  walk_at "rh"
  refine⟨wa,la,rfl,⟨_,hSw⟩,⟨_,SqL.of hla⟩,qPw (xs:=us) (ys:=as.map V.ref) (by rw [List.length_map];omega) (fun j σ' G => ∃(o2 o3 o4 o5 o6:Option V),σ' = [some (.ref wa),some (.ref la),o2,o3,o4,o5,o6]/\Ext [] H G) ?_ ?_ ?_ ?_⟩
  ·exact⟨_,_,_,_,_,rfl,.refl _ _⟩
  ·intro j σ' G hj hq_
   obtain⟨_,_,_,_,_,_,eG⟩:=hq_
   exact⟨eG.toSame.seq hSw,SqL.of (eG _ _ (by simp) hla)⟩
  ·intro j x y σ' G p hx hy hq_ hp N_ B_ C_ R_ hN_ hC_ hR_
   refine hide fun G_ hG_ => ?_
   obtain⟨o2,o3,o4,o5,o6,rfl,eG⟩:=hq_
   have hjl:j<ws.length:=by rw [<-hul];exact (List.getElem?_eq_some_iff.mp hx).1
   obtain⟨wk,hwk⟩ : ∃wk,ws[j]? = some wk:=⟨_,List.getElem?_eq_getElem hjl⟩
   obtain⟨d,hd,dX⟩:=hDus.get hx
   rw [List.getElem?_map,hwk] at hd
   have hd:d=workD wk:=(Option.some.inj hd).symm
   subst hd
   obtain⟨xa,xs',hxa,hSx,hDx⟩:=dX.ofList
   subst hxa
   have hxl:=hDx.len
   rw [List.length_map] at hxl
   obtain⟨ya,hya,rfl⟩ : ∃ya,as[j]? = some ya/\y = .ref ya:=by
    rw [List.getElem?_map] at hy
    cases hc:as[j]? with
    | none=>rw [hc] at hy;cases hy
    | some ya=>rw [hc] at hy;exact⟨ya,rfl,(Option.some.inj hy).symm⟩
   obtain⟨ns,hns,hyH⟩:=hA.get hya
   have hns:ns=qBy log j wk:=by
    unfold msOf at hns
    rw [List.getElem?_map,List.getElem?_range hjl] at hns
    have hns:=(Option.some.inj hns).symm
    dsimp only at hns
    rw [List.getD_eq_getElem?_getD,hwk] at hns
    exact hns
   subst hns
   obtain⟨mm,_,mm2,hOk⟩:=okw.all wk (List.mem_of_getElem? hwk)
   refine hG_ ?_
   have e2:Ext [] G (upd G p (.tup [.ref xa,.ref ya])) :=.laid hp
   have y2:(upd G p (.tup [.ref xa,.ref ya])) p=some (.tup [.ref xa,.ref ya]):=qA1
   generalize upd G p (.tup [.ref xa,.ref ya])=G2 at e2 y2 ⊢
   walk_at "rh"
   refine qD3 (SqT.of y2) rfl ?_
   walk_at "rh"
   have E2:=eG.trans e2
   refine⟨xa,wk,mm,_,rfl,dX.mono E2.toSame,hOk,mm2,fun lw G3 hlw e3 hW3 => ?_⟩
   obtain⟨lw',us2,ee,hSlw,hW⟩:=(hW3.mono yo_same).ofList
   cases ee
   have hwl:=hW.len
   rw [List.length_map] at hwl
   have hwb:=qBr (fun b hb=>(hOk.blk b hb).ns.few) wk.length
   have hml:=hOk.len
   have E3:=E2.trans e3
   walk_at "rh"
   refine qC4 (E3.toSame.seq hSx) ?_
   walk_at "rh"
   refine⟨(xs'.length:Int),rfl,by omega,by omega,qC3 (lo:=0) (n:=(xs'.length:Int).toNat) (fun i σ' G4 => ∃(o5 o6:Option V),σ' = [some (.ref wa),some (.ref la),some (.ref xa),some (.ref ya),some (.ref lw),o5,o6]/\Ext [] G3 G4) ?_ ?_ ?_⟩
   ·exact⟨_,_,rfl,.refl _ _⟩
   ·intro i σ' G4 hi hq_ N_ B_ C_ R_ hN_ hC_ hR_
    refine hide fun G_ hG_ => ?_
    obtain⟨o5,o6,rfl,e4⟩:=hq_
    have hi:i<wk.length:=by rw [<-hxl];simpa using hi
    have hev':=hev j wk (i:Int) hwk (by omega) (by omega)
    refine hG_ ?_
    walk_at "rh"
    have E4:=E3.trans e4
    refine qK0 ?_
    walk_at "rh"
    refine⟨lw,ya,rfl,⟨_,e4.toSame.seq hSlw⟩,⟨_,SqL.of (E4 _ _ (by simp) hyH)⟩,fun l hl => ?_⟩
    refine qHy (b:=0+(i:Int)) (s:=1) (fld:=fun p=>p.2) (fun p=>rfl) (e4.toSame.seq hSlw) (hW.mono e4.toSame) (E4 _ _ (by simp) hyH) hl (by omega) fun σ5 G5 e5 hl5 => ?_
    walk_at "rh"
    refine⟨l,_,rfl,SqL.of hl5,?_⟩
    walk_at "rh"
    refine qK0 ?_
    walk_at "rh"
    have E5:=E4.trans e5
    have E45:=e4.trans e5
    refine⟨lw,ya,rfl,⟨_,E45.toSame.seq hSlw⟩,⟨_,SqL.of (E5 _ _ (by simp) hyH)⟩,fun l2 hl2 => ?_⟩
    refine qHy (b:=0+(i:Int)) (s:=0) (fld:=fun p=>p.1) (fun p=>rfl) (E45.toSame.seq hSlw) (hW.mono E45.toSame) (E5 _ _ (by simp) hyH) hl2 (by omega) fun σ6 G6 e6 hl6 => ?_
    walk_at "rh"
    refine⟨l2,_,rfl,SqL.of hl6,?_⟩
    refine qRt ?_
    rw [decide_eq_true (by
     rw [qLu,qLu] at hev'
     unfold qEq
     rw [List.take_length,Int.zero_add]
     exact hev')]
    refine⟨_,rfl,?_⟩
    refine iteF ?_
    walk_at "rh"
    exact⟨_,_,rfl,E45.trans e6⟩
   ·intro σ' G4 hq_
    refine hide fun G_ hG_ => ?_
    obtain⟨o5,o6,rfl,e4⟩:=hq_
    refine hG_ ?_
    walk_at "rh"
    exact⟨_,_,_,_,_,rfl,E3.trans e4⟩
  ·intro σ' G hq_
   refine hide fun G_ hG_ => ?_
   obtain⟨o2,o3,o4,o5,o6,rfl,eG⟩:=hq_
   refine hG_ ?_
   walk_at "rh"
   exact q _ eG
end
section
variable {P:Program} {w:World} {K:PySem.W.Frag} {mg:Str->Option Value} {base:Heap}
abbrev sLaw:Stmt:=top 26
theorem scLaw:FnScope ["_law_script","_law_k","_law_tape_here","_law_works_here","_law_turn","_law_number_here","_law_boxes","_law_choices_here","_law_most","_law_ended","_law_state","_law_gone","_law_due","_law_found"] ["_law_script"] (qA8 sLaw):=⟨rfl,rfl,rfl,by decide +kernel,rfl,by decide +kernel,by decide +kernel⟩
theorem qQ0 {K:PySem.W.Frag} {G:Hp} {l gn du:Addr} {us:List V} {ws:List (List Blk)} {gs:List Addr} {log:List K3} {Q:St->Hp->Prop} (hSl:SqL K G l us) (hDus:DenL K G (ws.map workD) us) (okw:WsOk ws) (hgn:G gn=some (.lst (gs.map V.ref))) (hgl:gs.length=ws.length) (hgw : ∀i x,gs[i]? = some x->WayAt G x log i) (hdu:G du=none)
  (q : ∀ σ' G' as,Ext [] G G'->G' du=some (.lst (as.map V.ref))->IntsL G' as (msOf ws log ws.length)->Q σ' G') :
  LoopT (Itz K l gn) (gTup K 2 (gCons (gName 0) (gCons (gName 1) gNil))) (tAll []) (eApp (tComp ["_law_way"] [1] (HO.lst []) (iList K (tCall (qHp K) [] E0 (tCons (tVar 0) tNil))) (gName 0) [] (eApp (qJt K (tVar 1) (tVar 0) (tC (V.int 0))))) du) [none,none] (upd G du (HO.lst [])) Q:=by
 have hul:=hDus.len
 rw [List.length_map] at hul
 have hfew:=okw.few
 refine qKi (K:=K) (a:=l) (b:=gn) (xs:=us) (ys:=gs.map V.ref) (by rw [List.length_map];omega) (fun j σ' G2 => ∃(o0 o1:Option V) (as:List Addr),σ' = [o0,o1]/\Ext [du] G G2/\G2 du=some (.lst (as.map V.ref))/\IntsL G2 as (msOf ws log j) /\ ∀a∈as,a≠du) ?_ ?_ ?_ ?_
 ·exact⟨_,_,[],rfl,.laid hdu,qA1,.nil,by simp⟩
 ·intro j σ' G2 hj hq_
  obtain⟨_,_,_,_,eG,_⟩:=hq_
  exact⟨(eG.drop hdu).toSame.seq hSl,SqL.of ((eG.drop hdu) _ _ (by simp) hgn)⟩
 ·intro j x y σ' G2 p R hx hy hq_ hp hR_
  obtain⟨o0,o1,as,rfl,eG,hlG,hA,has⟩:=hq_
  have hjl:j<ws.length:=by rw [<-hul];exact (List.getElem?_eq_some_iff.mp hx).1
  obtain⟨wk,hwk⟩ : ∃wk,ws[j]? = some wk:=⟨_,List.getElem?_eq_getElem hjl⟩
  have hal:as.length=j:=by rw [hA.len,qE7]
  obtain⟨d,hd,dX⟩:=hDus.get hx
  rw [List.getElem?_map,hwk] at hd
  have hd:d=workD wk:=(Option.some.inj hd).symm
  subst hd
  obtain⟨xa,xs',hxa,_,_⟩:=dX.ofList
  subst hxa
  obtain⟨ya,hya,rfl⟩ : ∃ya,gs[j]? = some ya/\y = .ref ya:=by
   rw [List.getElem?_map] at hy
   cases hc:gs[j]? with
   | none=>rw [hc] at hy;cases hy
   | some ya=>rw [hc] at hy;exact⟨ya,rfl,(Option.some.inj hy).symm⟩
  obtain⟨kvs,hkv,_,hval⟩:=hgw j ya hya
  obtain⟨mm,_,mm2,hOk⟩:=okw.all wk (List.mem_of_getElem? hwk)
  have e2:Ext [] G2 (upd G2 p (.tup [.ref xa,.ref ya])) :=.laid hp
  have y2:(upd G2 p (.tup [.ref xa,.ref ya])) p=some (.tup [.ref xa,.ref ya]):=qA1
  generalize upd G2 p (.tup [.ref xa,.ref ya])=G3 at e2 y2 ⊢
  refine qD3 (SqT.of y2) rfl ?_
  walk_at "rh"
  refine iteT ?_
  walk_at "rh"
  have E3:Ext [] G G3:=(eG.drop hdu).trans e2
  refine⟨xa,wk,mm,_,rfl,dX.mono E3.toSame,hOk,mm2,fun lw G4 hlw e4 hW4 => ?_⟩
  obtain⟨lw',us2,ee,hSlw,hW⟩:=(hW4.mono yo_same).ofList
  cases ee
  have hwl:=hW.len
  rw [List.length_map] at hwl
  have hwb:=qBr (fun b hb=>(hOk.blk b hb).ns.few) wk.length
  have hml:=hOk.len
  have E4:=E3.trans e4
  walk_at "rh"
  refine⟨lw,rfl,⟨_,hSlw⟩,fun l2 hl2 => ?_⟩
  have nl2:l2≠du:=fun z=>by rw [z,(e2.trans e4) _ _ (by simp) hlG] at hl2;cases hl2
  refine qBx (K:=K) (a:=lw) (xs:=us2) (fun i σ' G5 => ∃(o0:Option V),σ' = [o0,some (.ref ya)]/\Ext [l2] G4 G5/\G5 l2=some (.lst ((((qAi wk wk.length).take i).map (cntOf log j)).map V.int))) ?_ ?_ ?_ ?_
  ·exact⟨_,rfl,.laid hl2,qA1⟩
  ·intro i σ' G5 hi hq_
   obtain⟨_,_,e5,_⟩:=hq_
   exact (e5.drop hl2).toSame.seq hSlw
  ·intro i v σ' G5 R2 hv hq_ hR2_
   obtain⟨o0,rfl,e5,hl25⟩:=hq_
   obtain⟨d2,hd2,dV⟩:=hW.get hv
   obtain⟨pr,hpr,hd2⟩ : ∃pr,(qAi wk wk.length)[i]? = some pr/\d2=pairD pr:=by
    rw [List.getElem?_map] at hd2
    cases hc:(qAi wk wk.length)[i]? with
    | none=>rw [hc] at hd2;cases hd2
    | some pr=>rw [hc] at hd2;exact⟨pr,rfl,(Option.some.inj hd2).symm⟩
   subst hd2
   obtain⟨qa,rfl,hqa⟩:=qNh dV
   have E45:=e5.drop hl2
   have hkv5:=(E4.trans E45) _ _ (by simp) hkv
   walk_at "rh"
   refine iteT ?_
   walk_at "rh"
   refine qRy ?_
   walk_at "rh"
   refine⟨ya,kvs,rfl,hkv5,?_⟩
   walk_at "rh"
   refine⟨kvs,[Sum.inl pr.1,Sum.inl pr.2],qa,rfl,hkv5,E45.toSame.seqT hqa,?_⟩
   rw [qRd hval]
   refine⟨_,hl25,qAn (by rw [List.length_map,List.length_map,List.length_take];omega),hR2_ _ _ ⟨_,rfl,e5.trans (.put (by simp)),?_⟩⟩
   rw [qA1,List.take_add_one,hpr]
   simp only [Option.toList_some,List.map_append,List.map_cons,List.map_nil]
  ·intro σ' G5 hq_
   obtain⟨o0,rfl,e5,hl25⟩:=hq_
   rw [hwl,List.take_length] at hl25
   have E45:=e5.drop hl2
   have E25:=e2.trans (e4.trans E45)
   have hl5:=E25 _ _ (by simp) hlG
   refine⟨_,hl5,qAn (by rw [List.length_map];omega),hR_ _ _ ⟨_,_,as ++ [l2],rfl,(eG.trans (E25.mono (by simp))).trans (.put (by simp)),by rw [qA1,List.map_append];rfl,?_,?_⟩⟩
   ·rw [qI6]
    refine IntsL.snoc (hA.mono fun a ha o e => ?_) ?_
    ·rw [qA6 (has a ha)];exact E25 _ _ (by simp) e
    ·rw [qA6 nl2,hl25]
     unfold qBy
     rw [List.getD_eq_getElem?_getD,hwk];rfl
   ·intro a ha
    rcases List.mem_append.mp ha with z | z
    ·exact has a z
    ·rw [List.mem_singleton.mp z];exact nl2
 ·intro σ' G2 hq_
  obtain⟨o0,o1,as,rfl,eG,hlG,hA,has⟩:=hq_
  rw [hul] at hA
  exact q _ _ as (eG.drop hdu) hlG hA
def qO7 (K:PySem.W.Frag):Sp:=fun vs H Q _ => ∃(a:Addr) (ns:List Int),vs = [.ref a]/\SqL K H a (ns.map V.int)/\ns.length<=63 /\ ∀H',Q (.bl true) H'
theorem qUx {f:Addr} {fd:FuncData} (F:Fun K "law" "law" sLaw f fd) (nrange:mg "range" = none) (nlen:mg "len" = none) (nmax:mg "max" = none) (nmin:mg "min" = none) (nrepr:mg "repr" = none) (nzip:mg "zip" = none)
  (hT:Has P w K mg base "_law_tape" 1 ["_law_script","_law_k"] (qLx K)) (hD:Has P w K mg base "_law_draw" 1 ["_law_tape_here","_law_many_here"] qD2) (hW:Has P w K mg base "_law_works" 5 ["_law_tape_here","_law_most"] (qGw K)) (hH:Has P w K mg base "_law_held" 3 ["_law_tape_here"] qM2) (hC:Has P w K mg base "_law_choices" 2 ["_law_tape_here"] (qLz 200 201 (-1) 2))
  (hR:Has P w K mg base "_law_run" 2 ["_law_works_here","_law_number_here","_law_boxes","_law_choices_here","_law_most","_law_mean"] (qM1 K)) (hY:Has P w K mg base "_law_ways" 2 ["_law_work_here"] (qHp K)) (hE:Has P w K mg base "_law_even" 3 ["_law_works_here","_law_counts"] (qM4 K)) (hM:Has P w K mg base "measured" 86 ["works","number","boxes","choices","most"] (qEd K)) :
  FnOk P w K mg base CX0 87 f fd ["_law_script"] (qO7 K):=by
 refine F.ok scLaw (fun vs H Q E h => ?_) (fun cdv A outer s H vs Q E hr h => ?_)
 ·obtain⟨a,ns,rfl,_⟩:=h
  rfl
 ·obtain⟨a,ns,rfl,hSq,hlen,q⟩:=h
  have hu:(A.deeper (PyProof.Rows.envOfC "law" (qA8 sLaw) s.heap.objs.size f cdv)).units+1<cLine:=by have:=hr.un;omega
  refine⟨_,(qA3 (qD5 PassesOwn.never rfl (qBj rfl nrange (qA0 (qAl (qIn rfl) (by rfl) nmax PyProof.Rows.boot_max (qA0 qA2 (qA0 (qAl (qNt rfl) (by rfl) nmin PyProof.Rows.boot_min (qA0 (qAl qAf (by rfl) nlen PySem.boot_len (qA0 (pv 0) qA4)) (qA0 qA2 qA4))) qA4))) qA4)) (qAg (i:=1) scLaw.nd rfl (Or.inl rfl))
   (qA3 (qAe (i:=2) scLaw.nd rfl (Or.inl rfl) (qAy hT hr (by decide) (qA0 (pv 0) (qA0 (pv 1) qA4))))
   (qA3 (qAe (i:=3) scLaw.nd rfl (Or.inl rfl) (qAy hW hr (by decide) (qA0 (pv 2) (qA0 qA2 qA4))))
   (qA7 (qD5 PassesOwn.never rfl (qBj rfl nrange (qA0 qA2 qA4)) (qAg (i:=4) scLaw.nd rfl (Or.inl rfl))
   (qA3 (qS4 (i:=5) (j:=6) (k:=7) rfl scLaw.nd rfl rfl rfl (by decide) (by decide) (by decide) rfl rfl rfl (qA0 (qAy hD hr (by decide) (qA0 (pv 2) (qA0 (qAl qAf (by rfl) nlen PySem.boot_len (qA0 (pv 3) qA4)) qA4))) (qA0 (qAy hH hr (by decide) (qA0 (pv 2) qA4)) (qA0 (qAy hC hr (by decide) (qA0 (pv 2) qA4)) qA4))) rfl)
   (qA3 (qAe (i:=8) scLaw.nd rfl (Or.inl rfl) (qAb qAa (qAr (qA0 qA2 (qA0 (qAy hD hr (by decide) (qA0 (pv 2) (qA0 qA2 qA4))) qA4))) (qAy hD hr (by decide) (qA0 (pv 2) (qA0 qA2 qA4))) (fun _ _=>rfl)))
   (qA3 (qAe (i:=9) scLaw.nd rfl (Or.inl rfl) (qAy hR hr (by decide) (qA0 (pv 3) (qA0 (pv 5) (qA0 (pv 6) (qA0 (pv 7) (qA0 (pv 8) (qA0 qH8 qA4))))))))
   (qA3 (qAe (i:=10) scLaw.nd rfl (Or.inl rfl) (qAb qAm (pv 9) qA2 (fun _ _=>rfl)))
   (qA3 (qAe (i:=11) scLaw.nd rfl (Or.inl rfl) (qAb qAm (pv 9) qA2 (fun _ _=>rfl)))
   (qA3 (qUl (i:=12) ["_law_work_here","_law_some"] [] "_law_some" rfl (.of rfl) scLaw.nd rfl (Or.inl rfl) (qK7 rfl nzip (qA0 (pv 3) (qA0 (pv 11) qA4))) (fun _ _ _ _=>qEi (n:=2) K rfl rfl (qAs (qAg (i:=0) (by show (((["_law_work_here","_law_some"]:List Str))).Nodup;decide) rfl (Or.inl rfl)) (qAs (qAg (i:=1) (by show (((["_law_work_here","_law_some"]:List Str))).Nodup;decide) rfl (Or.inr rfl)) qC6))) (fun _ _ _ _ =>.nil) (fun _ _ _ _=>qEv ["_law_way"] [1] rfl (.of rfl) (qK8 K rfl (qAy hY hr (by decide) (qA0 (pv 0) qA4))) (fun _ _ _ _=>qAg (i:=0) (by show (((["_law_way","_law_some"]:List Str))).Nodup;decide) rfl (Or.inl rfl)) (fun _ _ _ _ =>.nil) (fun _ _ _ _=>qMr K rfl hu (pv 1) (pv 0) qA2 ⟨rfl,rfl,rfl,rfl⟩)))
   (qA3 (qAe (i:=13) scLaw.nd rfl (Or.inl rfl) (qAy hM hr (by decide) (qA0 (pv 3) (qA0 (pv 5) (qA0 (pv 6) (qA0 (pv 7) (qA0 (pv 8) qA4)))))))
   (qA3 (qBa (qA9 qMt (qAl (qIm hr) (by rfl) nrepr PyProof.Rows.boot_repr (qA0 (pv 13) qA4)) (qAl (qIm hr) (by rfl) nrepr PyProof.Rows.boot_repr (qA0 (pv 12) qA4)) (qAd _)) (qA7 (qAk qH8)) qAu)
   (qA3 (qBa (qD4 (qA9 qBc (pv 10) qAc (qAd _)) (qCj (qK4 (qC5 K rfl (qAy hE hr (by decide) (qA0 (pv 3) (qA0 (pv 13) qA4))) (fun _=>rfl))))).pt (qA7 (qAk qH8)) qAu)
   (qA3 (qBe (qDs PySem.F.plainAttrs_list PySem.F.slot_list_append PySem.F.type_list_append qBh (qAb qAa (pv 13) qA2 (fun _ _=>rfl)) (qA0 qA2 qA4)))
   (qA3 (qBe (qQy PySem.F.plainAttrs_list PySem.F.slot_list_reverse PySem.F.type_list_reverse qL9 (pv 13)))
   (qA7 (qBa (qA9 (qUu hr) (qAy hM hr (by decide) (qA0 (pv 3) (qA0 (pv 5) (qA0 (pv 6) (qA0 (pv 7) (qA0 (pv 8) qA4)))))) (pv 12) (qAd _)) (qA7 (qAk qH8)) qAu))))))))))))))))))
   (qA7 (qAk qH8))),?_⟩
  dsimp only [qBp,qB9,qNq]
  walk_at "rh"
  refine qC4 hSq ?_
  rw [List.length_map]
  walk_at "rh"
  refine⟨_,_,rfl,?_⟩
  walk_at "rh"
  refine⟨_,_,rfl,?_⟩
  generalize hN:(if (if (3:Int)<(ns.length:Int) then (3:Int) else (ns.length:Int))>1 then (if (3:Int)<(ns.length:Int) then (3:Int) else (ns.length:Int)) else 1)=N
  have hN1:1<=N/\N<=3:=by
   rw [<-hN]
   repeat' split
   all_goals omega
  walk_at "rh"
  refine⟨N,rfl,by omega,by omega,qC3 (lo:=0) (n:=N.toNat) (fun i σ' H' => ∃(o1 o2 o3 o4 o5 o6 o7 o8 o9 o10 o11 o12 o13:Option V),σ' = [some (.ref a),o1,o2,o3,o4,o5,o6,o7,o8,o9,o10,o11,o12,o13]/\Ext [] H H') ?_ ?_ ?_⟩
  ·exact⟨_,_,_,_,_,_,_,_,_,_,_,_,_,rfl,.refl _ _⟩
  ·intro i σ' H' hi hq_ N_ B_ C_ R_ hN_ hC_ hR_
   refine hide fun G_ hG_ => ?_
   obtain⟨o1,o2,o3,o4,o5,o6,o7,o8,o9,o10,o11,o12,o13,rfl,e'⟩:=hq_
   refine hG_ ?_
   walk_at "rh"
   refine⟨a,ns,i,by show [V.ref a,V.int (0+(i:Int))] = [V.ref a,V.int (i:Int)];rw [Int.zero_add],e'.toSame.seq hSq,by omega,fun t H1 ht T1 s1 => ?_⟩
   walk_at "rh"
   refine⟨t,0,3,rfl,T1,by omega,by decide,by decide,fun l as ws H2 hl nlt hla has hnd T2 e2 hl2 hW hok hfw => ?_⟩
   have e12:Ext [t] H' H2:=(show Ext [t] H' H1 from fun b o _ h=>s1 b o h).trans e2
   have hof:=hok.few
   have ho1:=hok.one
   have wsok:WsOk ws:=⟨hok.all,ho1,by omega⟩
   have dWo:Den K (wo [t] H2) (qD0 ws) (.ref l):=T2.works (.list (SqL.of hl2) (qKt hW yo_same))
   clear hl2 hW hnd has hla
   walk_at "rh"
   refine⟨2,rfl,by decide,by decide,qC3 (lo:=0) (n:=(2:Int).toNat) (fun j σ' G => ∃(o4 o5 o6 o7 o8 o9 o10 o11 o12 o13:Option V),σ' = [some (.ref a),some (.int (0+(i:Int))),some (.ref t),some (.ref l),o4,o5,o6,o7,o8,o9,o10,o11,o12,o13]/\Tape G t (21000+300*j)/\Ext [t] H2 G) ?_ ?_ ?_⟩
   ·exact⟨_,_,_,_,_,_,_,_,_,_,rfl,T2.mono (by omega),.refl _ _⟩
   ·intro j σ' G hj hq_ N_ B_ C_ R_ hN_ hC_ hR_
    refine hide fun G_ hG_ => ?_
    obtain⟨o4,o5,o6,o7,o8,o9,o10,o11,o12,o13,rfl,TG,eG⟩:=hq_
    have hj:j<2:=hj
    have dG : ∀ {G':Hp},Ext [t] H2 G'->Den K G' (qD0 ws) (.ref l):=fun e=>(dWo.mono e.same).mono (qRb _ _)
    obtain⟨l',us,ee,hSl,hDus⟩:=(dG eG).ofList
    cases ee
    have hul:=hDus.len
    rw [List.length_map] at hul
    refine hG_ ?_
    walk_at "rh"
    refine qTy ?_
    walk_at "rh"
    refine qC4 hSl ?_
    rw [hul]
    walk_at "rh"
    refine qB6 TG (by omega) (by omega) (by omega) fun n G1 n0 n1 T3 e3 _ => ?_
    walk_at "rh"
    refine⟨t,_,rfl,T3,by omega,fun lb bs G2 hlb nlb hb8 hbb hlb2 T4 e4 => ?_⟩
    walk_at "rh"
    refine⟨t,_,rfl,T4,by omega,fun lc cs G3 hlc nlc hc2 hcc hlc3 T5 e5 => ?_⟩
    walk_at "rh"
    refine⟨_,_,_,rfl,?_⟩
    walk_at "rh"
    refine qB6 T5 (by omega) (by decide) (by decide) fun r G4 r0 r1 T6 e6 _ => ?_
    walk_at "rh"
    refine⟨len2 (by show 2<=1000;decide),fun pm hpm => ?_⟩
    have npm:pm≠t:=T6.ne hpm
    walk_at "rh"
    refine qB6 (T6.ext (.laid (ts :=[]) hpm) (by simp)) (by omega) (by decide) (by decide) fun r2 G5 r20 r21 T7 e7 k7 => ?_
    refine hide fun G_ hG_ => ?_
    obtain⟨mo,hmo,mo0,mo1⟩ : ∃mo:Int,atI [V.int 150,V.int r] r2=some (.int mo)/\0<=mo/\mo<=150:=by
     have:r2=0\/r2=1:=by omega
     rcases this with z | z <;> subst z
     ·exact⟨150,rfl,by decide,by decide⟩
     ·exact⟨r,rfl,by omega,by omega⟩
    refine hG_ ?_
    refine qAq (SqL.of (by rw [k7 pm npm,qA1])) hmo ?_
    have E35:Ext [t] G3 G5:=(e6.trans (.laid hpm)).trans e7
    have E25:Ext [t] G2 G5:=e5.trans E35
    have EG5:Ext [t] H2 G5:=eG.trans (e3.trans (e4.trans E25))
    have hlb5:G5 lb=some (.lst (bs.map V.int)):=E25 _ _ (by simpa using nlb) hlb2
    have hlc5:G5 lc=some (.lst (cs.map V.int)):=E35 _ _ (by simpa using nlc) hlc3
    have dG5:=dG EG5
    have T5':Tape G5 t (21000+300*(j+1)):=T7.mono (by omega)
    clear k7 hmo hpm npm e7 T7 e6 T6 e5 T5 e4 T4 e3 T3 hlb2 hlc3 hlb hlc hSl hDus E35 E25
    have gv:GvOk ⟨true,ws,cs,mo⟩:=⟨wsok,⟨mo0,by show mo<=20000;omega⟩,fun _ w hw b hb d hd=>((hfw w hw b hb).2 d hd).pl,by show cs.length<=1000;omega⟩
    walk_at "rh"
    refine⟨⟨true,ws,cs,mo⟩,l,lb,lc,n,bs,rfl,gv,dG5,SqL.of hlb5,hb8,SqL.of hlc5,n0,n1,fun tp lr fas m' cc G6 hfi htp L6 ntp ms6 e6 => ?_⟩
    walk_at "rh"
    refine qCi (SqT.of htp) (v :=.str (stS cc)) rfl ?_
    walk_at "rh"
    refine qCi (SqT.of htp) (v :=.ref lr.gn) rfl ?_
    walk_at "rh"
    have E56:Ext [] G5 G6:=e6
    obtain⟨l',us,ee,hSl,hDus⟩:=(dG5.mono e6.toSame).ofList
    cases ee
    have hlog:m'.log.length<=1000:=by have h1:=ms6.log;have h2:m'.steps<=mo:=ms6.steps.2;omega
    obtain⟨t1,t2,t3⟩:=qSx (log:=m'.log) wsok (Nat.le_refl _) hlog
    obtain⟨v1,v2,v3⟩:=qIv t1 (by omega) t3
    have vsh:=qIw t1 t3 ⟨_,rfl⟩
    refine qK0 ?_
    walk_at "rh"
    refine⟨l,lr.gn,rfl,⟨_,hSl⟩,⟨_,SqL.of L6.gn⟩,fun du hdu => ?_⟩
    refine qQ0 hSl hDus wsok L6.gn L6.gl L6.gw hdu fun σ7 G7 as7 e7 hdu7 hA7 => ?_
    have dDue:Den K G7 (.list ((msOf ws m'.log ws.length).map intsD)) (.ref du) :=.list (SqL.of hdu7) hA7.den
    have e57:=e6.trans e7
    clear hA7 hdu7 hdu L6 htp ntp hSl hDus
    walk_at "rh"
    refine⟨⟨true,ws,cs,mo⟩,l,lb,lc,n,bs,rfl,gv,rfl,dG5.mono e57.toSame,SqL.of (e57 _ _ (by simp) hlb5),hb8,SqL.of (e57 _ _ (by simp) hlc5),n0,n1,fun fo as8 m2 c2 G8 hfi2 ms8 nfo has8 e8 hfo8 hA8 => ?_⟩
    obtain⟨ec,em⟩:=hfi2.det hfi
    subst ec
    subst em
    have hal8:as8.length=ws.length:=by rw [hA8.len,qE7]
    have dF:Den K G8 (.list ((msOf ws m2.log ws.length).map intsD)) (.ref fo) :=.list (SqL.of hfo8) hA8.den
    have dDue8:=dDue.mono e8.toSame
    have e58:=e57.trans e8
    walk_at "rh"
    refine⟨fo,_,rfl,dF,v1,v2,v3,?_⟩
    walk_at "rh"
    refine⟨du,_,rfl,dDue8,v1,v2,v3,?_⟩
    refine qOl ?_
    walk_at "rh"
    rw [decide_eq_true rfl]
    refine iteF ?_
    with_reducible refine qBq (by assumption) ?_
    with_reducible refine qFh ?_
    with_reducible refine qBq (by assumption) ?_
    with_reducible refine qQl (fun σ' G9 => σ' = [some (.ref a),some (.int (0+(i:Int))),some (.ref t),some (.ref l),some (.int (0+(j:Int))),some (.int n),some (.ref lb),some (.ref lc),some (.int mo),some (.ref tp),some (.str (stS c2)),some (.ref lr.gn),some (.ref du),some (.ref fo)]/\Ext [] G8 G9) ?_ (fun hC => ?_)
    ·intro σ' G9 hq_
     refine hide fun G_ hG_ => ?_
     obtain⟨rfl,e9⟩:=hq_
     obtain⟨a0,ra,rfl⟩ : ∃a0 ra,as8=a0::ra:=by
      cases as8 with
      | nil=>simp at hal8;omega
      | cons a0 ra=>exact⟨a0,ra,rfl⟩
     obtain⟨ns0,hns0,ha0⟩:=hA8.get (i:=0) (a:=a0) rfl
     have hn0:ns0.length<=40:=qV4 wsok (Nat.le_refl _) ns0 (List.mem_of_getElem? hns0)
     obtain⟨na0,na0f⟩:=has8 a0 (List.mem_cons_self ..)
     refine hG_ ?_
     have hfo9:=e9 _ _ (by simp) hfo8
     have ha09:=e9 _ _ (by simp) ha0
     walk_at "rh"
     refine qAq (SqL.of hfo9) (v :=.ref a0) (qBf (j:=0) rfl) ?_
     refine qCz ha09 ?_
     walk_at "rh"
     refine qDl ha09 (by rw [List.length_map,sizeLine_eq];omega) ?_
     have x10:Ext [a0] G9 (upd G9 a0 (.lst (ns0.map V.int ++ [.int 1]))) :=.put (by simp)
     generalize upd G9 a0 (.lst (ns0.map V.int ++ [.int 1]))=G10 at x10 ⊢
     have hfo10:=x10 _ _ (by simpa using na0f.symm) hfo9
     walk_at "rh"
     refine qCz hfo10 ?_
     refine⟨fo,_,rfl,rfl,hfo10,?_⟩
     have x11:Ext [fo] G10 (upd G10 fo (.lst (((a0::ra).map V.ref).reverse))) :=.put (by simp)
     generalize upd G10 fo (.lst (((a0::ra).map V.ref).reverse))=G11 at x11 ⊢
     have e7_11:Ext [] G7 G11:=((((e8.trans e9).mono (by simp)).trans ((x10.mono (by simp)).trans (x11.mono (by simp))):Ext [a0,fo] G7 G11).drop na0).drop nfo
     have e511:=e57.trans e7_11
     walk_at "rh"
     refine⟨⟨true,ws,cs,mo⟩,l,lb,lc,n,bs,rfl,gv,rfl,dG5.mono e511.toSame,SqL.of (e511 _ _ (by simp) hlb5),hb8,SqL.of (e511 _ _ (by simp) hlc5),n0,n1,fun fo3 as9 m3 c3 G12 hfi3 ms12 _ _ e12' hfo12 hA12 => ?_⟩
     obtain⟨ec,em⟩:=hfi3.det hfi
     subst ec
     subst em
     have dF3:Den K G12 (.list ((msOf ws m3.log ws.length).map intsD)) (.ref fo3) :=.list (SqL.of hfo12) hA12.den
     walk_at "rh"
     refine⟨_,_,dF3,dDue.mono (e7_11.trans e12').toSame,vsh,vsh,?_⟩
     rw [if_pos rfl,qKn _ (qEm dF3)]
     refine⟨_,rfl,?_⟩
     refine iteF ?_
     walk_at "rh"
     have e512:=e511.trans e12'
     exact⟨_,_,_,_,_,_,_,_,_,_,rfl,T5'.ext e512 (by simp),EG5.trans (e512.mono (by simp))⟩
    ·walk_at "rh"
     refine qB5 ?_
     refine⟨_,rfl,?_⟩
     by_cases hc0:c2=0
     ·rw [decide_eq_true (show stS c2 = "ended" by rw [hc0];rfl)]
      refine iteT ?_
      walk_at "rh"
      subst hc0
      refine⟨l,fo,as8,ws,m2.log,rfl,dG5.mono e58.toSame,wsok,hfo8,hA8,hlog,fun n' wk b h1 h2 h3=>qT7 gv n0 n1 hfi h1 h2 h3,fun G9 e9 => ?_⟩
      walk_at "rh"
      refine qG4 ?_
      refine iteF ?_
      (try with_reducible refine qBq (by assumption) ?_)
      (try with_reducible refine qFh ?_)
      exact hC _ _ ⟨rfl,e9⟩
     ·rw [decide_eq_false (qLv hc0)]
      refine iteF ?_
      refine iteF ?_
      (try with_reducible refine qBq (by assumption) ?_)
      (try with_reducible refine qFh ?_)
      exact hC _ _ ⟨rfl,.refl _ _⟩
   ·intro σ' G hq_
    refine hide fun G_ hG_ => ?_
    obtain⟨o4,o5,o6,o7,o8,o9,o10,o11,o12,o13,rfl,TG,eG⟩:=hq_
    refine hG_ ?_
    walk_at "rh"
    exact⟨_,_,_,_,_,_,_,_,_,_,_,_,_,rfl,e'.trans ((e12.trans eG).drop ht)⟩
  ·intro σ' H' hq_
   refine hide fun G_ hG_ => ?_
   obtain⟨o1,o2,o3,o4,o5,o6,o7,o8,o9,o10,o11,o12,o13,rfl,e'⟩:=hq_
   refine hG_ ?_
   walk_at "rh"
   exact q _
end
end Fs
namespace Fs
open PySem L2 PySem.Spec PyProof.Rows
theorem calls {P:Program} {w:World} {K:PySem.W.Frag} {mg:Str->Option Value} {base:Heap} {C CC fa fv fw fc:Addr} {da dv dw dc:FuncData} {tb:Tok} (T:RTx K C CC) (nlen:mg "len" = none) (nenumerate:mg "enumerate" = none) (nlist:mg "list" = none) (hDp:mg "DEEPEST" = some (.int 20 tb))
  (hS:HasM P w K mg base C "step" 1 ["self"] (qHq C)) (hW:HasM P w K mg base C "count_way" 1 ["self","here","way"] (qF8 P w K C CC)) (hY:HasM P w K mg base C "lay" 1 ["self","here","deed"] (qO6 P w K C CC)) (hL:HasM P w K mg base C "led_by" 2 ["self","end","beyond"] (qGy K C)) (hI:HasC P w K mg base "Call" CC 1 ["self","number","boxes"] (qFa CC))
  (Fa:Fun K "act" "Running.act" sAct fa da) (Ma:Meth K C "act" fa) (Ba:Binds K da ["self","here","deed"] [])
  (Fv:Fun K "visit" "Running.visit" qFb fv dv) (Mv:Meth K C "visit" fv) (Bv:Binds K dv ["self","here","way"] [])
  (Fw:Fun K "walk" "Running.walk" sWalk fw dw) (Mw:Meth K C "walk" fw) (Bw:Binds K dw ["self","here"] [])
  (Fc:Fun K "call" "Running.call" sCall fc dc) (Mc:Meth K C "call" fc) (Bc:Binds K dc ["self","number","boxes"] []) :
  ∀N:Nat,HasM P w K mg base C "call" (4*N+4) ["self","number","boxes"] (qF9 P w K C CC N):=by
 intro N
 induction N with
 | zero=>exact⟨fc,dc,qMx (N:=0) (j:=1) (spW:=qVz) Fc T nlist hDp hI ⟨fw,dw,FnOk.no,Mw,Bw⟩ (by omega) (fun n h=>absurd h (by omega)),Mc,Bc⟩
 | succ N ih =>
  have ha:HasM P w K mg base C "act" (4*N+5) ["self","here","deed"] (qRj P w K C CC N):=⟨fa,da,qUy Fa T hS ih,Ma,Ba⟩
  have hv:HasM P w K mg base C "visit" (4*N+6) ["self","here","way"] (qIy P w K C CC N):=⟨fv,dv,qP3 Fv T hS hW hY ha,Mv,Bv⟩
  have hw:HasM P w K mg base C "walk" (4*N+7) ["self","here"] (qJv P w K C CC N):=⟨fw,dw,qSf Fw T nlen nenumerate hv hW hL,Mw,Bw⟩
  exact⟨fc,dc,qMx (N:=N+1) Fc T nlist hDp hI hw (by omega) (fun n h=>by cases h;rfl),Mc,Bc⟩
end Fs
namespace Fs
open PySem L2
theorem qBu {P:Program} {w:World} {K:PySem.W.Frag} {mg:Str->Option Value} {base h:Heap} {x:Str} {st:Stmt} {k:Nat} {ps:List Str} {sp:Sp} {f:Addr} {oc:Value} {od an:Option Addr} {osl:Array (Option Value)} {kV doc pm cdv ct:Value} (X:K.In h) (G:h.Ns mainGlobals mg)
  (a:PySem.W.nsIn K mainGlobals x=some (some (.ref f))) (l:K.lookup f=some ⟨oc,od,.func (PySem.W.fnOf x x (qAj st) (qAh st) (qA8 st) .none kV doc pm an cdv ct),osl⟩) (c:PySem.W.codeIn K cdv x=true) (kk:PySem.W.keepIn K (.ref f)=true)
  (hb : ∀(kV doc pm:Value) (an:Option Addr) (cdv ct:Value) (us:List Value),us.length=ps.length->bindArgs (PySem.W.fnOf x x (qAj st) (qAh st) (qA8 st) .none kV doc pm an cdv ct) ⟨us,[]⟩=pure (ps.zip us))
  (ok : ∀fd,Fun K x x st f fd->FnOk P w K mg base CX0 k f fd ps sp):Has P w K mg base x k ps sp:=by
 have F:=qCm (st:=st) l c kk
 exact⟨f,_,ok _ F,PySem.W.mg_of X G a,kk,F.binds hb⟩
theorem qE8 {us:List Value} (h:us.length=1) : ∃a0,us = [a0]:=by
 obtain _ | ⟨x0,us⟩:=us
 ·cases h
 obtain _ | ⟨y,us⟩:=us
 ·exact⟨x0,rfl⟩
 ·simp at h
theorem qGo {us:List Value} (h:us.length=2) : ∃a0 a1,us = [a0,a1]:=by
 obtain _ | ⟨x0,us⟩:=us
 ·cases h
 obtain _ | ⟨x1,us⟩:=us
 ·cases h
 obtain _ | ⟨y,us⟩:=us
 ·exact⟨x0,x1,rfl⟩
 ·simp at h
theorem qFq {us:List Value} (h:us.length=3) : ∃a0 a1 a2,us = [a0,a1,a2]:=by
 obtain _ | ⟨x0,us⟩:=us
 ·cases h
 obtain _ | ⟨x1,us⟩:=us
 ·cases h
 obtain _ | ⟨x2,us⟩:=us
 ·cases h
 obtain _ | ⟨y,us⟩:=us
 ·exact⟨x0,x1,x2,rfl⟩
 ·simp at h
theorem qV5 {us:List Value} (h:us.length=4) : ∃a0 a1 a2 a3,us = [a0,a1,a2,a3]:=by
 obtain _ | ⟨x0,us⟩:=us
 ·cases h
 obtain _ | ⟨x1,us⟩:=us
 ·cases h
 obtain _ | ⟨x2,us⟩:=us
 ·cases h
 obtain _ | ⟨x3,us⟩:=us
 ·cases h
 obtain _ | ⟨y,us⟩:=us
 ·exact⟨x0,x1,x2,x3,rfl⟩
 ·simp at h
theorem qKl {us:List Value} (h:us.length=5) : ∃a0 a1 a2 a3 a4,us = [a0,a1,a2,a3,a4]:=by
 obtain _ | ⟨x0,us⟩:=us
 ·cases h
 obtain _ | ⟨x1,us⟩:=us
 ·cases h
 obtain _ | ⟨x2,us⟩:=us
 ·cases h
 obtain _ | ⟨x3,us⟩:=us
 ·cases h
 obtain _ | ⟨x4,us⟩:=us
 ·cases h
 obtain _ | ⟨y,us⟩:=us
 ·exact⟨x0,x1,x2,x3,x4,rfl⟩
 ·simp at h
theorem qN4 {us:List Value} (h:us.length=6) : ∃a0 a1 a2 a3 a4 a5,us = [a0,a1,a2,a3,a4,a5]:=by
 obtain _ | ⟨x0,us⟩:=us
 ·cases h
 obtain _ | ⟨x1,us⟩:=us
 ·cases h
 obtain _ | ⟨x2,us⟩:=us
 ·cases h
 obtain _ | ⟨x3,us⟩:=us
 ·cases h
 obtain _ | ⟨x4,us⟩:=us
 ·cases h
 obtain _ | ⟨x5,us⟩:=us
 ·cases h
 obtain _ | ⟨y,us⟩:=us
 ·exact⟨x0,x1,x2,x3,x4,x5,rfl⟩
 ·simp at h
theorem qVm {l:PySem.W.OpenLaw} {w:World} {K:PySem.W.Frag} {h:Heap} {mg:Str->Option Value} {fa f1 f2 f3 f4 f5 f6 f7 f8 f9 f10 f11 f12 f13 f14 f15 f16 f17 f18 f19 f20 CC C xf0 xf1 xf2 xf3 xf4 xf5 xf6 xf7 xf8 xf9 xf10:Addr} (X:K.In h) (G:h.Ns mainGlobals mg) (hfa:mg "law" = some (.ref fa))
  {od1 an1 od2 an2 od3 an3 od4 an4 od5 an5 od6 an6 od7 an7 od8 an8 od9 an9 od10 an10 od11 an11 od12 an12 od13 an13 od14 an14 od15 an15 od16 an16 od17 an17 od18 an18 od19 an19 od20 an20:Option Addr} {sl1 sl2 sl3 sl4 sl5 sl6 sl7 sl8 sl9 sl10 sl11 sl12 sl13 sl14 sl15 sl16 sl17 sl18 sl19 sl20:Array (Option Value)} {oc1 kV1 dc1 pm1 cd1 ct1 oc2 kV2 dc2 pm2 cd2 ct2 oc3 kV3 dc3 pm3 cd3 ct3 oc4 kV4 dc4 pm4 cd4 ct4 oc5 kV5 dc5 pm5 cd5 ct5 oc6 kV6 dc6 pm6 cd6 ct6 oc7 kV7 dc7 pm7 cd7 ct7 oc8 kV8 dc8 pm8 cd8 ct8 oc9 kV9 dc9 pm9 cd9 ct9 oc10 kV10 dc10 pm10 cd10 ct10 oc11 kV11 dc11 pm11 cd11 ct11 oc12 kV12 dc12 pm12 cd12 ct12 oc13 kV13 dc13 pm13 cd13 ct13 oc14 kV14 dc14 pm14 cd14 ct14 oc15 kV15 dc15 pm15 cd15 ct15 oc16 kV16 dc16 pm16 cd16 ct16 oc17 kV17 dc17 pm17 cd17 ct17 oc18 kV18 dc18 pm18 cd18 ct18 oc19 kV19 dc19 pm19 cd19 ct19 oc20 kV20 dc20 pm20 cd20 ct20:Value}
  (a1:PySem.W.nsIn K mainGlobals "_law_tape" = some (some (.ref f1))) (l1:K.lookup f1=some ⟨oc1,od1,.func (PySem.W.fnOf "_law_tape" "_law_tape" (qAj sTape) (qAh sTape) (qA8 sTape) .none kV1 dc1 pm1 an1 cd1 ct1),sl1⟩) (c1:PySem.W.codeIn K cd1 "_law_tape" = true) (k1:PySem.W.keepIn K (.ref f1)=true)
  (a2:PySem.W.nsIn K mainGlobals "_law_draw" = some (some (.ref f2))) (l2:K.lookup f2=some ⟨oc2,od2,.func (PySem.W.fnOf "_law_draw" "_law_draw" (qAj sDraw) (qAh sDraw) (qA8 sDraw) .none kV2 dc2 pm2 an2 cd2 ct2),sl2⟩) (c2:PySem.W.codeIn K cd2 "_law_draw" = true) (k2:PySem.W.keepIn K (.ref f2)=true)
  (a3:PySem.W.nsIn K mainGlobals "_law_nexts" = some (some (.ref f3))) (l3:K.lookup f3=some ⟨oc3,od3,.func (PySem.W.fnOf "_law_nexts" "_law_nexts" (qAj qGb) (qAh qGb) (qA8 qGb) .none kV3 dc3 pm3 an3 cd3 ct3),sl3⟩) (c3:PySem.W.codeIn K cd3 "_law_nexts" = true) (k3:PySem.W.keepIn K (.ref f3)=true)
  (a4:PySem.W.nsIn K mainGlobals "_law_number" = some (some (.ref f4))) (l4:K.lookup f4=some ⟨oc4,od4,.func (PySem.W.fnOf "_law_number" "_law_number" (qAj qEf) (qAh qEf) (qA8 qEf) .none kV4 dc4 pm4 an4 cd4 ct4),sl4⟩) (c4:PySem.W.codeIn K cd4 "_law_number" = true) (k4:PySem.W.keepIn K (.ref f4)=true)
  (a5:PySem.W.nsIn K mainGlobals "_law_deeds" = some (some (.ref f5))) (l5:K.lookup f5=some ⟨oc5,od5,.func (PySem.W.fnOf "_law_deeds" "_law_deeds" (qAj qGg) (qAh qGg) (qA8 qGg) .none kV5 dc5 pm5 an5 cd5 ct5),sl5⟩) (c5:PySem.W.codeIn K cd5 "_law_deeds" = true) (k5:PySem.W.keepIn K (.ref f5)=true)
  (a6:PySem.W.nsIn K mainGlobals "_law_work" = some (some (.ref f6))) (l6:K.lookup f6=some ⟨oc6,od6,.func (PySem.W.fnOf "_law_work" "_law_work" (qAj sWork) (qAh sWork) (qA8 sWork) .none kV6 dc6 pm6 an6 cd6 ct6),sl6⟩) (c6:PySem.W.codeIn K cd6 "_law_work" = true) (k6:PySem.W.keepIn K (.ref f6)=true)
  (a7:PySem.W.nsIn K mainGlobals "_law_many" = some (some (.ref f7))) (l7:K.lookup f7=some ⟨oc7,od7,.func (PySem.W.fnOf "_law_many" "_law_many" (qAj sMany) (qAh sMany) (qA8 sMany) .none kV7 dc7 pm7 an7 cd7 ct7),sl7⟩) (c7:PySem.W.codeIn K cd7 "_law_many" = true) (k7:PySem.W.keepIn K (.ref f7)=true)
  (a8:PySem.W.nsIn K mainGlobals "_law_works" = some (some (.ref f8))) (l8:K.lookup f8=some ⟨oc8,od8,.func (PySem.W.fnOf "_law_works" "_law_works" (qAj qGa) (qAh qGa) (qA8 qGa) .none kV8 dc8 pm8 an8 cd8 ct8),sl8⟩) (c8:PySem.W.codeIn K cd8 "_law_works" = true) (k8:PySem.W.keepIn K (.ref f8)=true)
  (a9:PySem.W.nsIn K mainGlobals "gone_through" = some (some (.ref f9))) (l9:K.lookup f9=some ⟨oc9,od9,.func (PySem.W.fnOf "gone_through" "gone_through" (qAj sGone) (qAh sGone) (qA8 sGone) .none kV9 dc9 pm9 an9 cd9 ct9),sl9⟩) (c9:PySem.W.codeIn K cd9 "gone_through" = true) (k9:PySem.W.keepIn K (.ref f9)=true)
  (a10:PySem.W.nsIn K mainGlobals "ways_of" = some (some (.ref f10))) (l10:K.lookup f10=some ⟨oc10,od10,.func (PySem.W.fnOf "ways_of" "ways_of" (qAj qEe) (qAh qEe) (qA8 qEe) .none kV10 dc10 pm10 an10 cd10 ct10),sl10⟩) (c10:PySem.W.codeIn K cd10 "ways_of" = true) (k10:PySem.W.keepIn K (.ref f10)=true)
  (a11:PySem.W.nsIn K mainGlobals "measured" = some (some (.ref f11))) (l11:K.lookup f11=some ⟨oc11,od11,.func (PySem.W.fnOf "measured" "measured" (qAj sMeas) (qAh sMeas) (qA8 sMeas) .none kV11 dc11 pm11 an11 cd11 ct11),sl11⟩) (c11:PySem.W.codeIn K cd11 "measured" = true) (k11:PySem.W.keepIn K (.ref f11)=true)
  (a12:PySem.W.nsIn K mainGlobals "_law_ends" = some (some (.ref f12))) (l12:K.lookup f12=some ⟨oc12,od12,.func (PySem.W.fnOf "_law_ends" "_law_ends" (qAj sEnds) (qAh sEnds) (qA8 sEnds) .none kV12 dc12 pm12 an12 cd12 ct12),sl12⟩) (c12:PySem.W.codeIn K cd12 "_law_ends" = true) (k12:PySem.W.keepIn K (.ref f12)=true)
  (a13:PySem.W.nsIn K mainGlobals "_law_ways" = some (some (.ref f13))) (l13:K.lookup f13=some ⟨oc13,od13,.func (PySem.W.fnOf "_law_ways" "_law_ways" (qAj sWays) (qAh sWays) (qA8 sWays) .none kV13 dc13 pm13 an13 cd13 ct13),sl13⟩) (c13:PySem.W.codeIn K cd13 "_law_ways" = true) (k13:PySem.W.keepIn K (.ref f13)=true)
  (a14:PySem.W.nsIn K mainGlobals "_law_next" = some (some (.ref f14))) (l14:K.lookup f14=some ⟨oc14,od14,.func (PySem.W.fnOf "_law_next" "_law_next" (qAj qGe) (qAh qGe) (qA8 qGe) .none kV14 dc14 pm14 an14 cd14 ct14),sl14⟩) (c14:PySem.W.codeIn K cd14 "_law_next" = true) (k14:PySem.W.keepIn K (.ref f14)=true)
  (a15:PySem.W.nsIn K mainGlobals "_law_deed" = some (some (.ref f15))) (l15:K.lookup f15=some ⟨oc15,od15,.func (PySem.W.fnOf "_law_deed" "_law_deed" (qAj qGf) (qAh qGf) (qA8 qGf) .none kV15 dc15 pm15 an15 cd15 ct15),sl15⟩) (c15:PySem.W.codeIn K cd15 "_law_deed" = true) (k15:PySem.W.keepIn K (.ref f15)=true)
  (a16:PySem.W.nsIn K mainGlobals "_law_run" = some (some (.ref f16))) (l16:K.lookup f16=some ⟨oc16,od16,.func (PySem.W.fnOf "_law_run" "_law_run" (qAj sLRun) (qAh sLRun) (qA8 sLRun) .none kV16 dc16 pm16 an16 cd16 ct16),sl16⟩) (c16:PySem.W.codeIn K cd16 "_law_run" = true) (k16:PySem.W.keepIn K (.ref f16)=true)
  (a17:PySem.W.nsIn K mainGlobals "_law_held" = some (some (.ref f17))) (l17:K.lookup f17=some ⟨oc17,od17,.func (PySem.W.fnOf "_law_held" "_law_held" (qAj sHeld) (qAh sHeld) (qA8 sHeld) .none kV17 dc17 pm17 an17 cd17 ct17),sl17⟩) (c17:PySem.W.codeIn K cd17 "_law_held" = true) (k17:PySem.W.keepIn K (.ref f17)=true)
  (a18:PySem.W.nsIn K mainGlobals "_law_choices" = some (some (.ref f18))) (l18:K.lookup f18=some ⟨oc18,od18,.func (PySem.W.fnOf "_law_choices" "_law_choices" (qAj qDb) (qAh qDb) (qA8 qDb) .none kV18 dc18 pm18 an18 cd18 ct18),sl18⟩) (c18:PySem.W.codeIn K cd18 "_law_choices" = true) (k18:PySem.W.keepIn K (.ref f18)=true)
  (a19:PySem.W.nsIn K mainGlobals "_law_even" = some (some (.ref f19))) (l19:K.lookup f19=some ⟨oc19,od19,.func (PySem.W.fnOf "_law_even" "_law_even" (qAj sEven) (qAh sEven) (qA8 sEven) .none kV19 dc19 pm19 an19 cd19 ct19),sl19⟩) (c19:PySem.W.codeIn K cd19 "_law_even" = true) (k19:PySem.W.keepIn K (.ref f19)=true)
  (a20:PySem.W.nsIn K mainGlobals "law" = some (some (.ref f20))) (l20:K.lookup f20=some ⟨oc20,od20,.func (PySem.W.fnOf "law" "law" (qAj sLaw) (qAh sLaw) (qA8 sLaw) .none kV20 dc20 pm20 an20 cd20 ct20),sl20⟩) (c20:PySem.W.codeIn K cd20 "law" = true) (k20:PySem.W.keepIn K (.ref f20)=true)
  {xod0 xan0:Option Addr} {xsl0:Array (Option Value)} {xoc0 xkV0 xdc0 xpm0 xcd0 xct0:Value}
  {xod1 xan1:Option Addr} {xsl1:Array (Option Value)} {xoc1 xkV1 xdc1 xpm1 xcd1 xct1:Value}
  {xod2 xan2:Option Addr} {xsl2:Array (Option Value)} {xoc2 xkV2 xdc2 xpm2 xcd2 xct2:Value}
  {xod3 xan3:Option Addr} {xsl3:Array (Option Value)} {xoc3 xkV3 xdc3 xpm3 xcd3 xct3:Value}
  {xod4 xan4:Option Addr} {xsl4:Array (Option Value)} {xoc4 xkV4 xdc4 xpm4 xcd4 xct4:Value}
  {xod5 xan5:Option Addr} {xsl5:Array (Option Value)} {xoc5 xkV5 xdc5 xpm5 xcd5 xct5:Value}
  {xod6 xan6:Option Addr} {xsl6:Array (Option Value)} {xoc6 xkV6 xdc6 xpm6 xcd6 xct6:Value}
  {xod7 xan7:Option Addr} {xsl7:Array (Option Value)} {xoc7 xkV7 xdc7 xpm7 xcd7 xct7:Value}
  {xod8 xan8:Option Addr} {xsl8:Array (Option Value)} {xoc8 xkV8 xdc8 xpm8 xcd8 xct8:Value}
  {xod9 xan9:Option Addr} {xsl9:Array (Option Value)} {xoc9 xkV9 xdc9 xpm9 xcd9 xct9:Value}
  {xod10 xan10:Option Addr} {xsl10:Array (Option Value)} {xoc10 xkV10 xdc10 xpm10 xcd10 xct10:Value}
  (yA0:PySem.W.nsIn K mainGlobals "Call" = some (some (.ref CC))) (yp0:PySem.W.plainGet K CC Str.empty=true) (yh0:PySem.W.hasDictIn K CC=true) (yo0:PySem.W.plainOver K CC=true) (ys0:PySem.W.findIn K (.ref CC) "__setattr__" = some (some (.builtin "object.__setattr__"))) (ym0:PySem.W.makesIn K CC=true) (yk0:PySem.W.keepIn K (.ref CC)=true)
  (wn0_0:PySem.W.findIn K (.ref CC) "number" = some none)
  (wn0_1:PySem.W.findIn K (.ref CC) "boxes" = some none)
  (wn0_2:PySem.W.findIn K (.ref CC) "begun" = some none)
  (wn0_3:PySem.W.findIn K (.ref CC) "aside" = some none)
  (yA1:PySem.W.nsIn K mainGlobals "Running" = some (some (.ref C))) (yp1:PySem.W.plainGet K C Str.empty=true) (yh1:PySem.W.hasDictIn K C=true) (yo1:PySem.W.plainOver K C=true) (ys1:PySem.W.findIn K (.ref C) "__setattr__" = some (some (.builtin "object.__setattr__"))) (ym1:PySem.W.makesIn K C=true) (yk1:PySem.W.keepIn K (.ref C)=true)
  (wn1_0:PySem.W.findIn K (.ref C) "works" = some none)
  (wn1_1:PySem.W.findIn K (.ref C) "boxes" = some none)
  (wn1_2:PySem.W.findIn K (.ref C) "choices" = some none)
  (wn1_3:PySem.W.findIn K (.ref C) "most" = some none)
  (wn1_4:PySem.W.findIn K (.ref C) "sharing" = some none)
  (wn1_5:PySem.W.findIn K (.ref C) "state" = some none)
  (wn1_6:PySem.W.findIn K (.ref C) "steps" = some none)
  (wn1_7:PySem.W.findIn K (.ref C) "forks" = some none)
  (wn1_8:PySem.W.findIn K (.ref C) "depth" = some none)
  (wn1_9:PySem.W.findIn K (.ref C) "told" = some none)
  (wn1_10:PySem.W.findIn K (.ref C) "faults" = some none)
  (wn1_11:PySem.W.findIn K (.ref C) "saves" = some none)
  (wn1_12:PySem.W.findIn K (.ref C) "backs" = some none)
  (wn1_13:PySem.W.findIn K (.ref C) "gone" = some none)
  (xa0:PySem.W.findIn K (.ref CC) "__init__" = some (some (.ref xf0))) (xi0:PySem.W.isFn K (.ref xf0)=true) (xl0:K.lookup xf0=some ⟨xoc0,xod0,.func (PySem.W.fnOf "__init__" "Call.__init__" (qAj qGh) (qAh qGh) (qA8 qGh) .none xkV0 xdc0 xpm0 xan0 xcd0 xct0),xsl0⟩) (xc0:PySem.W.codeIn K xcd0 "Call.__init__" = true) (xk0:PySem.W.keepIn K (.ref xf0)=true)
  (xa1:PySem.W.findIn K (.ref C) "__init__" = some (some (.ref xf1))) (xi1:PySem.W.isFn K (.ref xf1)=true) (xl1:K.lookup xf1=some ⟨xoc1,xod1,.func (PySem.W.fnOf "__init__" "Running.__init__" (qAj sRunI) (qAh sRunI) (qA8 sRunI) .none xkV1 xdc1 xpm1 xan1 xcd1 xct1),xsl1⟩) (xc1:PySem.W.codeIn K xcd1 "Running.__init__" = true) (xk1:PySem.W.keepIn K (.ref xf1)=true)
  (xa2:PySem.W.findIn K (.ref C) "step" = some (some (.ref xf2))) (xi2:PySem.W.isFn K (.ref xf2)=true) (xl2:K.lookup xf2=some ⟨xoc2,xod2,.func (PySem.W.fnOf "step" "Running.step" (qAj sStep) (qAh sStep) (qA8 sStep) .none xkV2 xdc2 xpm2 xan2 xcd2 xct2),xsl2⟩) (xc2:PySem.W.codeIn K xcd2 "Running.step" = true) (xk2:PySem.W.keepIn K (.ref xf2)=true)
  (xa3:PySem.W.findIn K (.ref C) "call" = some (some (.ref xf3))) (xi3:PySem.W.isFn K (.ref xf3)=true) (xl3:K.lookup xf3=some ⟨xoc3,xod3,.func (PySem.W.fnOf "call" "Running.call" (qAj sCall) (qAh sCall) (qA8 sCall) .none xkV3 xdc3 xpm3 xan3 xcd3 xct3),xsl3⟩) (xc3:PySem.W.codeIn K xcd3 "Running.call" = true) (xk3:PySem.W.keepIn K (.ref xf3)=true)
  (xa4:PySem.W.findIn K (.ref C) "walk" = some (some (.ref xf4))) (xi4:PySem.W.isFn K (.ref xf4)=true) (xl4:K.lookup xf4=some ⟨xoc4,xod4,.func (PySem.W.fnOf "walk" "Running.walk" (qAj sWalk) (qAh sWalk) (qA8 sWalk) .none xkV4 xdc4 xpm4 xan4 xcd4 xct4),xsl4⟩) (xc4:PySem.W.codeIn K xcd4 "Running.walk" = true) (xk4:PySem.W.keepIn K (.ref xf4)=true)
  (xa5:PySem.W.findIn K (.ref C) "visit" = some (some (.ref xf5))) (xi5:PySem.W.isFn K (.ref xf5)=true) (xl5:K.lookup xf5=some ⟨xoc5,xod5,.func (PySem.W.fnOf "visit" "Running.visit" (qAj qFb) (qAh qFb) (qA8 qFb) .none xkV5 xdc5 xpm5 xan5 xcd5 xct5),xsl5⟩) (xc5:PySem.W.codeIn K xcd5 "Running.visit" = true) (xk5:PySem.W.keepIn K (.ref xf5)=true)
  (xa6:PySem.W.findIn K (.ref C) "count_way" = some (some (.ref xf6))) (xi6:PySem.W.isFn K (.ref xf6)=true) (xl6:K.lookup xf6=some ⟨xoc6,xod6,.func (PySem.W.fnOf "count_way" "Running.count_way" (qAj qFc) (qAh qFc) (qA8 qFc) .none xkV6 xdc6 xpm6 xan6 xcd6 xct6),xsl6⟩) (xc6:PySem.W.codeIn K xcd6 "Running.count_way" = true) (xk6:PySem.W.keepIn K (.ref xf6)=true)
  (xa7:PySem.W.findIn K (.ref C) "led_by" = some (some (.ref xf7))) (xi7:PySem.W.isFn K (.ref xf7)=true) (xl7:K.lookup xf7=some ⟨xoc7,xod7,.func (PySem.W.fnOf "led_by" "Running.led_by" (qAj qGd) (qAh qGd) (qA8 qGd) .none xkV7 xdc7 xpm7 xan7 xcd7 xct7),xsl7⟩) (xc7:PySem.W.codeIn K xcd7 "Running.led_by" = true) (xk7:PySem.W.keepIn K (.ref xf7)=true)
  (xa8:PySem.W.findIn K (.ref C) "next_choice" = some (some (.ref xf8))) (xi8:PySem.W.isFn K (.ref xf8)=true) (xl8:K.lookup xf8=some ⟨xoc8,xod8,.func (PySem.W.fnOf "next_choice" "Running.next_choice" (qAj qGc) (qAh qGc) (qA8 qGc) .none xkV8 xdc8 xpm8 xan8 xcd8 xct8),xsl8⟩) (xc8:PySem.W.codeIn K xcd8 "Running.next_choice" = true) (xk8:PySem.W.keepIn K (.ref xf8)=true)
  (xa9:PySem.W.findIn K (.ref C) "lay" = some (some (.ref xf9))) (xi9:PySem.W.isFn K (.ref xf9)=true) (xl9:K.lookup xf9=some ⟨xoc9,xod9,.func (PySem.W.fnOf "lay" "Running.lay" (qAj sLay) (qAh sLay) (qA8 sLay) .none xkV9 xdc9 xpm9 xan9 xcd9 xct9),xsl9⟩) (xc9:PySem.W.codeIn K xcd9 "Running.lay" = true) (xk9:PySem.W.keepIn K (.ref xf9)=true)
  (xa10:PySem.W.findIn K (.ref C) "act" = some (some (.ref xf10))) (xi10:PySem.W.isFn K (.ref xf10)=true) (xl10:K.lookup xf10=some ⟨xoc10,xod10,.func (PySem.W.fnOf "act" "Running.act" (qAj sAct) (qAh sAct) (qA8 sAct) .none xkV10 xdc10 xpm10 xan10 xcd10 xct10),xsl10⟩) (xc10:PySem.W.codeIn K xcd10 "Running.act" = true) (xk10:PySem.W.keepIn K (.ref xf10)=true)
  {tb0:Tok} (i0:PySem.W.nsIn K mainGlobals "DEEPEST" = some (some (.int 20 tb0)))
  (z1:PySem.W.nsIn K mainGlobals "range" = some none) (z2:PySem.W.nsIn K mainGlobals "len" = some none) (z3:PySem.W.nsIn K mainGlobals "abs" = some none) (z4:PySem.W.nsIn K mainGlobals "int" = some none) (z5:PySem.W.nsIn K mainGlobals "max" = some none) (z6:PySem.W.nsIn K mainGlobals "min" = some none) (z7:PySem.W.nsIn K mainGlobals "list" = some none) (z8:PySem.W.nsIn K mainGlobals "repr" = some none) (z9:PySem.W.nsIn K mainGlobals "enumerate" = some none) (z10:PySem.W.nsIn K mainGlobals "sorted" = some none) (z11:PySem.W.nsIn K mainGlobals "zip" = some none) (z12:PySem.W.nsIn K mainGlobals "sum" = some none) :
  ∃fd:FuncData,(∀(s:Shared) (v:Value),BindsTo s fd ⟨[v],[]⟩ [("_law_script",v)]) /\ ∀base:Heap,K.In base->base.Ns mainGlobals mg->FnOk l.prog w K mg base CX0 87 fa fd ["_law_script"] (qO7 K):=by
 have e:=hfa.symm.trans (PySem.W.mg_of X G a20)
 cases e
 have nrange:=PySem.W.mg_none_of X G z1
 have nlen:=PySem.W.mg_none_of X G z2
 have nabs:=PySem.W.mg_none_of X G z3
 have nint:=PySem.W.mg_none_of X G z4
 have nmax:=PySem.W.mg_none_of X G z5
 have nmin:=PySem.W.mg_none_of X G z6
 have nlist:=PySem.W.mg_none_of X G z7
 have nrepr:=PySem.W.mg_none_of X G z8
 have nenumerate:=PySem.W.mg_none_of X G z9
 have nsorted:=PySem.W.mg_none_of X G z10
 have nzip:=PySem.W.mg_none_of X G z11
 have nsum:=PySem.W.mg_none_of X G z12
 have hDp:=PySem.W.mg_of X G i0
 have FL:=qCm (st:=sLaw) l20 c20 k20
 refine⟨PySem.W.fnOf "law" "law" (qAj sLaw) (qAh sLaw) (qA8 sLaw) .none kV20 dc20 pm20 an20 cd20 ct20,fun s v =>.of_eq rfl,fun base _ _ => ?_⟩
 have XF0:=qCm (st:=qGh) xl0 xc0 xk0
 have XB0:=XF0.binds (ps :=["self","number","boxes"]) fun _ _ _ _ _ _ us hl=>by obtain⟨_,_,_,rfl⟩:=qFq hl;rfl
 have XF1:=qCm (st:=sRunI) xl1 xc1 xk1
 have XB1:=XF1.binds (ps :=["self","works","boxes","choices","most","sharing"]) fun _ _ _ _ _ _ us hl=>by obtain⟨_,_,_,_,_,_,rfl⟩:=qN4 hl;rfl
 have XF2:=qCm (st:=sStep) xl2 xc2 xk2
 have XB2:=XF2.binds (ps :=["self"]) fun _ _ _ _ _ _ us hl=>by obtain⟨_,rfl⟩:=qE8 hl;rfl
 have XF3:=qCm (st:=sCall) xl3 xc3 xk3
 have XB3:=XF3.binds (ps :=["self","number","boxes"]) fun _ _ _ _ _ _ us hl=>by obtain⟨_,_,_,rfl⟩:=qFq hl;rfl
 have XF4:=qCm (st:=sWalk) xl4 xc4 xk4
 have XB4:=XF4.binds (ps :=["self","here"]) fun _ _ _ _ _ _ us hl=>by obtain⟨_,_,rfl⟩:=qGo hl;rfl
 have XF5:=qCm (st:=qFb) xl5 xc5 xk5
 have XB5:=XF5.binds (ps :=["self","here","way"]) fun _ _ _ _ _ _ us hl=>by obtain⟨_,_,_,rfl⟩:=qFq hl;rfl
 have XF6:=qCm (st:=qFc) xl6 xc6 xk6
 have XB6:=XF6.binds (ps :=["self","here","way"]) fun _ _ _ _ _ _ us hl=>by obtain⟨_,_,_,rfl⟩:=qFq hl;rfl
 have XF7:=qCm (st:=qGd) xl7 xc7 xk7
 have XB7:=XF7.binds (ps :=["self","end","beyond"]) fun _ _ _ _ _ _ us hl=>by obtain⟨_,_,_,rfl⟩:=qFq hl;rfl
 have XF8:=qCm (st:=qGc) xl8 xc8 xk8
 have XB8:=XF8.binds (ps :=["self"]) fun _ _ _ _ _ _ us hl=>by obtain⟨_,rfl⟩:=qE8 hl;rfl
 have XF9:=qCm (st:=sLay) xl9 xc9 xk9
 have XB9:=XF9.binds (ps :=["self","here","deed"]) fun _ _ _ _ _ _ us hl=>by obtain⟨_,_,_,rfl⟩:=qFq hl;rfl
 have XF10:=qCm (st:=sAct) xl10 xc10 xk10
 have XB10:=XF10.binds (ps :=["self","here","deed"]) fun _ _ _ _ _ _ us hl=>by obtain⟨_,_,_,rfl⟩:=qFq hl;rfl
 have T:RTx K C CC:=⟨⟨yp1,yh1,yo1,ys1⟩,wn1_0,wn1_1,wn1_2,wn1_3,wn1_4,wn1_5,wn1_6,wn1_7,wn1_8,wn1_9,wn1_10,wn1_11,wn1_12,wn1_13,⟨yp0,yh0,yo0,ys0⟩,wn0_0,wn0_1,wn0_2,wn0_3⟩
 have hCall:HasC l.prog w K mg base "Call" CC 1 ["self","number","boxes"] (qFa CC):=⟨_,_,qPb XF0 T nlist,⟨ym0,xa0,xi0,yk0⟩,XB0,PySem.W.mg_of X G yA0⟩
 have hRunning:HasC l.prog w K mg base "Running" C 1 ["self","works","boxes","choices","most","sharing"] (qLy l.prog w K C CC):=⟨_,_,qSi XF1 T nlist,⟨ym1,xa1,xi1,yk1⟩,XB1,PySem.W.mg_of X G yA1⟩
 have hstep:HasM l.prog w K mg base C "step" 1 ["self"] (qHq C):=⟨_,_,qSh XF2 T,⟨xa2,xi2,xk2⟩,XB2⟩
 have hcount:HasM l.prog w K mg base C "count_way" 1 ["self","here","way"] (qF8 l.prog w K C CC):=⟨_,_,qPa XF6 T,⟨xa6,xi6,xk6⟩,XB6⟩
 have hnextc:HasM l.prog w K mg base C "next_choice" 1 ["self"] (qJ0 K C):=⟨_,_,qP5 XF8 T nlen,⟨xa8,xi8,xk8⟩,XB8⟩
 have hledby:HasM l.prog w K mg base C "led_by" 2 ["self","end","beyond"] (qGy K C):=⟨_,_,qP7 XF7 T hnextc,⟨xa7,xi7,xk7⟩,XB7⟩
 have hlay:HasM l.prog w K mg base C "lay" 1 ["self","here","deed"] (qO6 l.prog w K C CC):=⟨_,_,qUw XF9 T,⟨xa9,xi9,xk9⟩,XB9⟩
 have hcall:HasM l.prog w K mg base C "call" 84 ["self","number","boxes"] (qF9 l.prog w K C CC 20):=calls T nlen nenumerate nlist hDp hstep hcount hlay hledby hCall XF10 ⟨xa10,xi10,xk10⟩ XB10 XF5 ⟨xa5,xi5,xk5⟩ XB5 XF4 ⟨xa4,xi4,xk4⟩ XB4 XF3 ⟨xa3,xi3,xk3⟩ XB3 20
 have htape:Has l.prog w K mg base "_law_tape" 1 ["_law_script","_law_k"] (qLx K):=qBu (st:=sTape) X G a1 l1 c1 k1 (fun _ _ _ _ _ _ us hl=>by obtain⟨_,_,rfl⟩:=qGo hl;rfl) fun _ F=>qSg F nlen nabs nint
 have hdraw:Has l.prog w K mg base "_law_draw" 1 ["_law_tape_here","_law_many_here"] qD2:=qBu (st:=sDraw) X G a2 l2 c2 k2 (fun _ _ _ _ _ _ us hl=>by obtain⟨_,_,rfl⟩:=qGo hl;rfl) fun _ F=>qSq F
 have hnexts:Has l.prog w K mg base "_law_nexts" 2 ["_law_tape_here","_law_many_here"] (qIz K):=qBu (st:=qGb) X G a3 l3 c3 k3 (fun _ _ _ _ _ _ us hl=>by obtain⟨_,_,rfl⟩:=qGo hl;rfl) fun _ F=>qP4 F nrange nmax hdraw
 have hnumber:Has l.prog w K mg base "_law_number" 2 ["_law_tape_here"] qEx:=qBu (st:=qEf) X G a4 l4 c4 k4 (fun _ _ _ _ _ _ us hl=>by obtain⟨_,rfl⟩:=qE8 hl;rfl) fun _ F=>qMw F hdraw
 have hdeeds:Has l.prog w K mg base "_law_deeds" 3 ["_law_tape_here","_law_most","_law_boxes","_law_first","_law_works_here"] (qEy K):=qBu (st:=qGg) X G a5 l5 c5 k5 (fun _ _ _ _ _ _ us hl=>by obtain⟨_,_,_,_,_,rfl⟩:=qKl hl;rfl) fun _ F=>qP9 F nrange nint nlen hdraw hnumber
 have hwork:Has l.prog w K mg base "_law_work" 4 ["_law_tape_here","_law_many_here","_law_most","_law_first","_law_works_here"] (qIx K):=qBu (st:=sWork) X G a6 l6 c6 k6 (fun _ _ _ _ _ _ us hl=>by obtain⟨_,_,_,_,_,rfl⟩:=qKl hl;rfl) fun _ F=>qSd F nrange nlist nlen hdraw hnexts hdeeds
 have hmany:Has l.prog w K mg base "_law_many" 2 ["_law_tape_here"] qM0:=qBu (st:=sMany) X G a7 l7 c7 k7 (fun _ _ _ _ _ _ us hl=>by obtain⟨_,rfl⟩:=qE8 hl;rfl) fun _ F=>qSk F nint hdraw
 have hworks:Has l.prog w K mg base "_law_works" 5 ["_law_tape_here","_law_most"] (qGw K):=qBu (st:=qGa) X G a8 l8 c8 k8 (fun _ _ _ _ _ _ us hl=>by obtain⟨_,_,rfl⟩:=qGo hl;rfl) fun _ F=>qP2 F nrange nint hdraw hmany hwork
 have hgone_through:Has l.prog w K mg base "gone_through" 85 ["works","number","boxes","choices","most","sharing"] (qM3 l.prog w K C CC):=qBu (st:=sGone) X G a9 l9 c9 k9 (fun _ _ _ _ _ _ us hl=>by obtain⟨_,_,_,_,_,_,rfl⟩:=qN4 hl;rfl) fun _ F=>qSn F T hRunning hcall
 have hways_of:Has l.prog w K mg base "ways_of" 1 ["work"] (qGx K):=qBu (st:=qEe) X G a10 l10 c10 k10 (fun _ _ _ _ _ _ us hl=>by obtain⟨_,rfl⟩:=qE8 hl;rfl) fun _ F=>qMv F nenumerate nlen nsorted
 have hmeasured:Has l.prog w K mg base "measured" 86 ["works","number","boxes","choices","most"] (qEd K):=qBu (st:=sMeas) X G a11 l11 c11 k11 (fun _ _ _ _ _ _ us hl=>by obtain⟨_,_,_,_,_,rfl⟩:=qKl hl;rfl) fun _ F=>qSj F T nenumerate hgone_through hways_of
 have hends:Has l.prog w K mg base "_law_ends" 1 ["_law_work_here"] (qM5 K):=qBu (st:=sEnds) X G a12 l12 c12 k12 (fun _ _ _ _ _ _ us hl=>by obtain⟨_,rfl⟩:=qE8 hl;rfl) fun _ F=>qSp F nlist
 have hways:Has l.prog w K mg base "_law_ways" 2 ["_law_work_here"] (qHp K):=qBu (st:=sWays) X G a13 l13 c13 k13 (fun _ _ _ _ _ _ us hl=>by obtain⟨_,rfl⟩:=qE8 hl;rfl) fun _ F=>qSe F nenumerate nlen nint nsorted hends
 have hnext:Has l.prog w K mg base "_law_next" 1 ["_law_now","_law_work_here","_law_block","_law_choices_here"] (qJ1 K):=qBu (st:=qGe) X G a14 l14 c14 k14 (fun _ _ _ _ _ _ us hl=>by obtain⟨_,_,_,_,rfl⟩:=qV5 hl;rfl) fun _ F=>qP6 F nlen
 have hdeed:Has l.prog w K mg base "_law_deed" 1 ["_law_now","_law_stack","_law_deed_here","_law_most","_law_mean"] (qJ2 K):=qBu (st:=qGf) X G a15 l15 c15 k15 (fun _ _ _ _ _ _ us hl=>by obtain⟨_,_,_,_,_,rfl⟩:=qKl hl;rfl) fun _ F=>qP8 F nlen nint nlist
 have hrun:Has l.prog w K mg base "_law_run" 2 ["_law_works_here","_law_number_here","_law_boxes","_law_choices_here","_law_most","_law_mean"] (qM1 K):=qBu (st:=sLRun) X G a16 l16 c16 k16 (fun _ _ _ _ _ _ us hl=>by obtain⟨_,_,_,_,_,_,rfl⟩:=qN4 hl;rfl) fun _ F=>qSl F nlen nlist nrange hnext hdeed
 have hheld:Has l.prog w K mg base "_law_held" 3 ["_law_tape_here"] qM2:=qBu (st:=sHeld) X G a17 l17 c17 k17 (fun _ _ _ _ _ _ us hl=>by obtain⟨_,rfl⟩:=qE8 hl;rfl) fun _ F=>qSm F nrange hnumber
 have hchoices:Has l.prog w K mg base "_law_choices" 2 ["_law_tape_here"] (qLz 200 201 (-1) 2):=qBu (st:=qDb) X G a18 l18 c18 k18 (fun _ _ _ _ _ _ us hl=>by obtain⟨_,rfl⟩:=qE8 hl;rfl) fun _ F=>qL6 F nrange hdraw
 have heven:Has l.prog w K mg base "_law_even" 3 ["_law_works_here","_law_counts"] (qM4 K):=qBu (st:=sEven) X G a19 l19 c19 k19 (fun _ _ _ _ _ _ us hl=>by obtain⟨_,_,rfl⟩:=qGo hl;rfl) fun _ F=>qSo F nrange nlen nzip nsum hways
 exact qUx FL nrange nlen nmax nmin nrepr nzip htape hdraw hworks hheld hchoices hrun hways heven hmeasured
theorem walk {l:PySem.W.OpenLaw} {q:Program} {loose:List Str} {XP:(Str->Option Value)->Heap->Prop} {YP:World->Heap->Prop} {d:DefRec} {K:Params->PySem.W.Frag} (hn:l.most=some 63) (hdf:d.params.defaults = [])
  (hY : ∀(w:World) (h:Heap),YP w h->(K w.params).In h)
  (F : ∀(w:World) (mg:Str->Option Value) (fa:Addr) (h:Heap),(K w.params).In h->h.Ns mainGlobals mg->mg d.name=some (.ref fa) ->
   ∃fd:FuncData,(∀(s:Shared) (u:Value),BindsTo s fd ⟨[u],[]⟩ [("_law_script",u)]) /\ ∀base:Heap,(K w.params).In base->base.Ns mainGlobals mg->FnOk l.prog w (K w.params) mg base CX0 87 fa fd ["_law_script"] (qO7 (K w.params))) :
  PySem.W.WalkO q loose XP YP l.row.toRowW d [] (fun f vs=>PySem.call f vs) :=
 L2.qRc (n:=63) (k:=87) (x := "_law_script") (CX:=fun _=>CX0) (sp:=fun w=>qO7 (K w.params)) hn (by decide) hdf ⟨rfl,by decide,by decide,rfl⟩ hY F (fun _ _ a ns hl _ hS=>⟨a,ns,rfl,hS,hl,fun _=>rfl⟩) fun _ _ _ _ _ z=>z
end Fs
open PySem PySem.W PyProof.Rows
namespace PySem.W.Fast
def tw17125881912103564180:=0
def tw7168195596302961934:=0
def tw4768278837891239980:=0
def tw11032240957924119812:=0
def tw11236116396313665373:=0
def tw11141499953684778653:=0
def tw3154937761160020430:=0
def tw15966135567003691534:=0
def tw2562979782194305914:=0
def tw5353536426635468962:=0
def tw16195251489943485491:=0
def tw16132348148564507858:=0
def tw10955694458202647720:=0
def tw6537721677011609772:=0
def tw1528925967893120045:=0
def tw5302789015527861132:=0
def tw3009976978614699440:=0
def tw13995600233958315982:=0
def tw17448867599885925062:=0
def tw1279318128061942968:=0
def tw7041532998084379977:=0
def tw8630065968853913315:=0
def tw8599209239199812672:=0
def tw1144352986184294820:=0
def tw1169838636671582207:=0
def tw14428012551517296038:=0
def tw16283335042578128236:=0
def tw8054338544404274012:=0
def tw16093855109107147125:=0
def tw10985842574344753694:=0
def tw3259591567206947786:=0
def tw12032991355293266736:=0
def tw14592165080495832016:=0
def tw15062560716557283882:=0
def tw4960115580383878230:=0
def tw17272479467872925738:=0
def tw4941380728106889286:=0
def tw8325568222286204303:=0
def tw12713563459281359092:=0
def tw403643903190670755:=0
def tw4409313317501904908:=0
def tw4941406042881570492:=0
def tw13142196078636484881:=0
def tw8043435938931306179:=0
def tw17477186912754716311:=0
def tw14213856778749284659:=0
def tw6774455679056774751:=0
def tw10696772962778260247:=0
def tw14206792782808508247:=0
def tw14867293825401630013:=0
def tw2113939247946559791:=0
def tw15092527098206411575:=0
def tw11435749190404205794:=0
def tw10667642348564064257:=0
def tw16033599929085754596:=0
def tw5036880287584218040:=0
def tw988689610614640554:=0
def tw17731508375579399543:=0
def tw10315284891046295247:=0
def tw314966839745285081:=0
def tw16446075823181675697:=0
def tw2818521373360904936:=0
def tw14844064423139648296:=0
def tw3503963198078732722:=0
def tw2674362272902126649:=0
def tw175169829687444751:=0
def tw7984691972056279980:=0
def tw5768759722987944754:=0
def tw1177094253549306550:=0
def tw10118077905132827981:=0
def tw7213105033889106459:=0
def tw14430068807316128210:=0
def tw503796298995001230:=0
def tw16610688194767105740:=0
def tw1469569861796352492:=0
def tw1354910347570448122:=0
def tw2840785789038395383:=0
def tw1324938281486973294:=0
def tw11447029906054696115:=0
def tw5905771598968881284:=0
def tw13741613875397090230:=0
def tw12736158507753090601:=0
def tw12122203970511984246:=0
def tw7823147750036499373:=0
def tw6708003096083169028:=0
def tw11401561230980028489:=0
def tw17893036427866077949:=0
def tw2307916295429418538:=0
def tw4509292279286180317:=0
def tw14226552282535321469:=0
def tw11922416208832298064:=0
def tw1553577902120589606:=0
def tw8369024852012964455:=0
def tw79916874378235978:=0
def tw8959251360603381723:=0
def tw17374784840138616997:=0
def tw10207126550575296342:=0
def tw15840013317007764734:=0
def tw1912764044206118729:=0
def tw13547087381344700654:=0
def tw9654046841735521198:=0
def tw8267591350073926339:=0
def tw12712198362245481206:=0
def tw885806991075125167:=0
def tw18241624896357105668:=0
def tw5108946638420780239:=0
def tw16437256972041359176:=0
def tw346155901663757031:=0
def tw17636550737014290479:=0
def tw4617731059016123174:=0
def tw722507862855987706:=0
def tw8809187536152488160:=0
def tw11298677031464664718:=0
def tw5450227402248172553:=0
def tw347525341613412257:=0
def tw3835455461114288528:=0
def tw9867589799823948868:=0
def tw2524885852033772122:=0
def tw1367503153669537021:=0
def tw14149636970805844289:=0
def tw103979695059079625:=0
def tw10409158081621815336:=0
def tw2433125460535375249:=0
def tw3179582245354797182:=0
def tw16284382739212524778:=0
def tw8424293599647224615:=0
def tw16489643004323231014:=0
def tw6814620839471935008:=0
def tw5003021150384134451:=0
def tw17165572490370596025:=0
def tw17909225452616538779:=0
def tw3454783982896848717:=0
def tw12423408736299941455:=0
def tw5040468816197747715:=0
def tw11667248837501157828:=0
def tw7448028669166671497:=0
def tw2676955558578955546:=0
def tw17950312869643062336:=0
def tw8260824154323248002:=0
def tw7464543596691869704:=0
def tw8442059171958659463:=0
def tw4738321405340158237:=0
def tw4260718075842113090:=0
def tw6699556552171779017:=0
def tw6845086938087887649:=0
def tw13750948833499139957:=0
def tw386310515936757959:=0
def tw16371439130124132575:=0
def tw16177623128824663690:=0
def tw4089067287577280416:=0
def tw18219418184114878955:=0
def tw5934645790419329622:=0
def tw1971389214899657351:=0
def tw12549929848914685177:=0
def tw4912176476647058957:=0
def tw5866599832387437210:=0
def tw15567020033951716227:=0
def tw5820345255425320024:=0
def tw4227522560657013679:=0
def tw3689498297837600930:=0
def tw8940505237710774426:=0
def tw10882973615322555853:=0
def tw13684926350797968208:=0
def tw3219681591381815528:=0
def tw14543172326329297666:=0
def tw18278235823999612862:=0
def tw737842471841854628:=0
def tw16229057926972296376:=0
def tw10570241914803587375:=0
def tw5651436771179527617:=0
def tw13691109858862807399:=0
def tw17801655594848343932:=0
def tw9637522250839328418:=0
def tw13981522292222960309:=0
def tw14082676482532635520:=0
def tw10260241000814237593:=0
def tw3037798100837147945:=0
def tw17962653889364364852:=0
def tw5498180988615521087:=0
def tw14649681285755457343:=0
def tw6986943212679605155:=0
def tw10345000545606452146:=0
def tw4385742093523684529:=0
def tw5853419676657945444:=0
def tw18021796402983103887:=0
def tw14034326766132857378:=0
def tw11327360118853416116:=0
def tw9413324945051984727:=0
def tw1645163905168650596:=0
def tw5657182972185303357:=0
def tw16862831664355387952:=0
def tw12116953949336515958:=0
def tw17072741806842072618:=0
def tw11029371927778238535:=0
def tw16774608446390440001:=0
def tw421741640087159922:=0
def tw17203579930969945964:=0
def tw1685660090853432350:=0
def tw10704578919276610694:=0
def tw10539344146647033059:=0
def tw16412756345548834691:=0
def tw14501556510306289812:=0
def tw2445662479936102511:=0
def tw241399434728773561:=0
def tw1947302285173102764:=0
def tw17509076986462138511:=0
def tw17869835050815530326:=0
def tw10986680536658430084:=0
def tw2780251350705096027:=0
def tw230483802261033750:=0
def tw3933343397938851063:=0
end PySem.W.Fast
set_option maxRecDepth 100000 in
set_option maxHeartbeats 0 in
theorem PySem.Challenge.cw_fewsaves_k14_ways_measured_holds : PySem.Challenge.rw_fewsaves_k14_ways_measured.Holds := by
 w_on;o_law;k_head;(case hw=>w_witness2)
 k_fill
 refine Fs.walk (l:=PySem.Challenge.rw_fewsaves_k14_ways_measured) rfl rfl (fun w h Y=>PySem.W.kIn_of Y) ?F
 case F =>
  intro w mg fa h KX G hmg
  refine' Fs.qVm KX G hmg ?a1 ?l1 ?c1 ?k1 ?a2 ?l2 ?c2 ?k2 ?a3 ?l3 ?c3 ?k3 ?a4 ?l4 ?c4 ?k4 ?a5 ?l5 ?c5 ?k5 ?a6 ?l6 ?c6 ?k6 ?a7 ?l7 ?c7 ?k7 ?a8 ?l8 ?c8 ?k8 ?a9 ?l9 ?c9 ?k9 ?a10 ?l10 ?c10 ?k10 ?a11 ?l11 ?c11 ?k11 ?a12 ?l12 ?c12 ?k12 ?a13 ?l13 ?c13 ?k13 ?a14 ?l14 ?c14 ?k14 ?a15 ?l15 ?c15 ?k15 ?a16 ?l16 ?c16 ?k16 ?a17 ?l17 ?c17 ?k17 ?a18 ?l18 ?c18 ?k18 ?a19 ?l19 ?c19 ?k19 ?a20 ?l20 ?c20 ?k20 ?yA0 ?yp0 ?yh0 ?yo0 ?ys0 ?ym0 ?yk0 ?wn0_0 ?wn0_1 ?wn0_2 ?wn0_3 ?yA1 ?yp1 ?yh1 ?yo1 ?ys1 ?ym1 ?yk1 ?wn1_0 ?wn1_1 ?wn1_2 ?wn1_3 ?wn1_4 ?wn1_5 ?wn1_6 ?wn1_7 ?wn1_8 ?wn1_9 ?wn1_10 ?wn1_11 ?wn1_12 ?wn1_13 ?xa0 ?xi0 ?xl0 ?xc0 ?xk0 ?xa1 ?xi1 ?xl1 ?xc1 ?xk1 ?xa2 ?xi2 ?xl2 ?xc2 ?xk2 ?xa3 ?xi3 ?xl3 ?xc3 ?xk3 ?xa4 ?xi4 ?xl4 ?xc4 ?xk4 ?xa5 ?xi5 ?xl5 ?xc5 ?xk5 ?xa6 ?xi6 ?xl6 ?xc6 ?xk6 ?xa7 ?xi7 ?xl7 ?xc7 ?xk7 ?xa8 ?xi8 ?xl8 ?xc8 ?xk8 ?xa9 ?xi9 ?xl9 ?xc9 ?xk9 ?xa10 ?xi10 ?xl10 ?xc10 ?xk10 ?i0 ?z1 ?z2 ?z3 ?z4 ?z5 ?z6 ?z7 ?z8 ?z9 ?z10 ?z11 ?z12
  (case a1=>k_is)
  (case l1=>k_is)
  (case c1=>k_is)
  (case k1=>k_is)
  (case a2=>k_is)
  (case l2=>k_is)
  (case c2=>k_is)
  (case k2=>k_is)
  (case a3=>k_is)
  (case l3=>k_is)
  (case c3=>k_is)
  (case k3=>k_is)
  (case a4=>k_is)
  (case l4=>k_is)
  (case c4=>k_is)
  (case k4=>k_is)
  (case a5=>k_is)
  (case l5=>k_is)
  (case c5=>k_is)
  (case k5=>k_is)
  (case a6=>k_is)
  (case l6=>k_is)
  (case c6=>k_is)
  (case k6=>k_is)
  (case a7=>k_is)
  (case l7=>k_is)
  (case c7=>k_is)
  (case k7=>k_is)
  (case a8=>k_is)
  (case l8=>k_is)
  (case c8=>k_is)
  (case k8=>k_is)
  (case a9=>k_is)
  (case l9=>k_is)
  (case c9=>k_is)
  (case k9=>k_is)
  (case a10=>k_is)
  (case l10=>k_is)
  (case c10=>k_is)
  (case k10=>k_is)
  (case a11=>k_is)
  (case l11=>k_is)
  (case c11=>k_is)
  (case k11=>k_is)
  (case a12=>k_is)
  (case l12=>k_is)
  (case c12=>k_is)
  (case k12=>k_is)
  (case a13=>k_is)
  (case l13=>k_is)
  (case c13=>k_is)
  (case k13=>k_is)
  (case a14=>k_is)
  (case l14=>k_is)
  (case c14=>k_is)
  (case k14=>k_is)
  (case a15=>k_is)
  (case l15=>k_is)
  (case c15=>k_is)
  (case k15=>k_is)
  (case a16=>k_is)
  (case l16=>k_is)
  (case c16=>k_is)
  (case k16=>k_is)
  (case a17=>k_is)
  (case l17=>k_is)
  (case c17=>k_is)
  (case k17=>k_is)
  (case a18=>k_is)
  (case l18=>k_is)
  (case c18=>k_is)
  (case k18=>k_is)
  (case a19=>k_is)
  (case l19=>k_is)
  (case c19=>k_is)
  (case k19=>k_is)
  (case a20=>k_is)
  (case l20=>k_is)
  (case c20=>k_is)
  (case k20=>k_is)
  (case yA0=>k_is)
  (case yp0=>k_is)
  (case yh0=>k_is)
  (case yo0=>k_is)
  (case ys0=>k_is)
  (case ym0=>k_is)
  (case yk0=>k_is)
  (case wn0_0=>k_is)
  (case wn0_1=>k_is)
  (case wn0_2=>k_is)
  (case wn0_3=>k_is)
  (case yA1=>k_is)
  (case yp1=>k_is)
  (case yh1=>k_is)
  (case yo1=>k_is)
  (case ys1=>k_is)
  (case ym1=>k_is)
  (case yk1=>k_is)
  (case wn1_0=>k_is)
  (case wn1_1=>k_is)
  (case wn1_2=>k_is)
  (case wn1_3=>k_is)
  (case wn1_4=>k_is)
  (case wn1_5=>k_is)
  (case wn1_6=>k_is)
  (case wn1_7=>k_is)
  (case wn1_8=>k_is)
  (case wn1_9=>k_is)
  (case wn1_10=>k_is)
  (case wn1_11=>k_is)
  (case wn1_12=>k_is)
  (case wn1_13=>k_is)
  (case xa0=>k_is)
  (case xi0=>k_is)
  (case xl0=>k_is)
  (case xc0=>k_is)
  (case xk0=>k_is)
  (case xa1=>k_is)
  (case xi1=>k_is)
  (case xl1=>k_is)
  (case xc1=>k_is)
  (case xk1=>k_is)
  (case xa2=>k_is)
  (case xi2=>k_is)
  (case xl2=>k_is)
  (case xc2=>k_is)
  (case xk2=>k_is)
  (case xa3=>k_is)
  (case xi3=>k_is)
  (case xl3=>k_is)
  (case xc3=>k_is)
  (case xk3=>k_is)
  (case xa4=>k_is)
  (case xi4=>k_is)
  (case xl4=>k_is)
  (case xc4=>k_is)
  (case xk4=>k_is)
  (case xa5=>k_is)
  (case xi5=>k_is)
  (case xl5=>k_is)
  (case xc5=>k_is)
  (case xk5=>k_is)
  (case xa6=>k_is)
  (case xi6=>k_is)
  (case xl6=>k_is)
  (case xc6=>k_is)
  (case xk6=>k_is)
  (case xa7=>k_is)
  (case xi7=>k_is)
  (case xl7=>k_is)
  (case xc7=>k_is)
  (case xk7=>k_is)
  (case xa8=>k_is)
  (case xi8=>k_is)
  (case xl8=>k_is)
  (case xc8=>k_is)
  (case xk8=>k_is)
  (case xa9=>k_is)
  (case xi9=>k_is)
  (case xl9=>k_is)
  (case xc9=>k_is)
  (case xk9=>k_is)
  (case xa10=>k_is)
  (case xi10=>k_is)
  (case xl10=>k_is)
  (case xc10=>k_is)
  (case xk10=>k_is)
  (case i0=>k_is)
  (case z1=>k_is)
  (case z2=>k_is)
  (case z3=>k_is)
  (case z4=>k_is)
  (case z5=>k_is)
  (case z6=>k_is)
  (case z7=>k_is)
  (case z8=>k_is)
  (case z9=>k_is)
  (case z10=>k_is)
  (case z11=>k_is)
  (case z12=>k_is)
