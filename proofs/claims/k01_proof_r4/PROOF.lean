import PyProof.Rows.All
import Wide.All
import OpenK.AllK
import Wide.FinOn
import Lean
import PyProof.EqAt
import PyProof.EqKinds
import PyProof.TupleCall
import PyProof.CollectWalk
import PySem.Challenge.RW_fewsaves_k01_works_or_not
import PyProof.DictItems
import KE.KItemsList
import PyProof.StrCalls2
import PyProof.StrBlockH
import PyProof.CallStr
import PyProof.FitsReplace
import PyProof.StrWalks
import KE.KIntText
import KE.KTabLook
import KE.KUnpackStar
import PyProof.WalksMore
import PyProof.FactsAll.subtypes_4
import PyProof.SetRoads
import PyProof.ZipIter
import PyProof.Rows.ZipGen
import PyProof.TupleIter
import KE.KDictOf
import PyProof.FactsAll.zip_1
import PyProof.TupleOfSeq
import PyProof.Rows.TupAdd
set_option Elab.async false
set_option linter.all false
set_option maxRecDepth 100000
set_option compiler.extract_closed false
set_option genInjectivity false
set_option genSizeOfSpec false
open PySem renaming wpAny_bind->aA,wpAny_pure->aB,boot_len->aU,wpAny_holding->bK,wpAny_newObj_type->bU,wpAny_field->bV,wpAny_callSpecial?_slot->cA,wpAny_truthy_bool->cD,wpAny_call_entry->cO,mem_of_lookup->cP,wpAny_seqItems->cR,wpAny_standAt->dE,wpAny_rule->dJ,wpAny_passesOwn->dM,wpAny_pyIter_list->dP,codeAny_builtin->dQ,codeAny_mono->dR,wpAny_setField_rec->eL,wpAny_mono->eX
open List renaming length_map->aC,getElem?_eq_some_iff->aE,size_toArray->aH,getElem?_eq_getElem->aJ,length_append->aK,mem_singleton->aL,mem_cons->aN,map_append->aO,mem_of_getElem?->aP,mem_append->aS,take_of_length_le->aT,getElem?_map->aX,mem_append_right->aY,length_take->bD,not_mem_nil->bH,length_cons->bI,mem_append_left->bJ,mem_cons_self->bM,mem_cons_of_mem->bO,take_add_one->bQ,map_cons->bR,length_singleton->bX,mem_map->bZ,getD_eq_getElem?_getD->cH,length_drop->cJ,getElem?_append_left->cQ,all_eq_true->cT,getElem_mem->cU,length_nil->cY,getElem_of_mem->cZ,getElem?_append_right->dC,all_cons->dF,mem_range->dH,all_map->dS,length_eq_zero_iff->eC,cons_append->eI,take_length->eJ,take_zero->eK,find?_cons->eN,getElem?_toArray->eO,reverse_cons->eR,lookup_cons->eT,filterMap_cons->eU,length_pos_iff->eW,map_nil->eZ
open Nat renaming le_refl->aD,le_of_ble_eq_true->aG,zero_le->aW,lt_of_lt_of_le->aZ,ne_of_lt->bA,le_trans->bC,le_add_right->cC,le_of_lt->cK,lt_of_le_of_lt->cS,ne_of_gt->eM,lt_irrefl->eQ
open PySem.Heap renaming get?_push_of_some->aF,lt_size->aM,get?_push_size->aR,size_push->cN
open Bool renaming and_eq_true->aI,false_ne_true->aQ,true_and->bF,false_and->bP,eq_iff_iff->cI,and_self->cW,and_true->eB
open PyProof.Rows renaming boot_list->aV,slot_tuple_getitem->bW,boot_tuple->cB,boot_int->cF,callWith_type1->cX,boot_bool->dA
open PySem.W renaming mg_none_of->bB,mg_of->eS
open Option.some renaming inj->bG
open PySem.F renaming plainAttrs_list->bL,called_set->cE,slot_list_append->cL,type_list_append->cM,slot_tuple_iterator_next->dD,args_tuple_add_2->eY,slot_list_getattribute->fA,slot_dict_update->fB
open Array renaming length_toList->bN,getElem?_toList->bS
open PySem.PassesOwn renaming never->bT
open Int renaming toNat_natCast->cG,emod_lt_of_pos->dG,eq_ofNat_of_zero_le->dZ,emod_nonneg->eP
open Ne renaming symm->cV
open PySem.Around renaming under_plainId->dI
open PySem.Paired renaming length->dY
open PySem.Heap.SameBut renaming update->eV
namespace L2
open PySem PySem.Spec PyProof.Rows
abbrev Key:=Sum Int Str
def keyIs:Key->Value->Bool
 | .inl k,v=>Value.isInt k v
 | .inr x,v=>Value.isStrOf x v
def keyH(w:World):Key->Int
 | .inl k=>hashInt k
 | .inr x=>hashStr w x
theorem qB4:∀ {k:Key} {v:Value},keyIs k v=true->(∃i t,k=Sum.inl i/\v=Value.int i t)\/(∃x t,k=Sum.inr x/\v=Value.str x t)
 | .inl i,v,h=>by
  obtain⟨t,e⟩:=Value.isInt_shape (k:=i) (v:=v) h;exact .inl ⟨i,t,rfl,e⟩
 | .inr x,v,h=>by
  obtain⟨t,e⟩:=Value.isStrOf_shape (x:=x) (v:=v) h;exact .inr ⟨x,t,rfl,e⟩
theorem qPc(i:Int)(t:Tok):keyIs (.inl i) (.int i t)=true:=by simp [keyIs,Value.isInt]
theorem qPb(x:Str)(t:Tok):keyIs (.inr x) (.str x t)=true:=by simp [keyIs,Value.isStrOf]
theorem qVv(a b:Int):decide ((Sum.inl a:Key)=Sum.inl b)=(a == b):=by
 by_cases e:a=b
 ·subst e;simp
 ·have h : ¬(Sum.inl a:Key)=Sum.inl b:=λq=>e (Sum.inl.inj q);rw [decide_eq_false h];exact (beq_eq_false_iff_ne.mpr e).symm
theorem qVs(a b:Str):decide ((Sum.inr a:Key)=Sum.inr b)=decide (a=b):=by
 by_cases e:a=b
 ·subst e;simp
 ·have h : ¬(Sum.inr a:Key)=Sum.inr b:=λq=>e (Sum.inr.inj q);rw [decide_eq_false h,decide_eq_false e]
theorem qVu(a:Int)(b:Str):decide ((Sum.inl a:Key)=Sum.inr b)=false:=decide_eq_false (λq=>nomatch q)
theorem qVt(a:Str)(b:Int):decide ((Sum.inr a:Key)=Sum.inl b)=false:=decide_eq_false (λq=>nomatch q)
def qBc(prog:Program)(w:World):PySem.KeyKind prog w Key where
 is:=keyIs
 hash:=keyH w
 inj:=λv a b ha hb=>by
  rcases qB4 ha with ⟨i,t,rfl,rfl⟩ | ⟨x,t,rfl,rfl⟩
  ·rcases qB4 hb with ⟨j,u,rfl,e⟩ | ⟨y,u,rfl,e⟩
   ·injection e with e1 _;rw [e1]
   ·exact nomatch e
  ·rcases qB4 hb with ⟨j,u,rfl,e⟩ | ⟨y,u,rfl,e⟩
   ·exact nomatch e
   ·injection e with e1 _;rw [e1]
 byValue:=λk v h=>by
  rcases qB4 h with ⟨i,t,rfl,rfl⟩ | ⟨x,t,rfl,rfl⟩ <;> rfl
 pyHash:=λhv h=>by
  rcases qB4 hv with ⟨i,t,rfl,rfl⟩ | ⟨x,t,rfl,rfl⟩
  ·exact wpAny_pyHash_int h
  ·exact wpAny_pyHash_str h
 eqBool:=λhu hv h=>by
  rcases qB4 hu with ⟨i,t,rfl,rfl⟩ | ⟨x,t,rfl,rfl⟩
  ·rcases qB4 hv with ⟨j,u,rfl,rfl⟩ | ⟨y,u,rfl,rfl⟩
   ·rw [qVv] at h;exact wpAny_eqBool_int h
   ·rw [qVu] at h;exact SeqAt.EqAt.int_str i t y u _ _ _ _ h
  ·rcases qB4 hv with ⟨j,u,rfl,rfl⟩ | ⟨y,u,rfl,rfl⟩
   ·rw [qVt] at h;exact SeqAt.EqAt.str_int x t j u _ _ _ _ h
   ·rw [qVs] at h;exact wpAny_eqBool_str h
 «strs» :=λk x t v h=>by
  rcases qB4 h with ⟨i,u,rfl,e⟩ | ⟨y,u,rfl,e⟩
  ·exact nomatch e
  ·injection e with e1 _
   subst e1;cases v <;> rfl
theorem qKj(prog:Program)(w:World)(i:Int)(t:Tok):(qBc prog w).is (.inl i) (.int i t)=true:=qPc i t
theorem qKi(prog:Program)(w:World)(x:Str)(t:Tok):(qBc prog w).is (.inr x) (.str x t)=true:=qPb x t
set_option genInjectivity true in
inductive V where
 | non | bl (b:Bool) | int (i:Int) | str (x:Str) | byt (b:Array UInt8) | flt (b:UInt64) | ref (a:Addr) | ty (n:String)
 deriving DecidableEq
def RelV:V->Value->Prop
 | .non,u=>u=Value.none
 | .bl b,u=>u=Value.bool b
 | .int i,u => ∃t,u=Value.int i t
 | .str x,u => ∃t,u=Value.str x t
 | .byt b,u => ∃t,u=Value.bytes b t
 | .flt b,u => ∃t,u=Value.float b t
 | .ref a,u=>u=Value.ref a
 | .ty n,u=>u=Value.type n
abbrev Vals:List V->List Value->Prop:=Paired RelV
theorem Vals.length{xs:List V}{us:List Value}(r:Vals xs us):xs.length=us.length:=dY r
theorem Vals.get:∀ {xs:List V} {us:List Value} {i:Nat} {x:V},Vals xs us->xs[i]? = some x -> ∃u,us[i]? = some u/\RelV x u
 | _,_,_,_,.nil,e=>by simp at e
 | _,_,0,_,.cons r _,e=>by simp at e;subst e;exact⟨_,rfl,r⟩
 | _,_,i+1,x,.cons _ t,e=>by
  obtain⟨u,h1,h2⟩:=Vals.get (i:=i) (x:=x) t (by simpa using e);exact⟨u,by simpa using h1,h2⟩
theorem Vals.set{x:V}{u:Value}(r:RelV x u):∀ {xs:List V} {us:List Value} (i:Nat),Vals xs us->Vals (xs.set i x) (us.set i u)
 | _,_,_,.nil =>.nil
 | _,_,0,.cons _ t =>.cons r t
 | _,_,i+1,.cons q t =>.cons q (Vals.set r i t)
theorem Vals.append{xs ys:List V}{us ws:List Value}(h:Vals xs us)(s:Vals ys ws):Vals (xs++ys) (us++ws):=by
 induction h with
 | nil=>exact s
 | cons r _ ih=>exact .cons r ih
theorem Vals.take:∀ {xs:List V} {us:List Value} (n:Nat),Vals xs us->Vals (xs.take n) (us.take n)
 | _,_,0,_ =>.nil
 | _,_,_+1,.nil =>.nil
 | _,_,n+1,.cons r t =>.cons r (Vals.take n t)
theorem Vals.drop:∀ {xs:List V} {us:List Value} (n:Nat),Vals xs us->Vals (xs.drop n) (us.drop n)
 | _,_,0,r=>r
 | _,_,_+1,.nil =>.nil
 | _,_,n+1,.cons _ t=>Vals.drop n t
def RelO:Option V->Option Value->Prop
 | some v,some u=>RelV v u
 | none,none=>True
 | _,_=>False
def KV{κ : Type}:List (κ × V)->List (κ × Value)->Prop:=Paired λ(p : κ × V) (q : κ × Value)=>p.1=q.1/\RelV p.2 q.2
def kV:Key->V
 | .inl i =>.int i
 | .inr x =>.str x
inductive HO where
 | lst (xs:List V)
 | tup (xs:List V)
 | dK (kvs:List (Key×V)) | dT (kvs:List (List Key×V))
 | set (S:Int->Bool) (n:Nat)
 | ins (C dx:Addr) (fs:List (Str×V))
 | own (x:Addr)
 | xd (fs:List (Str×V))
 | met (f x:Addr)
 | rng (lo hi:Int)
 | frz (o:Obj) (u:HO)
 | tbl (ps:Array Value)
 | ext (φ : Addr->Heap->Prop)
abbrev Hp:=Addr->Option HO
def upd(H:Hp)(a:Addr)(o:HO):Hp:=λb=>if b=a then some o else H b
theorem qA1{H:Hp}{a:Addr}{o:HO}:upd H a o a=some o:=by unfold upd;rw [if_pos rfl]
theorem qA7{H:Hp}{a b:Addr}{o:HO}(h:b≠a):upd H a o b=H b:=by unfold upd;rw [if_neg h]
theorem qK1{H:Hp}{a:Addr}{o u:HO}:upd (upd H a o) a u=upd H a u:=by
 funext b;unfold upd;split <;> rfl
theorem qMb{H:Hp}{a b:Addr}{o u:HO}(h:H a=some o)(h':H b=some u)(d:o≠u):a≠b:=by
 intro e;subst e;rw [h] at h';exact d (bG h')
theorem qA2{H:Hp}{a b:Addr}{o:HO}(h:H a=some o)(h':H b=none):a≠b:=by
 intro e;subst e;rw [h] at h';cases h'
section
variable(P:Program)(w:World)
def ObjOk(H:Hp)(h:Heap)(a:Addr):HO->Prop
 | .lst xs=>xs.length<=sizeLine /\ ∃(its:List Value) (n:Nat),Vals xs its/\h.get? a=some { cls :=.type "list",data :=.seq its.toArray n }
 | .tup xs=>xs.length<=sizeLine /\ ∃its:List Value,Vals xs its/\IsTup h a its.toArray
 | .dK kvs=>kvs.length<=sizeLine/\(a == sysModules)=false /\ ∃vs,KV kvs vs/\h.DictOf (qBc P w) a vs
 | .dT kvs=>kvs.length<=sizeLine/\(a == sysModules)=false /\ ∃xs:List (List Key×Addr×Value),
   Paired (λ(p:List Key×V) (q:List Key×Addr×Value)=>p.1=q.1/\H q.2.1=some (.tup (p.1.map kV))/\RelV p.2 q.2.2) kvs xs /\
   ∃o es ep,h.get? a=some o/\o.ExactDict/\o.data = .dict es ep/\es.toList=xs.map (entryOfKey (tupleKind (qBc P w)))/\(xs.map (·.1)).Nodup
 | .set S n=>h.SetOf (intKind P w) a S n
 | .ins C dx fs=>H dx=some (.own a)/\fs.length<=1000/\dx≠a/\h.get? a=some (PySem.W.instObj C dx) /\
   ∃mA,h.Ns1 dx mA/\(∀f,RelO (fs.lookup f) (mA f))/\PySem.Within mA (fs.map (·.1))
 | .own _ => ∃o,h.get? a=some o
 | .xd fs => ∃mA,h.Ns1 a mA /\ ∀f,RelO (fs.lookup f) (mA f)
 | .rng lo hi => ∃t u v,h.get? a=some { cls :=.type "range",data :=.fields #[.int lo t,.int hi u,.int 1 v] }
 | .frz o u=>h.get? a=some o/\ObjOk H h a u
 | .tbl ps=>h.get? a=some { cls :=.none,data :=.fields ps }
 | .met f x=>h.get? a=some (PySem.W.methodObj (.ref f) (.ref x))
 | .ext φ => φ a h/\(∃o,h.get? a=some o) /\ ∀h1 h2:Heap,φ a h1->(∀o,h1.get? a=some o->h2.get? a=some o) -> φ a h2
def HOk(H:Hp)(h:Heap):Prop := ∀a o,H a=some o->ObjOk P w H h a o
end
section
variable{P:Program}{w:World}{H H':Hp}{h h':Heap}{a:Addr}{o:HO}
theorem ObjOk.lt(x:ObjOk P w H h a o):a<h.objs.size:=by
 cases o with
 | lst xs=>obtain⟨_,_,_,_,e⟩:=x;exact aM e
 | tup xs=>obtain⟨_,_,_,p⟩:=x;exact p.lt
 | dK kvs=>obtain⟨_,_,_,_,o,_,_,e,_⟩:=x;exact aM e
 | dT kvs=>obtain⟨_,_,_,_,o,_,_,e,_⟩:=x;exact aM e
 | set S n=>obtain⟨o,_,_,_,e,_⟩:=x;exact aM e
 | ins C dx fs=>obtain⟨_,_,_,e,_⟩:=x;exact aM e
 | own y=>obtain⟨_,e⟩:=x;exact aM e
 | xd fs=>obtain⟨_,⟨_,_,_,e,_⟩,_⟩:=x;exact aM e
 | rng lo hi=>obtain⟨_,_,_,e⟩:=x;exact aM e
 | frz ob u=>obtain⟨e,_⟩:=x;exact aM e
 | tbl ps=>exact aM (show h.get? a=some _ from x)
 | met f y=>exact aM (show h.get? a=some _ from x)
 | ext φ =>obtain⟨_,⟨_,e⟩,_⟩:=x;exact aM e
theorem Paired.mapP{α β : Type}{F G : α -> β -> Prop}{l₁ : List α}{l₂ : List β}(h:Paired F l₁ l₂)(f:∀a b,F a b->G a b):Paired G l₁ l₂ :=by
 induction h with
 | nil=>exact .nil
 | cons r _ ih=>exact .cons (f _ _ r) ih
theorem ObjOk.stay(x:ObjOk P w H h a o)(k:∀b u,(b=a\/H b=some (.own a))->h.get? b=some u->h'.get? b=some u)(ho:∀b,H b=some (.own a)->H' b=some (.own a))(ht:∀b xs,H b=some (.tup xs)->H' b=some (.tup xs)):ObjOk P w H' h' a o:=by
 induction o with
 | lst xs=>obtain⟨z,its,n,r,e⟩:=x;exact⟨z,its,n,r,k _ _ (.inl rfl) e⟩
 | tup xs=>obtain⟨z,its,r,ob,e,c⟩:=x;exact⟨z,its,r,ob,k _ _ (.inl rfl) e,c⟩
 | dK kvs=>obtain⟨z,y,vs,r,ob,es,ep,e,c⟩:=x;exact⟨z,y,vs,r,ob,es,ep,k _ _ (.inl rfl) e,c⟩
 | dT kvs =>
  obtain⟨z,y,xs,r,ob,es,ep,e,c⟩:=x;exact⟨z,y,xs,Paired.mapP r λp q z=>⟨z.1,ht _ _ z.2.1,z.2.2⟩,ob,es,ep,k _ _ (.inl rfl) e,c⟩
 | set S n=>obtain⟨ob,es,ep,t,e,c⟩:=x;exact⟨ob,es,ep,t,k _ _ (.inl rfl) e,c⟩
 | ins C dx fs =>
  obtain⟨d,z,ne,e,mA,⟨od,es,ep,e2,c⟩,r⟩:=x;exact⟨ho _ d,z,ne,k _ _ (.inl rfl) e,mA,⟨od,es,ep,k _ _ (.inr d) e2,c⟩,r⟩
 | own y=>obtain⟨ob,e⟩:=x;exact⟨ob,k _ _ (.inl rfl) e⟩
 | xd fs=>obtain⟨mA,⟨od,es,ep,e,c⟩,r⟩:=x;exact⟨mA,⟨od,es,ep,k _ _ (.inl rfl) e,c⟩,r⟩
 | rng lo hi=>obtain⟨t,u,v,e⟩:=x;exact⟨t,u,v,k _ _ (.inl rfl) e⟩
 | frz ob u ih=>obtain⟨e,q⟩:=x;exact⟨k _ _ (.inl rfl) e,ih q⟩
 | tbl ps =>
  have e:h.get? a=some { cls :=.none,data :=.fields ps }:=x;show h'.get? a=some { cls :=.none,data :=.fields ps };exact k a _ (.inl rfl) e
 | met f y =>
  have e:h.get? a=some (PySem.W.methodObj (.ref f) (.ref y)):=x;show h'.get? a=some (PySem.W.methodObj (.ref f) (.ref y));exact k a _ (.inl rfl) e
 | ext φ =>obtain⟨p,⟨o,e⟩,st⟩:=x;exact⟨st _ _ p λo q=>k _ _ (.inl rfl) q,⟨o,k _ _ (.inl rfl) e⟩,st⟩
theorem HOk.lt(x:HOk P w H h)(e:H a=some o):a<h.objs.size:=(x a o e).lt
theorem HOk.fresh(x:HOk P w H h)(e:h.objs.size<=a):H a=none:=by
 cases q:H a with
 | none=>rfl
 | some u=>exact absurd (aZ (x.lt q) e) (eQ _)
theorem HOk.kept(x:HOk P w H h)(k:∀b u,h.get? b=some u->h'.get? b=some u):HOk P w H h':=λa o e =>
 (x a o e).stay (λb u _ q=>k b u q) (λ_ q=>q) λ_ _ q=>q
theorem HOk.laid(x:HOk P w H h)(k:∀b u,h.get? b=some u->h'.get? b=some u)(hp:h.objs.size<=a)(new:ObjOk P w (upd H a o) h' a o):HOk P w (upd H a o) h':=λb u e=>by
 have hn:=x.fresh hp;by_cases hb:b=a
 ·subst hb;rw [qA1] at e;cases e;exact new
 ·rw [qA7 hb] at e;exact (x b u e).stay (λc v _ q=>k c v q) (λc q=>by rw [qA7 (qA2 q hn)];exact q) λc xs q=>by rw [qA7 (qA2 q hn)];exact q
end
def Rd(H:Hp)(a:Addr)(u:HO):Prop:=H a=some u \/ ∃o,H a=some (.frz o u)
theorem Rd.ok{P:Program}{w:World}{H:Hp}{h:Heap}{a:Addr}{u:HO}(r:Rd H a u)(x:HOk P w H h):ObjOk P w H h a u:=by
 rcases r with r | ⟨o,r⟩
 ·exact x a u r
 ·obtain⟨_,q⟩:=x a _ r;exact q
def Mut:Option HO->Prop
 | some (.lst _)=>True
 | some (.dK _)=>True
 | some (.dT _)=>True
 | some (.set _ _)=>True
 | some (.ins _ _ _)=>True
 | some (.ext _)=>True
 | _=>False
section
variable{P:Program}{w:World}{H:Hp}{h h':Heap}{x e:Addr}{o':HO}
theorem HOk.write(ok:HOk P w H h)(mu:Mut (H x))(he:e=x\/H e=some (.own x))(k:∀b u,b≠e->h.get? b=some u->h'.get? b=some u)(heo:∃u,h'.get? e=some u)(new:ObjOk P w (upd H x o') h' x o'):HOk P w (upd H x o') h':=λb u q=>by
 have nown:∀c y,H c=some (.own y)->c≠x:=λc y r z=>by subst z;rw [r] at mu;exact mu
 have ntup:∀c xs,H c=some (.tup xs)->c≠x:=λc xs r z=>by subst z;rw [r] at mu;exact mu
 by_cases hb:b=x
 ·subst hb;rw [qA1] at q;cases q;exact new
 ·rw [qA7 hb] at q;by_cases hbe:b=e
  ·have q':H b=some (.own x):=by
    rcases he with z | z
    ·exact absurd (hbe.trans z) hb
    ·rw [hbe];exact z
   rw [q] at q';cases q';obtain⟨v,hv⟩:=heo;exact⟨v,by rw [hbe];exact hv⟩
  ·refine (ok b u q).stay (λc v hc r=>k c v ?_ r) (λc r=>by rw [qA7 (nown c b r)];exact r) λc xs r=>by rw [qA7 (ntup c xs r)];exact r
   rcases hc with rfl | hc
   ·exact hbe
   ·rintro rfl;rcases he with z | z
    ·exact nown c b hc z
    ·rw [hc] at z;cases z;exact hb rfl
end
structure Un(fs ex:List Addr)(H H':Hp)(h h':Heap):Prop where
 keep:∀b o,h.get? b=some o->H b=none->b∉fs->b∉ex->h'.get? b=some o
 slot:∀b o,h.get? b=some o->H b=none->b∈fs->b∉ex -> ∃sl,h'.get? b=some { o with slots:=sl }
 free:∀b o,h.get? b=some o->H b=none->b∉ex->H' b=none
 there:∀b o,h.get? b=some o->b∉ex -> ∃o',h'.get? b=some o'
 tups:∀b xs,H b=some (.tup xs)->H' b=some (.tup xs)
 frzs:∀b o u,H b=some (.frz o u)->H' b=some (.frz o u)
 tbls:∀b ps,H b=some (.tbl ps) -> ∃more,H' b=some (.tbl (ps++more))
section
variable{fs fs' ex ex':List Addr}{H H1 H2:Hp}{h h1 h2 h':Heap}{a x e:Addr}{o:HO}
theorem Un.any(u:Un fs ex H H1 h h1){b:Addr}{ob:Obj}(q:h.get? b=some ob)(n:H b=none)(hx:b∉ex):∃sl,h1.get? b=some { ob with slots:=sl }:=by
 by_cases hb:b∈fs
 ·exact u.slot b ob q n hb hx
 ·exact⟨ob.slots,u.keep b ob q n hb hx⟩
theorem Un.kept(k:∀b u,h.get? b=some u->h'.get? b=some u):Un fs ex H H h h':=⟨λb ob q _ _ _=>k b ob q,λb ob q _ _ _=>⟨ob.slots,k b ob q⟩,λ_ _ _ n _=>n,λb ob q _=>⟨ob,k b ob q⟩,λ_ _ q=>q,λ_ _ _ q=>q,λ_ ps q=>⟨#[],by rw [q];simp⟩⟩
theorem Un.refl:Un fs ex H H h h:=Un.kept λ_ _ q=>q
theorem Un.laid(k:∀b u,h.get? b=some u->h'.get? b=some u)(hp:h.objs.size<=a)(hn:H a=none):Un fs ex H (upd H a o) h h' where
 keep:=λb u q _ _ _=>k b u q
 slot:=λb u q _ _ _=>⟨u.slots,k b u q⟩
 free:=λb u q n _=>by rw [qA7 (bA (aZ (aM q) hp))];exact n
 there:=λb u q _=>⟨u,k b u q⟩
 tups:=λb xs q=>by rw [qA7 (qA2 q hn)];exact q
 frzs:=λb u xs q=>by rw [qA7 (qA2 q hn)];exact q
 tbls:=λb ps q=>⟨#[],by rw [qA7 (qA2 q hn),q];simp⟩
theorem Un.write(mu:Mut (H x))(he:e=x\/H e=some (.own x))(k:∀b u,b≠e->h.get? b=some u->h'.get? b=some u)(heo:∃u,h'.get? e=some u):Un fs ex H (upd H x o) h h':=by
 have hx:∀b,H b=none->b≠x:=λb n z=>by subst z;rw [n] at mu;exact mu
 have hb:∀b,H b=none->b≠e:=λb n z=>by
  subst z;rcases he with r | r
  ·exact hx b n r
  ·rw [n] at r;cases r
 have hm:∀b u,H b=some u -> ¬Mut (some u)->b≠x:=λb u q nm z=>by subst z;rw [q] at mu;exact nm mu
 refine⟨λb u q n _ _=>k b u (hb b n) q,λb u q n _ _=>⟨u.slots,k b u (hb b n) q⟩,λb u q n _=>by rw [qA7 (hx b n)];exact n,λb u q _=>?_,
  λb xs q=>by rw [qA7 (hm b _ q λz=>z)];exact q,λb u xs q=>by rw [qA7 (hm b _ q λz=>z)];exact q,λb ps q=>⟨#[],by rw [qA7 (hm b _ q λz=>z),q];simp⟩⟩
 by_cases hbe:b=e
 ·subst hbe;exact heo
 ·exact⟨u,k b u hbe q⟩
end
def trk(h:Heap)(H:Hp):List Addr:=(List.range h.objs.size).filter λa=>(H a).isSome
def hidT(h:Heap)(H:Hp):Heap:=PySem.W.hideAll h (trk h H)
theorem qPg(h:Heap)(H:Hp):(hidT h H).objs.size=h.objs.size:=PySem.W.hideAll_size _ _
theorem qRo{h:Heap}{H:Hp}{b:Addr}{o:Obj}(e:h.get? b=some o)(n:H b=none):(hidT h H).get? b=some o :=
 PySem.W.hideAll_get _ e λhm=>by
  have q:(H b).isSome=true:=(List.mem_filter.mp hm).2;rw [n] at q;simp at q
theorem qTv{h:Heap}{H:Hp}{b:Addr}{o:Obj}(e:(hidT h H).get? b=some o):h.get? b=some o/\H b=none:=by
 have e':h.get? b=some o:=PySem.W.of_hideAll (trk h H) e;refine⟨e',?_⟩;cases q:H b with
 | none=>rfl
 | some x =>
  have hm:b∈trk h H:=List.mem_filter.mpr ⟨dH.mpr (aM e'),by simp [q]⟩;have z:(hidT h H).get? b=none:=PySem.W.hideAll_none (trk h H) hm;rw [z] at e;cases e
def qUj(g h:Heap)(L:Addr):List (Addr×Obj):=(List.range h.objs.size).filterMap λa=>if a=L\/(g.get? a).isSome=true then none else (h.get? a).map λo=>(a,o)
def rest(g h:Heap)(L d:Addr):List (Addr×Obj):=(qUj g h L).filter λp=>decide (p.1≠d)
structure Mod(K:PySem.W.Frag)(mg:Str->Option Value)(base:Heap):Prop where
 kin:K.In base
 glob:base.Ns mainGlobals mg
 blt:∃mb,base.Ns builtinsNs mb /\ ∀x:Str,x ≠ "__name__" -> mb x=bootBuiltins x
 nolimit:base.NoLimit
structure Cx where
 prog:Program
 w:World
 K:PySem.W.Frag
 mg:Str->Option Value
 base:Heap
 A:Around
 N:List Str
 s₀ : Shared
 H₀ : Hp
 env:Env
 outer:List Env
 stack:List Env
 ex:List Addr
 fn:Str->Bool
 calm:Bool
 pn:List (Addr×Obj)
 xe:Value->Shared->Prop
def frs(l:List Env):List Addr:=l.filterMap (·.frame)
abbrev Cx.fs(X:Cx):List Addr:=frs X.outer
def Vis(sc:Scope)(x:Str):Prop:=sc.names.lookup x=some .local\/sc.names.lookup x=some .cell\/sc.names.lookup x=some .free
def Loc(sc:Scope)(x:Str):Prop:=sc.names.lookup x=some .local\/sc.names.lookup x=some .cell
def Look(env:Env)(h:Heap)(m:Str->Option Value)(x:Str)(u:Value):Prop:=(env.kindOf x=some .local/\m x=some u)\/((env.kindOf x=some .cell\/env.kindOf x=some .free) /\ ∃c,env.cells.lookup x=some c/\h.IsCell c (some u))
structure Cx.Ok(X:Cx):Prop where
 mod:Mod X.K X.mg X.base
 kind:X.env.scope.kind = .function
 glob:X.env.globals=mainGlobals
 blt:X.env.builtins=builtinsNs
 above:X.s₀.heap.objs.size<=X.env.locals
 inj:∀x y c,X.env.cells.lookup x=some c->X.env.cells.lookup y=some c->x=y
 has:∀x,(X.env.kindOf x=some .cell\/X.env.kindOf x=some .free) -> ∃c,X.env.cells.lookup x=some c
 cab:∀x c,X.fn x=true->X.env.cells.lookup x=some c->X.s₀.heap.objs.size<=c
 hd:X.calm=true->X.A.handled=none
 frames:X.A.frames=some X.stack
 stk:X.stack=X.outer\/(X.stack=X.env::X.outer/\X.env.frame=some X.env.locals)
 exf:∀b∈X.ex,b≠X.env.locals /\ ∀x c,X.env.cells.lookup x=some c->c≠b
 bs:∀b o,X.base.get? b=some o->X.s₀.heap.get? b=some o/\X.H₀ b=none
 bsz:X.base.objs.size<=X.s₀.heap.objs.size
 noex:∀b o,X.base.get? b=some o->b∉X.ex
 exfs:∀b∈X.ex,b∉X.fs
 funs:X.s₀.heap.FunFrames X.base X.outer
 frf:∀b∈X.fs,X.H₀ b=none
structure Inv(X:Cx)(pins:List (Addr×Obj))(σ : List (Option V))(H:Hp)(s:Shared):Prop where
 ok:X.Ok
 os:s.os=X.s₀.os
 bare:AllBare s.gens
 base:Un X.fs X.ex X.H₀ H X.s₀.heap s.heap
 loc:∃m,s.heap.Ns X.env.locals m /\ ∀(i:Nat) (x:Str) (v:V),X.N[i]? = some x -> σ[i]? = some (some v)->Vis X.env.scope x -> ∃u,RelV v u/\Look X.env s.heap m x u
 cell:∀x c,X.env.cells.lookup x=some c -> ∃v,s.heap.IsCell c v
 free:H X.env.locals=none
 freeC:∀x c,X.env.cells.lookup x=some c->H c=none
 pin:∀p∈X.pn++pins,s.heap.get? p.1=some p.2/\H p.1=none/\p.1≠X.env.locals/\p.1∉X.fs /\ ∀v,p.2.data ≠ .cell v
 hok:HOk X.prog X.w H s.heap
 len : σ.length=X.N.length
section
variable{X:Cx}{pins:List (Addr×Obj)}{σ : List (Option V)}{H H':Hp}{s:Shared}{h':Heap}
theorem Cx.Ok.nofr(ok:X.Ok){b:Addr}{o:Obj}(e:X.base.get? b=some o):b∉X.fs:=λhb=>by
 have:=(ok.funs.mem hb).1;rw [e] at this;cases this
theorem Inv.bs(I:Inv X pins σ H s):∀b o,X.base.get? b=some o->s.heap.get? b=some o/\H b=none:=λb o e =>
 ⟨I.base.keep b o (I.ok.bs b o e).1 (I.ok.bs b o e).2 (I.ok.nofr e) (I.ok.noex b o e),I.base.free b o (I.ok.bs b o e).1 (I.ok.bs b o e).2 (I.ok.noex b o e)⟩
theorem Inv.bk(I:Inv X pins σ H s):∀b o,X.base.get? b=some o->s.heap.get? b=some o:=λb o e=>(I.bs b o e).1
theorem Inv.mod(I:Inv X pins σ H s):Mod X.K X.mg X.base:=I.ok.mod
theorem Inv.kIn(I:Inv X pins σ H s):X.K.In s.heap:=I.ok.mod.kin.keeps I.bk
theorem Inv.lt(I:Inv X pins σ H s):X.env.locals<s.heap.objs.size:=let ⟨_,hn,_⟩:=I.loc;hn.lt
theorem Inv.sz(I:Inv X pins σ H s):X.s₀.heap.objs.size<=s.heap.objs.size:=bC I.ok.above (cK I.lt)
theorem Inv.nofs(I:Inv X pins σ H s){a:Addr}(h:s.heap.objs.size<=a):a∉X.fs:=λhb=>by
 obtain⟨_,o,ho,_⟩:=I.ok.funs.mem hb;exact absurd (aZ (aM ho) (bC I.sz h)) (eQ _)
theorem Inv.cne(I:Inv X pins σ H s):∀x c,X.env.cells.lookup x=some c->c≠X.env.locals:=λx c e z=>by
 obtain⟨v,o,ho,hd⟩:=I.cell x c e;obtain⟨m,⟨o',es,ep,ho',hd',_⟩,_⟩:=I.loc;rw [z,ho'] at ho;cases ho;rw [hd'] at hd;cases hd
theorem Inv.funs(I:Inv X pins σ H s):s.heap.FunFrames X.base X.outer:=by
 have all:∀(l:List Env),(∀b∈frs l,b∈X.fs)->X.s₀.heap.FunFrames X.base l->s.heap.FunFrames X.base l:=by
  intro l
  induction l with
  | nil=>intro _ _;trivial
  | cons env r ih =>
   intro hs hl;obtain⟨hk,⟨L,o,hf,hn,ho,hd⟩,hr⟩:=hl;have hL:L∈X.fs:=hs L (by unfold frs;rw [eU,hf];exact bM);obtain⟨sl,e⟩:=I.base.slot L o ho (I.ok.frf L hL) hL λz=>I.ok.exfs L z hL;exact⟨hk,⟨L,_,hf,hn,e,hd⟩,ih (λb hb=>hs b (by unfold frs;rw [eU,hf];exact bO _ hb)) hr⟩
 exact all X.outer (λ_ hb=>hb) I.ok.funs
theorem Inv.stack(I:Inv X pins σ H s):s.heap.FunFrames X.base X.stack:=by
 rcases I.ok.stk with e | ⟨e,hf⟩
 ·rw [e];exact I.funs
 ·rw [e];obtain⟨m,hn,_⟩:=I.loc;refine .cons (by rw [I.ok.kind];decide) hf hn ?_ I.funs;exact Heap.get?_none_of_le (bC I.ok.bsz I.ok.above)
theorem Inv.stkSub(I:Inv X pins σ H s):∀b∈frs X.stack,b∈X.env.locals::X.fs:=λb hb=>by
 rcases I.ok.stk with e | ⟨e,hf⟩
 ·rw [e] at hb;exact bO _ hb
 ·rw [e] at hb;unfold frs at hb;rw [eU,hf] at hb;exact hb
theorem Inv.stkFree(I:Inv X pins σ H s):∀b∈frs X.stack,H b=none:=λb hb=>by
 rcases aN.mp (I.stkSub b hb) with e | hb
 ·rw [e];exact I.free
 ·obtain⟨_,o,ho,_⟩:=I.ok.funs.mem hb;exact I.base.free b o ho (I.ok.frf b hb) λz=>I.ok.exfs b z hb
theorem Inv.step{g':Array GenState}{t':Nat}{d':Drawn}{ch:List Addr}(I:Inv X pins σ H s)(hch:∀b∈ch,(b∈X.ex\/X.s₀.heap.objs.size<=b)/\b≠X.env.locals/\(∀x c,X.env.cells.lookup x=some c->c≠b) /\ ∀p∈X.pn++pins,p.1≠b)(keep:∀b o,b≠X.env.locals->b∉X.fs->b∉ch->s.heap.get? b=some o->H b=none->h'.get? b=some o)(slot:∀b o,b≠X.env.locals->b∈X.fs->b∉ch->s.heap.get? b=some o->H b=none -> ∃sl,h'.get? b=some { o with slots:=sl })(free:∀b o,b∉ch->s.heap.get? b=some o->H b=none->H' b=none)(there:∀b o,b∉ch->s.heap.get? b=some o -> ∃o',h'.get? b=some o')(tups:∀b xs,H b=some (.tup xs)->H' b=some (.tup xs))(frzs:∀b o u,H b=some (.frz o u)->H' b=some (.frz o u))(tbls:∀b ps,H b=some (.tbl ps) -> ∃more,H' b=some (.tbl (ps++more)))(ns:∀m,s.heap.Ns X.env.locals m->h'.Ns X.env.locals m)(hok:HOk X.prog X.w H' h')(hg:AllBare g'):Inv X pins σ H' { s with heap:=h',gens:=g',drawn:=d',toks:=t' }:=by
 have neL:∀b o,X.s₀.heap.get? b=some o->b≠X.env.locals:=λb o e=>bA (aZ (aM e) I.ok.above);have neC:∀b o,X.s₀.heap.get? b=some o->b∉X.ex->b∉ch:=λb o e hx hb=>by
  rcases (hch b hb).1 with z | z
  ·exact hx z
  ·exact absurd (aZ (aM e) z) (eQ _)
 have cellK:∀x c,X.env.cells.lookup x=some c -> ∀v,s.heap.IsCell c v->h'.IsCell c v:=λx c e v ⟨o,ho,hd⟩=>by
  have nch:c∉ch:=λz=>(hch c z).2.2.1 x c e rfl;by_cases hc:c∈X.fs
  ·obtain⟨sl,q⟩:=slot c o (I.cne x c e) hc nch ho (I.freeC x c e);exact⟨_,q,hd⟩
  ·exact⟨o,keep c o (I.cne x c e) hc nch ho (I.freeC x c e),hd⟩
 refine⟨I.ok,I.os,hg,⟨λb o e n hb hx=>?_,λb o e n hb hx=>?_,λb o e n hx=>?_,λb o e hx=>?_,λb xs e=>tups b xs (I.base.tups b xs e),λb o xs e=>frzs b o xs (I.base.frzs b o xs e),λb ps e=>?_⟩,?_,λx c e=>?_,?_,λx c e=>?_,λp hp=>?_,hok,I.len⟩
 ·exact keep b o (neL b o e) hb (neC b o e hx) (I.base.keep b o e n hb hx) (I.base.free b o e n hx)
 ·obtain⟨sl,e1⟩:=I.base.slot b o e n hb hx;obtain⟨sl',e2⟩:=slot b _ (neL b o e) hb (neC b o e hx) e1 (I.base.free b o e n hx);exact⟨sl',e2⟩
 ·obtain⟨o',e1⟩:=I.base.there b o e hx;exact free b o' (neC b o e hx) e1 (I.base.free b o e n hx)
 ·obtain⟨o',e1⟩:=I.base.there b o e hx;exact there b o' (neC b o e hx) e1
 ·obtain⟨m1,e1⟩:=I.base.tbls b ps e;obtain⟨m2,e2⟩:=tbls b _ e1;exact⟨m1++m2,by rw [e2,Array.append_assoc]⟩
 ·obtain⟨m,hn,hl⟩:=I.loc;refine⟨m,ns m hn,λi x v e1 e2 e3=>?_⟩;obtain⟨u,r,l⟩:=hl i x v e1 e2 e3;refine⟨u,r,?_⟩;rcases l with l | ⟨k,c,e,z⟩
  ·exact .inl l
  ·exact .inr ⟨k,c,e,cellK x c e _ z⟩
 ·obtain⟨v,z⟩:=I.cell x c e;exact⟨v,cellK x c e v z⟩
 ·obtain⟨m,⟨o,_,_,ho,_⟩,_⟩:=I.loc;exact free _ o (λz=>(hch _ z).2.1 rfl) ho I.free
 ·obtain⟨v,o,ho,hd⟩:=I.cell x c e;exact free c o (λz=>(hch c z).2.2.1 x c e rfl) ho (I.freeC x c e)
 ·obtain⟨e,n,ne,nf,d⟩:=I.pin p hp;have nch:p.1∉ch:=λz=>(hch p.1 z).2.2.2 p hp rfl;exact⟨keep p.1 p.2 ne nf nch e n,free p.1 p.2 nch e n,ne,nf,d⟩
theorem Inv.un{t':Nat}(I:Inv X pins σ H s)(u:Un X.fs [] H H' s.heap h')(hok:HOk X.prog X.w H' h'):Inv X pins σ H' { s with heap:=h',toks:=t' }:=by
 obtain⟨m,⟨o,es,ep,ho,r⟩,_⟩:=id I.loc;obtain⟨sl,hL⟩:=u.any ho I.free (by simp)
 exact I.step (g':=s.gens) (d':=s.drawn) (ch :=[]) (λ_ z=>nomatch z) (λb o _ hb _ e n=>u.keep b o e n hb (by simp)) (λb o _ hb _ e n=>u.slot b o e n hb (by simp)) (λb o _ e n=>u.free b o e n (by simp)) (λb o _ e=>u.there b o e (by simp)) u.tups u.frzs u.tbls (λm' hm=>by
  obtain⟨o',es',ep',ho',r'⟩:=hm;rw [ho] at ho';cases ho'
  exact⟨_,es',ep',hL,r'⟩) hok I.bare
theorem Inv.call{g':Array GenState}{t':Nat}{d':Drawn}{ch:List Addr}(I:Inv X pins σ H s)(u:Un (frs X.stack) ch H H' s.heap h')(hok:HOk X.prog X.w H' h')(hg:AllBare g')(hch:∀b∈ch,(b∈X.ex\/X.s₀.heap.objs.size<=b)/\b≠X.env.locals/\(∀x c,X.env.cells.lookup x=some c->c≠b) /\ ∀p∈X.pn++pins,p.1≠b):Inv X pins σ H' { s with heap:=h',gens:=g',drawn:=d',toks:=t' }:=by
 obtain⟨m,⟨o,es,ep,ho,r⟩,_⟩:=id I.loc;obtain⟨sl,hL⟩:=u.any ho I.free λz=>(hch _ z).2.1 rfl
 exact I.step (ch:=ch) hch (λb o hL hb hc e n=>u.keep b o e n (λz=>(aN.mp (I.stkSub b z)).elim hL hb) hc) (λb o _ _ hc e n=>u.any e n hc) (λb o hc e n=>u.free b o e n hc) (λb o hc e=>u.there b o e hc) u.tups u.frzs u.tbls (λm' hm=>by
  obtain⟨o',es',ep',ho',r'⟩:=hm;rw [ho] at ho';cases ho'
  exact⟨_,es',ep',hL,r'⟩) hok hg
theorem Inv.turned{t':Nat}{it:Addr}(I:Inv X pins σ H s)(k:∀b o,b≠it->s.heap.get? b=some o->h'.get? b=some o)(hn:H it=none)(hL:it≠X.env.locals)(h1:it∈X.ex\/X.s₀.heap.objs.size<=it)(h2:∀x c,X.env.cells.lookup x=some c->c≠it)(h3:∀p∈X.pn++pins,p.1≠it):Inv X pins σ H { s with heap:=h',toks:=t' }:=by
 have nit:∀b u,H b=some u->b≠it:=λb u e z=>by rw [z,hn] at e;cases e
 refine I.step (g':=s.gens) (d':=s.drawn) (ch :=[it]) (λb hb=>?_) (λb o _ _ hc e _=>k b o (λz=>hc (by simp [z])) e) (λb o _ _ hc e _=>⟨o.slots,k b o (λz=>hc (by simp [z])) e⟩) (λ_ _ _ _ n=>n)
  (λb o hc e=>⟨o,k b o (λz=>hc (by simp [z])) e⟩) (λ_ _ e=>e) (λ_ _ _ e=>e) (λb ps e=>⟨#[],by rw [e];simp⟩) (λm hm=>?_) (λb u e=>?_) I.bare
 ·have e:b=it:=by simpa using hb
  subst e;exact⟨h1,hL,h2,h3⟩
 ·obtain⟨o,es,ep,ho,r⟩:=hm;exact⟨o,es,ep,k _ o (cV hL) ho,r⟩
 ·refine (I.hok b u e).stay (λc v hc q=>k c v ?_ q) (λ_ q=>q) λ_ _ q=>q;rcases hc with z | z
  ·rw [z];exact nit b u e
  ·exact nit c _ z
theorem Inv.tok(I:Inv X pins σ H s)(t:Nat):Inv X pins σ H { s with toks:=t }:=I.un (h':=s.heap) (t':=t) Un.refl I.hok
theorem Inv.kept{t':Nat}(I:Inv X pins σ H s)(k:∀b u,s.heap.get? b=some u->h'.get? b=some u):Inv X pins σ H { s with heap:=h',toks:=t' }:=I.un (Un.kept k) (I.hok.kept k)
theorem Inv.laid{a:Addr}{o:HO}{t':Nat}(I:Inv X pins σ H s)(k:∀b u,s.heap.get? b=some u->h'.get? b=some u)(hp:s.heap.objs.size<=a)(new:ObjOk X.prog X.w (upd H a o) h' a o):Inv X pins σ (upd H a o) { s with heap:=h',toks:=t' }:=I.un (Un.laid k hp (I.hok.fresh hp)) (I.hok.laid k hp new)
theorem Inv.write{x e:Addr}{o:HO}{t':Nat}(I:Inv X pins σ H s)(mu:Mut (H x))(he:e=x\/H e=some (.own x))(k:∀b u,b≠e->s.heap.get? b=some u->h'.get? b=some u)(heo:∃u,h'.get? e=some u)(new:ObjOk X.prog X.w (upd H x o) h' x o):Inv X pins σ (upd H x o) { s with heap:=h',toks:=t' }:=I.un (Un.write mu he k heo) (I.hok.write mu he k heo new)
theorem Inv.pins_of{pins':List (Addr×Obj)}(I:Inv X pins σ H s)(h:∀p∈pins',s.heap.get? p.1=some p.2/\H p.1=none/\p.1≠X.env.locals/\p.1∉X.fs /\ ∀v,p.2.data ≠ .cell v):Inv X pins' σ H s:=⟨I.ok,I.os,I.bare,I.base,I.loc,I.cell,I.free,I.freeC,λp hp=>(aS.mp hp).elim (λz=>I.pin p (bJ _ z)) (h p),I.hok,I.len⟩
theorem qLl{N:List Str}(hN:N.Nodup){i j:Nat}{x:Str}(a:N[i]? = some x)(b:N[j]? = some x):i=j:=by
 obtain⟨h1,e1⟩:=aE.mp a;obtain⟨h2,e2⟩:=aE.mp b;exact (List.getElem_inj hN).mp (e1.trans e2.symm)
theorem qIl{M:Model}{A:Around}{E:Value->Shared->Prop}{i:Nat}{x:Str}{v:V}{u:Value}{Q:Unit->Shared->Prop}(I:Inv X pins σ H s)(hN:X.N.Nodup)(hi:X.N[i]? = some x)(hx:Loc X.env.scope x)(r:RelV v u)(h:∀s',Inv X pins (σ.set i (some v)) H s'->(∃a,Heap.SameBut a s.heap s'.heap/\(a=X.env.locals\/X.env.cells.lookup x=some a))->Q () s')(hf:X.fn x=true\/X.env.scope.names.lookup x=some .local:=by first | exact .inl rfl | exact .inr rfl | assumption):wpAny M A (storeName X.env x u) Q E s:=by
 obtain⟨m,hn,hl⟩:=id I.loc;have hcls:(X.env.scope.kind == .class||(X.env.scope.kind == .module&&X.env.locals != X.env.globals))=false:=by rw [I.ok.kind];rfl
 have hiσ : i < σ.length:=by rw [I.len];exact (aE.mp hi).1
 have cne:=I.cne;have tracked:∀ {a:Addr} {h':Heap},(∃o,s.heap.get? a=some o/\H a=none)->Heap.SameBut a s.heap h'->HOk X.prog X.w H h':=λ{a h'} ha hs b ob e=>by
  obtain⟨_,_,hfree⟩:=ha;refine (I.hok b ob e).stay (λc w' hc q=>(hs.2 c ?_).trans q) (λ_ q=>q) λ_ _ q=>q;rintro rfl;rcases hc with rfl | hc
  ·rw [hfree] at e;cases e
  ·rw [hfree] at hc;cases hc
 rcases hx with hk | hk
 ·refine wpAny_storeName_local hk hn (λh' hn' hs=>?_) hcls;obtain⟨oL,_,_,hoL,_⟩:=id hn;refine h _ ⟨I.ok,I.os,I.bare,⟨λb o e n hb hx=>?_,λb o e n hb hx=>?_,I.base.free,λb o e hx=>?_,I.base.tups,I.base.frzs,I.base.tbls⟩,⟨_,hn',λj y v' e1 e2 e3=>?_⟩,λy c e=>?_,I.free,I.freeC,λp hp=>?_,tracked ⟨oL,hoL,I.free⟩ hs,by simpa using I.len⟩ ⟨_,hs,.inl rfl⟩
  ·exact (hs.2 b (bA (aZ (aM e) I.ok.above))).trans (I.base.keep b o e n hb hx)
  ·obtain⟨sl,e1⟩:=I.base.slot b o e n hb hx;exact⟨sl,(hs.2 b (bA (aZ (aM e) I.ok.above))).trans e1⟩
  ·obtain⟨o',e1⟩:=I.base.there b o e hx;exact⟨o',(hs.2 b (bA (aZ (aM e) I.ok.above))).trans e1⟩
  ·by_cases hj:j=i
   ·subst hj;rw [hi] at e1;cases e1;rw [List.getElem?_set_self hiσ] at e2;cases e2;exact⟨u,r,.inl ⟨hk,by simp⟩⟩
   ·rw [List.getElem?_set_ne (cV hj)] at e2;obtain⟨u',r',q⟩:=hl j y v' e1 e2 e3;refine⟨u',r',?_⟩;rcases q with ⟨k,e⟩ | ⟨k,c,e,z⟩
    ·refine .inl ⟨k,?_⟩;have:y≠x:=λe=>hj (qLl hN e1 (e▸hi));simp [this,e]
    ·exact .inr ⟨k,c,e,z.sameBut hs (cne y c e)⟩
  ·obtain⟨w',z⟩:=I.cell y c e;exact⟨w',z.sameBut hs (cne y c e)⟩
  ·obtain⟨e,n,ne,nf,d⟩:=I.pin p hp;exact⟨(hs.2 p.1 ne).trans e,n,ne,nf,d⟩
 ·have hfn:X.fn x=true:=by
   rcases hf with z | z
   ·exact z
   ·rw [z] at hk;cases hk
  obtain⟨c,hc⟩:=I.ok.has x (.inl hk);obtain⟨w',z⟩:=I.cell x c hc;refine wpAny_storeName_cell I.ok.kind hk hc z (λh' hc' hs=>?_);obtain⟨oc,hoc,hocd⟩:=id z;refine h { s with heap:=h' } ⟨I.ok,I.os,I.bare,⟨λb o e n hb hx=>?_,λb o e n hb hx=>?_,I.base.free,λb o e hx=>?_,I.base.tups,I.base.frzs,I.base.tbls⟩,⟨m,hn.sameBut hs (cV (cne x c hc)),λj y v' e1 e2 e3=>?_⟩,λy c' e=>?_,I.free,I.freeC,λp hp=>?_,tracked ⟨oc,hoc,I.freeC x c hc⟩ hs,by simpa using I.len⟩ ⟨c,hs,.inr hc⟩
  ·exact (hs.2 b (bA (aZ (aM e) (I.ok.cab x c hfn hc)))).trans (I.base.keep b o e n hb hx)
  ·obtain⟨sl,e1⟩:=I.base.slot b o e n hb hx;exact⟨sl,(hs.2 b (bA (aZ (aM e) (I.ok.cab x c hfn hc)))).trans e1⟩
  ·obtain⟨o',e1⟩:=I.base.there b o e hx;exact⟨o',(hs.2 b (bA (aZ (aM e) (I.ok.cab x c hfn hc)))).trans e1⟩
  ·by_cases hj:j=i
   ·subst hj;rw [hi] at e1;cases e1;rw [List.getElem?_set_self hiσ] at e2;cases e2;exact⟨u,r,.inr ⟨.inl hk,c,hc,hc'⟩⟩
   ·rw [List.getElem?_set_ne (cV hj)] at e2;obtain⟨u',r',q⟩:=hl j y v' e1 e2 e3;refine⟨u',r',?_⟩;rcases q with q | ⟨k,c',e,z'⟩
    ·exact .inl q
    ·refine .inr ⟨k,c',e,z'.sameBut hs ?_⟩;rintro rfl;exact hj (qLl hN e1 (I.ok.inj _ _ _ e hc▸hi))
  ·by_cases hcc:c'=c
   ·subst hcc;exact⟨_,hc'⟩
   ·obtain⟨w2,z2⟩:=I.cell y c' e;exact⟨w2,z2.sameBut hs hcc⟩
  ·obtain⟨e,n,ne,nf,d⟩:=I.pin p hp;refine⟨(hs.2 p.1 ?_).trans e,n,ne,nf,d⟩;intro q;rw [q,hoc] at e;have q':oc=p.2:=bG e;exact d w' (by rw [<-q'];exact hocd)
theorem qFe{M:Model}{A:Around}{E:Value->Shared->Prop}{i:Nat}{x:Str}{v:V}{u:Value}{Q:Unit->Shared->Prop}(I:Inv X pins σ H s)(hN:X.N.Nodup)(hi:X.N[i]? = some x)(hx:Loc X.env.scope x)(r:RelV v u)(h:∀s',Inv X pins (σ.set i (some v)) H s'->Q () s')(hf:X.fn x=true\/X.env.scope.names.lookup x=some .local:=by first | exact .inl rfl | exact .inr rfl | assumption):wpAny M A (storeName X.env x u) Q E s:=qIl I hN hi hx r (λs' I' _=>h s' I') hf
theorem Inv.call'{s':Shared}{ch:List Addr}(I:Inv X pins σ H s)(ho:s'.os=s.os)(u:Un (frs X.stack) ch H H' s.heap s'.heap)(hok:HOk X.prog X.w H' s'.heap)(hg:AllBare s'.gens)(hch:∀b∈ch,(b∈X.ex\/X.s₀.heap.objs.size<=b)/\b≠X.env.locals/\(∀x c,X.env.cells.lookup x=some c->c≠b) /\ ∀p∈X.pn++pins,p.1≠b):Inv X pins σ H' s':=by
 obtain⟨h',g',d',t',o'⟩:=s';have e:o'=s.os:=ho;subst e;exact I.call (g':=g') (t':=t') (d':=d') u hok hg hch
end
abbrev XK:=Value->Option Addr->Hp->Prop
abbrev St:=List (Option V)
abbrev VK:=V->Hp->Prop
abbrev TE:=St->Hp->VK->Prop
abbrev TT:=St->Hp->(Bool->Hp->Prop)->Prop
abbrev TA:=St->Hp->(List V->Hp->Prop)->Prop
structure Ends where
 nx:St->Hp->Prop
 rt:VK
 bk:St->Hp->Prop:=λ_ _=>False
 ct:St->Hp->Prop:=λ_ _=>False
abbrev TS:=Ends->St->Hp->Prop
def EP(X:Cx)(pins:List (Addr×Obj))(σ : St)(Q:VK)(u:Value)(s':Shared):Prop := ∃v H',Inv X pins σ H' s'/\RelV v u/\Q v H'
def TP(X:Cx)(pins:List (Addr×Obj))(σ : St)(Q:Bool->Hp->Prop)(b:Bool)(s':Shared):Prop := ∃H',Inv X pins σ H' s'/\Q b H'
def AP(X:Cx)(pins:List (Addr×Obj))(σ : St)(Q:List V->Hp->Prop)(us:List Value)(s':Shared):Prop := ∃vs H',Inv X pins σ H' s'/\Vals vs us/\Q vs H'
def SP(X:Cx)(pins:List (Addr×Obj))(D:Ends)(f:Flow)(s':Shared):Prop :=
 match f with
 | .next => ∃ σ' H',Inv X pins σ' H' s'/\D.nx σ' H'
 | .brk => ∃ σ' H',Inv X pins σ' H' s'/\D.bk σ' H'
 | .cont => ∃ σ' H',Inv X pins σ' H' s'/\D.ct σ' H'
 | .ret u => ∃v σ' H',Inv X pins σ' H' s'/\RelV v u/\D.rt v H'
def PE(X:Cx)(e:Expr)(t:TE):Prop :=
 ∀(pins:List (Addr×Obj)) (s:Shared) (σ : St) (H:Hp) (Q:VK),Inv X pins σ H s->t σ H Q->wpAny (model X.prog X.w) X.A (eval e X.env) (EP X pins σ Q) X.xe s
def PT(X:Cx)(e:Expr)(t:TT):Prop :=
 ∀(pins:List (Addr×Obj)) (s:Shared) (σ : St) (H:Hp) (Q:Bool->Hp->Prop),Inv X pins σ H s->t σ H Q->wpAny (model X.prog X.w) X.A (isTrue e X.env (eval e X.env)) (TP X pins σ Q) X.xe s
def PW(X:Cx)(e:Expr)(t:TT):Prop :=
 ∀(whole:Sem Value) (pins:List (Addr×Obj)) (s:Shared) (σ : St) (H:Hp) (Q:Bool->Hp->Prop),Inv X pins σ H s->t σ H Q->wpAny (model X.prog X.w) X.A (isTrue e X.env whole) (TP X pins σ Q) X.xe s
theorem PW.pt{X:Cx}{e:Expr}{t:TT}(h:PW X e t):PT X e t:=h _
def PA(X:Cx)(es:List Expr)(t:TA):Prop :=
 ∀(pos:Pos) (pins:List (Addr×Obj)) (s:Shared) (σ : St) (H:Hp) (Q:List V->Hp->Prop),Inv X pins σ H s->t σ H Q->wpAny (model X.prog X.w) X.A (spliced (backTo pos (starEach es X.env))) (AP X pins σ Q) X.xe s
def PS(X:Cx)(st:Stmt)(t:TS):Prop :=
 ∀(pins:List (Addr×Obj)) (s:Shared) (σ : St) (H:Hp) (D:Ends),Inv X pins σ H s->t D σ H->wpAny (model X.prog X.w) X.A (exec st X.env) (SP X pins D) X.xe s
def PSs(X:Cx)(st:List Stmt)(t:TS):Prop :=
 ∀(pins:List (Addr×Obj)) (s:Shared) (σ : St) (H:Hp) (D:Ends),Inv X pins σ H s->t D σ H->wpAny (model X.prog X.w) X.A (execs st X.env) (SP X pins D) X.xe s
theorem thn{α : Type}{t:Sem α}{Q Q' : α -> Shared->Prop}{M:Model}{A:Around}{E:Value->Shared->Prop}{s:Shared}(h:wpAny M A t Q E s)(hQ:∀a s,Q a s->Q' a s):wpAny M A t Q' E s:=eX h hQ λ_ _ x=>x
section
variable{X:Cx}
theorem bin{a b:Expr}{ta tb:TE}(ha:PE X a ta)(hb:PE X b tb){pins:List (Addr×Obj)}{s:Shared}{σ : St}{H:Hp}{R:V->V->Hp->Prop}(I:Inv X pins σ H s)(h:ta σ H λx H1=>tb σ H1 λy H2=>R x y H2){α : Type}{Q : α -> Shared->Prop}{f:Value->Value->Sem α}(hf:∀v u s2 x y H2,Inv X pins σ H2 s2->RelV x v->RelV y u->R x y H2->wpAny (model X.prog X.w) X.A (f v u) Q X.xe s2):wpAny (model X.prog X.w) X.A (eval a X.env) (λv s₁ =>wpAny (model X.prog X.w) X.A (eval b X.env) (λu s₂ =>wpAny (model X.prog X.w) X.A (f v u) Q X.xe s₂) X.xe s₁) X.xe s:=by
 refine thn (ha pins s σ H _ I h) λv s1 hq_=>?_;obtain⟨x,H1,I1,r1,q1⟩:=hq_;refine thn (hb pins s1 σ H1 _ I1 q1) λu s2 hq_=>?_;obtain⟨y,H2,I2,r2,q2⟩:=hq_;exact hf v u s2 x y H2 I2 r1 r2 q2
def tVar(i:Nat):TE:=λσ H Q => ∃v,σ[i]? = some (some v)/\Q v H
def tC(v:V):TE:=λ_ H Q=>Q v H
theorem qVc{i:Nat}{x:Str}{pos:Pos}(hN:X.N[i]? = some x)(hv:Vis X.env.scope x)(hd:(x == ("__debug__" : Str))=false:=by decide)(hcd:(x == ("__classdict__" : Str))=false:=by decide):PE X (.Name x pos) (tVar i):=by
 intro pins s σ H Q I h;obtain⟨v,e,h⟩:=h;obtain⟨m,hn,hl⟩:=I.loc;obtain⟨u,r,l⟩:=hl i x v hN e hv;have fin:EP X pins σ Q u s:=⟨v,H,I,r,h⟩;rcases l with ⟨hk,hm⟩ | ⟨hk,c,hc,hcell⟩
 ·exact wpAny_Name (wpAny_loadName_local I.ok.kind hk hn hm fin) hd
 ·rcases hk with hk | hk
  ·exact wpAny_Name (wpAny_loadName_cell I.ok.kind hk hc hcell fin) hd
  ·exact wpAny_Name (wpAny_loadName_free I.ok.kind hk hc hcell fin hcd) hd
theorem pe_int{i j pos}:PE X (.Constant (.int i) j pos) (tC (.int i)):=λ_ _ _ H _ I h=>wpAny_Constant_int ⟨.int i,H,I.tok _,⟨_,rfl⟩,h⟩
theorem pe_bl{b j pos}:PE X (.Constant (.bool b) j pos) (tC (.bl b)):=λ_ _ _ H _ I h=>Constant_bool ⟨.bl b,H,I,rfl,h⟩
theorem pe_non{j pos}:PE X (.Constant .none j pos) (tC .non):=λ_ _ _ H _ I h=>Constant_none ⟨.non,H,I,rfl,h⟩
theorem pe_str{x j pos}:PE X (.Constant (.str x) j pos) (tC (.str x)):=λ_ _ _ H _ I h=>Calls.Constant_str ⟨.str x,H,I.tok _,⟨_,rfl⟩,h⟩
def Gl(X:Cx)(x:Str):Prop:=X.env.kindOf x=some .globalImplicit
theorem qP8{E:Value->Shared->Prop}{pins:List (Addr×Obj)}{s:Shared}{σ : St}{H:Hp}{x:Str}{u:Value}{pos:Pos}{Q:Value->Shared->Prop}(I:Inv X pins σ H s)(hg:Gl X x)(hm:X.mg x=some u)(h:Q u s)
  (hd:(x == ("__debug__" : Str))=false:=by decide):wpAny (model X.prog X.w) X.A (eval (.Name x pos) X.env) Q E s :=
 Calls.Name_function_global I.ok.kind hg (Calls.loadGlobal_global (by rw [I.ok.glob];exact I.mod.glob.keeps I.bk) hm h) hd
theorem qH1{E:Value->Shared->Prop}{pins:List (Addr×Obj)}{s:Shared}{σ : St}{H:Hp}{x:Str}{u:Value}{pos:Pos}{Q:Value->Shared->Prop}(I:Inv X pins σ H s)(hg:Gl X x)(hm:X.mg x=none)(hv:bootBuiltins x=some u)(h:Q u s)
  (hn:x ≠ "__name__" :=by decide) (hd:(x == ("__debug__" : Str))=false:=by decide):wpAny (model X.prog X.w) X.A (eval (.Name x pos) X.env) Q E s:=by
 obtain⟨mb,h1,h2⟩:=I.mod.blt;exact Calls.Name_function_global I.ok.kind hg (Calls.loadGlobal_builtin (by rw [I.ok.glob];exact I.mod.glob.keeps I.bk) hm (by rw [I.ok.blt];exact h1.keeps I.bk) ((h2 x hn).trans hv) h) hd
theorem qEz{x:Str}{v:V}{u:Value}{pos:Pos}(hg:Gl X x)(hm:X.mg x=some u)(r:RelV v u)(hd:(x == ("__debug__" : Str))=false:=by decide):PE X (.Name x pos) (tC v):=λ_ _ _ H _ I h=>qP8 I hg hm ⟨v,H,I,r,h⟩ hd
theorem qAt{x:Str}{v:V}{u:Value}{pos:Pos}(hg:Gl X x)(hm:X.mg x=none)(hv:bootBuiltins x=some u)(r:RelV v u)(hn:x ≠ "__name__" :=by decide)(hd:(x == ("__debug__" : Str))=false:=by decide):PE X (.Name x pos) (tC v):=λ_ _ _ H _ I h=>qH1 I hg hm hv ⟨v,H,I,r,h⟩ hn hd
variable{a b:Expr}{ta tb:TE}{pos:Pos}
def PC(X:Cx)(op:CmpOp)(a b:Expr)(t:TE):Prop :=
 ∀(pins:List (Addr×Obj)) (s:Shared) (σ : St) (H:Hp) (Q:VK),Inv X pins σ H s->t σ H Q ->
  wpAny (model X.prog X.w) X.A (eval a X.env) (λv s₁ =>wpAny (model X.prog X.w) X.A (eval b X.env) (λu s₂ =>wpAny (model X.prog X.w) X.A (compareOp op v u) (EP X pins σ Q) X.xe s₂) X.xe s₁) X.xe s
theorem qRd(b:Expr){op:CmpOp}(h:op ≠ .In)(h2:op ≠ .NotIn):behindInMarks op b=false:=by
 have e1:(op == CmpOp.In)=false:=by cases op <;> first | rfl | exact absurd rfl h
 have e2:(op == CmpOp.NotIn)=false:=by cases op <;> first | rfl | exact absurd rfl h2
 cases b <;> simp [behindInMarks,e1,e2]
def tB(t:TE):TT:=λσ H Q=>t σ H λx H1 => ∃c,x = .bl c/\Q c H1
theorem qSc{op:CmpOp}{t:TE}(h:PC X op a b t)(h1:behindInMarks op b=false:=by first | exact qRd _ (by decide) (by decide) | rfl):PT X (.Compare a [op] [b] pos) (tB t):=by
 intro pins s σ H Q I hw;refine wpAny_isTrue_Compare1 (thn (h pins s σ H _ I hw) λv s1 h1=>thn h1 λu s2 h2=>thn h2 λc s3 hq_=>?_) h1;obtain⟨x,H1,I1,r1,q1⟩:=hq_;obtain⟨d,rfl,q⟩:=q1;cases r1;exact cD ⟨H1,I1,q⟩
variable{tA tB':TT}{rest:List Expr}
def tAnd(t u:TT):TT:=λσ H Q=>t σ H λc H1=>if c=true then u σ H1 Q else Q false H1
def tOr(t u:TT):TT:=λσ H Q=>t σ H λc H1=>if c=true then Q true H1 else u σ H1 Q
def tNot(t:TT):TT:=λσ H Q=>t σ H λc H1=>Q (!c) H1
theorem qFx(ha:PT X a tA):PW X (.BoolOp .And [a] pos) tA:=by
 intro wh pins s σ H Q I h;refine isTrue_and (thn (ha pins s σ H Q I h) λc s1 e=>?_);cases c with
 | true=>exact isTrue_and_nil e
 | false=>exact e
theorem qCp(ha:PT X a tA):PW X (.BoolOp .Or [a] pos) tA:=by
 intro wh pins s σ H Q I h;refine isTrue_or (thn (ha pins s σ H Q I h) λc s1 e=>?_);cases c with
 | false=>exact isTrue_or_nil e
 | true=>exact e
theorem qIp(ha:PT X a tA)(hb:PW X (.BoolOp .And (b::rest) pos) tB'):PW X (.BoolOp .And (a::b::rest) pos) (tAnd tA tB'):=by
 intro wh pins s σ H Q I h;refine isTrue_and (thn (ha pins s σ H _ I h) λc s1 hq_=>?_);obtain⟨H1,I1,q1⟩:=hq_;cases c with
 | true=>exact hb wh pins s1 σ H1 Q I1 q1
 | false=>exact⟨H1,I1,q1⟩
theorem qE2(ha:PT X a tA)(hb:PW X (.BoolOp .Or (b::rest) pos) tB'):PW X (.BoolOp .Or (a::b::rest) pos) (tOr tA tB'):=by
 intro wh pins s σ H Q I h;refine isTrue_or (thn (ha pins s σ H _ I h) λc s1 hq_=>?_);obtain⟨H1,I1,q1⟩:=hq_;cases c with
 | true=>exact⟨H1,I1,q1⟩
 | false=>exact hb wh pins s1 σ H1 Q I1 q1
theorem qB9(ha:PT X a tA):PT X (.UnaryOp .Not a pos) (tNot tA):=by
 intro pins s σ H Q I h;exact isTrue_not (ha pins s σ H (λc H1=>Q (!c) H1) I h)
def tAndV(ta tb:TE):TE:=λσ H Q=>ta σ H λx H1 => ∃c,x = .bl c/\if c=true then tb σ H1 Q else Q (.bl false) H1
def tOrV(ta tb:TE):TE:=λσ H Q=>ta σ H λx H1 => ∃c,x = .bl c/\if c=true then Q (.bl true) H1 else tb σ H1 Q
def tNotV(ta:TE):TE:=λσ H Q=>ta σ H λx H1 => ∃c,x = .bl c/\Q (.bl (!c)) H1
theorem qF5{op}{t:TE}(h:PE X a t):PE X (.BoolOp op [a] pos) t:=λpins s σ H Q I hw=>BoolOp_one (h pins s σ H Q I hw)
theorem qDw(ha:PE X a ta)(hb:PE X (.BoolOp .And (b::rest) pos) tb):PE X (.BoolOp .And (a::b::rest) pos) (tAndV ta tb):=by
 intro pins s σ H Q I h;refine BoolOp_and (thn (ha pins s σ H _ I h) λv s1 hq_=>?_);obtain⟨x,H1,I1,r1,q1⟩:=hq_;obtain⟨c,rfl,q1⟩:=q1;cases r1;refine cD ?_;cases c with
 | true=>exact hb pins s1 σ H1 Q I1 q1
 | false=>exact⟨.bl false,H1,I1,rfl,q1⟩
theorem qWn(ha:PE X a ta)(hb:PE X (.BoolOp .Or (b::rest) pos) tb):PE X (.BoolOp .Or (a::b::rest) pos) (tOrV ta tb):=by
 intro pins s σ H Q I h;refine BoolOp_or (thn (ha pins s σ H _ I h) λv s1 hq_=>?_);obtain⟨x,H1,I1,r1,q1⟩:=hq_;obtain⟨c,rfl,q1⟩:=q1;cases r1;refine cD ?_;cases c with
 | false=>exact hb pins s1 σ H1 Q I1 q1
 | true=>exact⟨.bl true,H1,I1,rfl,q1⟩
theorem qLf(ha:PE X a ta):PE X (.UnaryOp .Not a pos) (tNotV ta):=by
 intro pins s σ H Q I h;refine UnaryOp_ (thn (ha pins s σ H _ I h) λv s1 hq_=>?_);obtain⟨x,H1,I1,r1,q1⟩:=hq_;obtain⟨c,rfl,q1⟩:=q1;cases r1;exact not_of (cD ⟨.bl (!c),H1,I1,rfl,q1⟩)
def tIf(t:TT)(ta tb:TE):TE:=λσ H Q=>t σ H λc H1=>if c=true then ta σ H1 Q else tb σ H1 Q
theorem qCf{c:Expr}(hc:PT X c tA)(ha:PE X a ta)(hb:PE X b tb):PE X (.IfExp c a b pos) (tIf tA ta tb):=by
 intro pins s σ H Q I h;refine wpAny_IfExp (thn (hc pins s σ H _ I h) λd s1 hq_=>?_);obtain⟨H1,I1,q1⟩:=hq_;cases d with
 | true=>exact ha pins s1 σ H1 Q I1 q1
 | false=>exact hb pins s1 σ H1 Q I1 q1
end
def SqL(K:PySem.W.Frag)(H:Hp)(a:Addr)(xs:List V):Prop :=
 Rd H a (.lst xs) \/
  ∃(o:Obj) (its:Array Value) (n:Nat),K.lookup a=some o/\o.cls = .type "list" /\ o.dict=none/\o.data = .seq its n/\its.size<=sizeLine/\Vals xs its.toList
def SqT(K:PySem.W.Frag)(H:Hp)(a:Addr)(xs:List V):Prop :=
 Rd H a (.tup xs) \/
  ∃(o:Obj) (its:Array Value) (n:Nat),K.lookup a=some o/\o.cls = .type "tuple" /\ o.data = .seq its n/\its.size<=sizeLine/\Vals xs its.toList
def absV:Value->Option V
 | .none=>some .non
 | .bool b=>some (.bl b)
 | .int i _=>some (.int i)
 | .str x _=>some (.str x)
 | .bytes b _=>some (.byt b)
 | .float b _=>some (.flt b)
 | .ref a=>some (.ref a)
 | .type n=>some (.ty n)
 | _=>none
theorem RelV.abs{x:V}{u:Value}(r:RelV x u):absV u=some x:=by
 cases x with
 | non=>cases r;rfl
 | bl _=>cases r;rfl
 | int _=>obtain⟨t,rfl⟩:=r;rfl
 | str _=>obtain⟨t,rfl⟩:=r;rfl
 | byt _=>obtain⟨t,rfl⟩:=r;rfl
 | flt _=>obtain⟨t,rfl⟩:=r;rfl
 | ref _=>cases r;rfl
 | ty _=>cases r;rfl
theorem RelV.inj{x y:V}{u:Value}(r:RelV x u)(q:RelV y u):x=y:=bG (r.abs.symm.trans q.abs)
theorem Vals.inj{xs ys:List V}{us:List Value}(h:Vals xs us)(k:Vals ys us):xs=ys:=by
 induction h generalizing ys with
 | nil=>cases k;rfl
 | cons r _ ih=>cases k with | cons r' t'=>rw [r.inj r',ih t']
section
variable{X:Cx}{pins:List (Addr×Obj)}{σ : St}{H:Hp}{s:Shared}{a:Addr}{xs ys:List V}
theorem SqL.of{K:PySem.W.Frag}(h:H a=some (.lst xs)):SqL K H a xs :=.inl (.inl h)
theorem SqT.of{K:PySem.W.Frag}(h:H a=some (.tup xs)):SqT K H a xs :=.inl (.inl h)
theorem Inv.list(I:Inv X pins σ H s)(h:SqL X.K H a xs):∃its:List Value,Vals xs its/\PlainL s.heap a its.toArray/\xs.length<=sizeLine:=by
 rcases h with h | ⟨o,its,n,hk,hc,hd,hs,hz,r⟩
 ·obtain⟨z,its,n,r,e⟩:=h.ok I.hok;exact⟨its,r,⟨_,n,e,rfl,rfl,rfl⟩,z⟩
 ·refine⟨its.toList,r,⟨o,n,I.kIn a o hk,hc,hd,by simpa using hs⟩,?_⟩;have e:=r.length;simp only [bN] at e;lia
theorem Inv.tuple(I:Inv X pins σ H s)(h:SqT X.K H a xs):∃its:List Value,Vals xs its/\IsTup s.heap a its.toArray/\xs.length<=sizeLine:=by
 rcases h with h | ⟨o,its,n,hk,hc,hs,hz,r⟩
 ·obtain⟨z,its,r,p⟩:=h.ok I.hok;exact⟨its,r,p,z⟩
 ·refine⟨its.toList,r,⟨o,I.kIn a o hk,hc,n,by simpa using hs⟩,?_⟩;have e:=r.length;simp only [bN] at e;lia
theorem Inv.list_inj(I:Inv X pins σ H s)(h:SqL X.K H a xs)(h':SqL X.K H a ys):xs=ys:=by
 obtain⟨its,r,⟨o,n,e,_,_,d⟩,_⟩:=I.list h;obtain⟨its',r',⟨o',n',e',_,_,d'⟩,_⟩:=I.list h';rw [e] at e';cases e';rw [d] at d';injection d' with d1 _
 have:its=its':=by simpa using congrArg Array.toList d1
 subst this;exact r.inj r'
theorem Inv.tuple_inj(I:Inv X pins σ H s)(h:SqT X.K H a xs)(h':SqT X.K H a ys):xs=ys:=by
 obtain⟨its,r,⟨o,e,_,n,d⟩,_⟩:=I.tuple h;obtain⟨its',r',⟨o',e',_,n',d'⟩,_⟩:=I.tuple h';rw [e] at e';cases e';rw [d] at d';injection d' with d1 _
 have:its=its':=by simpa using congrArg Array.toList d1
 subst this;exact r.inj r'
end
abbrev Cx.wish(X:Cx)(E:Value->Shared->Prop):Cx :={ X with xe:=E }
abbrev Cx.nox(X:Cx):Cx:=X.wish λ_ _=>False
theorem Cx.Ok.wish{X:Cx}(ok:X.Ok)(E:Value->Shared->Prop):(X.wish E).Ok:=⟨ok.mod,ok.kind,ok.glob,ok.blt,ok.above,ok.inj,ok.has,ok.cab,ok.hd,ok.frames,ok.stk,ok.exf,ok.bs,ok.bsz,ok.noex,ok.exfs,ok.funs,ok.frf⟩
theorem Cx.Ok.unwish{X:Cx}{E:Value->Shared->Prop}(ok:(X.wish E).Ok):X.Ok:=⟨ok.mod,ok.kind,ok.glob,ok.blt,ok.above,ok.inj,ok.has,ok.cab,ok.hd,ok.frames,ok.stk,ok.exf,ok.bs,ok.bsz,ok.noex,ok.exfs,ok.funs,ok.frf⟩
section
variable{X:Cx}{pins:List (Addr×Obj)}{σ : St}{H:Hp}{s:Shared}{E:Value->Shared->Prop}
theorem Inv.wish(I:Inv X pins σ H s)(E:Value->Shared->Prop):Inv (X.wish E) pins σ H s:=⟨I.ok.wish E,I.os,I.bare,I.base,I.loc,I.cell,I.free,I.freeC,I.pin,I.hok,I.len⟩
theorem Inv.unwish(I:Inv (X.wish E) pins σ H s):Inv X pins σ H s:=⟨I.ok.unwish,I.os,I.bare,I.base,I.loc,I.cell,I.free,I.freeC,I.pin,I.hok,I.len⟩
theorem SP.unwish{D:Ends}{f:Flow}{s':Shared}(h:SP (X.wish E) pins D f s'):SP X pins D f s':=by
 cases f with
 | next=>obtain⟨σ',H',I,q⟩:=h;exact⟨σ',H',I.unwish,q⟩
 | brk=>obtain⟨σ',H',I,q⟩:=h;exact⟨σ',H',I.unwish,q⟩
 | cont=>obtain⟨σ',H',I,q⟩:=h;exact⟨σ',H',I.unwish,q⟩
 | ret u=>obtain⟨v,σ',H',I,r,q⟩:=h;exact⟨v,σ',H',I.unwish,r,q⟩
theorem PSs.nox{st:List Stmt}{t:TS}(h:PSs X.nox st t):PSs X st t:=λpins s σ H D I hw =>
 eX (h pins s σ H D (I.wish _) hw) (λ_ _ q=>q.unwish) λ_ _ z=>False.elim z
end
section
variable{X:Cx}{st:Stmt}{rest:List Stmt}{t u:TS}{e:Expr}{te:TE}{pos:Pos}
def tNext:TS:=λD σ H=>D.nx σ H
def tSeq(t u:TS):TS:=λD σ H=>t { D with nx:=u D } σ H
theorem qAf:PSs X [] tNext:=λ_ _ σ H _ I h=>wpAny_execs_nil ⟨σ,H,I,h⟩
theorem qA3(h1:PS X st t)(h2:PSs X rest u):PSs X (st::rest) (tSeq t u):=by
 intro pins s σ H D I h;refine wpAny_execs_cons (thn (h1 pins s σ H { D with nx:=u D } I h) λf s1 q=>?_);cases f with
 | next =>
  obtain⟨σ',H',I',q⟩:=q;exact h2 pins s1 σ' H' D I' q
 | ret v=>exact q
 | brk=>exact q
 | cont=>exact q
theorem qA6(h1:PS X st t):PSs X [st] t:=by
 intro pins s σ H D I h;refine wpAny_execs_cons (thn (h1 pins s σ H D I h) λf s1 q=>?_);cases f with
 | next=>exact wpAny_execs_nil q
 | ret v=>exact q
 | brk=>exact q
 | cont=>exact q
theorem Inv.quiet{pins:List (Addr×Obj)}{σ : St}{H:Hp}{s:Shared}(I:Inv X pins σ H s):interactive X.env=false:=by simp [interactive,I.ok.kind]
def tDrop(te:TE):TS:=λD σ H=>te σ H λ_ H1=>D.nx σ H1
theorem qD7(he:PE X e te)(hs:swapsWith e none pos.line X.env=pure false:=by rfl):PS X (.Expr e pos) (tDrop te):=by
 intro pins s σ H D I h;refine wpAny_Expr_any (thn (he pins s σ H _ I h) λv s1 hq_=>?_) I.quiet hs;obtain⟨x,H1,I1,r1,q1⟩:=hq_;exact⟨σ,H1,I1,q1⟩
def tRet(te:TE):TS:=λD σ H=>te σ H D.rt
theorem qA9(he:PE X e te):PS X (.Return (some e) pos) (tRet te):=by
 intro pins s σ H D I h;refine wpAny_Return_some (thn (he pins s σ H _ I h) λv s1 hq_=>?_);obtain⟨x,H1,I1,r1,q1⟩:=hq_;exact⟨x,σ,H1,I1,r1,q1⟩
def tIfS(c:TT)(t u:TS):TS:=λD σ H=>c σ H λb H1=>if b=true then t D σ H1 else u D σ H1
theorem qBe{c:Expr}{a b:List Stmt}{tc:TT}(hc:PT X c tc)(ha:PSs X a t)(hb:PSs X b u):PS X (.If c a b pos) (tIfS tc t u):=by
 intro pins s σ H D I h;refine wpAny_If (thn (hc pins s σ H _ I h) λd s1 hq_=>?_);obtain⟨H1,I1,q1⟩:=hq_;cases d with
 | true=>exact ha pins s1 σ H1 D I1 q1
 | false=>exact hb pins s1 σ H1 D I1 q1
end
abbrev TG:=V->St->Hp->(St->Hp->Prop)->Prop
abbrev TGs:=List V->St->Hp->(St->Hp->Prop)->Prop
def PG(X:Cx)(target:Expr)(t:TG):Prop :=
 ∀(pins:List (Addr×Obj)) (s:Shared) (σ : St) (H:Hp) (v:V) (u:Value) (Q:St->Hp->Prop),Inv X pins σ H s->RelV v u->t v σ H Q ->
  wpAny (model X.prog X.w) X.A (assign target X.env u) (λ_ s' => ∃ σ' H',Inv X pins σ' H' s'/\Q σ' H') X.xe s
def PGs(X:Cx)(ts:List Expr)(t:TGs):Prop :=
 ∀(pins:List (Addr×Obj)) (s:Shared) (σ : St) (H:Hp) (vs:List V) (us:List Value) (Q:St->Hp->Prop),Inv X pins σ H s->Vals vs us->t vs σ H Q ->
  wpAny (model X.prog X.w) X.A (assignInOrder ((assignEach ts X.env).map (·.2)) us) (λ_ s' => ∃ σ' H',Inv X pins σ' H' s'/\Q σ' H') X.xe s
abbrev TSet:=V->V->V->Hp->(Hp->Prop)->Prop
def PSet(X:Cx)(t:TSet):Prop :=
 ∀(pins:List (Addr×Obj)) (s:Shared) (σ : St) (H:Hp) (o i v:V) (ov iv u:Value) (Q:Hp->Prop),Inv X pins σ H s->RelV o ov->RelV i iv->RelV v u->t o i v H Q ->
  wpAny (model X.prog X.w) X.A (setItem ov iv u) (λ_ s' => ∃H',Inv X pins σ H' s'/\Q H') X.xe s
section
variable{X:Cx}{pos:Pos}
def gName(i:Nat):TG:=λv σ H Q=>Q (σ.set i (some v)) H
theorem qAj{i:Nat}{x:Str}(hN:X.N.Nodup)(hi:X.N[i]? = some x)(hx:Loc X.env.scope x)(hf:X.fn x=true\/X.env.scope.names.lookup x=some .local:=by first | exact .inl rfl | exact .inr rfl | assumption):PG X (.Name x pos) (gName i):=by
 intro pins s σ H v u Q I r h;exact wpAny_assign_Name (qFe I hN hi hx r (λs' I'=>⟨_,H,I',h⟩) hf)
def gNil:TGs:=λvs σ H Q=>vs = []/\Q σ H
def gCons(t:TG)(u:TGs):TGs:=λvs σ H Q => ∃v r,vs=v::r/\t v σ H λσ' H'=>u r σ' H' Q
theorem qG0:PGs X [] gNil:=by
 intro pins s σ H vs us Q I r h;obtain⟨e,h⟩:=h;subst e;cases r;exact assignInOrder_nil ⟨σ,H,I,h⟩
theorem qC5{e:Expr}{es:List Expr}{t:TG}{u:TGs}(h1:PG X e t)(h2:PGs X es u)(hs:(assignEach (e::es) X.env).map (·.2)=assign e X.env::(assignEach es X.env).map (·.2):=by rfl):PGs X (e::es) (gCons t u):=by
 intro pins s σ H vs us Q I r h;obtain⟨v,vr,e1,h⟩:=h;subst e1;cases r with
 | cons r rr =>
  rw [hs];refine assignInOrder_cons (thn (h1 pins s σ H _ _ _ I r h) λ_ s1 hq_=>?_);obtain⟨σ1,H1,I1,q1⟩:=hq_;exact h2 pins s1 σ1 H1 _ _ Q I1 rr q1
def gTup(K:PySem.W.Frag)(n:Nat)(t:TGs):TG:=λv σ H Q => ∃a xs,v = .ref a/\SqT K H a xs/\xs.length=n/\t xs σ H Q
theorem qSd{es:List Expr}{k:Nat}{t:TGs}{n:Nat}(hc:X.calm=true)(h:PGs X es t)(hn:(assignEach es X.env).length=n:=by rfl)(hst:(assignEach es X.env).findIdx? (·.1)=none:=by rfl):PG X (.Tuple es k pos) (gTup X.K n t):=by
 intro pins s σ H v u Q I r hw;obtain⟨a,xs,e1,hq,hl,hw⟩:=hw;subst e1;cases r;obtain⟨its,rv,ht,hz⟩:=I.tuple hq;refine assign_Tuple_tuple (I.ok.hd hc) ht (by simp [hn,<-hl,rv.length]) hst λh' hx=>?_;have I1:Inv X pins σ H { s with heap:=h' }:=I.kept (t':=s.toks) λb o e=>hx b o (bA (aM e)) e;exact h pins _ σ H xs _ Q I1 (by simpa using rv) hw
def gSub(to ti:TE)(t:TSet):TG:=λv σ H Q=>to σ H λo H1=>ti σ H1 λi H2=>t o i v H2 λH3=>Q σ H3
theorem qO6{o i:Expr}{to ti:TE}{t:TSet}(ho:PE X o to)(hi:PE X i ti)(hs:PSet X t)(ha:∀v,assign (.Subscript o i pos) X.env v=(do
   let ov <-holding [v] (eval o X.env)
   let iv <-holding [v,ov] (eval i X.env)
   standAt pos
   holding [v,ov,iv] (setItem ov iv v)
   release [v,ov,iv] []):=by intro _;rfl):PG X (.Subscript o i pos) (gSub to ti t):=by
 intro pins s σ H v u Q I r h;rw [ha];refine aA (bK (thn (ho pins s σ H _ I h) λov s1 hq_=>?_));obtain⟨x,H1,I1,r1,q1⟩:=hq_;refine aA (bK (thn (hi pins s1 σ H1 _ I1 q1) λiv s2 hq_=>?_));obtain⟨y,H2,I2,r2,q2⟩:=hq_;refine aA (dE (aA (bK (thn (hs pins s2 σ H2 x y v ov iv u _ I2 r1 r2 r q2) λ_ s3 hq_=>?_))));obtain⟨H3,I3,q3⟩:=hq_;exact wpAny_release ⟨σ,H3,I3,q3⟩
def tAsg(te:TE)(g:TG):TS:=λD σ H=>te σ H λx H1=>g x σ H1 D.nx
theorem qIq{tg e:Expr}{te:TE}{g:TG}(he:PE X e te)(hg:PG X tg g)(hs:swapsWithSole [tg] e pos.line X.env=pure false:=by rfl)(hw:swappedStores [tg] e X.env=pure none:=by rfl)(h1:(assignEach [tg] X.env).map (·.2) = [assign tg X.env]:=by rfl):PS X (.Assign [tg] e pos) (tAsg te g):=by
 intro pins s σ H D I h;refine wpAny_Assign_stores (thn (he pins s σ H _ I h) λv s1 hq_=>?_) hs hw;obtain⟨x,H1,I1,r1,q1⟩:=hq_;rw [h1];exact thn (hg pins s1 σ H1 x v _ I1 r1 q1) λ_ s2 q=>q
theorem qAo{i:Nat}{x:Str}{e:Expr}{te:TE}{pos':Pos}(hN:X.N.Nodup)(hi:X.N[i]? = some x)(hx:Loc X.env.scope x)(he:PE X e te)(hs:swapsWith e (some (.Name x pos')) pos.line X.env=pure false:=by rfl)(hf:X.fn x=true\/X.env.scope.names.lookup x=some .local:=by first | exact .inl rfl | exact .inr rfl | assumption):PS X (.Assign [.Name x pos'] e pos) (tAsg te (gName i)):=by
 intro pins s σ H D I h;refine wpAny_Assign_Name (thn (he pins s σ H _ I h) λv s1 hq_=>?_) hs;obtain⟨y,H1,I1,r1,q1⟩:=hq_;exact qFe I1 hN hi hx r1 (λs2 I2=>⟨_,H1,I2,q1⟩) hf
def tPar(i j:Nat)(ta:TA):TS:=λD σ H=>ta σ H λvs H1 => ∃v w,vs = [v,w]/\D.nx ((σ.set i (some v)).set j (some w)) H1
theorem qEb{i j:Nat}{x y:Str}{a b:Expr}{ta:TA}{px py pt:Pos}{kt k2 pt2}(hc:X.calm=true)(hN:X.N.Nodup)(hi:X.N[i]? = some x)(hj:X.N[j]? = some y)(hij:i≠j)(hx:X.env.scope.names.lookup x=some .local)(hy:X.env.scope.names.lookup y=some .local)(ha:PA X [a,b] ta)(hw:swappedStores [.Tuple [.Name x px,.Name y py] kt pt] (.Tuple [a,b] k2 pt2) X.env=pure (some [x,y]))(hs:swapsWithSole [.Tuple [.Name x px,.Name y py] kt pt] (.Tuple [a,b] k2 pt2) pos.line X.env=pure false:=by rfl):PS X (.Assign [.Tuple [.Name x px,.Name y py] kt pt] (.Tuple [a,b] k2 pt2) pos) (tPar i j ta):=by
 intro pins s σ H D I h;rw [exec_Assign_arm];refine aA (dE ?_);rw [hs];refine aA (aB ?_);rw [if_neg (by decide)];refine aA (Tuple_ (thn (ha _ pins s σ H _ I h) λus s1 hq_=>?_));obtain⟨vs,H1,I1,r1,q1⟩:=hq_;obtain⟨v,w,e1,q1⟩:=q1;subst e1;obtain⟨u1,u2,rfl,rv,rw'⟩:∃u1 u2,us = [u1,u2]/\RelV v u1/\RelV w u2:=by
  cases r1 with
  | cons p q =>
   cases q with
   | cons p' q' =>
    cases q';exact⟨_,_,rfl,p,p'⟩
 refine bU ?_ (by show 2<=sizeLine;decide);have I2:Inv X pins σ H1 { s1 with heap:=s1.heap.push { cls :=.type "tuple",data :=.seq [u1,u2].toArray } }:=I1.kept (t':=s1.toks) λb o e=>aF _ e;rw [hw];refine aA (aB ?_);show wpAny (model X.prog X.w) X.A (do rule "assign.swapped-stores";let items <-unpackItems (.ref s1.heap.objs.size) 2 none;assignInOrder [λv=>bindName X.env y v,λv=>bindName X.env x v] items.reverse;pure Flow.next) _ _ _;refine aA (dJ (aA (unpackItems_tuple (items := #[u1,u2]) (I.ok.hd hc) (IsTup.new s1.heap _) λh' hx'=>?_)));have I3:=I2.kept (h':=h') (t':=s1.toks) λb o e=>hx' b o (bA (aM e)) e
 show wpAny _ _ (assignInOrder [λv=>bindName X.env y v,λv=>bindName X.env x v] [u2,u1] >>= λ_=>pure Flow.next) _ _ _;refine aA (assignInOrder_cons (wpAny_bindName (qFe I3 hN hj (.inl hy) rw' (λs2 I4=>?_) (.inr hy))));refine assignInOrder_cons (wpAny_bindName (qFe I4 hN hi (.inl hx) rv (λs3 I5=>assignInOrder_nil (aB ?_)) (.inr hx)));rw [List.set_comm _ _ (cV hij)] at I5;exact⟨_,H1,I5,q1⟩
end
section
variable{X:Cx}{pos:Pos}
def qUn(c:TT)(tb:TS):TS:=λD σ H => ∃W:Nat->St->Hp->Prop,(∃m,W m σ H) /\ ∀m σ H,W m σ H ->
 c σ H λb H1=>if b=true then ∃N:St->Hp->Prop,(∀ σ' H',N σ' H' -> ∃m',m'<m/\W m' σ' H')/\tb { D with nx:=N,ct:=N,bk:=D.nx } σ H1 else D.nx σ H1
theorem qQv{c:Expr}{body:List Stmt}{tc:TT}{tb:TS}(hp:PassesOwn (model X.prog X.w) X.A X.env X.xe)(hc:PT X c tc)(hb:PSs X body tb):PS X (.While c body [] pos) (qUn tc tb):=by
 intro pins s σ H D I h;obtain⟨W,⟨m0,w0⟩,turn⟩:=h;refine wpAny_While (codeAny_whileLoop (λn s' => ∃ σ' H',Inv X pins σ' H' s'/\W n σ' H') ?_ m0 ⟨σ,H,I,w0⟩);rintro n s1 ⟨σ1,H1,I1,w1⟩;refine dM hp (thn (hc pins s1 σ1 H1 _ I1 (turn n σ1 H1 w1)) λb s2 hq_=>?_);obtain⟨H2,I2,q2⟩:=hq_;cases b with
 | true =>
  obtain⟨N,hN,q2⟩:=q2;rw [if_pos rfl];refine dM hp (thn (hb pins s2 σ1 H2 _ I2 q2) λf s3 q3=>?_);cases f with
  | next =>
   obtain⟨σ3,H3,I3,n3⟩:=q3;obtain⟨m',hm,w3⟩:=hN σ3 H3 n3;exact⟨m',hm,σ3,H3,I3,w3⟩
  | cont =>
   obtain⟨σ3,H3,I3,n3⟩:=q3;obtain⟨m',hm,w3⟩:=hN σ3 H3 n3;exact⟨m',hm,σ3,H3,I3,w3⟩
  | brk=>exact q3
  | ret v=>exact q3
 | false =>
  rw [if_neg aQ];exact wpAny_execs_nil ⟨σ1,H2,I2,q2⟩
end
structure It where
 go:Nat->Hp->Prop
 yld:Nat->Hp->V->Hp->Prop
 stop:Nat->Hp->Prop
def FpOk(X:Cx)(pins:List (Addr×Obj))(H:Hp)(b:Addr):Prop:=H b=none/\b≠X.env.locals/\b∉X.fs/\(b∈X.ex\/X.s₀.heap.objs.size<=b)/\(∀x c,X.env.cells.lookup x=some c->c≠b) /\ ∀p∈X.pn++pins,p.1≠b
theorem Inv.fpOk{X:Cx}{pins:List (Addr×Obj)}{σ : St}{H H':Hp}{s:Shared}{b:Addr}(I:Inv X pins σ H s)(hb:s.heap.objs.size<=b)(hn:H' b=none):FpOk X pins H' b:=by
 refine⟨hn,eM (aZ I.lt hb),I.nofs hb,.inr (bC I.sz hb),λx c e z=>?_,λp hp z=>?_⟩
 ·obtain⟨v,q⟩:=I.cell x c e;exact absurd (aZ q.lt (by rw [z];exact hb)) (eQ _)
 ·exact absurd (aZ (aM (I.pin p hp).1) (by rw [z];exact hb)) (eQ _)
structure Turn(P:Program)(w:World)(K:PySem.W.Frag)(tg:Expr)(J:It)(fp:List Addr)(it:Addr)(tn:Nat->Heap->Prop):Prop where
 mem:it∈fp
 obj:∀i h,tn i h -> ∀b∈fp,∃o,h.get? b=some o /\ ∀v,o.data ≠ .cell v
 keep:∀i h h',tn i h->(∀b∈fp,∀o,h.get? b=some o->h'.get? b=some o)->tn i h'
 item:∀(X:Cx),X.prog=P->X.w=w->X.K=K->X.calm=true -> ∀(i:Nat) (pins:List (Addr×Obj)) (s:Shared) (σ : St) (H:Hp) (E:Value->Shared->Prop),Inv X pins σ H s->(∀b∈fp,FpOk X pins H b)->tn i s.heap->J.go i H ->
  wpAny (model P w) X.A (pyNext (.ref it)) (λr s1 => ∃u,r=some u /\
   wpAny (model P w) X.A (letOwnedTupleGo tg (.ref it) u) (λ_ s2 => ∃x H',Inv X pins σ H' s2/\RelV x u/\J.yld i H x H'/\tn (i+1) s2.heap /\ ∀b∈fp,H' b=none) E s1) E s
 done:∀(X:Cx),X.prog=P->X.w=w->X.K=K->X.calm=true -> ∀(i:Nat) (pins:List (Addr×Obj)) (s:Shared) (σ : St) (H:Hp) (E:Value->Shared->Prop),Inv X pins σ H s->(∀b∈fp,FpOk X pins H b)->tn i s.heap->J.stop i H ->
  wpAny (model P w) X.A (pyNext (.ref it)) (λr s1=>r=none/\Inv X pins σ H s1) E s
 self:∀(A:Around) (i:Nat) (s:Shared) (Q:Value->Shared->Prop) (E:Value->Shared->Prop),tn i s.heap->Q (.ref it) s->wpAny (model P w) A (pyIter (.ref it)) Q E s
abbrev TI:=St->Hp->(It->Hp->Prop)->Prop
def PIE(X:Cx)(pins:List (Addr×Obj))(σ : St)(tg:Expr)(R:It->Hp->Prop)(itv:Value)(s2:Shared):Prop :=
 ∃(it:Addr) (fp:List Addr) (tn:Nat->Heap->Prop) (J:It) (H':Hp),itv = .ref it/\Inv X pins σ H' s2/\Turn X.prog X.w X.K tg J fp it tn/\tn 0 s2.heap/\(∀b∈fp,FpOk X pins H' b)/\R J H'
def PI(X:Cx)(tg iter:Expr)(wi:TI):Prop :=
 ∀(pins:List (Addr×Obj)) (s:Shared) (σ : St) (H:Hp) (R:It->Hp->Prop),Inv X pins σ H s->wi σ H R ->
  wpAny (model X.prog X.w) X.A (eval iter X.env) (λv s1=>wpAny (model X.prog X.w) X.A (pyIter v) (PIE X pins σ tg R) X.xe s1) X.xe s
theorem qU6{M:Model}{A:Around}{E:Value->Shared->Prop}{s:Shared}{tg:Expr}{it:Addr}{u:Value}{o:Obj}{n:String}{vs:Array Value}{Q:Unit->Shared->Prop}(ho:s.heap.get? it=some o)(hc:o.cls = .type n)(hd:o.data = .fields vs)
  (hn : ["enumerate","zip","dict_itemiterator","dict_reverseitemiterator","odict_iterator","itertools.zip_longest","itertools.pairwise"].contains n=false) (hQ:Q () s):wpAny M A (letOwnedTupleGo tg (.ref it) u) Q E s:=by
 unfold letOwnedTupleGo;cases tg <;> first
  | exact aB hQ
  | (cases u <;> first
    | exact aB hQ
    | (refine aA (wpAny_load ho ?_)
       rw [hc,hd];show wpAny M A (if (["enumerate","zip","dict_itemiterator","dict_reverseitemiterator","odict_iterator","itertools.zip_longest","itertools.pairwise"].contains n&&vs[0]? == some (rawInt _))=true then _ else _) Q E s;rw [if_neg (by intro h;rw [hn,bP] at h;cases h)]
       exact aB hQ))
def Itl(K:PySem.W.Frag)(a:Addr):It:=⟨λi H => ∃xs x,SqL K H a xs/\xs[i]? = some x,λi H x H'=>H'=H /\ ∀xs,SqL K H a xs->xs[i]? = some x,λi H => ∃xs,SqL K H a xs/\xs.length<=i⟩
def Itt(K:PySem.W.Frag)(a:Addr):It:=⟨λi H => ∃xs x,SqT K H a xs/\xs[i]? = some x,λi H x H'=>H'=H /\ ∀xs,SqT K H a xs->xs[i]? = some x,λi H => ∃xs,SqT K H a xs/\xs.length<=i⟩
def Itr(lo:Int)(n:Nat):It:=⟨λi _=>i<n,λi H x H'=>H'=H/\x = .int (lo+i),λi _=>n<=i⟩
theorem qN0{P:Program}{w:World}{K:PySem.W.Frag}{tg:Expr}(a it:Addr):Turn P w K tg (Itl K a) [it] it (λi h=>h.IsListIter it a i) where
 mem:=by simp
 obj:=λi h st b hb=>by
  have e:b=it:=by simpa using hb
  subst e;obtain⟨o,e,c,d⟩:=st;exact⟨o,e,λv z=>by rw [d] at z;cases z⟩
 keep:=λi h h' st k=>st.at λo e=>k it (by simp) o e
 item:=by
  intro X hP hw hK hc i pins s σ H E I hf st hg;subst hP hw hK;obtain⟨xs,x,hq,hx⟩:=hg;obtain⟨its,rv,p,hz⟩:=I.list hq;obtain⟨u,hu,ru⟩:=rv.get hx;obtain⟨f0,f1,f2,f3,f4,f5⟩:=hf it (by simp);refine wpAny_pyNext_list_item st p.isList (x:=u) (by simpa using hu) λh' st' sb=>?_;have I1:Inv X pins σ H { s with heap:=h' }:=I.turned (t':=s.toks) (λb o hb e=>(sb.2 b hb).trans e) f0 f1 f3 f4 f5;obtain⟨o,e,c,d⟩:=id st';exact⟨u,rfl,qU6 (s :={ s with heap:=h' }) e c d (by decide) ⟨x,H,I1,ru,⟨rfl,λys hy=>by rw [I.list_inj hy hq];exact hx⟩,st',λb hb=>(hf b hb).1⟩⟩
 done:=by
  intro X hP hw hK hc i pins s σ H E I hf st hg;subst hP hw hK;obtain⟨xs,hq,hx⟩:=hg;obtain⟨its,rv,p,hz⟩:=I.list hq;obtain⟨f0,f1,f2,f3,f4,f5⟩:=hf it (by simp);have hl:=rv.length;exact wpAny_pyNext_list_end (I.ok.hd hc) st p.isList (by simp;lia) λh' eb=>⟨rfl,I.turned (t':=s.toks) (λb o hb e=>eb b o hb e) f0 f1 f3 f4 f5⟩
 self:=λ_ _ _ _ _ st h=>wpAny_pyIter_listiter st h
theorem qM0{P:Program}{w:World}{K:PySem.W.Frag}{tg:Expr}(a it:Addr):Turn P w K tg (Itt K a) [it] it (λi h=>h.IsTupleIter it a i) where
 mem:=by simp
 obj:=λi h st b hb=>by
  have e:b=it:=by simpa using hb
  subst e;obtain⟨o,e,c,d⟩:=st;exact⟨o,e,λv z=>by rw [d] at z;cases z⟩
 keep:=λi h h' st k=>st.at λo e=>k it (by simp) o e
 item:=by
  intro X hP hw hK hc i pins s σ H E I hf st hg;subst hP hw hK;obtain⟨xs,x,hq,hx⟩:=hg;obtain⟨its,rv,p,hz⟩:=I.tuple hq;obtain⟨u,hu,ru⟩:=rv.get hx;obtain⟨f0,f1,f2,f3,f4,f5⟩:=hf it (by simp);refine wpAny_pyNext_tuple_item st (show s.heap.IsTuple a its.toArray from p) (x:=u) (by simpa using hu) λh' st' sb=>?_;have I1:Inv X pins σ H { s with heap:=h' }:=I.turned (t':=s.toks) (λb o hb e=>(sb.2 b hb).trans e) f0 f1 f3 f4 f5;obtain⟨o,e,c,d⟩:=id st';exact⟨u,rfl,qU6 (s :={ s with heap:=h' }) e c d (by decide) ⟨x,H,I1,ru,⟨rfl,λys hy=>by rw [I.tuple_inj hy hq];exact hx⟩,st',λb hb=>(hf b hb).1⟩⟩
 done:=by
  intro X hP hw hK hc i pins s σ H E I hf st hg;subst hP hw hK;obtain⟨xs,hq,hx⟩:=hg;obtain⟨its,rv,p,hz⟩:=I.tuple hq;obtain⟨f0,f1,f2,f3,f4,f5⟩:=hf it (by simp);have hl:=rv.length;exact wpAny_pyNext_tuple_end (I.ok.hd hc) st (show s.heap.IsTuple a its.toArray from p) (by simp;lia) λh' eb=>⟨rfl,I.turned (t':=s.toks) (λb o hb e=>eb b o hb e) f0 f1 f3 f4 f5⟩
 self:=λ_ _ _ _ _ st h=>wpAny_pyIter_tupleiter st h
theorem qM1{P:Program}{w:World}{K:PySem.W.Frag}{tg:Expr}(it:Addr)(lo:Int)(n:Nat):Turn P w K tg (Itr lo n) [it] it (λi h=>IsRangeIter h it (lo+(i:Nat)*1) ((n:Int) - (i:Nat)) 1) where
 mem:=by simp
 obj:=λi h st b hb=>by
  have e:b=it:=by simpa using hb
  subst e
  exact⟨_,st,λv z=>by
   have z':Data.fields _=Data.cell v:=z
   cases z'⟩
 keep:=λi h h' st k=>k it (by simp) _ st
 item:=by
  intro X hP hw hK hc i pins s σ H E I hf st hg;subst hP hw hK;obtain⟨f0,f1,f2,f3,f4,f5⟩:=hf it (by simp);have W:=Walks.range (prog:=X.prog) (w:=X.w) (I.ok.hd hc) it lo 1 n;refine W.item i s _ _ hg st λv h' tk hv st' kk=>?_;obtain⟨t,rfl⟩:=hv;have I1:Inv X pins σ H { s with heap:=h',toks:=tk }:=I.turned (λb o hb e=>kk b o (by simpa using hb) e) f0 f1 f3 f4 f5;refine⟨_,rfl,qU6 (s :={ s with heap:=h',toks:=tk }) (n := "range_iterator") st' rfl rfl (by decide) ⟨.int (lo+i),H,I1,⟨t,?_⟩,⟨rfl,rfl⟩,st',λb hb=>(hf b hb).1⟩⟩;rw [Int.mul_one]
 done:=by
  intro X hP hw hK hc i pins s σ H E I hf st hg;subst hP hw hK;obtain⟨f0,f1,f2,f3,f4,f5⟩:=hf it (by simp);exact wpAny_pyNext_range_end (I.ok.hd hc) st (by have:n<=i:=hg;lia) λh' eb=>⟨rfl,I.turned (t':=s.toks) (λb o hb e=>eb b o hb e) f0 f1 f3 f4 f5⟩
 self:=λ_ _ _ _ _ st h=>wpAny_pyIter_rangeiter st h
section
variable{X:Cx}{tg:Expr}
def iList(K:PySem.W.Frag)(tl:TE):TI:=λσ H R=>tl σ H λx H1 => ∃a,x = .ref a/\(∃xs,SqL K H1 a xs)/\R (Itl K a) H1
def iTup(K:PySem.W.Frag)(tl:TE):TI:=λσ H R=>tl σ H λx H1 => ∃a,x = .ref a/\(∃xs,SqT K H1 a xs)/\R (Itt K a) H1
theorem qCb{l:Expr}{tl:TE}(hl:PE X l tl):PI X tg l (iList X.K tl):=by
 intro pins s σ H R I h;refine thn (hl pins s σ H _ I h) λv s1 hq_=>?_;obtain⟨x,H1,I1,r1,q1⟩:=hq_;obtain⟨a,e,⟨xs,hq⟩,q⟩:=q1;subst e;cases r1;obtain⟨its,rv,p,hz⟩:=I1.list hq;refine dP p.isList ?_;refine⟨s1.heap.objs.size,[s1.heap.objs.size],_,_,H1,rfl,I1.kept (t':=s1.toks) λb o e=>aF _ e,qN0 a _,⟨_,aR _ rfl,rfl,rfl⟩,λb hb=>?_,q⟩;have e:b=s1.heap.objs.size:=by simpa using hb
 subst e;exact I1.fpOk (aD _) (I1.hok.fresh (aD _))
theorem qFz{l:Expr}{tl:TE}(hl:PE X l tl):PI X tg l (iTup X.K tl):=by
 intro pins s σ H R I h;refine thn (hl pins s σ H _ I h) λv s1 hq_=>?_;obtain⟨x,H1,I1,r1,q1⟩:=hq_;obtain⟨a,e,⟨xs,hq⟩,q⟩:=q1;subst e;cases r1;obtain⟨its,rv,p,hz⟩:=I1.tuple hq;refine wpAny_pyIter_tuple (show s1.heap.IsTuple a its.toArray from p) ?_;refine⟨s1.heap.objs.size,[s1.heap.objs.size],_,_,H1,rfl,I1.kept (t':=s1.toks) λb o e=>aF _ e,qM0 a _,⟨_,aR _ rfl,rfl,rfl⟩,λb hb=>?_,q⟩;have e:b=s1.heap.objs.size:=by simpa using hb
 subst e;exact I1.fpOk (aD _) (I1.hok.fresh (aD _))
theorem qQq{pins:List (Addr×Obj)}{σ : St}{H:Hp}{s:Shared}{R:It->Hp->Prop}{E:Value->Shared->Prop}{lo hi:Int}{t u v:Tok}{tk:Nat}(I:Inv X pins σ H s)(h1 : -(2^62)<=lo)(h2:lo<2^62)(h3 : -(2^62)<=hi)(h4:hi<2^62)
  (q:R (Itr lo (hi - lo).toNat) H):wpAny (model X.prog X.w) X.A (pyIter (.ref s.heap.objs.size)) (PIE X pins σ tg R) E { s with heap:=s.heap.push { cls :=.type "range",data :=.fields #[.int lo t,.int hi u,.int 1 v] },toks:=tk }:=by
 refine wpAny_pyIter_range (IsRange.new ..) (small_one h1 h2 h3 h4) ?_;have I1:Inv X pins σ H { s with heap:=s.heap.push { cls :=.type "range",data :=.fields #[.int lo t,.int hi u,.int 1 v] },toks:=tk }:=I.kept λb o e=>aF _ e
 refine⟨(s.heap.push { cls :=.type "range",data :=.fields #[.int lo t,.int hi u,.int 1 v] }).objs.size,[(s.heap.push { cls :=.type "range",data :=.fields #[.int lo t,.int hi u,.int 1 v] }).objs.size],_,_,H,rfl,
  I1.kept (t':=tk) λb o e=>aF _ e,qM1 _ lo (hi - lo).toNat,?_,λb hb=>?_,q⟩
 ·have e1:lo+((0:Nat):Int)*1=lo:=by simp
  have e2:(((hi - lo).toNat:Nat):Int) - ((0:Nat):Int)=Builtin.Range.rangeSize lo hi 1:=by rw [rangeSize_one];split <;> lia
  show IsRangeIter _ _ (lo+((0:Nat):Int)*1) ((((hi - lo).toNat:Nat):Int) - ((0:Nat):Int)) 1;rw [e1,e2];exact aR _ rfl
 ·have e:b=(s.heap.push { cls :=.type "range",data :=.fields #[.int lo t,.int hi u,.int 1 v] }).objs.size:=by simpa using hb
  subst e;exact I1.fpOk (aD _) (I1.hok.fresh (aD _))
def iRng1(ta:TA):TI:=λσ H R=>ta σ H λvs H1 => ∃j:Int,vs = [.int j] /\ -(2^62)<=j/\j<2^62/\R (Itr 0 j.toNat) H1
theorem qBv{a:Expr}{ta:TA}{p pos:Pos}(hg:Gl X "range")(hm:X.mg "range" = none)(ha:PA X [a] ta)(hs:starEach [a] X.env = [(false,eval a X.env)]:=by rfl):PI X tg (.Call (.Name "range" p) [a] [] pos) (iRng1 ta):=by
 intro pins s σ H R I h;refine Call_ (qH1 I hg hm boot_range (cX (thn (ha pos pins s σ H _ I h) λus s1 hq_=>?_) hs rfl));obtain⟨vs,H1,I1,r1,q1⟩:=hq_;obtain⟨j,e,q1,q2,q⟩:=q1;subst e;cases r1 with
 | cons r rr =>
  cases rr;obtain⟨t,rfl⟩:=r;exact call_range_1 (qQq I1 (by lia) (by lia) q1 q2 (by simpa using q))
def tFor(wi:TI)(g:TG)(tb:TS):TS:=λD σ H=>wi σ H λJ H1 => ∃W:Nat->Nat->St->Hp->Prop,(∃m,W 0 m σ H1) /\ ∀i m σ H,W i m σ H ->
 (J.stop i H/\D.nx σ H)\/(J.go i H /\ ∃N:St->Hp->Prop,(∀ σ' H',N σ' H' -> ∃m',m'<m/\W (i+1) m' σ' H') /\ ∀x H',J.yld i H x H'->g x σ H' λσ2 H2=>tb { D with nx:=N,ct:=N,bk:=D.nx } σ2 H2)
def qIs(fp:List Addr)(h:Heap):List (Addr×Obj):=fp.filterMap λb=>(h.get? b).map λo=>(b,o)
theorem qDs{fp:List Addr}{h:Heap}{b:Addr}{o:Obj}(hb:b∈fp)(e:h.get? b=some o):(b,o)∈qIs fp h:=List.mem_filterMap.mpr ⟨b,hb,by rw [e];rfl⟩
theorem qOv{fp:List Addr}{h:Heap}{p:Addr×Obj}(hp:p∈qIs fp h):p.1∈fp/\h.get? p.1=some p.2:=by
 obtain⟨b,hb,e⟩:=List.mem_filterMap.mp hp;cases q:h.get? b with
 | none=>rw [q] at e;cases e
 | some o =>
  rw [q] at e;have e':(b,o)=p:=bG e;subst e';exact⟨hb,q⟩
theorem Inv.pinned{pins:List (Addr×Obj)}{σ : St}{H:Hp}{s:Shared}{fp:List Addr}(I:Inv X pins σ H s)(hf:∀b∈fp,FpOk X pins H b)(ho:∀b∈fp,∃o,s.heap.get? b=some o /\ ∀v,o.data ≠ .cell v):Inv X (pins++qIs fp s.heap) σ H s :=
 I.pins_of λp hp=>(aS.mp hp).elim (λz=>I.pin p (aY _ z)) λz=>by
  obtain⟨hb,e⟩:=qOv z;obtain⟨f0,f1,f2,_⟩:=hf p.1 hb;obtain⟨o,e',d⟩:=ho p.1 hb;rw [e] at e';cases e';exact⟨e,f0,f1,f2,d⟩
theorem Inv.unpinned{pins pl:List (Addr×Obj)}{σ : St}{H:Hp}{s:Shared}(I:Inv X (pins++pl) σ H s):Inv X pins σ H s:=I.pins_of λp hp=>I.pin p (aY _ (bJ _ hp))
theorem qCq{iter:Expr}{body:List Stmt}{wi:TI}{g:TG}{tb:TS}{pos:Pos}(hp:PassesOwn (model X.prog X.w) X.A X.env X.xe)(hc:X.calm=true)(hi:PI X tg iter wi)(hg:PG X tg g)(hb:PSs X body tb)(hs:∀x,foldedSetIterable iter X.env x=pure x:=by intro _;rfl):PS X (.For tg iter body [] pos) (tFor wi g tb):=by
 intro pins s σ H D I h;refine wpAny_For (thn (hi pins s σ H _ I h) λv s1 h1=>thn h1 λitv s2 h2=>?_) hs;obtain⟨it,fp,tn,J,H2,e,I2,T,st2,f2,W,⟨m0,w0⟩,turn⟩:=h2;subst e;have stat:∀ {H':Hp},(∀b∈fp,H' b=none) -> ∀b∈fp,FpOk X pins H' b:=λhn b hb=>⟨hn b hb,(f2 b hb).2⟩;refine codeAny_forLoop_any (λn s' => ∃i σ' H',Inv X pins σ' H' s'/\tn i s'.heap/\(∀b∈fp,H' b=none)/\W i n σ' H') ?_ m0 ⟨0,σ,H2,I2,st2,λb hb=>(f2 b hb).1,w0⟩;rintro n s3 ⟨i,σ3,H3,I3,st3,fr3,w3⟩;rcases turn i n σ3 H3 w3 with ⟨stop,qn⟩ | ⟨go,N,hN,step⟩
 ·refine dM hp (thn (T.done X rfl rfl rfl hc i pins s3 σ3 H3 X.xe I3 (stat fr3) st3 stop) λr s4 hq_=>?_);obtain⟨hr,I4⟩:=hq_;subst hr;exact wpAny_execs_nil ⟨σ3,H3,I4,qn⟩
 ·refine dM hp (thn (T.item X rfl rfl rfl hc i pins s3 σ3 H3 X.xe I3 (stat fr3) st3 go) λr s4 hq_=>?_);obtain⟨u,hr,h4⟩:=hq_;subst hr;refine dM hp (thn h4 λ_ s5 hq_=>?_);obtain⟨x,H5,I5,r5,y5,st5,fr5⟩:=hq_;have I5':=I5.pinned (stat fr5) (T.obj _ _ st5);refine dM hp (thn (hg _ s5 σ3 H5 x u _ I5' r5 (step x H5 y5)) λ_ s6 hq_=>?_);obtain⟨σ6,H6,I6,q6⟩:=hq_;refine dM hp (thn (hb _ s6 σ6 H6 _ I6 q6) λf s7 q7=>?_);have again:∀ {σ7:St} {H7:Hp},Inv X (pins++qIs fp s5.heap) σ7 H7 s7->N σ7 H7 -> ∃m,m<n /\ ∃i σ' H',Inv X pins σ' H' s7/\tn i s7.heap/\(∀b∈fp,H' b=none)/\W i m σ' H':=λ{σ7 H7} I7 n7=>by
   obtain⟨m',hm,w7⟩:=hN σ7 H7 n7;refine⟨m',hm,i+1,σ7,H7,I7.unpinned,T.keep _ _ _ st5 λb hb o e=>(I7.pin (b,o) (aY _ (aY _ (qDs hb e)))).1,λb hb=>?_,w7⟩;obtain⟨o,e,d⟩:=T.obj _ _ st5 b hb;exact (I7.pin (b,o) (aY _ (aY _ (qDs hb e)))).2.1
  cases f with
  | next=>obtain⟨σ7,H7,I7,n7⟩:=q7;exact again I7 n7
  | cont=>obtain⟨σ7,H7,I7,n7⟩:=q7;exact again I7 n7
  | brk=>obtain⟨σ7,H7,I7,q7⟩:=q7;exact⟨σ7,H7,I7.unpinned,q7⟩
  | ret v=>obtain⟨x7,σ7,H7,I7,r7,q7⟩:=q7;exact⟨x7,σ7,H7,I7.unpinned,r7,q7⟩
end
theorem qRp{K:PySem.W.Frag}{a:Addr}{xs:List V}{g:TG}{tb:TS}{D:Ends}{σ : St}{H:Hp}(Pv:Nat->St->Hp->Prop)(h0:Pv 0 σ H)(hl:∀i σ H,i<=xs.length->Pv i σ H->SqL K H a xs)(hs:∀i x σ H,xs[i]? = some x->Pv i σ H->g x σ H λσ2 H2=>tb { D with nx:=Pv (i+1),ct:=Pv (i+1),bk:=D.nx } σ2 H2)(hd:∀ σ H,Pv xs.length σ H->D.nx σ H):∃W:Nat->Nat->St->Hp->Prop,(∃m,W 0 m σ H) /\ ∀i m σ H,W i m σ H ->
   ((Itl K a).stop i H/\D.nx σ H)\/((Itl K a).go i H /\ ∃N:St->Hp->Prop,(∀ σ' H',N σ' H' -> ∃m',m'<m/\W (i+1) m' σ' H') /\ ∀x H',(Itl K a).yld i H x H'->g x σ H' λσ2 H2=>tb { D with nx:=N,ct:=N,bk:=D.nx } σ2 H2):=by
 refine⟨λi m σ H=>m=xs.length - i/\i<=xs.length/\Pv i σ H,⟨xs.length,by simp,aW _,h0⟩,?_⟩;rintro i m σ H ⟨rfl,hi,p⟩;have q:=hl i σ H hi p;by_cases hlt:i<xs.length
 ·refine .inr ⟨⟨xs,xs[i],q,by simp [hlt]⟩,Pv (i+1),λσ' H' p'=>⟨xs.length - (i+1),by lia,rfl,hlt,p'⟩,λx H' y=>?_⟩;obtain⟨e,y⟩:=y;subst e;exact hs i x σ _ (y xs q) p
 ·have e:i=xs.length:=by lia
  subst e;exact .inl ⟨⟨xs,q,aD _⟩,hd σ H p⟩
theorem qU8{K:PySem.W.Frag}{a:Addr}{xs:List V}{g:TG}{tb:TS}{D:Ends}{σ : St}{H:Hp}(Pv:Nat->St->Hp->Prop)(h0:Pv 0 σ H)(hl:∀i σ H,i<=xs.length->Pv i σ H->SqT K H a xs)(hs:∀i x σ H,xs[i]? = some x->Pv i σ H->g x σ H λσ2 H2=>tb { D with nx:=Pv (i+1),ct:=Pv (i+1),bk:=D.nx } σ2 H2)(hd:∀ σ H,Pv xs.length σ H->D.nx σ H):∃W:Nat->Nat->St->Hp->Prop,(∃m,W 0 m σ H) /\ ∀i m σ H,W i m σ H ->
   ((Itt K a).stop i H/\D.nx σ H)\/((Itt K a).go i H /\ ∃N:St->Hp->Prop,(∀ σ' H',N σ' H' -> ∃m',m'<m/\W (i+1) m' σ' H') /\ ∀x H',(Itt K a).yld i H x H'->g x σ H' λσ2 H2=>tb { D with nx:=N,ct:=N,bk:=D.nx } σ2 H2):=by
 refine⟨λi m σ H=>m=xs.length - i/\i<=xs.length/\Pv i σ H,⟨xs.length,by simp,aW _,h0⟩,?_⟩;rintro i m σ H ⟨rfl,hi,p⟩;have q:=hl i σ H hi p;by_cases hlt:i<xs.length
 ·refine .inr ⟨⟨xs,xs[i],q,by simp [hlt]⟩,Pv (i+1),λσ' H' p'=>⟨xs.length - (i+1),by lia,rfl,hlt,p'⟩,λx H' y=>?_⟩;obtain⟨e,y⟩:=y;subst e;exact hs i x σ _ (y xs q) p
 ·have e:i=xs.length:=by lia
  subst e;exact .inl ⟨⟨xs,q,aD _⟩,hd σ H p⟩
theorem qPh{lo:Int}{n:Nat}{g:TG}{tb:TS}{D:Ends}{σ : St}{H:Hp}(Pv:Nat->St->Hp->Prop)(h0:Pv 0 σ H)(hs:∀i σ H,i<n->Pv i σ H->g (.int (lo+i)) σ H λσ2 H2=>tb { D with nx:=Pv (i+1),ct:=Pv (i+1),bk:=D.nx } σ2 H2)(hd:∀ σ H,Pv n σ H->D.nx σ H):∃W:Nat->Nat->St->Hp->Prop,(∃m,W 0 m σ H) /\ ∀i m σ H,W i m σ H ->
   ((Itr lo n).stop i H/\D.nx σ H)\/((Itr lo n).go i H /\ ∃N:St->Hp->Prop,(∀ σ' H',N σ' H' -> ∃m',m'<m/\W (i+1) m' σ' H') /\ ∀x H',(Itr lo n).yld i H x H'->g x σ H' λσ2 H2=>tb { D with nx:=N,ct:=N,bk:=D.nx } σ2 H2):=by
 refine⟨λi m σ H=>m=n - i/\i<=n/\Pv i σ H,⟨n,by simp,aW _,h0⟩,?_⟩;rintro i m σ H ⟨rfl,hi,p⟩;by_cases hlt:i<n
 ·refine .inr ⟨hlt,Pv (i+1),λσ' H' p'=>⟨n - (i+1),by lia,rfl,hlt,p'⟩,λx H' y=>?_⟩;obtain⟨e,y⟩:=y;subst e y;exact hs i σ _ hlt p
 ·have e:i=n:=by lia
  subst e;exact .inl ⟨aD _,hd σ H p⟩
abbrev R2:=V->V->Hp->VK->Prop
def OpR(X:Cx)(f:Value->Value->Sem Value)(r:R2):Prop :=
 ∀(pins:List (Addr×Obj)) (s:Shared) (σ : St) (H:Hp) (x y:V) (v u:Value) (Q:VK),Inv X pins σ H s->RelV x v->RelV y u->r x y H Q ->
  wpAny (model X.prog X.w) X.A (f v u) (EP X pins σ Q) X.xe s
def UnR(X:Cx)(f:Value->Sem Value)(r:V->Hp->VK->Prop):Prop :=
 ∀(pins:List (Addr×Obj)) (s:Shared) (σ : St) (H:Hp) (x:V) (v:Value) (Q:VK),Inv X pins σ H s->RelV x v->r x H Q ->
  wpAny (model X.prog X.w) X.A (f v) (EP X pins σ Q) X.xe s
def CallR(X:Cx)(f:Value)(r:List V->Hp->VK->Prop):Prop :=
 ∀(pins:List (Addr×Obj)) (s:Shared) (σ : St) (H:Hp) (xs:List V) (us:List Value) (Q:VK),Inv X pins σ H s->Vals xs us->r xs H Q ->
  wpAny (model X.prog X.w) X.A (call f us) (EP X pins σ Q) X.xe s
def TruR(X:Cx)(r:V->Hp->(Bool->Hp->Prop)->Prop):Prop :=
 ∀(pins:List (Addr×Obj)) (s:Shared) (σ : St) (H:Hp) (x:V) (v:Value) (Q:Bool->Hp->Prop),Inv X pins σ H s->RelV x v->r x H Q ->
  wpAny (model X.prog X.w) X.A (truthy v) (TP X pins σ Q) X.xe s
def tOp(r:R2)(ta tb:TE):TE:=λσ H Q=>ta σ H λx H1=>tb σ H1 λy H2=>r x y H2 Q
def tUn(r:V->Hp->VK->Prop)(ta:TE):TE:=λσ H Q=>ta σ H λx H1=>r x H1 Q
def rI(C:Int->Int->Prop)(g:Int->Int->V):R2:=λx y H Q => ∃i j,x = .int i/\y = .int j/\C i j/\Q (g i j) H
def rI0(g:Int->Int->V):R2:=λx y H Q => ∃i j,x = .int i/\y = .int j/\Q (g i j) H
def rU(g:Int->V):V->Hp->VK->Prop:=λx H Q => ∃i,x = .int i/\Q (g i) H
section
variable{X:Cx}{a b c:Expr}{ta tb tc:TE}{pos:Pos}
theorem binT(ha:PE X a ta)(hb:PE X b tb){pins:List (Addr×Obj)}{s:Shared}{σ : St}{H:Hp}{R:V->V->Hp->Prop}(I:Inv X pins σ H s)(h:ta σ H λx H1=>tb σ H1 λy H2=>R x y H2){Q:Value->Shared->Prop}{f:Value->Value->Sem Value}(hf:∀v u s2 x y H2,Inv X pins σ H2 s2->RelV x v->RelV y u->R x y H2->wpAny (model X.prog X.w) X.A (f v u) Q X.xe s2):wpAny (model X.prog X.w) X.A (eval a X.env) (λv s₁ =>wpAny (model X.prog X.w) X.A (eval b X.env) (λu s₂ =>wpAny (model X.prog X.w) X.A (f v u) Q X.xe s₂) X.xe s₁) X.xe s:=by
 refine thn (ha pins s σ H _ I h) λv s1 hq_=>?_;obtain⟨x,H1,I1,r1,q1⟩:=hq_;refine thn (hb pins s1 σ H1 _ I1 q1) λu s2 hq_=>?_;obtain⟨y,H2,I2,r2,q2⟩:=hq_;exact hf v u s2 x y H2 I2 r1 r2 q2
theorem qAl{op:Operator}{r:R2}(ho:OpR X (binaryOp op) r)(ha:PE X a ta)(hb:PE X b tb):PE X (.BinOp a op b pos) (tOp r ta tb):=by
 intro pins s σ H Q I h;exact wpAny_BinOp (binT ha hb I h λv u s2 x y H2 I2 rx ry q=>ho pins s2 σ H2 x y v u Q I2 rx ry q)
theorem qIu{op:UnaryOp}{r:V->Hp->VK->Prop}(ho:UnR X (unaryOp op) r)(ha:PE X a ta):PE X (.UnaryOp op a pos) (tUn r ta):=by
 intro pins s σ H Q I h;refine UnaryOp_ (thn (ha pins s σ H _ I h) λv s1 hq_=>?_);obtain⟨x,H1,I1,r1,q1⟩:=hq_;exact ho pins s1 σ H1 x v Q I1 r1 q1
theorem opI{f:Value->Value->Sem Value}{C:Int->Int->Prop}{g:Int->Int->Int}(rule:∀(i j:Int) (t u:Tok) (s:Shared) (Q:Value->Shared->Prop) (E:Value->Shared->Prop),C i j->Q (.int (g i j) s.toks) { s with toks:=s.toks+1 }->wpAny (model X.prog X.w) X.A (f (.int i t) (.int j u)) Q E s):OpR X f (rI C λi j =>.int (g i j)):=by
 intro pins s σ H x y v u Q I rx ry h;obtain⟨i,j,rfl,rfl,hc,q⟩:=h;obtain⟨t,rfl⟩:=rx;obtain⟨t',rfl⟩:=ry;exact rule i j t t' s _ _ hc ⟨.int (g i j),H,I.tok _,⟨_,rfl⟩,q⟩
theorem opI0{f:Value->Value->Sem Value}{g:Int->Int->Int}(rule:∀(i j:Int) (t u:Tok) (s:Shared) (Q:Value->Shared->Prop) (E:Value->Shared->Prop),Q (.int (g i j) s.toks) { s with toks:=s.toks+1 }->wpAny (model X.prog X.w) X.A (f (.int i t) (.int j u)) Q E s):OpR X f (rI0 λi j =>.int (g i j)):=by
 intro pins s σ H x y v u Q I rx ry h;obtain⟨i,j,rfl,rfl,q⟩:=h;obtain⟨t,rfl⟩:=rx;obtain⟨t',rfl⟩:=ry;exact rule i j t t' s _ _ ⟨.int (g i j),H,I.tok _,⟨_,rfl⟩,q⟩
theorem opB0{f:Value->Value->Sem Value}{g:Int->Int->Bool}(rule:∀(i j:Int) (t u:Tok) (s:Shared) (Q:Value->Shared->Prop) (E:Value->Shared->Prop),Q (.bool (g i j)) s->wpAny (model X.prog X.w) X.A (f (.int i t) (.int j u)) Q E s):OpR X f (rI0 λi j =>.bl (g i j)):=by
 intro pins s σ H x y v u Q I rx ry h;obtain⟨i,j,rfl,rfl,q⟩:=h;obtain⟨t,rfl⟩:=rx;obtain⟨t',rfl⟩:=ry;exact rule i j t t' s _ _ ⟨.bl (g i j),H,I,rfl,q⟩
def CDiv(i j:Int):Prop:=0<j/\j<1073741824
def CPow(i j:Int):Prop:=0<=j/\j<=1000000/\i.natAbs<2^64
def CMul(i j:Int):Prop:=(-(2^64)<i/\i<2^64)\/(-(2^64)<j/\j<2^64)
theorem CMul.ok{i j:Int}(h:CMul i j):IntMulOk i j:=by
 rcases h with ⟨h1,h2⟩ | ⟨h1,h2⟩
 ·exact .of_left (intBits_le_64 h1 h2)
 ·exact .of_right (intBits_le_64 h1 h2)
theorem qAz:OpR X (binaryOp .Add) (rI0 λi j =>.int (i+j)):=opI0 λ_ _ _ _ _ _ _ q=>add_int q
theorem qF6:OpR X (binaryOp .Sub) (rI0 λi j =>.int (i - j)):=opI0 λ_ _ _ _ _ _ _ q=>sub_int q
theorem qJ1:OpR X (binaryOp .Mult) (rI CMul λi j =>.int (i*j)):=opI λ_ _ _ _ _ _ _ hc q=>mul_int q hc.ok
theorem qOg:OpR X (binaryOp .FloorDiv) (rI CDiv λi j =>.int (i / j)):=opI λi j _ _ _ _ _ hc q=>by
 have h1:(0:Int)<j:=hc.1;have h2:j<1073741824:=hc.2;exact floordiv_int (by lia) (by rw [Int.fdiv_eq_ediv_of_nonneg i (by lia)];exact q) (.inl (PyProof.noPylong_small (by lia)))
theorem qDg:OpR X (binaryOp .Mod) (rI (λ_ j=>0<j) λi j =>.int (i%j)):=opI λi j _ _ _ _ _ hc q=>by
 have h1:(0:Int)<j:=hc;exact mod_int' (by lia) (by rw [Int.fmod_eq_emod_of_nonneg i (by lia)];exact q)
theorem qIy:OpR X (binaryOp .Pow) (rI CPow λi j =>.int (i^j.toNat)):=opI λ_ _ _ _ _ _ _ hc q=>pow_int_small hc.1 hc.2.1 hc.2.2 q
theorem unI{f:Value->Sem Value}{g:Int->Int}(rule:∀(i:Int) (t:Tok) (s:Shared) (Q:Value->Shared->Prop) (E:Value->Shared->Prop),Q (.int (g i) s.toks) { s with toks:=s.toks+1 }->wpAny (model X.prog X.w) X.A (f (.int i t)) Q E s):UnR X f (rU λi =>.int (g i)):=by
 intro pins s σ H x v Q I rx h;obtain⟨i,rfl,q⟩:=h;obtain⟨t,rfl⟩:=rx;exact rule i t s _ _ ⟨.int (g i),H,I.tok _,⟨_,rfl⟩,q⟩
theorem qF4:UnR X (unaryOp .USub) (rU λi =>.int (-i)):=unI λ_ _ _ _ _ q=>neg_int q
end
def scal:V->V->Bool
 | .non,.non=>true | .non,.int _=>true | .int _,.non=>true | .non,.bl _=>true | .bl _,.non=>true | .non,.str _=>true | .str _,.non=>true
 | .int _,.int _=>true | .bl _,.bl _=>true | .str _,.str _=>true | .byt _,.byt _=>true
 | .int _,.str _=>true | .str _,.int _=>true | .bl _,.str _=>true | .str _,.bl _=>true
 | _,_=>false
def rEq:R2:=λx y H Q=>scal x y=true/\Q (.bl (decide (x=y))) H
def rNe:R2:=λx y H Q=>scal x y=true/\Q (.bl (!decide (x=y))) H
theorem qPp{i j:Int}:decide (V.int i=V.int j)=(i == j):=by
 rw [cI];simp
theorem qSm{i j:Bool}:decide (V.bl i=V.bl j)=(i == j):=by
 rw [cI];simp
theorem qPo{i j:Str}:decide (V.str i=V.str j)=(i == j):=by
 rw [cI];simp
theorem qPq{i j:Array UInt8}:decide (V.byt i=V.byt j)=(i.toList == j.toList):=by
 rw [cI];cases i;cases j;simp
section
variable{X:Cx}{a b c:Expr}{ta tb tc:TE}{pos:Pos}
theorem qB2{pins:List (Addr×Obj)}{σ : St}{H:Hp}{s:Shared}{Q:VK}{k k':Bool}(I:Inv X pins σ H s)(q:Q (.bl k) H)(e:k=k'):EP X pins σ Q (.bool k') s:=by
 subst e;exact⟨.bl k,H,I,rfl,q⟩
theorem qCi:OpR X (compareOp .Eq) rEq:=by
 intro pins s σ H x y v u Q I rx ry h;obtain⟨hs,q⟩:=h;cases x with
 | non =>
  cases rx;cases y with
  | non=>cases ry;exact PySem.EqNone.eq_none_none (qB2 I q (by simp))
  | bl j=>cases ry;exact PySem.EqNone.eq_none_bool (qB2 I q (by simp))
  | int j=>obtain⟨t',rfl⟩:=ry;exact PySem.EqNone.eq_none_int (qB2 I q (by simp))
  | str j=>obtain⟨t',rfl⟩:=ry;exact PySem.EqNone.eq_none_str (qB2 I q (by simp))
  | _=>exact absurd (show false=true from hs) aQ
 | bl i =>
  cases rx;cases y with
  | non=>cases ry;exact PySem.EqNone.eq_bool_none (qB2 I q (by simp))
  | bl j=>cases ry;exact eq_bool (qB2 I q qSm)
  | str j=>obtain⟨t',rfl⟩:=ry;exact PySem.EqMixed.eq_bool_str (qB2 I q (by simp))
  | _=>exact absurd (show false=true from hs) aQ
 | int i =>
  obtain⟨t,rfl⟩:=rx;cases y with
  | non=>cases ry;exact PySem.EqNone.eq_int_none (qB2 I q (by simp))
  | int j=>obtain⟨t',rfl⟩:=ry;exact eq_int (qB2 I q qPp)
  | str j=>obtain⟨t',rfl⟩:=ry;exact PySem.EqMixed.eq_int_str (qB2 I q (by simp))
  | _=>exact absurd (show false=true from hs) aQ
 | str i =>
  obtain⟨t,rfl⟩:=rx;cases y with
  | non=>cases ry;exact PySem.EqNone.eq_str_none (qB2 I q (by simp))
  | bl j=>cases ry;exact PySem.EqMixed.eq_str_bool (qB2 I q (by simp))
  | int j=>obtain⟨t',rfl⟩:=ry;exact PySem.EqMixed.eq_str_int (qB2 I q (by simp))
  | str j=>obtain⟨t',rfl⟩:=ry;exact eq_str (qB2 I q qPo)
  | _=>exact absurd (show false=true from hs) aQ
 | byt i =>
  obtain⟨t,rfl⟩:=rx;cases y with
  | byt j=>obtain⟨t',rfl⟩:=ry;exact PySem.W.eq_bytes (qB2 I q qPq)
  | _=>exact absurd (show false=true from hs) aQ
 | _=>cases y <;> exact absurd (show false=true from hs) aQ
theorem qJ0:OpR X (compareOp .NotEq) rNe:=by
 intro pins s σ H x y v u Q I rx ry h;obtain⟨hs,q⟩:=h;cases x with
 | non =>
  cases rx;cases y with
  | non=>cases ry;exact PySem.EqNone.ne_none_none (qB2 I q (by simp))
  | bl j=>cases ry;exact PySem.EqNone.ne_none_bool (qB2 I q (by simp))
  | int j=>obtain⟨t',rfl⟩:=ry;exact PySem.EqNone.ne_none_int (qB2 I q (by simp))
  | str j=>obtain⟨t',rfl⟩:=ry;exact PySem.EqNone.ne_none_str (qB2 I q (by simp))
  | _=>exact absurd (show false=true from hs) aQ
 | bl i =>
  cases rx;cases y with
  | non=>cases ry;exact PySem.EqNone.ne_bool_none (qB2 I q (by simp))
  | bl j=>cases ry;exact ne_bool (qB2 I q (congrArg not qSm))
  | str j=>obtain⟨t',rfl⟩:=ry;exact PySem.EqMixed.ne_bool_str (qB2 I q (by simp))
  | _=>exact absurd (show false=true from hs) aQ
 | int i =>
  obtain⟨t,rfl⟩:=rx;cases y with
  | non=>cases ry;exact PySem.EqNone.ne_int_none (qB2 I q (by simp))
  | int j=>obtain⟨t',rfl⟩:=ry;exact ne_int (qB2 I q (congrArg not qPp))
  | str j=>obtain⟨t',rfl⟩:=ry;exact PySem.EqMixed.ne_int_str (qB2 I q (by simp))
  | _=>exact absurd (show false=true from hs) aQ
 | str i =>
  obtain⟨t,rfl⟩:=rx;cases y with
  | non=>cases ry;exact PySem.EqNone.ne_str_none (qB2 I q (by simp))
  | bl j=>cases ry;exact PySem.EqMixed.ne_str_bool (qB2 I q (by simp))
  | int j=>obtain⟨t',rfl⟩:=ry;exact PySem.EqMixed.ne_str_int (qB2 I q (by simp))
  | str j=>obtain⟨t',rfl⟩:=ry;exact ne_str (qB2 I q (congrArg not qPo))
  | _=>exact absurd (show false=true from hs) aQ
 | byt i =>
  obtain⟨t,rfl⟩:=rx;cases y with
  | byt j=>obtain⟨t',rfl⟩:=ry;exact PySem.W.ne_bytes (qB2 I q (congrArg not qPq))
  | _=>exact absurd (show false=true from hs) aQ
 | _=>cases y <;> exact absurd (show false=true from hs) aQ
theorem qHs:OpR X (compareOp .Lt) (rI0 λi j =>.bl (decide (i<j))):=opB0 λ_ _ _ _ _ _ _ q=>lt_int q
theorem qTl:OpR X (compareOp .LtE) (rI0 λi j =>.bl (decide (i<=j))):=opB0 λ_ _ _ _ _ _ _ q=>le_int q
theorem qTm:OpR X (compareOp .Gt) (rI0 λi j =>.bl (decide (j<i))):=opB0 λ_ _ _ _ _ _ _ q=>gt_int q
theorem qWp:OpR X (compareOp .GtE) (rI0 λi j =>.bl (decide (j<=i))):=opB0 λ_ _ _ _ _ _ _ q=>ge_int q
theorem qAh(b:Expr){op:CmpOp}(h:op ≠ .In:=by decide)(h2:op ≠ .NotIn:=by decide):behindInMarks op b=false:=by
 have e1:(op == CmpOp.In)=false:=by cases op <;> first | rfl | exact absurd rfl h
 have e2:(op == CmpOp.NotIn)=false:=by cases op <;> first | rfl | exact absurd rfl h2
 cases b <;> simp [behindInMarks,e1,e2]
theorem qBp{op:CmpOp}{r:R2}(ho:OpR X (compareOp op) r)(ha:PE X a ta)(hb:PE X b tb)(hm:behindInMarks op b=false):PE X (.Compare a [op] [b] pos) (tOp r ta tb):=by
 intro pins s σ H Q I h;exact wpAny_Compare1 (binT ha hb I h λv u s2 x y H2 I2 rx ry q=>ho pins s2 σ H2 x y v u Q I2 rx ry q) hm
def tTest(t:TE):TT:=λσ H Q=>t σ H λx H' => ∃k,x = .bl k/\Q k H'
theorem qAe{op:CmpOp}{r:R2}(ho:OpR X (compareOp op) r)(ha:PE X a ta)(hb:PE X b tb)(hm:behindInMarks op b=false):PT X (.Compare a [op] [b] pos) (tTest (tOp r ta tb)):=by
 intro pins s σ H Q I h;refine wpAny_isTrue_Compare1 (thn (ha pins s σ H _ I h) λv s1 hq_=>?_) hm;obtain⟨x,H1,I1,r1,q1⟩:=hq_;refine thn (hb pins s1 σ H1 _ I1 q1) λu s2 hq_=>?_;obtain⟨y,H2,I2,r2,q2⟩:=hq_;refine thn (ho pins s2 σ H2 x y v u _ I2 r1 r2 q2) λc s3 hq_=>?_;obtain⟨z,H3,I3,r3,k,e,q3⟩:=hq_;subst e;cases r3;exact cD ⟨H3,I3,q3⟩
def qS6(r r':R2)(ta tb tc:TE):TE:=λσ H Q=>ta σ H λx H1=>tb σ H1 λy H2=>r x y H2 λz H3 => ∃k,z = .bl k /\
 (if k=true then tc σ H3 λw' H4=>r' y w' H4 Q else Q (.bl false) H3)
theorem qLh{op op':CmpOp}{r r':R2}(ho:OpR X (compareOp op) r)(ho':OpR X (compareOp op') r')(ha:PE X a ta)(hb:PE X b tb)(hc:PE X c tc)(hm:lastMarks [op,op'] [b,c]=false:=by with_unfolding_all rfl):PE X (.Compare a [op,op'] [b,c] pos) (qS6 r r' ta tb tc):=by
 intro pins s σ H Q I h;refine Compare_chain (thn (ha pins s σ H _ I h) λv s1 hq_=>?_) hm;obtain⟨x,H1,I1,r1,q1⟩:=hq_;refine chain_link (thn (hb pins s1 σ H1 _ I1 q1) λu s2 hq_=>?_);obtain⟨y,H2,I2,r2,q2⟩:=hq_;refine thn (ho pins s2 σ H2 x y v u _ I2 r1 r2 q2) λd s3 hq_=>?_;obtain⟨z,H3,I3,r3,k,e,q3⟩:=hq_;subst e;cases r3;refine cD ?_;cases k with
 | false=>exact ite_ff ⟨.bl false,H3,I3,rfl,q3⟩
 | true=>exact ite_tt (chain_last (thn (hc pins s3 σ H3 _ I3 q3) λw' s4 ⟨z',H4,I4,r4,q4⟩=>ho' pins s4 σ H4 y z' u w' Q I4 r2 r4 q4))
def TruV(K:PySem.W.Frag)(x:V)(H:Hp)(k:Bool):Prop :=
 match x with
 | .non=>k=false
 | .bl b=>k=b
 | .int i=>k=(i != 0)
 | .str y=>y.length<=sizeLine/\k=((y.length:Int) != 0)
 | .byt y=>y.size<=sizeLine/\k=((y.size:Int) != 0)
 | .ref p=>(∃xs,SqL K H p xs/\k = !xs.isEmpty)\/(∃xs,SqT K H p xs/\k = !xs.isEmpty) \/ ∃kvs,H p=some (.dK kvs)/\k = !kvs.isEmpty
 | _=>False
theorem qMf{κ : Type}{kvs:List (κ × V)}{vs:List (κ × Value)}(r:KV kvs vs):(!vs.isEmpty) = !kvs.isEmpty:=by
 cases r <;> rfl
theorem qH2{xs:List V}{its:List Value}(r:Vals xs its):(!its.toArray.isEmpty) = !xs.isEmpty:=by
 cases r <;> simp
theorem qJ5:(sizeLine:Nat)<2^63:=by rw [sizeLine_eq];decide
theorem qUm:TruR X (λx H Q => ∃k,TruV X.K x H k/\Q k H):=by
 intro pins s σ H x v Q I rx h;obtain⟨k,e,q⟩:=h;have hl:=qJ5;have hs:sizeLine=16777216:=sizeLine_eq;cases x with
 | non =>
  cases rx;have e':k=false:=e;subst e';exact truthy_none ⟨H,I,q⟩
 | bl b =>
  cases rx;have e':k=b:=e;subst e';exact cD ⟨H,I,q⟩
 | int i =>
  obtain⟨t,rfl⟩:=rx;have e':k=(i != 0):=e;subst e';exact PySem.P.truthy_int ⟨H,I,q⟩
 | str y =>
  obtain⟨t,rfl⟩:=rx;obtain⟨hy,e'⟩:y.length<=sizeLine/\k=((y.length:Int) != 0):=e;subst e';exact PySem.P.truthy_str (by lia) ⟨H,I.tok _,q⟩
 | byt y =>
  obtain⟨t,rfl⟩:=rx;obtain⟨hy,e'⟩:y.size<=sizeLine/\k=((y.size:Int) != 0):=e;subst e';exact PySem.W.truthy_bytes (by lia) ⟨H,I.tok _,q⟩
 | ref p =>
  cases rx;have e':(∃xs,SqL X.K H p xs/\k = !xs.isEmpty)\/(∃xs,SqT X.K H p xs/\k = !xs.isEmpty) \/ ∃kvs,H p=some (.dK kvs)/\k = !kvs.isEmpty:=e;rcases e' with ⟨xs,hx,e'⟩ | ⟨xs,hx,e'⟩ | ⟨kvs,hx,e'⟩
  ·subst e';obtain⟨its,r,pl,hz⟩:=I.list hx;have hlen:=r.length;exact wpAny_truthy_list pl.isList (by simp only [aH];lia) ⟨H,I.tok _,by rw [qH2 r];exact q⟩
  ·subst e';obtain⟨its,r,pl,hz⟩:=I.tuple hx;have hlen:=r.length;exact truthy_tuple pl (by simp only [aH];lia) ⟨H,I.tok _,by rw [qH2 r];exact q⟩
  ·subst e';obtain⟨hz,hS,vs,r,m⟩:kvs.length<=sizeLine/\(p == sysModules)=false /\ ∃vs,KV kvs vs/\s.heap.DictOf (qBc X.prog X.w) p vs:=I.hok p _ hx;have hlen:kvs.length=vs.length:=dY r;exact wpAny_truthy_dict hS m (by lia) ⟨H,I.tok _,by rw [qMf r];exact q⟩
 | _=>exact (show False from e).elim
theorem qLb(ha:PE X a ta)(he:∀whole,isTrue a X.env whole=(do let v <-whole;standAt a.pos;holding [v] (truthy v))):PT X a (λσ H Q=>ta σ H λx H' => ∃k,TruV X.K x H' k/\Q k H'):=by
 intro pins s σ H Q I h;refine isTrue_plain (thn (ha pins s σ H _ I h) λv s1 hq_=>?_) (he _);obtain⟨x,H1,I1,r1,q1⟩:=hq_;exact qUm pins s1 σ H1 x v Q I1 r1 q1
theorem vals1{x:V}{us:List Value}(r:Vals [x] us):∃u,us = [u]/\RelV x u:=by
 cases r with
 | cons r1 r2=>cases r2;exact⟨_,rfl,r1⟩
theorem vals2{x y:V}{us:List Value}(r:Vals [x,y] us):∃u w',us = [u,w']/\RelV x u/\RelV y w':=by
 cases r with
 | cons r1 r2 =>
  cases r2 with
  | cons r3 r4=>cases r4;exact⟨_,_,rfl,r1,r3⟩
theorem qLx:CallR X (.builtin "abs") (λxs H Q => ∃i,xs = [.int i]/\Q (.int (if i<0 then -i else i)) H):=by
 intro pins s σ H xs us Q I r h;obtain⟨i,rfl,q⟩:=h;obtain⟨u,rfl,t,rfl⟩:=vals1 r;exact call_abs_int λu tk=>⟨.int (if i<0 then -i else i),H,I.tok _,⟨_,rfl⟩,q⟩
theorem qJm(hc:X.calm=true):CallR X (.builtin "max") (λxs H Q => ∃i j,xs = [.int i,.int j]/\Q (.int (if j>i then j else i)) H):=by
 intro pins s σ H xs us Q I r h;obtain⟨i,j,rfl,q⟩:=h;obtain⟨u,w',rfl,⟨t,rfl⟩,⟨t',rfl⟩⟩:=vals2 r;refine max_two_ints (I.ok.hd hc) λh' tk k=>⟨_,H,I.kept k,?_,q⟩;by_cases hj:j>i
 ·rw [if_pos hj,if_pos hj];exact⟨_,rfl⟩
 ·rw [if_neg hj,if_neg hj];exact⟨_,rfl⟩
theorem qPz(hc:X.calm=true):CallR X (.builtin "min") (λxs H Q => ∃i j,xs = [.int i,.int j]/\Q (.int (if j<i then j else i)) H):=by
 intro pins s σ H xs us Q I r h;obtain⟨i,j,rfl,q⟩:=h;obtain⟨u,w',rfl,⟨t,rfl⟩,⟨t',rfl⟩⟩:=vals2 r;refine min_two_ints (I.ok.hd hc) λh' tk k=>⟨_,H,I.kept k,?_,q⟩;by_cases hj:j<i
 ·rw [if_pos hj,if_pos hj];exact⟨_,rfl⟩
 ·rw [if_neg hj,if_neg hj];exact⟨_,rfl⟩
theorem qDi:CallR X (.type "int") (λxs H Q=>(∃i,xs = [.int i]/\Q (.int i) H) \/ ∃k,xs = [.bl k]/\Q (.int (if k then 1 else 0)) H):=by
 intro pins s σ H xs us Q I r h;rcases h with ⟨i,rfl,q⟩ | ⟨k,rfl,q⟩
 ·obtain⟨u,rfl,t,rfl⟩:=vals1 r;exact call_int_int ⟨.int i,H,I,⟨_,rfl⟩,q⟩
 ·obtain⟨u,rfl,r1⟩:=vals1 r;cases r1;exact call_int_bool ⟨.int (if k then 1 else 0),H,I.tok _,⟨_,rfl⟩,q⟩
end
structure Room(k:Nat)(A:Around):Prop where
 hd:A.handled=none
 dp:A.depth+3*k+5<recursionLimit
 un:A.units+16*k+200<cLine
 gd:A.guards=some []:=by rfl
theorem Room.mono{j k:Nat}{A:Around}(r:Room k A)(h:j<=k):Room j A:=⟨r.hd,by have:=r.dp;lia,by have:=r.un;lia,r.gd⟩
theorem Room.deeper{k:Nat}{A:Around}(r:Room (k+1) A)(env:Env):Room k (A.deeper env):=⟨r.hd,by have:=r.dp;show A.depth+1+3*k+5<_;lia,by have:=r.un;show A.units+3+16*k+200<_;lia,r.gd⟩
theorem Room.depth{k:Nat}{A:Around}(r:Room k A):A.depth<recursionLimit:=by have:=r.dp;lia
theorem Room.units{k:Nat}{A:Around}(r:Room k A):A.units+64<cLine:=by have:=r.un;lia
def tNil:TA:=λ_ H Q=>Q [] H
def tCons(ta:TE)(tr:TA):TA:=λσ H Q=>ta σ H λx H1=>tr σ H1 λxs H2=>Q (x::xs) H2
section
variable{X:Cx}{e:Expr}{es:List Expr}{te:TE}{t:TA}{pos:Pos}
theorem pa_nil:PA X [] tNil:=λ_ _ _ _ H Q I h=>Calls.spliced_nil ⟨[],H,I,.nil,h⟩
theorem qA0(ha:PE X e te)(hr:PA X es t)(hs:starEach (e::es) X.env=(false,eval e X.env)::starEach es X.env:=by rfl):PA X (e::es) (tCons te t):=by
 intro pos pins s σ H Q I h;rw [hs];show wpAny _ _ (spliced ((false,eval e X.env)::backTo pos (starEach es X.env))) _ _ s;refine Calls.spliced_cons (thn (ha pins s σ H _ I h) λu s1 hq_=>?_);obtain⟨x,H1,I1,r1,q1⟩:=hq_;refine thn (hr pos pins s1 σ H1 _ I1 q1) λus s2 hq_=>?_;obtain⟨xs,H2,I2,r2,q2⟩:=hq_;exact⟨x::xs,H2,I2,.cons r1 r2,q2⟩
def tTup(t:TA):TE:=λσ H Q=>t σ H λxs H1=>xs.length<=sizeLine /\ ∀p,H1 p=none->Q (.ref p) (upd H1 p (.tup xs))
def tLst(t:TA):TE:=λσ H Q=>t σ H λxs H1=>xs.length<=sizeLine /\ ∀p,H1 p=none->Q (.ref p) (upd H1 p (.lst xs))
theorem qBw{x1}(h:PA X es t):PE X (.Tuple es x1 pos) (tTup t):=by
 intro pins s σ H Q I hq;refine wpAny_Tuple_spliced (thn (h pos pins s σ H _ I hq) λus s1 hq_=>?_);obtain⟨xs,H1,I1,r,z,q⟩:=hq_;refine⟨by rw [<-r.length];exact z,?_⟩;have hf:H1 s1.heap.objs.size=none:=I1.hok.fresh (aD _);refine⟨.ref s1.heap.objs.size,upd H1 s1.heap.objs.size (.tup xs),I1.laid (t':=s1.toks) (λb u e=>aF _ e) (aD _) ?_,rfl,q _ hf⟩;exact⟨z,us,r,⟨_,aR _ rfl,rfl,_,rfl⟩⟩
theorem qAk(h:PA X es t):PE X (.List es pos) (tLst t):=by
 intro pins s σ H Q I hq;refine wpAny_List_spliced (thn (h pos pins s σ H _ I hq) λus s1 hq_=>?_);obtain⟨xs,H1,I1,r,z,q⟩:=hq_;refine⟨by rw [<-r.length];exact z,?_⟩;have hf:H1 s1.heap.objs.size=none:=I1.hok.fresh (aD _);refine⟨.ref s1.heap.objs.size,upd H1 s1.heap.objs.size (.lst xs),I1.laid (t':=s1.toks) (λb u e=>aF _ e) (aD _) ?_,rfl,q _ hf⟩;exact⟨z,us,0,r,aR _ rfl⟩
end
abbrev Sp:=List V->Hp->VK->XK->Prop
abbrev CXT:=List Env->Hp->Shared->XK->Value->Shared->Prop
structure Env0(P:Program)(w:World)(K:PySem.W.Frag)(mg:Str->Option Value)(base:Heap)(A:Around)(outer:List Env)(s:Shared)(H:Hp):Prop where
 frames:A.frames=some outer
 mod:Mod K mg base
 bs:∀b o,base.get? b=some o->s.heap.get? b=some o/\H b=none
 bsz:base.objs.size<=s.heap.objs.size
 funs:s.heap.FunFrames base outer
 frf:∀b∈frs outer,H b=none
 hok:HOk P w H s.heap
 bare:AllBare s.gens
def CE(outer:List Env)(P:Program)(w:World)(H:Hp)(s:Shared)(Q:VK)(u:Value)(s':Shared):Prop :=
 ∃v H',s'.os=s.os/\AllBare s'.gens/\Un (frs outer) [] H H' s.heap s'.heap/\HOk P w H' s'.heap/\RelV v u/\Q v H'
def CR(CX:CXT)(outer:List Env)(P:Program)(w:World)(H:Hp)(s:Shared)(Q:VK)(E:XK)(r:Result)(s':Shared):Prop :=
 match r with
 | .ok (.ret u)=>CE outer P w H s Q u s'
 | .ok _=>False
 | .error e=>CX outer H s E e s'
structure FnOk(P:Program)(w:World)(K:PySem.W.Frag)(mg:Str->Option Value)(base:Heap)(CX:CXT)(k:Nat)(f:Addr)(fd:FuncData)(ps:List Str)(sp:Sp):Prop where
 len:∀vs H Q E,sp vs H Q E->vs.length=ps.length
 run:∀(A:Around) (outer:List Env) (s:Shared) (H:Hp) (args:Args) (us:List Value) (vs:List V) (Q:VK) (E:XK),Room k A->Env0 P w K mg base A outer s H->BindsTo s fd args (ps.zip us)->Vals vs us->sp vs H Q E ->
  codeAny (model P w) A (.call (.ref f) args) (CR CX outer P w H s Q E) s
section
variable{X:Cx}{pins:List (Addr×Obj)}{σ : St}{H:Hp}{s s':Shared}
theorem Inv.env0(I:Inv X pins σ H s):Env0 X.prog X.w X.K X.mg X.base X.A X.stack s H:=⟨I.ok.frames,I.ok.mod,I.bs,bC I.ok.bsz I.sz,I.stack,I.stkFree,I.hok,I.bare⟩
theorem Inv.after{Q:VK}{u:Value}(I:Inv X pins σ H s)(h:CE X.stack X.prog X.w H s Q u s'):EP X pins σ Q u s':=by
 obtain⟨v,H',os,bare,un,hok,r,q⟩:=h;obtain⟨hh,g,d,t,os'⟩:=s';obtain rfl:os'=s.os:=os;exact⟨v,H',I.call (h':=hh) (g':=g) (d':=d) (t':=t) (ch :=[]) un hok bare (λb z=>absurd z (by simp)),r,q⟩
end
def tCall(sp:Sp)(dvs:List V)(E:XK)(t:TA):TE:=λσ H Q=>t σ H λvs H1=>sp (vs++dvs) H1 Q E
def Binds(K:PySem.W.Frag)(fd:FuncData)(ps:List Str)(ds:List Value):Prop :=
 ∀(s:Shared) (us:List Value),K.In s.heap->(us++ds).length=ps.length->BindsTo s fd ⟨us,[]⟩ (ps.zip (us++ds))
theorem Binds.all{K:PySem.W.Frag}{fd:FuncData}{ps:List Str}(h:∀us:List Value,us.length=ps.length->bindArgs fd ⟨us,[]⟩=pure (ps.zip us)):Binds K fd ps []:=λs us _ hl=>by
 rw [List.append_nil] at hl ⊢;exact .of_eq (h us hl)
def qQ8(CX:CXT)(X:Cx)(E:XK):Prop := ∀(pins:List (Addr×Obj)) (σ : St) (H:Hp) (s:Shared) (e:Value) (s':Shared),Inv X pins σ H s->CX X.stack H s E e s'->X.xe e s'
section
variable{X:Cx}{CX:CXT}{k:Nat}{f C:Addr}{fd:FuncData}{ps:List Str}{sp:Sp}{dvs:List V}{ds:List Value}{E:XK}{x m:Str}{p pos apos:Pos}{e o:Expr}{es:List Expr}{ta:TE}{t:TA}
theorem qUs{pins:List (Addr×Obj)}{σ : St}{H:Hp}{s:Shared}{Q:VK}{us:List Value}{vs:List V}(F:FnOk X.prog X.w X.K X.mg X.base CX k f fd ps sp)(hr:Room k X.A)(hb:Binds X.K fd ps ds)(hd:Vals dvs ds)(hx:qQ8 CX X E)(I:Inv X pins σ H s)(r:Vals vs us)(h:sp (vs++dvs) H Q E):wpAny (model X.prog X.w) X.A (call (.ref f) us) (EP X pins σ Q) X.xe s:=by
 have r2:Vals (vs++dvs) (us++ds):=r.append hd;have hl:(us++ds).length=ps.length:=by rw [<-r2.length];exact F.len _ _ _ _ h
 refine wpAny_call (dR (F.run X.A X.stack s H ⟨us,[]⟩ (us++ds) (vs++dvs) Q E hr I.env0 (hb s us I.kIn hl) r2 h) λr s' hq=>?_);cases r with
 | error e=>exact hx pins σ H s e s' I hq
 | ok fl =>
  cases fl with
  | ret u=>exact I.after hq
  | next=>exact False.elim hq
  | brk=>exact False.elim hq
  | cont=>exact False.elim hq
theorem qTg(F:FnOk X.prog X.w X.K X.mg X.base CX k f fd ps sp)(hr:Room k X.A)(hg:Gl X x)(hm:X.mg x=some (.ref f))(hk:PySem.W.keepIn X.K (.ref f)=true)(hb:Binds X.K fd ps ds)(hd:Vals dvs ds)(hx:qQ8 CX X E)
  (ha:PA X (e::es) t) (hdb:(x == ("__debug__" : Str))=false:=by decide) (he:starEach (e::es) X.env=(false,eval e X.env)::starEach es X.env:=by rfl) (hpl:(backTo pos (starEach es X.env)).any (·.1)=false:=by rfl) :
  PE X (.Call (.Name x p) (e::es) [] pos) (tCall sp dvs E t):=by
 intro pins s σ H Q I h;refine wpAny_Call_Name_kw (qP8 I hg hm ?_ hdb);refine PySem.W.callWith_K (h₀ :=X.base) I.ok.mod.kin hk (thn (ha pos pins s σ H _ I h) λus s1 hq_=>?_) he hpl;obtain⟨vs,H1,I1,r,q⟩:=hq_;refine⟨I1.kIn,?_⟩;exact qUs F hr hb hd hx I1 r q
end
section
variable{X:Cx}{CX:CXT}{k:Nat}{f C:Addr}{fd:FuncData}{ps ks:List Str}{sp:Sp}{E:XK}{x m:Str}{p pos apos kpos:Pos}{e o:Expr}{es:List Expr}{kws:List Keyword}{te ta:TE}{t tk:TA}{nm:Option Str}
variable{g:List Value->List Value->List Value}{gV:List V->List V->List V}
end
structure FnScope(N P:List Str)(sc:Scope):Prop where
 kind:sc.kind = .function
 co:sc.isCoroutine=false
 gen:sc.isGenerator=false
 nd:N.Nodup
 pre:N.take P.length=P
 par:∀x∈P,sc.names.lookup x=some .local\/sc.names.lookup x=some .cell
 nofree:∀y∈sc.names,y.2 ≠ .free
theorem qJq{kindOf:Str->Option NameKind}{x:Str}:∀ {binds:List (Str×Value)} {m:Str->Option Value},(∀v,(x,v)∉binds)->bindL kindOf binds m x=m x
 | [],_,_=>rfl
 | (n,v)::r,m,h=>by
  unfold bindL;rw [qJq λw hw=>h w (bO _ hw)];split
  ·have:x≠n:=by rintro rfl;exact h v bM
   simp [this]
  ·rfl
theorem qJs{kindOf:Str->Option NameKind}{x:Str}:∀ {binds:List (Str×Value)} {m:Str->Option Value},(∀v,(x,v)∉binds)->bindC kindOf binds m x=m x
 | [],_,_=>rfl
 | (n,v)::r,m,h=>by
  unfold bindC;rw [qJs λw hw=>h w (bO _ hw)];split
  ·rfl
  ·have:x≠n:=by rintro rfl;exact h v bM
   simp [this]
theorem qJr{kindOf:Str->Option NameKind}{x:Str}{v:Value}:∀ {P:List Str} {vs:List Value} {i:Nat} {m:Str->Option Value},P.Nodup->P[i]? = some x->vs[i]? = some v->kindOf x=some .local ->
  bindL kindOf (P.zip vs) m x=some v
 | [],_,_,_,_,h,_,_=>by simp at h
 | _::_,[],_,_,_,_,h,_=>by simp at h
 | p::P,w::vs,0,m,nd,h1,h2,hk=>by
  simp at h1 h2;subst h1;subst h2;show bindL kindOf ((p,w)::P.zip vs) m p=_;unfold bindL;rw [qJq λv hv=>(List.nodup_cons.mp nd).1 (List.of_mem_zip hv).1,if_pos hk];simp
 | p::P,w::vs,i+1,m,nd,h1,h2,hk=>by
  show bindL kindOf ((p,w)::P.zip vs) m x=_;unfold bindL;exact qJr (i:=i) (List.nodup_cons.mp nd).2 (by simpa using h1) (by simpa using h2) hk
theorem qJt{kindOf:Str->Option NameKind}{x:Str}{v:Value}:∀ {P:List Str} {vs:List Value} {i:Nat} {m:Str->Option Value},P.Nodup->P[i]? = some x->vs[i]? = some v->kindOf x≠some .local ->
  bindC kindOf (P.zip vs) m x=some v
 | [],_,_,_,_,h,_,_=>by simp at h
 | _::_,[],_,_,_,_,h,_=>by simp at h
 | p::P,w::vs,0,m,nd,h1,h2,hk=>by
  simp at h1 h2;subst h1;subst h2;show bindC kindOf ((p,w)::P.zip vs) m p=_;unfold bindC;rw [qJs λv hv=>(List.nodup_cons.mp nd).1 (List.of_mem_zip hv).1,if_neg hk];simp
 | p::P,w::vs,i+1,m,nd,h1,h2,hk=>by
  show bindC kindOf ((p,w)::P.zip vs) m x=_;unfold bindC;exact qJt (i:=i) (List.nodup_cons.mp nd).2 (by simpa using h1) (by simpa using h2) hk
def start(N:List Str)(vs:List V):St:=vs.map some++List.replicate (N.length - vs.length) none
def cxOf(CX:CXT)(P:Program)(w:World)(K:PySem.W.Frag)(mg:Str->Option Value)(base:Heap)(N:List Str)(qual:Str)(scope:Scope)(f:Addr)(cd:Value)(A:Around)(outer:List Env)(s:Shared)(H:Hp)(E:XK):Cx where
 prog:=P
 w:=w
 K:=K
 mg:=mg
 base:=base
 A:=A.deeper (envOfC qual scope s.heap.objs.size f cd)
 N:=N
 s₀ :=s
 H₀ :=H
 env:=envOfC qual scope s.heap.objs.size f cd
 outer:=outer
 stack:=envOfC qual scope s.heap.objs.size f cd::outer
 ex :=[]
 calm:=true
 fn:=λ_=>true
 pn :=[]
 xe:=λe s'=>wpAny (model P w) (A.deeper (envOfC qual scope s.heap.objs.size f cd)) (leaving (envOfC qual scope s.heap.objs.size f cd) e) (λ_ s''=>CX outer H s E e s'') (λe' s''=>CX outer H s E e' s'') s'
theorem qLw{sc:Scope}{n:Nat}{x:Str}(h:sc.names.lookup x=some .cell):∃c,(cellsFrom n sc.names []).lookup x=some c:=by
 have q:=PySem.W.cellsFrom_some sc.names n [] (.inl h);exact Option.isSome_iff_exists.mp q
theorem qPf{CX:CXT}{P:Program}{w:World}{K:PySem.W.Frag}{mg:Str->Option Value}{base:Heap}{N ps:List Str}{qual:Str}{scope:Scope}{f:Addr}{cd:Value}{A:Around}{outer:List Env}{s s1:Shared}{H:Hp}{E:XK}{us:List Value}{vs:List V}(S:FnScope N ps scope)(hd:A.handled=none)(e0:Env0 P w K mg base A outer s H)(hl:vs.length=ps.length)(r:Vals vs us)(x:InCallC s s.heap.objs.size (bindL (envOfC qual scope s.heap.objs.size f cd).kindOf (ps.zip us) λ_=>none) (cellsFrom (s.heap.objs.size+1) scope.names []) (bindC (envOfC qual scope s.heap.objs.size f cd).kindOf (ps.zip us) λ_=>none) s1):Inv (cxOf CX P w K mg base N qual scope f cd A outer s H E) [] (start N vs) H s1:=by
 have hpl:ps.length<=N.length:=by have:=congrArg List.length S.pre;rw [bD] at this;lia
 obtain⟨h1,tk,rfl,hk⟩:=x.done;have noA:∀b:Addr,b∉(cxOf CX P w K mg base N qual scope f cd A outer s H E).ex:=λb z=>absurd (show b∈([]:List Addr) from z) (by simp)
 refine⟨⟨e0.mod,S.kind,rfl,rfl,aD _,λy z c h1 h2=>?_,λy hy=>?_,λy c _ h=>?_,λ_=>hd,Around.frames_deeper e0.frames,.inr ⟨rfl,rfl⟩,λb z=>absurd z (noA b),e0.bs,e0.bsz,λb _ _=>noA b,λb z=>absurd z (noA b),e0.funs,e0.frf⟩,
  rfl,e0.bare,Un.kept hk,⟨_,x.toInCall.ns,λi y v h1 h2 h3=>?_⟩,λy c h=>⟨_,x.cell y c h⟩,e0.hok.fresh (aD _),λy c h=>?_,λp hp=>absurd (show p∈([]:List (Addr×Obj)) from hp) (by simp),e0.hok.kept hk,?_⟩
 ·exact name_of_addr x.apart (cP h1) (cP h2)
 ·have hy:scope.names.lookup y=some .cell\/scope.names.lookup y=some .free:=hy;rcases hy with hy | hy
  ·exact qLw hy
  ·exact absurd rfl (S.nofree _ (cP hy))
 ·exact cK (x.above y c (cP h))
 ·have hi:i<vs.length:=by
   unfold start at h2;by_cases hi:i<vs.length
   ·exact hi
   ·rw [dC (by simpa using hi)] at h2;rw [List.getElem?_replicate] at h2;split at h2 <;> cases h2
  have ha:vs[i]? = some v:=by
   unfold start at h2;rw [cQ (by simpa using hi),aX] at h2;cases e:vs[i]? with
   | none=>rw [e] at h2;cases h2
   | some a=>rw [e] at h2;cases h2;rfl
  obtain⟨u,hu,rv⟩:=r.get ha;have hp:ps[i]? = some y:=by
   rw [<-S.pre,List.getElem?_take_of_lt (by lia)];exact h1
  have ndP:ps.Nodup:=by rw [<-S.pre];exact S.nd.sublist (List.take_sublist _ _)
  refine⟨u,rv,?_⟩;rcases S.par y (aP hp) with k | k
  ·exact .inl ⟨k,qJr ndP hp hu k⟩
  ·obtain⟨c,e⟩:=qLw (n:=s.heap.objs.size+1) k;refine .inr ⟨.inl k,c,e,?_⟩;have q:=x.cell y c e;rw [qJt ndP hp hu (by show scope.names.lookup y≠_;rw [k];decide)] at q;exact q
 ·exact e0.hok.fresh (cK (x.above y c (cP h)))
 ·unfold start;show _=N.length;rw [aK,aC,List.length_replicate];lia
theorem qWs{CX:CXT}{P:Program}{w:World}{K:PySem.W.Frag}{mg:Str->Option Value}{base:Heap}{k:Nat}{f:Addr}{name qual:Str}{params:Arguments}{body:List Stmt}{scope:Scope}{dV kV doc pm cdv ct oc:Value}{an od:Option Addr}{osl:Array (Option Value)}{N ps:List Str}{sp:Sp}(lk:K.lookup f=some ⟨oc,od,.func (PySem.W.fnOf name qual params body scope dV kV doc pm an cdv ct),osl⟩)(hcd:PySem.W.codeIn K cdv qual=true)(S:FnScope N ps scope)(len:∀vs H Q E,sp vs H Q E->vs.length=ps.length)(hbody:∀(A:Around) (outer:List Env) (s:Shared) (H:Hp) (vs:List V) (Q:VK) (E:XK),Room k (A.deeper (envOfC qual scope s.heap.objs.size f cdv))->sp vs H Q E ->
   ∃t,PSs (cxOf CX P w K mg base N qual scope f cdv A outer s H E) body t/\t { nx:=λ_ H'=>Q .non H',rt:=Q } (start N vs) H) :
  FnOk P w K mg base CX (k+1) f (PySem.W.fnOf name qual params body scope dV kV doc pm an cdv ct) ps sp:=by
 refine⟨len,λA outer s H args us vs Q E hr e0 hb r hsp=>?_⟩;have hl:=len _ _ _ _ hsp;have KX:K.In s.heap:=e0.mod.kin.keeps λb o e=>(e0.bs b o e).1;have lim:s.heap.NoLimit:=e0.mod.nolimit.keeps λb o e=>(e0.bs b o e).1;have hkind:∀y∈ps.zip us,scope.names.lookup y.1=some .local\/(scope.names.lookup y.1=some .cell/\((cellsFrom (s.heap.objs.size+1) scope.names []).lookup y.1).isSome=true):=λ⟨n,v⟩ hy=>by
  rcases S.par n (List.of_mem_zip hy).1 with q | q
  ·exact .inl q
  ·exact .inr ⟨q,PySem.W.cellsFrom_some _ _ _ (.inl q)⟩
 refine codeAny_call_function hr.depth (KX _ _ lk) rfl S.co S.gen rfl (PySem.W.codeRec_of KX hcd) (hb _ _ _ _ ?_);refine wpAny_newFunctionEnv_cells S.kind hkind λenv he s1 x=>?_;subst he;refine⟨lim.keeps x.toInCall.keep,codeAny_func ?_⟩;obtain⟨t,ht,hq⟩:=hbody A outer s H vs Q E (hr.deeper _) hsp;have I:Inv (cxOf CX P w K mg base N qual scope f cdv A outer s H E) [] (start N vs) H s1:=qPf S hr.hd e0 hl r x;refine eX (ht [] s1 (start N vs) H _ I hq) (λfl s' hs=>?_) λe s' hs=>hs;have fin:∀ {σ':St} {H':Hp} {v:V} {u:Value},Inv (cxOf CX P w K mg base N qual scope f cdv A outer s H E) [] σ' H' s'->RelV v u->Q v H'->CE outer P w H s Q u s' :=
  λ{σ' H' v u} J rv q=>⟨v,H',J.os,J.bare,J.base,J.hok,rv,q⟩
 cases fl with
 | ret u =>
  obtain⟨v,σ',H',J,rv,q⟩:=hs;exact fin J rv q
 | next =>
  obtain⟨σ',H',J,q⟩:=hs;exact fin (v:=V.non) (u:=Value.none) J rfl q
 | brk =>
  obtain⟨_,_,_,q⟩:=hs;exact False.elim q
 | cont =>
  obtain⟨_,_,_,q⟩:=hs;exact False.elim q
section
variable{X:Cx}{x:Str}{p pos:Pos}{e:Expr}{es:List Expr}{t:TA}{id T:String}{r:List V->Hp->VK->Prop}
def tCB(r:List V->Hp->VK->Prop)(t:TA):TE:=λσ H Q=>t σ H λvs H1=>r vs H1 Q
theorem qA5(hc:CallR X (.builtin id) r)(hg:Gl X x)(hm:X.mg x=none)(hv:bootBuiltins x=some (.builtin id))(ha:PA X (e::es) t)(hn:x ≠ "__name__" :=by decide)(hdb:(x == ("__debug__" : Str))=false:=by decide)
  (he:starEach (e::es) X.env=(false,eval e X.env)::starEach es X.env:=by rfl) (hpl:(backTo pos (starEach es X.env)).any (·.1)=false:=by rfl):PE X (.Call (.Name x p) (e::es) [] pos) (tCB r t):=by
 intro pins s σ H Q I h;refine wpAny_Call_Name_kw (qH1 I hg hm hv ?_ hn hdb);refine PyProof.Rows.callWith_builtin1 (thn (ha pos pins s σ H _ I h) λus s1 hq_=>?_) he hpl;obtain⟨vs,H1,I1,r1,q1⟩:=hq_;exact hc pins s1 σ H1 vs us Q I1 r1 q1
theorem qAv(hc:CallR X (.type T) r)(hg:Gl X x)(hm:X.mg x=none)(hv:bootBuiltins x=some (.type T))(ha:PA X (e::es) t)(hn:x ≠ "__name__" :=by decide)(hdb:(x == ("__debug__" : Str))=false:=by decide)
  (he:starEach (e::es) X.env=(false,eval e X.env)::starEach es X.env:=by rfl) (hpl:(backTo pos (starEach es X.env)).any (·.1)=false:=by rfl):PE X (.Call (.Name x p) (e::es) [] pos) (tCB r t):=by
 intro pins s σ H Q I h;refine wpAny_Call_Name_kw (qH1 I hg hm hv ?_ hn hdb);refine cX (thn (ha pos pins s σ H _ I h) λus s1 hq_=>?_) he hpl;obtain⟨vs,H1,I1,r1,q1⟩:=hq_;exact hc pins s1 σ H1 vs us Q I1 r1 q1
end
end L2
namespace HT
open PySem PyProof.Rows
section
open PySem.SeqAt
open PySem.AutoSeq1 (wpAny_loadPart')
open PySem.MeetsSeq PySem.MeetsSeq2 PySem.MeetsSeq3
end
section
variable{prog:Program}{w:World}{A:Around}{E:Value->Shared->Prop}{s:Shared}
theorem cat_tup{t b:Addr}{vs ws:List Value}{Q:Value->Shared->Prop}(ht:IsTup s.heap t vs.toArray)(hb:IsTup s.heap b ws.toArray)(hv:vs ≠ [])
  (h1:ws = []->Q (.ref t) s) (h2:ws ≠ []->Q (.ref s.heap.objs.size) { s with heap:=s.heap.push { cls :=.type "tuple",data :=.seq (vs++ws).toArray } })
  (hsz:vs.length+ws.length<=sizeLine):wpAny (model prog w) A (binaryOp .Add (.ref t) (.ref b)) Q E s:=by
 obtain⟨⟨cls,dd,data,sl⟩,ho,hc,n,hd⟩:=id ht;obtain⟨⟨cls2,dd2,data2,sl2⟩,ho2,hc2,n2,hd2⟩:=id hb;simp only at hc hd hc2 hd2;subst hc hd hc2 hd2;have e:vs.toArray++ws.toArray=(vs++ws).toArray:=by simp
 by_cases hw:ws = []
 ·exact concat_meets ⟨_,ho,rfl⟩ ⟨_,ho2,rfl⟩ noFill_tuple_add seq_tuple_add PySem.F.slot_tuple_add PySem.F.entry_tuple_add (eY _ _)
   (tuple_addW1 t b vs.toArray ws.toArray n n2 dd dd2 sl sl2 (by simpa using hv) (by simp [hw])) ⟨ho,ho2,h1 hw⟩
 ·refine concat_meets ⟨_,ho,rfl⟩ ⟨_,ho2,rfl⟩ noFill_tuple_add seq_tuple_add PySem.F.slot_tuple_add PySem.F.entry_tuple_add (eY _ _)
   (tuple_addW2 t b vs.toArray ws.toArray n n2 dd dd2 sl sl2 (by simpa using hv) (by simpa using hw) (by rw [aH,aH];exact hsz)) ⟨ho,ho2,?_⟩
  rw [e];exact h2 hw
def sIx(n d:Nat):Option Int->Nat
 | none=>d
 | some v=>if v<0 then (v+(n:Int)).toNat else min v.toNat n
theorem sIx_none(n d:Nat):sIx n d none=d:=rfl
theorem sIx_nat(n d k:Nat):sIx n d (some (k:Int))=min k n:=by
 show (if (k:Int)<0 then ((k:Int)+(n:Int)).toNat else min (k:Int).toNat n)=min k n;rw [if_neg (by lia),cG]
theorem qUr(n d:Nat)(hd:d<=n)(o:Option Int):sIx n d o<=n:=by
 cases o with
 | none=>exact hd
 | some v =>
  show (if v<0 then (v+(n:Int)).toNat else min v.toNat n)<=n;by_cases hv:v<0
  ·rw [if_pos hv];lia
  ·rw [if_neg hv];exact Nat.min_le_right _ _
theorem qPu(v:Int)(n d:Nat):(if v<0 then max (v+(n:Int)) 0 else min v (n:Int))=((sIx n d (some v):Nat):Int):=by
 show (if v<0 then max (v+(n:Int)) 0 else min v (n:Int))=(((if v<0 then (v+(n:Int)).toNat else min v.toNat n):Nat):Int);by_cases hv:v<0
 ·simp only [if_pos hv];lia
 ·simp only [if_neg hv];lia
theorem qMm(lo hi:Option Int)(n:Nat):Builtin.Slice.sliceAdjust lo hi 1 (n:Int)=(((sIx n 0 lo:Nat):Int),((sIx n n hi:Nat):Int)):=by
 have h1 : ¬((1:Int)<0):=by lia
 unfold Builtin.Slice.sliceAdjust;simp only [h1,if_false];refine Prod.ext ?_ ?_
 ·cases lo with
  | none=>rfl
  | some v=>exact qPu v n 0
 ·cases hi with
  | none=>rfl
  | some v=>exact qPu v n n
theorem qM6(i j:Nat):Builtin.Slice.slicePlaces (i:Int) (j:Int) 1=j - i:=by
 unfold Builtin.Slice.slicePlaces;have h1:(1:Int)>0:=by lia
 simp only [h1,if_true,Int.ediv_one];split <;> lia
theorem slicePart_{v:Value}{o:Option Int}{Q:Option Int->Shared->Prop}(p:IsPart v o)(h:Q o s):wpAny (model prog w) A (Builtin.Slice.slicePartIndex v) Q E s:=by
 cases p with
 | none=>exact slicePart_none h
 | int i t=>exact slicePart_int h
theorem qF9{sl:Addr}{vl vu:Value}{lo hi:Option Int}{n:Nat}{Q:Int×Int×Nat->Shared->Prop}(hs:s.heap.IsSliceOf sl vl vu .none)(pl:IsPart vl lo)(pu:IsPart vu hi)(h:Q (((sIx n 0 lo:Nat):Int),1,sIx n n hi - sIx n 0 lo) s):wpAny (model prog w) A (Builtin.Slice.sliceApplied (.ref sl) (pure (n:Int))) Q E s:=by
 obtain⟨os,hos,hcs,hds⟩:=id hs;unfold Builtin.Slice.sliceApplied Builtin.Slice.sliceFields;refine aA (aA (bV hos hds (x:=vl) rfl (aA (bV hos hds (x:=vu) rfl (aA (bV hos hds (x :=.none) rfl (aB ?_)))))));refine aA (slicePart_none ?_);show wpAny _ _ (if ((1:Int) == 0)=true then _ else _) _ _ s;rw [if_neg (by decide)];refine aA (slicePart_ pl (aA (slicePart_ pu (aA (aB ?_)))));show wpAny _ _ (match Builtin.Slice.sliceAdjust lo hi 1 (n:Int) with | (lo,hi)=>pure (lo,(1:Int),Builtin.Slice.slicePlaces lo hi 1)) _ _ s;rw [qMm lo hi n];show wpAny _ _ (pure (((sIx n 0 lo:Nat):Int),(1:Int),Builtin.Slice.slicePlaces ((sIx n 0 lo:Nat):Int) ((sIx n n hi:Nat):Int) 1)) _ _ s
 rw [qM6];exact aB h
theorem qQw(xs:Array Value)(i k:Nat):((List.range k).filterMap λ(m:Nat)=>xs[((i:Int)+(m:Int)*1).toNat]?).toArray=((xs.toList.drop i).take k).toArray:=by
 have e:(λ(m:Nat)=>xs[((i:Int)+(m:Int)*1).toNat]?)=λm=>xs[i+m]? :=by
  funext m
  have:((i:Int)+(m:Int)*1).toNat=i+m:=by lia
  rw [this]
 rw [e];have:=pick_run xs i k;rw [List.filterMap_map] at this;have e2:((λx=>xs[x]?)∘λx=>i+x)=λm=>xs[i+m]? :=rfl;rw [e2] at this;rw [this]
theorem getItem_tuple_cut{t sl:Addr}{items:Array Value}{vl vu:Value}{lo hi:Option Int}{Q:Value->Shared->Prop}(ht:IsTup s.heap t items)(hs:s.heap.IsSliceOf sl vl vu .none)(pl:IsPart vl lo)(pu:IsPart vu hi)(hw : ¬(sIx items.size 0 lo=0/\sIx items.size items.size hi=items.size))
  (h:Q (.ref s.heap.objs.size) { s with heap:=s.heap.push { cls :=.type "tuple",data :=.seq ((items.toList.drop (sIx items.size 0 lo)).take (sIx items.size items.size hi - sIx items.size 0 lo)).toArray } })
  (hsz:items.size<=sizeLine):wpAny (model prog w) A (getItem (.ref t) (.ref sl)) Q E s:=by
 have htake:sizeOk (.seq ((items.toList.drop (sIx items.size 0 lo)).take (sIx items.size items.size hi - sIx items.size 0 lo)).toArray):=by
  show ((items.toList.drop (sIx items.size 0 lo)).take (sIx items.size items.size hi - sIx items.size 0 lo)).toArray.size<=sizeLine;rw [aH,bD,cJ,bN];lia
 have hj:sIx items.size items.size hi<=items.size:=qUr _ _ (aD _) hi;obtain⟨os,hos,hcs,hds⟩:=id hs;have hTs:s.TypeIs (.ref sl) "slice" :=⟨os,hos,hcs⟩;unfold getItem
 try with_reducible refine bK ?_
 first | refine aA (aB ?_) | skip
 refine aA (wpAny_sequenceKey ht.typeIs (by decide) ?_)
 refine aA (cA (name:=Str.ofString "__getitem__") ht.typeIs bW
  (cO bW ht.typeIs entry_tuple_getitem ?_ (args_tuple_getitem _ _)))
 show wpAny _ _ (Builtin.Tuple.tupleItemsOf (.ref t) >>= _) _ _ s;refine aA (tupleItemsOf_ ht ?_);refine aA (wpAny_typeOf hTs ?_);rw [if_pos (by decide)];refine aA (qF9 hs pl pu ?_);have hno : ¬((((sIx items.size 0 lo:Nat):Int) == 0&&(1:Int) == 1&&(sIx items.size items.size hi - sIx items.size 0 lo) == items.size)=true):=by
  intro q;rw [aI,aI] at q;have q1:((sIx items.size 0 lo:Nat):Int)=0:=eq_of_beq q.1.1;have q2:sIx items.size items.size hi - sIx items.size 0 lo=items.size:=eq_of_beq q.2;exact hw ⟨by lia,by lia⟩
 show wpAny _ _ (if (((sIx items.size 0 lo:Nat):Int) == 0&&(1:Int) == 1&&(sIx items.size items.size hi - sIx items.size 0 lo) == items.size)=true then _ else _) _ _ s;rw [if_neg hno,qQw]
 first
  | exact aA (m:=Builtin.Tuple.tupleExact _) (bU (aB ⟨_,rfl,aB h⟩) htake)
  | exact aA (m:=Builtin.Tuple.tupleExact _) (bU (aA (aB (aB ⟨_,rfl,aB h⟩))) htake)
  | exact aA (aA (m:=Builtin.Tuple.tupleExact _) (bU (aB (aB ⟨_,rfl,aB h⟩)) htake))
  | exact aA (aA (m:=Builtin.Tuple.tupleExact _) (bU (aB ⟨_,rfl,aB h⟩) htake))
end
end HT
namespace L2
open PySem PySem.Spec PyProof.Rows
abbrev TO:=St->Hp->(Option Int->Hp->Prop)->Prop
def PO(X:Cx)(e:Option Expr)(t:TO):Prop :=
 ∀(pins:List (Addr×Obj)) (s:Shared) (σ : St) (H:Hp) (Q:Option Int->Hp->Prop),Inv X pins σ H s->t σ H Q ->
  wpAny (model X.prog X.w) X.A (evalPart e X.env) (λu s' => ∃o H',Inv X pins σ H' s'/\IsPart u o/\Q o H') X.xe s
def qN4:TO:=λ_ H Q=>Q none H
def tPart(t:TE):TO:=λσ H Q=>t σ H λx H1 => ∃i,x = .int i/\Q (some i) H1
theorem qH3{ns:List Int}:∀ {us:List Value},Vals (ns.map V.int) us->IntsAre us ns:=by
 induction ns with
 | nil=>intro us r;rw [eZ] at r;cases r;exact .nil
 | cons n ns ih =>
  intro us r;rw [bR] at r;cases r with
  | cons r1 r2 =>
   obtain⟨t,e⟩:=r1;subst e;exact .cons n t (ih r2)
section
variable{X:Cx}{e:Expr}{te:TE}{lo hi:Option Expr}{tl th:TO}{pos p2:Pos}
theorem qCa:PO X none qN4:=by
 intro pins s σ H Q I h;rw [evalPart_none];exact aB ⟨none,H,I,.none,h⟩
theorem qC9(h:PE X e te):PO X (some e) (tPart te):=by
 intro pins s σ H Q I hw;rw [evalPart_some];refine thn (h pins s σ H _ I hw) λu s1 hq_=>?_;obtain⟨x,H1,I1,r1,q1⟩:=hq_;obtain⟨i,rfl,q⟩:=q1;obtain⟨t,rfl⟩:=r1;exact⟨some i,H1,I1,.int i t,q⟩
def SlR(X:Cx)(r:V->Option Int->Option Int->Hp->VK->Prop):Prop :=
 ∀(pins:List (Addr×Obj)) (s:Shared) (σ : St) (H:Hp) (x:V) (v vl vu:Value) (lo hi:Option Int) (sl:Addr) (Q:VK),Inv X pins σ H s->RelV x v->s.heap.IsSliceOf sl vl vu .none->IsPart vl lo->IsPart vu hi->r x lo hi H Q ->
  ∃T id,typeLookup (.type T) "__getitem__" = pure (some (.builtin id))/\s.TypeIs v T/\wpAny (model X.prog X.w) X.A (getItem v (.ref sl)) (EP X pins σ Q) X.xe s
theorem SlR.or{r r':V->Option Int->Option Int->Hp->VK->Prop}(h:SlR X r)(h':SlR X r'):SlR X (λx lo hi H Q=>r x lo hi H Q\/r' x lo hi H Q):=by
 intro pins s σ H x v vl vu lo hi sl Q I rx hs pl pu q;rcases q with q | q
 ·exact h pins s σ H x v vl vu lo hi sl Q I rx hs pl pu q
 ·exact h' pins s σ H x v vl vu lo hi sl Q I rx hs pl pu q
def tSl(r:V->Option Int->Option Int->Hp->VK->Prop)(te:TE)(tl th:TO):TE:=λσ H Q=>te σ H λx H1=>tl σ H1 λl H2=>th σ H2 λu H3=>r x l u H3 Q
theorem qBn{r:V->Option Int->Option Int->Hp->VK->Prop}(hr:SlR X r)(he:PE X e te)(hl:PO X lo tl)(hu:PO X hi th):PE X (.Subscript e (.Slice lo hi none p2) pos) (tSl r te tl th):=by
 intro pins s σ H Q I h;refine Subscript_ (thn (he pins s σ H _ I h) λv s1 hq_=>?_);obtain⟨x,H1,I1,r1,q1⟩:=hq_;refine wpAny_Slice (thn (hl pins s1 σ H1 _ I1 q1) λvl s2 hq_=>?_);obtain⟨l,H2,I2,pl,q2⟩:=hq_;refine thn (hu pins s2 σ H2 _ I2 q2) λvu s3 hq_=>?_;obtain⟨u,H3,I3,pu,q3⟩:=hq_;rw [evalPart_none];refine aB ?_;have I4:Inv X pins σ H3 { s3 with heap:=s3.heap.push { cls :=.type "slice",data :=.fields #[vl,vu,.none] } }:=I3.kept (t':=s3.toks) λb ob q=>aF _ q;obtain⟨T,id,hT,ht,hg⟩:=hr pins { s3 with heap:=s3.heap.push { cls :=.type "slice",data :=.fields #[vl,vu,.none] } } σ H3 x v vl vu l u s3.heap.objs.size Q I4 r1 (Heap.IsSliceOf.new ..) pl pu q3;show wpAny (model X.prog X.w) X.A (subscriptTail e (.Slice lo hi none p2) v (.ref s3.heap.objs.size)) (EP X pins σ Q) X.xe { s3 with heap:=s3.heap.push { cls :=.type "slice",data :=.fields #[vl,vu,.none] } }
 exact tail_any (ops :=[.ref s3.heap.objs.size,v]) ht hT hg (by with_unfolding_all rfl)
def cutV(xs:List V)(lo hi:Option Int):List V:=(xs.drop (HT.sIx xs.length 0 lo)).take (HT.sIx xs.length xs.length hi - HT.sIx xs.length 0 lo)
theorem qGa(xs:List V)(lo hi:Option Int):(cutV xs lo hi).length<=xs.length:=by
 unfold cutV;rw [bD,cJ];lia
def rSlT(K:PySem.W.Frag):V->Option Int->Option Int->Hp->VK->Prop:=λx lo hi H Q => ∃a xs,x = .ref a/\SqT K H a xs /\
 ¬(HT.sIx xs.length 0 lo=0/\HT.sIx xs.length xs.length hi=xs.length) /\ ∀p,H p=none->Q (.ref p) (upd H p (.tup (cutV xs lo hi)))
theorem qE7:SlR X (rSlT X.K):=by
 intro pins s σ H x v vl vu lo hi sl Q I rx hs pl pu h;obtain⟨a,xs,rfl,hx,hw,q⟩:=h;cases rx;obtain⟨its,r,ht,hz⟩:=I.tuple hx;have hlen:its.toArray.size=xs.length:=by rw [aH];exact r.length.symm
 refine⟨"tuple",_,bW.lookup,ht.typeIs,?_⟩;refine HT.getItem_tuple_cut ht hs pl pu (by rw [hlen];exact hw) ?_ (by rw [hlen];exact hz);rw [hlen];refine⟨.ref s.heap.objs.size,_,I.laid (t':=s.toks) (o :=.tup (cutV xs lo hi)) (λb ob q=>aF _ q) (aD _) ?_,rfl,q _ (I.hok.fresh (aD _))⟩;exact⟨bC (qGa xs lo hi) hz,_,(r.drop (HT.sIx xs.length 0 lo)).take (HT.sIx xs.length xs.length hi - HT.sIx xs.length 0 lo),IsTup.new _ _⟩
def rCatT(K:PySem.W.Frag):R2:=λx y H Q => ∃a b xs ys,x = .ref a/\y = .ref b/\SqT K H a xs/\SqT K H b ys/\xs ≠ []/\xs.length+ys.length<=sizeLine /\
 (ys = []->Q (.ref a) H)/\(ys ≠ [] -> ∀p,H p=none->Q (.ref p) (upd H p (.tup (xs++ys))))
theorem Vals.nil_iff{xs:List V}{us:List Value}(r:Vals xs us):us = []↔xs = []:=by
 cases r with
 | nil=>simp
 | cons _ _=>simp
theorem qTn:OpR X (binaryOp .Add) (rCatT X.K):=by
 intro pins s σ H x y v u Q I rx ry h;obtain⟨a,b,xs,ys,rfl,rfl,ha,hb,hx,hz,q1,q2⟩:=h;cases rx;cases ry;obtain⟨its,r1,p1,_⟩:=I.tuple ha;obtain⟨its2,r2,p2,_⟩:=I.tuple hb;refine HT.cat_tup p1 p2 (λz=>hx (r1.nil_iff.mp z)) (λz=>⟨.ref a,H,I,rfl,q1 (r2.nil_iff.mp z)⟩) (λz=>?_) (by rw [<-r1.length,<-r2.length];exact hz);refine⟨.ref s.heap.objs.size,_,I.laid (t':=s.toks) (o :=.tup (xs++ys)) (λb ob q=>aF _ q) (aD _) ?_,rfl,q2 (λw=>z (r2.nil_iff.mpr w)) _ (I.hok.fresh (aD _))⟩;exact⟨by rw [aK];exact hz,_,r1.append r2,IsTup.new _ _⟩
theorem qKr:CallR X (.type "tuple") (λxs H Q => ∃a ys,xs = [.ref a]/\SqT X.K H a ys/\Q (.ref a) H):=by
 intro pins s σ H xs us Q I r h;obtain⟨a,ys,rfl,ha,q⟩:=h;obtain⟨u,rfl,ru⟩:=vals1 r;cases ru;obtain⟨its,_,p1,_⟩:=I.tuple ha;exact call_tuple_same (items:=its.toArray) p1 ⟨.ref a,H,I,rfl,q⟩
end
def ixN(n:Nat)(i:Int):Option Nat:=if 0<=i then (if i<n then some i.toNat else none) else if -(n:Int)<=i then some (i+n).toNat else none
def atI{α : Type}(xs:List α)(i:Int):Option α :=(ixN xs.length i).bind λj=>xs[j]?
theorem qPd{n:Nat}{i:Int}{j:Nat}(h:ixN n i=some j):seqIndex? i n=some j/\j<n /\ -(n:Int)<=i/\i<n:=by
 unfold ixN at h;by_cases h0:0<=i
 ·rw [if_pos h0] at h;by_cases h1:i<n
  ·rw [if_pos h1] at h;have e:i.toNat=j:=bG h;exact⟨by rw [seqIndex_of h0 h1,e],by lia,by lia,h1⟩
  ·rw [if_neg h1] at h;cases h
 ·rw [if_neg h0] at h;by_cases h1 : -(n:Int)<=i
  ·rw [if_pos h1] at h;have e:(i+n).toNat=j:=bG h;exact⟨by rw [seqIndex_neg (by lia) h1,e],by lia,h1,by lia⟩
  ·rw [if_neg h1] at h;cases h
theorem qQ5{α : Type}{xs:List α}{i:Int}{v : α}(h:atI xs i=some v):∃j,seqIndex? i xs.length=some j/\xs[j]? = some v/\j<xs.length /\ -(xs.length:Int)<=i/\i<xs.length:=by
 unfold atI at h;cases e:ixN xs.length i with
 | none=>rw [e] at h;cases h
 | some j =>
  rw [e] at h;obtain⟨h1,h2,h3,h4⟩:=qPd e;exact⟨j,h1,h,h2,h3,h4⟩
theorem qAw{α : Type}{xs:List α}{j:Nat}{v : α}(h:xs[j]? = some v):atI xs (j:Int)=some v:=by
 have hj:j<xs.length:=(aE.mp h).1;have e:ixN xs.length (j:Int)=some j:=by
  unfold ixN;rw [if_pos (by lia),if_pos (by lia)];simp
 unfold atI;rw [e];exact h
def qQ7(b:Expr):Prop := ∀o i,subscripted b false o i=operate [o,i] (getItem o i)
def IxR(X:Cx)(r:R2):Prop :=
 ∀(value slice:Expr) (pins:List (Addr×Obj)) (s:Shared) (σ : St) (H:Hp) (x y:V) (v u:Value) (Q:VK),Inv X pins σ H s->RelV x v->RelV y u->r x y H Q ->
  subscripted slice false v u=operate [v,u] (getItem v u)->wpAny (model X.prog X.w) X.A (subscriptTail value slice v u) (EP X pins σ Q) X.xe s
def MtR(X:Cx)(id:String)(r:V->List V->Hp->VK->Prop):Prop :=
 ∀(pins:List (Addr×Obj)) (s:Shared) (σ : St) (H:Hp) (x:V) (xs:List V) (v:Value) (us:List Value) (Q:VK),Inv X pins σ H s->RelV x v->Vals xs us->r x xs H Q ->
  wpAny (model X.prog X.w) X.A (call (.builtin id) (v::us)) (EP X pins σ Q) X.xe s
section
variable{X:Cx}{a b:Expr}{ta tb:TE}{pos:Pos}
theorem qAm{r:R2}(hr:IxR X r)(ha:PE X a ta)(hb:PE X b tb)(hs:qQ7 b):PE X (.Subscript a b pos) (tOp r ta tb):=by
 intro pins s σ H Q I h;exact Subscript_ (binT ha hb I h λv u s2 x y H2 I2 rx ry q=>hr a b pins s2 σ H2 x y v u Q I2 rx ry q (hs _ _))
def rIxL(K:PySem.W.Frag):R2:=λx y H Q => ∃p xs i v,x = .ref p/\y = .int i/\SqL K H p xs/\atI xs i=some v/\Q v H
def rIxT(K:PySem.W.Frag):R2:=λx y H Q => ∃p xs i v,x = .ref p/\y = .int i/\SqT K H p xs/\atI xs i=some v/\Q v H
theorem qAi:IxR X (rIxL X.K):=by
 intro value slice pins s σ H x y v u Q I rx ry h hs;obtain⟨p,xs,i,z,rfl,rfl,hq,he,q⟩:=h;cases rx;obtain⟨t,rfl⟩:=ry;obtain⟨its,r,pl,hz⟩:=I.list hq;obtain⟨j,h1,h2,h3,h4,h5⟩:=qQ5 he;obtain⟨w,ew,rw'⟩:=r.get h2;have hl:=r.length;have hn:=qJ5;have fin:EP X pins σ Q w s:=⟨z,H,I,rw',q⟩;by_cases h0:0<=i
 ·have hj:i.toNat=j:=by
   rw [seqIndex_of h0 h5] at h1;exact bG h1
  exact item_listR pl.isList h0 (by lia) (by rw [hj];simpa using ew) fin hs
 ·have hj:(i+(its.toArray.size:Int)).toNat=j:=by
   rw [seqIndex_neg (by lia) h4] at h1;rw [aH,<-hl];exact bG h1
  exact subscriptTail_builtinR (x:=w) pl.isList.typeIs slot_list_getitem.lookup
   (wpAny_getItem_list_neg (Q:=λr s'=>r=w/\EP X pins σ Q r s') pl.isList (by lia) (by rw [aH] <;> lia) (by lia) (by rw [hj];simpa using ew) ⟨rfl,fin⟩) hs
theorem qB1:IxR X (rIxT X.K):=by
 intro value slice pins s σ H x y v u Q I rx ry h hs;obtain⟨p,xs,i,z,rfl,rfl,hq,he,q⟩:=h;cases rx;obtain⟨t,rfl⟩:=ry;obtain⟨its,r,pl,hz⟩:=I.tuple hq;obtain⟨j,h1,h2,h3,h4,h5⟩:=qQ5 he;obtain⟨w,ew,rw'⟩:=r.get h2;have hl:=r.length;have hn:=qJ5;have fin:EP X pins σ Q w s:=⟨z,H,I,rw',q⟩;exact subscriptTail_builtinR (x:=w) pl.typeIs slot_tuple_getitem.lookup
  (getItem_tuple (j:=j) (Q:=λr s'=>r=w/\EP X pins σ Q r s') pl (by lia) (by lia) (by rw [aH,<-hl];exact h1) (by simpa using ew) ⟨rfl,fin⟩) hs
theorem qMe(its:List Value)(n j:Nat)(u:Value):Obj.mapSeq (·.setIfInBounds j u) { cls :=.type "list",data :=.seq its.toArray n } = { cls :=.type "list",data :=.seq (its.set j u).toArray n }:=by
 simp [Obj.mapSeq]
theorem Inv.lst{pins:List (Addr×Obj)}{σ : St}{H:Hp}{s:Shared}{p:Addr}{xs:List V}(I:Inv X pins σ H s)(h:H p=some (.lst xs)):∃(its:List Value) (n:Nat),Vals xs its/\s.heap.get? p=some { cls :=.type "list",data :=.seq its.toArray n }/\xs.length<=sizeLine:=by
 obtain⟨z,its,n,r,e⟩:=I.hok p _ h;exact⟨its,n,r,e,z⟩
theorem Inv.lstUpd{pins:List (Addr×Obj)}{σ : St}{H:Hp}{s:Shared}{p:Addr}{xs ys:List V}{its its':List Value}{n n':Nat}{f:Obj->Obj}(I:Inv X pins σ H s)(h:H p=some (.lst xs))
  (ho:s.heap.get? p=some { cls :=.type "list",data :=.seq its.toArray n }) (hf:f { cls :=.type "list",data :=.seq its.toArray n } = { cls :=.type "list",data :=.seq its'.toArray n' }) (r:Vals ys its') (hz:ys.length<=sizeLine) (t:Nat) :
  Inv X pins σ (upd H p (.lst ys)) { s with heap:=s.heap.update p f,toks:=t }:=by
 have e:(s.heap.update p f).get? p=some { cls :=.type "list",data :=.seq its'.toArray n' }:=by
  rw [Heap.get?_update_self f ho (by rw [hf] <;> rfl),hf]
 refine I.write (x:=p) (e:=p) (by rw [h];trivial) (.inl rfl) (λb u hb q=>(Heap.get?_update_other _ _ (cV hb)).trans q) ⟨_,e⟩ ?_;exact⟨hz,its',n',r,e⟩
def rSetL:V->V->V->Hp->(Hp->Prop)->Prop:=λo i v H Q => ∃p xs k j,o = .ref p/\i = .int k/\H p=some (.lst xs)/\ixN xs.length k=some j/\Q (upd H p (.lst (xs.set j v)))
theorem qHk:PSet X rSetL:=by
 intro pins s σ H o i v ov iv u Q I ro ri rv h;obtain⟨p,xs,k,j,rfl,rfl,hp,hj,q⟩:=h;cases ro;obtain⟨t,rfl⟩:=ri;obtain⟨its,n,r,ho,hz⟩:=I.lst hp;obtain⟨h1,h2,h3,h4⟩:=qPd hj;have hl:=r.length;have hn:=qJ5;have I':Inv X pins σ (upd H p (.lst (xs.set j v))) { s with heap:=s.heap.update p (Obj.mapSeq (·.setIfInBounds j u)) } :=
  I.lstUpd hp ho (qMe its n j u) (r.set rv j) (by rw [List.length_set];exact hz) s.toks
 by_cases h0:0<=k
 ·have hk:k.toNat=j:=by
   rw [seqIndex_of h0 h4] at h1;exact bG h1
  exact PySem.W.ki_setAt ho h0 (by lia) (by rw [aH,<-hl];exact h4) (by rw [hk];exact⟨_,I',q⟩)
 ·have hk:(k+(its.toArray.size:Int)).toNat=j:=by
   rw [seqIndex_neg (by lia) h3] at h1;rw [aH,<-hl];exact bG h1
  exact PySem.W.ki_setBack ho (by lia) (by rw [aH,<-hl];exact h3) (by lia) (by rw [hk];exact⟨_,I',q⟩)
theorem qIm(lo hi:Option Int)(n:Nat):(sliceBounds lo hi none n).1=((HT.sIx n 0 lo:Nat):Int)/\(sliceBounds lo hi none n).2.1=((HT.sIx n n hi:Nat):Int)/\(sliceBounds lo hi none n).2.2=1:=by
 refine⟨?_,?_,rfl⟩
 ·cases lo with
  | none=>simp [sliceBounds,HT.sIx]
  | some i =>
   simp only [sliceBounds,HT.sIx,Option.getD_none,show (1:Int)>0 by decide,if_true];by_cases h:i<0
   ·simp only [h,if_true] <;> lia
   ·simp only [h,if_false] <;> lia
 ·cases hi with
  | none=>simp [sliceBounds,HT.sIx]
  | some i =>
   simp only [sliceBounds,HT.sIx,Option.getD_none,show (1:Int)>0 by decide,if_true];by_cases h:i<0
   ·simp only [h,if_true] <;> lia
   ·simp only [h,if_false] <;> lia
theorem qHj(its:List Value)(lo hi:Option Int):slicePick its.toArray lo hi none=((its.drop (HT.sIx its.length 0 lo)).take (HT.sIx its.length its.length hi - HT.sIx its.length 0 lo)).toArray:=by
 obtain⟨h1,h2,h3⟩:=qIm lo hi its.toArray.size;unfold slicePick;rw [h1,h2,h3];simp only [sliceRange_one,pick_run,aH] <;> rfl
def rSlL(K:PySem.W.Frag):V->Option Int->Option Int->Hp->VK->Prop:=λx lo hi H Q => ∃a xs,x = .ref a/\SqL K H a xs /\ ∀p,H p=none->Q (.ref p) (upd H p (.lst (cutV xs lo hi)))
theorem sl_list:SlR X (rSlL X.K):=by
 intro pins s σ H x v vl vu lo hi sl Q I rx hs pl pu h;obtain⟨a,xs,rfl,hx,q⟩:=h;cases rx;obtain⟨its,r,ht,hz⟩:=I.list hx;have hlen:=r.length;refine⟨"list",_,slot_list_getitem.lookup,ht.isList.typeIs,?_⟩;refine wpAny_getItem_list_slice ht.isList hs pl pu .none (by simp) ?_ (by rw [aH] <;> lia);rw [qHj,<-hlen];refine⟨.ref s.heap.objs.size,_,I.laid (t':=s.toks) (o :=.lst (cutV xs lo hi)) (λb ob q=>aF _ q) (aD _) ?_,rfl,q _ (I.hok.fresh (aD _))⟩;exact⟨bC (qGa xs lo hi) hz,_,0,(r.drop (HT.sIx xs.length 0 lo)).take (HT.sIx xs.length xs.length hi - HT.sIx xs.length 0 lo),aR _ rfl⟩
def flatV:V->Bool
 | .non=>true
 | .bl _=>true
 | .int _=>true
 | .str _=>true
 | _=>false
def eqV:V->V->Bool
 | .non,.non=>true
 | .bl a,.bl b=>a == b
 | .bl a,.int b=>(if a then 1 else 0) == b
 | .int a,.bl b=>a == (if b then 1 else 0)
 | .int a,.int b=>a == b
 | .str a,.str b=>a == b
 | _,_=>false
theorem qW0{A:Around}{s:Shared}{y x:V}{u v:Value}(ry:RelV y u)(rx:RelV x v)(fy:flatV y=true)(fx:flatV x=true):SeqAt.EqAt A s u v (eqV y x):=by
 cases y with
 | non =>
  cases ry;cases x with
  | non=>cases rx;exact SeqAt.EqAt.same _
  | bl b=>cases rx;exact SeqAt.EqAt.none_bool b
  | int b=>obtain⟨t,rfl⟩:=rx;exact SeqAt.EqAt.none_int b t
  | str b=>obtain⟨t,rfl⟩:=rx;exact SeqAt.EqAt.none_str b t
  | _=>exact absurd (show false=true from fx) aQ
 | bl a =>
  cases ry;cases x with
  | non=>cases rx;exact SeqAt.EqAt.bool_none a
  | bl b=>cases rx;exact SeqAt.EqAt.bool_bool a b
  | int b=>obtain⟨t,rfl⟩:=rx;exact SeqAt.EqAt.bool_int a b t
  | str b=>obtain⟨t,rfl⟩:=rx;exact SeqAt.EqAt.bool_str a b t
  | _=>exact absurd (show false=true from fx) aQ
 | int a =>
  obtain⟨t',rfl⟩:=ry;cases x with
  | non=>cases rx;exact SeqAt.EqAt.int_none a t'
  | bl b=>cases rx;exact SeqAt.EqAt.int_bool a t' b
  | int b=>obtain⟨t,rfl⟩:=rx;exact SeqAt.EqAt.int_int a t' b t
  | str b=>obtain⟨t,rfl⟩:=rx;exact SeqAt.EqAt.int_str a t' b t
  | _=>exact absurd (show false=true from fx) aQ
 | str a =>
  obtain⟨t',rfl⟩:=ry;cases x with
  | non=>cases rx;exact SeqAt.EqAt.str_none a t'
  | bl b=>cases rx;exact SeqAt.EqAt.str_bool a t' b
  | int b=>obtain⟨t,rfl⟩:=rx;exact SeqAt.EqAt.str_int a t' b t
  | str b=>obtain⟨t,rfl⟩:=rx;exact SeqAt.EqAt.str_str a t' b t
  | _=>exact absurd (show false=true from fx) aQ
 | _=>exact absurd (show false=true from fy) aQ
def eqU(x:V)(u:Value):Bool:=match u with
 | .none=>eqV .non x
 | .bool b=>eqV (.bl b) x
 | .int i _=>eqV (.int i) x
 | .str z _=>eqV (.str z) x
 | _=>false
theorem qSl{x y:V}{u:Value}(r:RelV y u)(f:flatV y=true):eqU x u=eqV y x:=by
 cases y with
 | non=>cases r;rfl
 | bl b=>cases r;rfl
 | int i=>obtain⟨t,rfl⟩:=r;rfl
 | str z=>obtain⟨t,rfl⟩:=r;rfl
 | _=>exact absurd (show false=true from f) aQ
theorem qIb{x:V}{xs:List V}{us:List Value}(h:Vals xs us)(f:xs.all flatV=true):us.any (eqU x)=xs.any λy=>eqV y x:=by
 induction h with
 | nil=>rfl
 | cons r t ih =>
  rw [dF,aI] at f;rw [List.any_cons,List.any_cons,qSl r f.1,ih f.2]
theorem qFl{A:Around}{s:Shared}{x:V}{v:Value}(rx:RelV x v)(fx:flatV x=true){xs:List V}{us:List Value}(h:Vals xs us)(f:xs.all flatV=true):∀u∈us,SeqAt.EqAt A s u v (eqU x u):=by
 induction h with
 | nil=>intro u hu;cases hu
 | cons r t ih =>
  intro u' hu;rw [dF,aI] at f;rcases aN.mp hu with rfl | hu
  ·rw [qSl r f.1];exact qW0 r rx f.1 fx
  ·exact ih f.2 u' hu
def inV(x:V)(xs:List V):Bool:=xs.any λy=>eqV y x
def rIn(K:PySem.W.Frag)(neg:Bool):R2:=λx y H Q => ∃p xs,y = .ref p/\(SqL K H p xs\/SqT K H p xs)/\flatV x=true/\xs.all flatV=true/\Q (.bl (if neg then !inV x xs else inV x xs)) H
theorem qOf:OpR X (compareOp .In) (rIn X.K false):=by
 intro pins s σ H x y v u Q I rx ry h;obtain⟨p,xs,rfl,hq,fx,fs,q⟩:=h;cases ry;rcases hq with hq | hq
 ·obtain⟨its,r,pl,hz⟩:=I.list hq;refine SeqAt.in_listAt (eqU x) pl.isList (λw hw=>qFl rx fx r fs w (by simpa using hw)) ⟨.bl _,H,I,rfl,?_⟩;rw [show its.toArray.any (eqU x)=its.any (eqU x) by simp,qIb r fs];exact q
 ·obtain⟨its,r,pl,hz⟩:=I.tuple hq;refine SeqAt.in_tupleAt (eqU x) pl (λw hw=>qFl rx fx r fs w (by simpa using hw)) ⟨.bl _,H,I,rfl,?_⟩;rw [show its.toArray.any (eqU x)=its.any (eqU x) by simp,qIb r fs];exact q
theorem qIz:OpR X (compareOp .NotIn) (rIn X.K true):=by
 intro pins s σ H x y v u Q I rx ry h;obtain⟨p,xs,rfl,hq,fx,fs,q⟩:=h;cases ry;rcases hq with hq | hq
 ·obtain⟨its,r,pl,hz⟩:=I.list hq;refine SeqAt.notIn_listAt (eqU x) pl.isList (λw hw=>qFl rx fx r fs w (by simpa using hw)) ⟨.bl _,H,I,rfl,?_⟩;rw [show its.toArray.any (eqU x)=its.any (eqU x) by simp,qIb r fs];exact q
 ·obtain⟨its,r,pl,hz⟩:=I.tuple hq;refine SeqAt.notIn_tupleAt (eqU x) pl (λw hw=>qFl rx fx r fs w (by simpa using hw)) ⟨.bl _,H,I,rfl,?_⟩;rw [show its.toArray.any (eqU x)=its.any (eqU x) by simp,qIb r fs];exact q
theorem qA8:CallR X (.builtin "len") (λxs H Q => ∃p ys,xs = [.ref p]/\(SqL X.K H p ys\/SqT X.K H p ys)/\Q (.int ys.length) H):=by
 intro pins s σ H xs us Q I r h;obtain⟨p,ys,rfl,hq,q⟩:=h;obtain⟨u,rfl,rx⟩:=vals1 r;cases rx;have hn:=qJ5;rcases hq with hq | hq
 ·obtain⟨its,r',pl,hz⟩:=I.list hq;have hlen:=r'.length;exact Calls.call_len_list pl.isList (by simp only [aH] <;> lia) ⟨.int ys.length,H,I.tok _,⟨s.toks+1,by rw [aH,hlen]⟩,q⟩
 ·obtain⟨its,r',pl,hz⟩:=I.tuple hq;have hlen:=r'.length;exact len_tuple pl (by simp only [aH] <;> lia) ⟨.int ys.length,H,I.tok _,⟨s.toks+1,by rw [aH,hlen]⟩,q⟩
theorem qBs:CallR X (.type "list") (λxs H Q => ∃p ys,xs = [.ref p]/\(SqL X.K H p ys\/SqT X.K H p ys) /\ ∀l,H l=none->Q (.ref l) (upd H l (.lst ys))):=by
 intro pins s σ H xs us Q I r h;obtain⟨p,ys,rfl,hq,q⟩:=h;obtain⟨u,rfl,rx⟩:=vals1 r;cases rx;have fin:∀(its:List Value),Vals ys its->ys.length<=sizeLine -> ∀(h':Heap) (c':Nat),(∀b o',s.heap.get? b=some o'->h'.get? b=some o') ->
   h'.get? s.heap.objs.size=some { cls :=.type "list",dict:=none,data :=.seq its.toArray c',slots := #[] }->EP X pins σ Q (.ref s.heap.objs.size) { s with heap:=h' }:=λits r' hz h' c' kp e =>
  ⟨.ref s.heap.objs.size,_,I.laid (t':=s.toks) kp (aD _) (show ObjOk X.prog X.w _ h' _ (.lst ys) from⟨hz,its,c',r',e⟩),rfl,q _ (I.hok.fresh (aD _))⟩
 rcases hq with hq | hq
 ·obtain⟨its,r',pl,hz⟩:=I.list hq;have hlen:=r'.length;obtain⟨o,ho,hc,n,hd⟩:=pl.isList;exact call_list_seq p (.inl rfl) ho hc hd (λh' c' kp e=>fin its r' hz h' c' kp e) (by simp only [aH] <;> lia)
 ·obtain⟨its,r',pl,hz⟩:=I.tuple hq;have hlen:=r'.length;obtain⟨o,ho,hc,n,hd⟩:=pl;exact call_list_seq p (.inr rfl) ho hc hd (λh' c' kp e=>fin its r' hz h' c' kp e) (by simp only [aH] <;> lia)
def tyV(K:PySem.W.Frag)(T:String)(x:V)(H:Hp):Prop:=match x with
 | .str _=>T = "str"
 | .int _=>T = "int"
 | .ref p=>(T = "list" /\ ∃xs,SqL K H p xs)\/(T = "tuple" /\ ∃o,K.lookup p=some o/\o.cls = .type "tuple" /\ o.dict=none) \/
   (T = "dict" /\ ((∃kvs,H p=some (.dK kvs)) \/ ∃kvs,H p=some (.dT kvs)))\/(T = "set" /\ ∃S n,H p=some (.set S n))
 | _=>False
theorem qS2{pins:List (Addr×Obj)}{σ : St}{H:Hp}{s:Shared}{T:String}{x:V}{v:Value}(I:Inv X pins σ H s)(r:RelV x v)(ty:tyV X.K T x H):s.TypeIs v T /\ ∀a,v = .ref a -> ∃ob,s.heap.get? a=some ob/\ob.dict=none:=by
 cases x with
 | str z =>
  obtain⟨t,rfl⟩:=r;cases (show T = "str" from ty);exact⟨typeIs_str s z t,λ_ e=>nomatch e⟩
 | int i =>
  obtain⟨t,rfl⟩:=r;cases (show T = "int" from ty);exact⟨typeIs_int s i t,λ_ e=>nomatch e⟩
 | ref p =>
  cases r;rcases ty with ⟨rfl,xs,hq⟩ | ⟨rfl,o,hk,hc,hd⟩ | ⟨rfl,hk⟩ | ⟨rfl,S,n,hk⟩
  ·obtain⟨its,_,pl,_⟩:=I.list hq;refine⟨pl.isList.typeIs,λa e=>?_⟩;cases e;obtain⟨o,n,e,c,hd,_⟩:=pl;exact⟨o,e,hd⟩
  ·refine⟨⟨o,I.kIn p o hk,hc⟩,λa e=>?_⟩;cases e;exact⟨o,I.kIn _ o hk,hd⟩
  ·have z:∃o,s.heap.get? p=some o/\o.ExactDict:=by
    rcases hk with ⟨kvs,hk⟩ | ⟨kvs,hk⟩
    ·obtain⟨_,_,_,_,o,_,_,e,ex,_⟩:=I.hok p _ hk;exact⟨o,e,ex⟩
    ·obtain⟨_,_,_,_,o,_,_,e,ex,_⟩:=I.hok p _ hk;exact⟨o,e,ex⟩
   obtain⟨o,e,ex⟩:=z;refine⟨⟨o,e,ex.1⟩,λa e2=>?_⟩;cases e2;exact⟨o,e,ex.2.1⟩
  ·obtain⟨o,_,_,_,e,ex,_⟩:=I.hok p _ hk;refine⟨⟨o,e,ex.1⟩,λa e2=>?_⟩;cases e2;exact⟨o,e,ex.2.1⟩
 | _=>exact False.elim ty
def tBM0(K:PySem.W.Frag)(T:String)(r:V->List V->Hp->VK->Prop)(to:TE):TE:=λσ H Q=>to σ H λx H1=>tyV K T x H1/\r x [] H1 Q
def tBM(K:PySem.W.Frag)(T:String)(r:V->List V->Hp->VK->Prop)(to:TE)(t:TA):TE:=λσ H Q=>to σ H λx H1=>tyV K T x H1/\t σ H1 λxs H2=>r x xs H2 Q
variable{o e:Expr}{es:List Expr}{to:TE}{t:TA}{name:Str}{apos cpos:Pos}{T id:String}{r:V->List V->Hp->VK->Prop}
theorem qVg(pa:PlainAttrs T)(slot:Slot T name id)(hty:typeOf (.builtin id)=pure (.type "method_descriptor"))(hm:MtR X id r)(ho:PE X o to)
  (hbase:attributeBase o name X.env (eval o X.env)=eval o X.env:=by rfl) (hline:(apos.endLine == cpos.line)=true:=by rfl):PE X (.Call (.Attribute o name apos) [] [] cpos) (tBM0 X.K T r to):=by
 intro pins s σ H Q I h;refine wpAny_Call_method0_late hbase hline (thn (ho pins s σ H _ I h) λv s1 hq_=>?_);obtain⟨x,H1,I1,r1,ty,q1⟩:=hq_;obtain⟨h1,h2⟩:=qS2 I1 r1 ty;exact⟨T,id,pa,slot,hty,h1,h2,Calls.callWith_builtin rfl (PySem.evalArgs_none (hm pins s1 σ H1 x [] v [] Q I1 r1 .nil q1))⟩
theorem qGg(pa:PlainAttrs T)(slot:Slot T name id)(hty:typeOf (.builtin id)=pure (.type "method_descriptor"))(hm:MtR X id r)(ho:PE X o to)(ha:PA X (e::es) t)
  (hbase:attributeBase o name X.env (eval o X.env)=eval o X.env:=by rfl)
  (hfew:((backTo cpos (starEach (e::es) X.env)).all (λx => !x.1)&&(backToKw cpos (keywordEach [] X.env)).all (λx=>x.1.isSome)
   && decide ((e::es).length+([]:List Keyword).length+(if ([]:List Keyword).isEmpty then 0 else 1)<30))=true:=by rfl)
  (hline:(apos.endLine == cpos.line)=true:=by rfl) (hs:starEach (e::es) X.env=(false,eval e X.env)::starEach es X.env:=by rfl) (hplain:(backTo cpos (starEach es X.env)).any (·.1)=false:=by rfl) :
  PE X (.Call (.Attribute o name apos) (e::es) [] cpos) (tBM X.K T r to t):=by
 intro pins s σ H Q I h;refine wpAny_Call_method_late hbase hfew hline rfl (thn (ho pins s σ H _ I h) λv s1 hq_=>?_);obtain⟨x,H1,I1,r1,ty,q1⟩:=hq_;obtain⟨h1,h2⟩:=qS2 I1 r1 ty;refine⟨T,id,pa,slot,hty,h1,h2,?_⟩;have hA:=ha cpos pins s1 σ H1 _ I1 q1;rw [hs] at hA ⊢;refine Calls.callWith_builtin (by show (false||(backTo cpos (starEach es X.env)).any (·.1))=false;rw [hplain] <;> rfl) (Calls.evalArgs_plain ?_);refine thn hA λus s2 hq_=>?_;obtain⟨vs,H2,I2,r2,q2⟩:=hq_;exact hm pins s2 σ H2 x vs v us Q I2 r1 r2 q2
end
def MtM(X:Cx)(id:String)(r:V->List V->Hp->VK->Prop):Prop :=
 ∀(pins:List (Addr×Obj)) (s:Shared) (σ : St) (H:Hp) (x:V) (xs:List V) (v:Value) (us:List Value) (Q:VK),Inv X pins σ H s->RelV x v->Vals xs us->r x xs H Q ->
  wpAny (model X.prog X.w) X.A (call (.builtin id) (v::us)) (EP X pins σ Q) X.xe s
theorem Vals.one{x:V}{us:List Value}(h:Vals [x] us):∃u,us = [u]/\RelV x u:=by
 cases h with | cons r t=>cases t;exact⟨_,rfl,r⟩
theorem Vals.two{x y:V}{us:List Value}(h:Vals [x,y] us):∃u v,us = [u,v]/\RelV x u/\RelV y v:=by
 cases h with | cons r t=>cases t with | cons q t=>cases t;exact⟨_,_,rfl,r,q⟩
theorem Vals.zero:∀ {us:List Value},Vals [] us->us = []
 | _,.nil=>rfl
theorem Vals.dropLast{xs:List V}{us:List Value}(h:Vals xs us):Vals xs.dropLast us.dropLast:=by
 induction h with
 | nil=>exact .nil
 | cons r t ih =>
  cases t with
  | nil=>exact .nil
  | cons q t'=>exact .cons r ih
theorem Vals.eraseIdx:∀ {xs:List V} {us:List Value} (i:Nat),Vals xs us->Vals (xs.eraseIdx i) (us.eraseIdx i)
 | _,_,_,.nil =>.nil
 | _,_,0,.cons _ t=>t
 | _,_,i+1,.cons r t =>.cons r (Vals.eraseIdx i t)
theorem Vals.reverse{xs:List V}{us:List Value}(h:Vals xs us):Vals xs.reverse us.reverse:=by
 induction h with
 | nil=>exact .nil
 | cons r t ih=>rw [eR,eR];exact Vals.append ih (.cons r .nil)
theorem qMg{α : Type}(l:List α):l.eraseIdx (l.length - 1)=l.dropLast:=by
 induction l with
 | nil=>rfl
 | cons a r ih =>
  cases r with
  | nil=>rfl
  | cons b r =>
   have e:(a::b::r).length - 1=((b::r).length - 1)+1:=by
    have h1:(a::b::r).length=r.length+2:=rfl;have h2:(b::r).length=r.length+1:=rfl;lia
   rw [e,List.eraseIdx_cons_succ,ih]
   all_goals rfl
theorem qJ6{α : Type}:∀(l:List α) (i:Nat),(l.eraseIdx i).length<=l.length
 | [],_=>aD _
 | _::_,0=>Nat.le_succ _
 | _::r,i+1=>Nat.succ_le_succ (qJ6 r i)
section
variable{X:Cx}{pins:List (Addr×Obj)}{σ : St}{H:Hp}{s:Shared}{l b:Addr}{xs ys zs:List V}
theorem Inv.lset{its its':List Value}{n:Nat}{f:Array Value->Array Value}{t':Nat}(I:Inv X pins σ H s)(hH:H l=some (.lst xs))
  (e:s.heap.get? l=some { cls :=.type "list",data :=.seq its.toArray n }) (hf:f its.toArray=its'.toArray) (hv:Vals ys its') (hz:ys.length<=sizeLine) :
  Inv X pins σ (upd H l (.lst ys)) { s with heap:=s.heap.update l (Obj.mapSeq f),toks:=t' }:=by
 have q:=PySem.IsL.update e f;rw [hf] at q;refine I.write (x:=l) (e:=l) (by rw [hH];exact trivial) (.inl rfl) (λb' u hb hu=>(Heap.get?_update_other s.heap (Obj.mapSeq f) (cV hb)).trans hu) ⟨_,q⟩ ?_;exact⟨hz,its',_,hv,q⟩
theorem Inv.lnew{its:List Value}{t':Nat}(I:Inv X pins σ H s)(hv:Vals ys its)(hz:ys.length<=sizeLine):Inv X pins σ (upd H s.heap.objs.size (.lst ys)) { s with heap:=s.heap.push { cls :=.type "list",data :=.seq its.toArray },toks:=t' } :=
 I.laid (λ_ _ q=>aF _ q) (aD _) ⟨hz,its,0,hv,aR _ rfl⟩
theorem Inv.fresh(I:Inv X pins σ H s):H s.heap.objs.size=none:=I.hok.fresh (aD _)
theorem Inv.lstM(I:Inv X pins σ H s)(hH:H l=some (.lst xs)):xs.length<=sizeLine /\ ∃(its:List Value) (n:Nat),Vals xs its/\xs.length=its.length/\s.heap.get? l=some { cls :=.type "list",data :=.seq its.toArray n }:=by
 obtain⟨z,its,n,r,e⟩:=I.hok l _ hH;exact⟨z,its,n,r,r.length,e⟩
theorem qHu{n:Nat}(h:n<=sizeLine):Builtin.List.listTooLong n=false:=by
 unfold Builtin.List.listTooLong;exact decide_eq_false (by lia)
end
section
variable{X:Cx}
def qHp:V->List V->Hp->VK->Prop:=λx vs H Q => ∃l xs y,x = .ref l/\vs = [y]/\H l=some (.lst xs)/\xs.length<sizeLine/\Q .non (upd H l (.lst (xs ++ [y])))
theorem qCk:MtM X "list.append" qHp:=by
 intro pins s σ H x vs v us Q I rx rv h;obtain⟨l,xs,y,rfl,rfl,hH,hz,q⟩:=h;cases rx;obtain⟨u,rfl,ru⟩:=rv.one;obtain⟨z,its,n,r,hl,e⟩:=I.lstM hH;refine call_meets F.slot_list_append ⟨_,e,rfl⟩ F.entry_list_append (F.args_list_append_2 _ _) (PySem.list_append l its.toArray n u (by rw [aH];lia)) ⟨e,?_⟩;refine⟨.non,_,I.lset (its':=its ++ [u]) hH e (by simp) (r.append (.cons ru .nil)) ?_,rfl,q⟩;rw [aK,bX];lia
def qTa:V->List V->Hp->VK->Prop:=λx vs H Q => ∃l b xs zs,x = .ref l/\vs = [.ref b]/\H l=some (.lst xs)/\H b=some (.lst zs)/\xs.length+zs.length<=sizeLine/\Q .non (upd H l (.lst (xs++zs)))
theorem qP3:MtM X "list.extend" qTa:=by
 intro pins s σ H x vs v us Q I rx rv h;obtain⟨l,b,xs,zs,rfl,rfl,hH,hB,hz,q⟩:=h;cases rx;obtain⟨u,rfl,ru⟩:=rv.one;cases ru;obtain⟨z,its,n,r,hl,e⟩:=I.lstM hH;obtain⟨z2,its2,n2,r2,hl2,e2⟩:=I.lstM hB;have hsz:its.toArray.size+its2.toArray.size<=sizeLine:=by rw [aH,aH];lia
 have hlong : ¬(!its.toArray.isEmpty&&Builtin.List.listTooLong (its.toArray.size+its2.toArray.size))=true:=by
  rw [qHu hsz,Bool.and_false];exact aQ
 refine call_meets F.slot_list_extend ⟨_,e,rfl⟩ F.entry_list_extend (F.args_list_extend_2 _ _)
  (AutoSeq1.list_extend_list_list_0 l its.toArray n b its2.toArray n2 hlong (by rw [aH];lia) (by lia)) ⟨e,e2,?_⟩
 refine⟨.non,_,I.lset (its':=its++its2) hH e (by simp) (r.append r2) ?_,rfl,q⟩;rw [aK];lia
def rPop:V->List V->Hp->VK->Prop:=λx vs H Q => ∃l xs y,x = .ref l/\vs = []/\H l=some (.lst xs)/\xs[xs.length - 1]? = some y/\Q y (upd H l (.lst xs.dropLast))
theorem qVp:MtM X "list.pop" rPop:=by
 intro pins s σ H x vs v us Q I rx rv h;obtain⟨l,xs,y,rfl,rfl,hH,hy,q⟩:=h;cases rx;have hus:=rv.zero;subst hus;obtain⟨z,its,n,r,hl,e⟩:=I.lstM hH;obtain⟨u,hu,ru⟩:=r.get hy;have hy':its.toArray[its.toArray.size - 1]? = some u:=by
  show its.toArray[its.length - 1]? = some u;rw [<-bS,<-hl];exact hu
 refine call_meets F.slot_list_pop ⟨_,e,rfl⟩ F.entry_list_pop (F.args_list_pop_1 _) (MeetsSeq.list_pop_last l its.toArray n u hy' (by rw [aH];lia)) ⟨e,?_⟩;refine⟨y,_,I.lset (its':=its.dropLast) hH e ?_ r.dropLast ?_,ru,q⟩
 ·show its.toArray.eraseIdxIfInBounds (its.toArray.size - 1)=its.dropLast.toArray;rw [aH,List.eraseIdxIfInBounds_toArray,qMg]
 ·rw [List.length_dropLast];lia
def qV7:V->List V->Hp->VK->Prop:=λx vs H Q => ∃l xs i k y,x = .ref l/\vs = [.int i]/\H l=some (.lst xs) /\ -(2^63)<=i/\i<2^63/\seqIndex? i xs.length=some k/\xs[k]? = some y/\Q y (upd H l (.lst (xs.eraseIdx k)))
theorem qRg:MtM X "list.pop" qV7:=by
 intro pins s σ H x vs v us Q I rx rv h;obtain⟨l,xs,i,k,y,rfl,rfl,hH,h1,h2,hk,hy,q⟩:=h;cases rx;obtain⟨u,rfl,ru⟩:=rv.one;obtain⟨t,rfl⟩:=ru;obtain⟨z,its,n,r,hl,e⟩:=I.lstM hH;obtain⟨w,hw,rw'⟩:=r.get hy;refine call_meets F.slot_list_pop ⟨_,e,rfl⟩ F.entry_list_pop (F.args_list_pop_2 _ _)
  (MeetsSeq.list_pop_at l its.toArray n i t k w (fitsIndex_both h1 h2) (by rw [aH,<-hl];exact hk) (by rw [<-bS];exact hw) (by rw [aH];lia)) ⟨e,?_⟩
 refine⟨y,_,I.lset (its':=its.eraseIdx k) hH e ?_ (r.eraseIdx k) ?_,rw',q⟩
 ·show its.toArray.eraseIdxIfInBounds k=(its.eraseIdx k).toArray;rw [List.eraseIdxIfInBounds_toArray]
 ·have:=qJ6 xs k;lia
def rCat:R2:=λx y H Q => ∃l b xs zs,x = .ref l/\y = .ref b/\H l=some (.lst xs)/\H b=some (.lst zs)/\xs.length+zs.length<=sizeLine /\ ∀p,H p=none->Q (.ref p) (upd H p (.lst (xs++zs)))
theorem qJ2:OpR X (binaryOp .Add) rCat:=by
 intro pins s σ H x y v u Q I rx ry h;obtain⟨l,b,xs,zs,rfl,rfl,hH,hB,hz,q⟩:=h;cases rx;cases ry;obtain⟨z,its,n,r,hl,e⟩:=I.lstM hH;obtain⟨z2,its2,n2,r2,hl2,e2⟩:=I.lstM hB;refine PySem.P.add_list e e2 ?_ (by rw [aH,aH];lia);have ea:its.toArray++its2.toArray=(its++its2).toArray:=by simp
 rw [ea];exact⟨.ref _,_,I.lnew (t':=s.toks) (r.append r2) (by rw [aK];lia),rfl,q _ I.fresh⟩
end
section
variable{prog:Program}{w:World}{A:Around}{E:Value->Shared->Prop}{s:Shared}
theorem qN6(its its2:List Value)(a c:Nat):its.toArray.extract 0 a++its2.toArray++its.toArray.extract c its.toArray.size=(its.take a++its2++its.drop c).toArray:=by
 apply Array.toList_inj.mp
 first
  | (simp
     exact aT (by simp))
  | simp [aT]
  | simp
theorem qMl{a c n:Nat}(hac:a<=c)(hc:c<=n):sliceBounds (some (a:Int)) (some (c:Int)) none n=((a:Int),(c:Int),1):=by
 simp only [sliceBounds,Option.getD_none];have h1 : ¬((a:Int)<0):=by lia
 have h2 : ¬((c:Int)<0):=by lia
 simp only [h1,h2,if_false,show (1:Int)>0 by decide,if_true]
 congr 1
 ·lia
 ·congr 1;lia
set_option maxRecDepth 100000 in
theorem qHl{l b sl:Addr}{items new:Array Value}{n n2:Nat}{vl vu:Value}{a c:Nat}{Q:Unit->Shared->Prop}
  (e:s.heap.get? l=some { cls :=.type "list",data :=.seq items n }) (e2:s.heap.get? b=some { cls :=.type "list",data :=.seq new n2 }) (hne:l≠b)
  (hs:s.heap.IsSliceOf sl vl vu .none) (pl:IsPart vl (some (a:Int))) (pu:IsPart vu (some (c:Int))) (hac:a<=c) (hc:c<=items.size)
  (hsz:items.size+new.size<=sizeLine) (h:Q () { s with heap:=s.heap.update l (Obj.mapSeq λxs=>xs.extract 0 a++new++xs.extract c xs.size) }) :
  wpAny (model prog w) A (setItem (.ref l) (.ref sl) (.ref b)) Q E s:=by
 have hl:s.heap.IsList l items:=PySem.IsL.isList e;have hb:s.heap.IsList b new:=PySem.IsL.isList e2;obtain⟨os,hos,hcs,hds⟩:=id hs;have hTs:s.TypeIs (.ref sl) "slice" :=⟨os,hos,hcs⟩;have hstep : ¬((rawPart none == rawInt 0)=true):=aQ;have hsame:Builtin.List.listSameRef (.ref l) (.ref b)=false:=by
  unfold Builtin.List.listSameRef;exact beq_eq_false_iff_ne.mpr hne
 have hmax:(max (a:Int) (c:Int)).toNat=c:=by lia
 have hz':((λxs:Array Value=>xs.extract 0 a++new++xs.extract c xs.size) items).size<=sizeLine+1:=by
  simp only [Array.size_append,Array.size_extract];lia
 unfold setItem
 try with_reducible refine bK ?_
 first | refine aA (aB ?_) | skip
 refine aA (wpAny_sequenceKey hl.typeIs (by decide) ?_)
 refine aA (cA (name:=Str.ofString "__setitem__") hl.typeIs slot_list_setitem
  (cO slot_list_setitem hl.typeIs entry_list_setitem ?_ (args_list_setitem _ _ _)))
 show wpAny _ _ (Builtin.List.listSubscript? (.ref sl) >>= _) _ _ s;refine aA ?_;unfold Builtin.List.listSubscript?;refine aA (wpAny_specialOf hTs slice_no_index ?_);simp only [Option.isNone_none,if_true];refine aB ?_;show wpAny _ _ (typeOf (.ref sl) >>= _) _ _ s;refine aA (wpAny_typeOf hTs ?_)
 first
  | rw [if_neg (by decide)]
  | refine PySem.W.KFB.if_not (by decide) ?_
 rw [listSliceParts_eq];refine aA (aA (bV hos hds (x :=.none) rfl (aA (wpAny_listPart .none ?_))));rw [if_neg hstep];refine aA (bV hos hds (x:=vl) rfl (aA (wpAny_listPart pl ?_)));refine aA (bV hos hds (x:=vu) rfl (aA (wpAny_listPart pu (aB ?_))))
 first
  | simp only [hsame,Bool.false_eq_true,if_false]
  | refine PySem.W.KFB.if_not hsame ?_
  | (dsimp only
     rw [if_neg (by rw [hsame];exact aQ)])
 refine aA (m:=Builtin.List.listAllItems (.ref b) "must assign iterable to extended slice") ?_;unfold Builtin.List.listAllItems;refine aA (wpAny_typeOf hb.typeIs ?_)
 first
  | refine PySem.W.KFB.if_so (by decide) ?_
  | rw [if_pos (by decide)]
  | simp only [beq_self_eq_true,Bool.true_or,if_true]
 unfold Builtin.List.listItems;refine aA (cR e2 rfl (aB ?_));refine aA (aA (cR e rfl (aB ?_)));refine aA (wpAny_of_eq ((sliceIndices_raw (some (a:Int)) (some (c:Int)) none items.size (by simp)).trans (congrArg (pure:Int×Int×Int->Sem (Int×Int×Int)) (qMl hac hc))) ?_);show wpAny _ _ (if ((1:Int) == 1)=true then _ else _) _ _ s;rw [if_pos (by decide)];refine aA (dJ ?_)
 first
  | simp only [qHu hsz,Bool.false_eq_true,if_false]
  | refine PySem.W.KFB.if_not (qHu hsz) ?_
 first | refine aA (aB ?_) | skip
 show wpAny _ _ (updateSeq l (λxs=>xs.extract 0 ((a:Int)).toNat++new++xs.extract (max (a:Int) (c:Int)).toNat xs.size) >>= _) _ _ s;rw [hmax,cG];refine aA (wpAny_updateSeq (hz:=bC (cC _ _) hsz) (_hz':=hz') e rfl ?_);refine aA (wpAny_letGo ?_)
 first
  | exact aA (aB (aB ⟨.none,rfl,aB h⟩))
  | exact aB ⟨.none,rfl,aB h⟩
end
section
variable{X:Cx}
theorem qNa{pins:List (Addr×Obj)}{s:Shared}{σ : St}{H:Hp}{l b sl:Addr}{xs ys:List V}{a c:Int}{vl vu:Value}{Q:Unit->Shared->Prop}(I:Inv X pins σ H s)(hH:H l=some (.lst xs))(hB:H b=some (.lst ys))(hne:l≠b)(hs:s.heap.IsSliceOf sl vl vu .none)(ra:RelV (.int a) vl)(rc:RelV (.int c) vu)(h0:0<=a)(hac:a<=c)(hc:c<=xs.length)(hz:xs.length+ys.length<=sizeLine)(h:∀s',Inv X pins σ (upd H l (.lst (xs.take a.toNat++ys++xs.drop c.toNat))) s'->Q () s'):wpAny (model X.prog X.w) X.A (setItem (.ref l) (.ref sl) (.ref b)) Q X.xe s:=by
 obtain⟨ta,rfl⟩:=ra;obtain⟨tc,rfl⟩:=rc;obtain⟨z,its,n,r,hl,e⟩:=I.lstM hH;obtain⟨z2,its2,n2,r2,hl2,e2⟩:=I.lstM hB;obtain⟨a',rfl⟩:=dZ h0;obtain⟨c',rfl⟩:=dZ (Int.le_trans h0 hac);simp only [cG] at h;refine qHl (a:=a') (c:=c') e e2 hne hs (.int _ _) (.int _ _) (by lia) (by rw [aH];lia) (by rw [aH,aH];lia) (h _ ?_);refine I.lset (its':=its.take a'++its2++its.drop c') (t':=s.toks) hH e ?_ (Vals.append (Vals.append (r.take _) r2) (r.drop _)) ?_
 ·exact qN6 its its2 a' c'
 ·rw [aK,aK,bD,cJ];lia
end
section
variable{κ : Type} [DecidableEq κ]
def valV(kvs:List (κ × V))(k : κ):Option V:=(kvs.find? λkv=>decide (kv.1=k)).map (·.2)
def putK(kvs:List (κ × V))(k : κ)(v:V):List (κ × V):=if (kvs.any λkv=>decide (kv.1=k))=true then kvs.map (λkv=>if kv.1=k then (kv.1,v) else kv) else kvs ++ [(k,v)]
theorem qBi{p : κ × V}{r:List (κ × V)}{k : κ}(e:p.1=k):valV (p::r) k=some p.2:=by simp [valV,eN,e]
theorem qBj{p : κ × V}{r:List (κ × V)}{k : κ}(e : ¬p.1=k):valV (p::r) k=valV r k:=by simp [valV,eN,e]
theorem qE5(k : κ):∀kvs:List (κ × V),(kvs.any λkv=>decide (kv.1=k))=(valV kvs k).isSome
 | []=>rfl
 | p::r=>by
  rw [List.any_cons];by_cases e:p.1=k
  ·simp only [qBi e,decide_eq_true e,Bool.true_or,Option.isSome_some]
  ·rw [qBj e,decide_eq_false e,Bool.false_or];exact qE5 k r
theorem qL0(k j : κ)(y:V):∀kvs:List (κ × V),valV (kvs.map λkv=>if kv.1=k then (kv.1,y) else kv) j=(valV kvs j).map λx=>if j=k then y else x
 | []=>rfl
 | p::r=>by
  have ih:=qL0 k j y r;rw [bR];by_cases h:p.1=k
  ·rw [if_pos h];by_cases e:p.1=j
   ·rw [qBi (p:=(p.1,y)) e,qBi e,Option.map_some,if_pos (e.symm.trans h)]
   ·rw [qBj (p:=(p.1,y)) e,qBj e,ih]
  ·rw [if_neg h];by_cases e:p.1=j
   ·rw [qBi (p:=p) e,qBi e,Option.map_some,if_neg (λz=>h (e.trans z))]
   ·rw [qBj (p:=p) e,qBj e,ih]
theorem qIi(k j : κ)(y:V):∀kvs:List (κ × V),valV kvs k=none->valV (kvs ++ [(k,y)]) j=if j=k then some y else valV kvs j
 | [],_=>by
  by_cases e:k=j
  ·rw [if_pos e.symm];exact qBi (p:=(k,y)) e
  ·rw [if_neg (λz=>e z.symm)];exact qBj (p:=(k,y)) e
 | p::r,hn=>by
  rw [eI];have hk : ¬p.1=k:=λz=>by rw [qBi z] at hn;cases hn
  rw [qBj hk] at hn;have ih:=qIi k j y r hn;by_cases e:p.1=j
  ·rw [qBi e,qBi e,if_neg (λz=>hk (e.trans z))]
  ·rw [qBj e,qBj e,ih]
theorem qKz(kvs:List (κ × V))(k j : κ)(y:V):valV (putK kvs k y) j=if j=k then some y else valV kvs j:=by
 unfold putK;by_cases a:(kvs.any λkv=>decide (kv.1=k))=true
 ·rw [if_pos a,qL0];rw [qE5] at a;by_cases e:j=k
  ·obtain⟨x,hx⟩:=Option.isSome_iff_exists.mp a;rw [if_pos e,e,hx,Option.map_some,if_pos rfl]
  ·rw [if_neg e];cases valV kvs j with
   | none=>rfl
   | some x=>rw [Option.map_some,if_neg e]
 ·rw [if_neg a];refine qIi k j y kvs ?_;rw [qE5] at a;cases q:valV kvs k with
  | none=>rfl
  | some x=>rw [q] at a;exact (a rfl).elim
theorem qC2(kvs:List (κ × V))(k : κ)(v:V):(putK kvs k v).length<=kvs.length+1:=by
 unfold putK;split
 ·rw [aC];lia
 ·rw [aK,bI,cY];lia
theorem qQu{kvs:List (κ × V)}{k : κ}(v:V)(h:valV kvs k=none):putK kvs k v=kvs ++ [(k,v)]:=by
 unfold putK;rw [qE5,h];exact if_neg (by decide)
theorem RelO.isSome_eq{o:Option V}{u:Option Value}(r:RelO o u):o.isSome=u.isSome:=by
 cases o with
 | none=>cases u with
  | none=>rfl
  | some _=>exact (show False from r).elim
 | some _=>cases u with
  | none=>exact (show False from r).elim
  | some _=>rfl
theorem RelO.getD{o:Option V}{u:Option Value}{d:V}{d':Value}(r:RelO o u)(rd:RelV d d'):RelV (o.getD d) (u.getD d'):=by
 cases o with
 | none=>cases u with
  | none=>exact rd
  | some _=>exact (show False from r).elim
 | some _=>cases u with
  | none=>exact (show False from r).elim
  | some _=>exact r
theorem KV.val{kvs:List (κ × V)}{vs:List (κ × Value)}(r:KV kvs vs)(k : κ):RelO (valV kvs k) (valueAt vs k):=by
 unfold KV at r
 induction r with
 | nil=>exact True.intro
 | @cons p q ps qs h t ih =>
  obtain⟨h1,h2⟩:=h;by_cases e:p.1=k
  ·have e':q.1=k:=h1.symm.trans e;have b:valueAt (q::qs) k=some q.2:=by simp [valueAt,eN,e']
   rw [qBi e,b];exact h2
  ·have e' : ¬q.1=k:=λz=>e (h1.trans z);have b:valueAt (q::qs) k=valueAt qs k:=by simp [valueAt,eN,e']
   rw [qBj e,b];exact ih
theorem KV.any{kvs:List (κ × V)}{vs:List (κ × Value)}(r:KV kvs vs)(k : κ):(kvs.any λkv=>decide (kv.1=k))=vs.any λkv=>decide (kv.1=k):=by
 unfold KV at r
 induction r with
 | nil=>rfl
 | cons h t ih=>rw [List.any_cons,List.any_cons,ih,h.1]
theorem KV.repl{kvs:List (κ × V)}{vs:List (κ × Value)}(r:KV kvs vs)(k : κ){y:V}{u:Value}(ry:RelV y u):KV (kvs.map λkv=>if kv.1=k then (kv.1,y) else kv) (vs.map λkv=>if kv.1=k then (kv.1,u) else kv):=by
 unfold KV at r ⊢
 induction r with
 | nil=>exact .nil
 | @cons p q ps qs h t ih =>
  rw [bR,bR];refine .cons ?_ ih;obtain⟨h1,h2⟩:=h;by_cases e:p.1=k
  ·rw [if_pos e,if_pos (h1.symm.trans e)];exact⟨h1,ry⟩
  ·rw [if_neg e,if_neg (λz=>e (h1.trans z))];exact⟨h1,h2⟩
theorem KV.put{kvs:List (κ × V)}{vs:List (κ × Value)}(r:KV kvs vs)(k : κ){y:V}{u:Value}(ry:RelV y u):KV (putK kvs k y) (stored vs k u):=by
 unfold putK stored;rw [r.any k];by_cases e:(vs.any λkv=>decide (kv.1=k))=true
 ·rw [if_pos e,if_pos e];exact r.repl k ry
 ·rw [if_neg e,if_neg e];exact Paired.snoc r ⟨rfl,ry⟩
theorem KV.length{kvs:List (κ × V)}{vs:List (κ × Value)}(r:KV kvs vs):kvs.length=vs.length:=dY r
end
theorem qJb{P:Program}{w:World}{k:Key}{u:Value}(r:RelV (kV k) u):(qBc P w).is k u=true:=by
 cases k with
 | inl i=>obtain⟨t,e⟩:=(show ∃t,u=Value.int i t from r);subst e;exact qKj P w i t
 | inr x=>obtain⟨t,e⟩:=(show ∃t,u=Value.str x t from r);subst e;exact qKi P w x t
theorem qJc{P:Program}{w:World}:∀ {ks:List Key} {us:List Value},Vals (ks.map kV) us->ItemsAre (qBc P w) ks us
 | [],_,r=>by rw [eZ] at r;cases r;exact .nil
 | k::ks,_,r=>by
  rw [bR] at r;cases r with
  | cons h t=>exact .cons (qJb h) (qJc t)
abbrev KT(H:Hp):List (List Key×V)->List (List Key×Addr×Value)->Prop:=Paired λp q=>p.1=q.1/\H q.2.1=some (.tup (p.1.map kV))/\RelV p.2 q.2.2
theorem KT.val{H:Hp}{kvs:List (List Key×V)}{xs:List (List Key×Addr×Value)}(r:KT H kvs xs)(k:List Key):RelO (valV kvs k) ((atKey xs k).map (·.2)):=by
 induction r with
 | nil=>exact True.intro
 | @cons p q ps qs h t ih =>
  obtain⟨h1,_,h2⟩:=h;by_cases e:p.1=k
  ·have e':q.1=k:=h1.symm.trans e;have b:atKey (q::qs) k=some q.2:=by simp [atKey,eN,e']
   rw [qBi e,b];exact h2
  ·have e' : ¬q.1=k:=λz=>e (h1.trans z);have b:atKey (q::qs) k=atKey qs k:=by simp [atKey,eN,e']
   rw [qBj e,b];exact ih
theorem KT.repl{H:Hp}{kvs:List (List Key×V)}{xs:List (List Key×Addr×Value)}(r:KT H kvs xs)(k:List Key){y:V}{u:Value}(ry:RelV y u):KT H (kvs.map λkv=>if kv.1=k then (kv.1,y) else kv) (xs.map (putAt k u)):=by
 induction r with
 | nil=>exact .nil
 | @cons p q ps qs h t ih =>
  rw [bR,bR];refine .cons ?_ ih;obtain⟨h1,h2,h3⟩:=h;unfold putAt;by_cases e:p.1=k
  ·rw [if_pos e,if_pos (h1.symm.trans e)];exact⟨h1,h2,ry⟩
  ·rw [if_neg e,if_neg (λz=>e (h1.trans z))];exact⟨h1,h2,h3⟩
theorem KT.put{H:Hp}{kvs:List (List Key×V)}{xs:List (List Key×Addr×Value)}(r:KT H kvs xs)(k:List Key){b:Addr}{y:V}{u:Value}(hb:H b=some (.tup (k.map kV)))(ry:RelV y u):KT H (putK kvs k y) (storedH xs k b u):=by
 have e:(kvs.any λkv=>decide (kv.1=k))=(atKey xs k).isSome:=by
  rw [qE5,(r.val k).isSome_eq,Option.isSome_map]
 unfold putK storedH;rw [e];by_cases q:(atKey xs k).isSome=true
 ·rw [if_pos q,if_pos q];exact r.repl k ry
 ·rw [if_neg q,if_neg q];exact Paired.snoc r ⟨rfl,hb,ry⟩
theorem KT.keeps{H H':Hp}{kvs:List (List Key×V)}{xs:List (List Key×Addr×Value)}(r:KT H kvs xs)(ht:∀b ys,H b=some (.tup ys)->H' b=some (.tup ys)):KT H' kvs xs:=Paired.mapP r λ_ _ z=>⟨z.1,ht _ _ z.2.1,z.2.2⟩
section
variable{P:Program}{w:World}{H:Hp}{h:Heap}{a:Addr}
theorem qUt{u:HO}(ok:HOk P w H h)(e:Rd H a u):ObjOk P w H h a u:=e.ok ok
theorem qI1{kvs:List (Key×V)}(ok:HOk P w H h)(e:Rd H a (.dK kvs)):kvs.length<=sizeLine/\(a == sysModules)=false /\ ∃vs,KV kvs vs/\h.DictOf (qBc P w) a vs:=show ObjOk P w H h a (.dK kvs) from qUt ok e
theorem qPl{kvs:List (Key×V)}(ok:HOk P w H h)(e:H a=some (.dK kvs)):kvs.length<=sizeLine/\(a == sysModules)=false /\ ∃vs,KV kvs vs/\h.DictOf (qBc P w) a vs:=qI1 ok (.inl e)
theorem qJa{ks:List Key}(ok:HOk P w H h)(e:H a=some (.tup (ks.map kV))):(tupleKind (qBc P w)).is h ks a:=by
 obtain⟨_,its,r,o,h1,h2,n,h3⟩:=(show ObjOk P w H h a (.tup (ks.map kV)) from ok a _ e);exact⟨o,its.toArray,n,h1,h2,h3,by simpa using qJc r⟩
theorem qPk{kvs:List (List Key×V)}(ok:HOk P w H h)(e:Rd H a (.dT kvs)):kvs.length<=sizeLine/\(a == sysModules)=false /\
  ∃xs,KT H kvs xs/\h.DictOfH (tupleKind (qBc P w)) a xs:=by
 obtain⟨z,y,xs,r,o,es,ep,h1,h2,h3,h4,h5⟩:=(show ObjOk P w H h a (.dT kvs) from qUt ok e);refine⟨z,y,xs,r,o,es,ep,h1,h2,h3,h4,λx hx=>?_,h5⟩;have all:∀ {l:List (List Key×V)} {m:List (List Key×Addr×Value)},KT H l m -> ∀x∈m,(tupleKind (qBc P w)).is h x.1 x.2.1:=by
  intro l m q
  induction q with
  | nil=>intro x hx;exact nomatch hx
  | @cons p q ps qs hq t ih =>
   intro x hx;rcases aN.mp hx with e | hx
   ·subst e;exact qJa ok (by rw [<-hq.1];exact hq.2.1)
   ·exact ih x hx
 exact all r x hx
theorem qWv{kvs:List (List Key×V)}(ok:HOk P w H h)(e:H a=some (.dT kvs)):kvs.length<=sizeLine/\(a == sysModules)=false /\
  ∃xs,KT H kvs xs/\h.DictOfH (tupleKind (qBc P w)) a xs:=qPk ok (.inl e)
end
def DGet(H:Hp)(a:Addr)(y:V)(r:Option V):Prop:=(∃kvs k,Rd H a (.dK kvs)/\y=kV k/\r=valV kvs k) \/ ∃kvs k b,Rd H a (.dT kvs)/\y = .ref b/\H b=some (.tup (k.map kV))/\r=valV kvs k
def DPut(H:Hp)(a:Addr)(y v:V)(H':Hp):Prop :=
 (∃kvs k,H a=some (.dK kvs)/\y=kV k/\kvs.length<sizeLine/\H'=upd H a (.dK (putK kvs k v))) \/
 ∃kvs k b,H a=some (.dT kvs)/\y = .ref b/\H b=some (.tup (k.map kV))/\kvs.length<sizeLine/\H'=upd H a (.dT (putK kvs k v))
theorem DGet.k{H:Hp}{a:Addr}{kvs:List (Key×V)}{k:Key}(e:H a=some (.dK kvs)):DGet H a (kV k) (valV kvs k) :=.inl ⟨kvs,k,.inl e,rfl,rfl⟩
theorem DPut.k{H:Hp}{a:Addr}{kvs:List (Key×V)}{k:Key}{v:V}(e:H a=some (.dK kvs))(hl:kvs.length<sizeLine):DPut H a (kV k) v (upd H a (.dK (putK kvs k v))) :=.inl ⟨kvs,k,e,rfl,hl,rfl⟩
section
variable{X:Cx}{pins:List (Addr×Obj)}{σ : St}{H:Hp}{s:Shared}{a:Addr}{y v:V}{u r:Value}{o:Option V}{A:Around}{E:Value->Shared->Prop}
theorem Inv.big(I:Inv X pins σ H s):sysModules<s.heap.objs.size:=by
 have h:mainGlobals<s.heap.objs.size:=(I.mod.glob.keeps I.bk).lt;exact Nat.lt_trans (by decide) h
theorem d_in{Q:Value->Shared->Prop}(hu:A.units+1<cLine)(I:Inv X pins σ H s)(g:DGet H a y o)(ry:RelV y u)(h:∀s',Inv X pins σ H s'->Q (.bool o.isSome) s'):wpAny (model X.prog X.w) A (compareOp .In u (.ref a)) Q E s:=by
 rcases g with ⟨kvs,k,e,ey,l⟩ | ⟨kvs,k,b,e,ey,eb,l⟩
 ·subst ey;obtain⟨z,hd,vs,rel,dd⟩:=qI1 I.hok e;refine wpAny_in_of (qJb ry) hd dd.mapOf ?_;rw [<-(rel.val k).isSome_eq,<-l];exact h _ (I.tok _)
 ·subst ey;cases (show u=Value.ref b from ry);obtain⟨z,hd,xs,rel,dd⟩:=qPk I.hok e;refine wpAny_in_heap (tupleKind_room_in1 hu) (qJa I.hok eb) hd dd ?_;have q:=(rel.val k).isSome_eq;rw [Option.isSome_map] at q;rw [<-q,<-l];exact h _ (I.tok _)
theorem qUg{Q:Value->Shared->Prop}(hu:A.units+1<cLine)(I:Inv X pins σ H s)(g:DGet H a y o)(ry:RelV y u)(h:∀s',Inv X pins σ H s'->Q (.bool (!o.isSome)) s'):wpAny (model X.prog X.w) A (compareOp .NotIn u (.ref a)) Q E s:=by
 rcases g with ⟨kvs,k,e,ey,l⟩ | ⟨kvs,k,b,e,ey,eb,l⟩
 ·subst ey;obtain⟨z,hd,vs,rel,dd⟩:=qI1 I.hok e;refine wpAny_notIn_of (qJb ry) hd dd.mapOf ?_;rw [<-(rel.val k).isSome_eq,<-l];exact h _ (I.tok _)
 ·subst ey;cases (show u=Value.ref b from ry);obtain⟨z,hd,xs,rel,dd⟩:=qPk I.hok e;refine wpAny_notIn_heap (tupleKind_room_in1 hu) (qJa I.hok eb) hd dd ?_;have q:=(rel.val k).isSome_eq;rw [Option.isSome_map] at q;rw [<-q,<-l];exact h _ (I.tok _)
theorem qG8{h':Heap}{t':Nat}{ob:HO}(I:Inv X pins σ H s)(mu:Mut (H a))(hs:Heap.SameBut a s.heap h')(he:∃q,h'.get? a=some q)(new:ObjOk X.prog X.w (upd H a ob) h' a ob):Inv X pins σ (upd H a ob) { s with heap:=h',toks:=t' } :=
 I.write (x:=a) (e:=a) mu (.inl rfl) (λb q hb z=>(hs.2 b hb).trans z) he new
theorem qLr{P:Program}{w:World}{H':Hp}{h':Heap}{kvs:List (Key×V)}{vs:List (Key×Value)}(z:kvs.length<=sizeLine)(hd:(a == sysModules)=false)(rel:KV kvs vs)(dd:h'.DictOf (qBc P w) a vs):ObjOk P w H' h' a (.dK kvs):=⟨z,hd,vs,rel,dd⟩
theorem qPr{H':Hp}{Q:Unit->Shared->Prop}(hu:A.units+1<cLine)(I:Inv X pins σ H s)(g:DPut H a y v H')(ry:RelV y u)(rv:RelV v r)(h:∀s',Inv X pins σ H' s'->Q () s'):wpAny (model X.prog X.w) A (setItem (.ref a) u r) Q E s:=by
 rcases g with ⟨kvs,k,e,ey,l,eH⟩ | ⟨kvs,k,b,e,ey,eb,l,eH⟩
 ·subst ey eH;obtain⟨z,hd,vs,rel,dd⟩:=qPl I.hok e;have hz:vs.length<=sizeLine:=by rw [<-rel.length];exact z
  have hl:(putK kvs k v).length<=sizeLine:=by have:=qC2 kvs k v;lia
  refine wpAny_setItem_pairs (hsz:=hz) (qJb ry) dd λh' dd' hs=>h _ ?_;have he:∃q,h'.get? a=some q:=let ⟨q,_,_,hq,_⟩:=dd';⟨q,hq⟩
  exact qG8 I (by rw [e];exact True.intro) hs he (qLr hl hd (rel.put k rv) dd')
 ·subst ey eH;cases (show u=Value.ref b from ry);obtain⟨z,hd,xs,rel,dd⟩:=qWv I.hok e;have hz:xs.length<=sizeLine:=by rw [<-dY rel];exact z
  have hl:(putK kvs k v).length<=sizeLine:=by have:=qC2 kvs k v;lia
  refine wpAny_setItem_heap (hsz:=hz) (tupleKind_room_in1 hu) (qJa I.hok eb) dd λh' dd' hs=>h _ ?_;obtain⟨q,es,ep,hq,h2,h3,h4,_,h5⟩:=dd';refine qG8 I (by rw [e];exact True.intro) hs ⟨q,hq⟩ ⟨hl,hd,_,(rel.put k eb rv).keeps λc ys ec=>?_,q,es,ep,hq,h2,h3,h4,h5⟩;rw [qA7 (qMb ec e (λz=>nomatch z))];exact ec
end
section
variable{X:Cx}{pins:List (Addr×Obj)}{σ : St}{H:Hp}{s:Shared}{a:Addr}{kvs:List (Key×V)}{k:Key}{u:Value}{A:Around}{E:Value->Shared->Prop}
theorem qWw{Q:Value->Shared->Prop}(I:Inv X pins σ H s)(e:Rd H a (.dK kvs))(h:∀t s',Inv X pins σ H s'->Q (.int kvs.length t) s'):wpAny (model X.prog X.w) A (call (.builtin "len") [.ref a]) Q E s:=by
 obtain⟨z,hd,vs,rel,dd⟩:=qI1 I.hok e;refine call_len_dict hd dd (by rw [<-rel.length];rw [sizeLine_eq] at z;lia) ?_;rw [<-rel.length];exact h _ _ (I.tok _)
end
def tDGet(td ty:TE):TE:=λσ H Q=>td σ H λx H1=>ty σ H1 λy H2 => ∃a v,x = .ref a/\DGet H2 a y (some v)/\Q v H2
def tDIn(ty td:TE):TE:=λσ H Q=>ty σ H λy H1=>td σ H1 λx H2 => ∃a o,x = .ref a/\DGet H2 a y o/\Q (.bl o.isSome) H2
def qN5(ty td:TE):TE:=λσ H Q=>ty σ H λy H1=>td σ H1 λx H2 => ∃a o,x = .ref a/\DGet H2 a y o/\Q (.bl (!o.isSome)) H2
def sDPut(td ty tv:TE):TS:=λD σ H=>tv σ H λv H1=>td σ H1 λx H2=>ty σ H2 λy H3 => ∃a H4,x = .ref a/\DPut H3 a y v H4/\D.nx σ H4
section
variable{X:Cx}{o i e value:Expr}{pos pos' tpos:Pos}{td ty tv:TE}
theorem qVh(hu:X.A.units+1<cLine)(hi:PE X i ty)(ho:PE X o td):PC X .In i o (tDIn ty td):=by
 intro pins s σ H Q I h;refine thn (hi pins s σ H _ I h) λiv s1 hq_=>?_;obtain⟨y,H1,I1,ry,q1⟩:=hq_;refine thn (ho pins s1 σ H1 _ I1 q1) λu s2 hq_=>?_;obtain⟨x,H2,I2,rx,a,ov,ex,g,q2⟩:=hq_;subst ex;obtain rfl:u=Value.ref a:=rx;exact d_in hu I2 g ry λs3 I3=>⟨.bl ov.isSome,H2,I3,rfl,q2⟩
theorem qOc(hu:X.A.units+1<cLine)(hi:PE X i ty)(ho:PE X o td):PC X .NotIn i o (qN5 ty td):=by
 intro pins s σ H Q I h;refine thn (hi pins s σ H _ I h) λiv s1 hq_=>?_;obtain⟨y,H1,I1,ry,q1⟩:=hq_;refine thn (ho pins s1 σ H1 _ I1 q1) λu s2 hq_=>?_;obtain⟨x,H2,I2,rx,a,ov,ex,g,q2⟩:=hq_;subst ex;obtain rfl:u=Value.ref a:=rx;exact qUg hu I2 g ry λs3 I3=>⟨.bl (!ov.isSome),H2,I3,rfl,q2⟩
theorem qTb(hu:X.A.units+1<cLine)(ho:PE X o td)(hi:PE X i ty)(hv:PE X value tv)(hs:swapsWith value (some (.Subscript o i pos')) pos.line X.env=pure false):PS X (.Assign [.Subscript o i pos'] value pos) (sDPut td ty tv):=by
 intro pins s σ H D I h;refine wpAny_Assign_Subscript (thn (hv pins s σ H _ I h) λr s1 hq_=>?_) hs;obtain⟨v,H1,I1,rv,q1⟩:=hq_;refine thn (ho pins s1 σ H1 _ I1 q1) λu s2 hq_=>?_;obtain⟨x,H2,I2,rx,q2⟩:=hq_;refine thn (hi pins s2 σ H2 _ I2 q2) λiv s3 hq_=>?_;obtain⟨y,H3,I3,ry,a,H4,ex,g,q3⟩:=hq_;subst ex;obtain rfl:u=Value.ref a:=rx;exact qPr hu I3 g ry rv λs4 I4=>⟨σ,H4,I4,q3⟩
end
theorem qI2{P:Program}{w:World}{H:Hp}(h:Heap)(hb:sysModules<h.objs.size):ObjOk P w H (h.push { cls :=.type "dict",data :=.dict #[] }) h.objs.size (.dK []):=⟨aW _,beq_eq_false_iff_ne.mpr (cV (bA hb)),[],.nil,Heap.DictOf.new h⟩
def qS4:TE:=λ_ H Q => ∀p,H p=none->Q (.ref p) (upd H p (.dK []))
section
variable{X:Cx}{pos:Pos}
theorem pe_dnewK:PE X (.Dict [] [] pos) qS4:=λpins s σ H Q I h =>
 wpAny_Dict_empty ⟨.ref s.heap.objs.size,_,I.laid (a:=s.heap.objs.size) (o :=.dK []) (t':=s.toks) (λ_ _ q=>aF _ q) (aD _) (qI2 s.heap I.big),rfl,h _ (I.hok.fresh (aD _))⟩
end
def qFr:List (TE×TE)->St->Hp->(List (V×V)->Hp->Prop)->Prop
 | [],_,H,Q=>Q [] H
 | (tk,tv)::r,σ,H,Q=>tk σ H λx H1=>tv σ H1 λy H2=>qFr r σ H2 λps H3=>Q ((x,y)::ps) H3
abbrev VV:List (V×V)->List (Value×Value)->Prop:=Paired λp q=>RelV p.1 q.1/\RelV p.2 q.2
def PPs(X:Cx)(pos:Pos)(keys:List (Option Expr))(values:List Expr)(trs:List (TE×TE)):Prop :=
 ∀(pins:List (Addr×Obj)) (s:Shared) (σ : St) (H:Hp) (Q:List (V×V)->Hp->Prop),Inv X pins σ H s->qFr trs σ H Q ->
  wpAny (model X.prog X.w) X.A (evalPairs (pairTrees keys values X.env pos)) (λvs s' => ∃ps H',Inv X pins σ H' s'/\VV ps vs/\Q ps H') X.xe s
theorem qKb{X:Cx}{pos:Pos}:PPs X pos [] [] []:=λpins s σ H Q I h=>pairTrees_nil_walk ⟨[],H,I,.nil,h⟩
theorem qC4{X:Cx}{pos:Pos}{k v:Expr}{ks:List (Option Expr)}{vs:List Expr}{tk tv:TE}{trs:List (TE×TE)}(hk:PE X k tk)(hv:PE X v tv)(hr:PPs X pos ks vs trs):PPs X pos (some k::ks) (v::vs) ((tk,tv)::trs):=λpins s σ H Q I h =>
 pairTrees_cons_walk (thn (hk pins s σ H _ I h) λu s1 ⟨x,H1,I1,rx,q1⟩=>thn (hv pins s1 σ H1 _ I1 q1) λw2 s2 ⟨y,H2,I2,ry,q2⟩ =>
  thn (hr pins s2 σ H2 _ I2 q2) λws s3 ⟨ps,H3,I3,rel,q3⟩=>⟨(x,y)::ps,H3,I3,.cons ⟨rx,ry⟩ rel,q3⟩)
def qDb(kvs more:List (Key×V)):List (Key×V):=more.foldl (λacc kv=>putK acc kv.1 kv.2) kvs
theorem KV.merge:∀ {more:List (Key×V)} {rs:List (Key×Value)} {kvs:List (Key×V)} {vs:List (Key×Value)},KV more rs->KV kvs vs->KV (qDb kvs more) (merged vs rs):=by
 intro more rs kvs vs r;unfold KV at r
 induction r generalizing kvs vs with
 | nil=>intro q;exact q
 | @cons p q ps qs h t ih =>
  intro r0;have e:KV (putK kvs p.1 p.2) (stored vs q.1 q.2):=by
   have:=r0.put p.1 h.2;rw [<-h.1];exact this
  exact ih e
theorem qD9:∀(more kvs:List (Key×V)),(qDb kvs more).length<=kvs.length+more.length
 | [],kvs=>by show kvs.length<=kvs.length+0;lia
 | p::r,kvs=>by
  have h1:=qD9 r (putK kvs p.1 p.2);have h2:=qC2 kvs p.1 p.2;show (qDb (putK kvs p.1 p.2) r).length<=_;rw [bI];lia
theorem qH5{P:Program}{w:World}:∀ {kvs:List (Key×V)} {ws:List (Value×Value)},VV (kvs.map λkv=>(kV kv.1,kv.2)) ws -> ∃rs,Carries (qBc P w) ws rs/\KV kvs rs
 | [],_,r=>by rw [eZ] at r;cases r;exact⟨[],True.intro,.nil⟩
 | p::kvs,_,r=>by
  rw [bR] at r;cases r with
  | @cons a b as bs h t =>
   obtain⟨rs,c,q⟩:=qH5 (P:=P) (w:=w) t;obtain⟨b1,b2⟩:=b;exact⟨(p.1,b2)::rs,⟨qJb h.1,rfl,c⟩,.cons ⟨rfl,h.2⟩ q⟩
def tDisp(trs:List (TE×TE)):TE:=λσ H Q => ∀p,H p=none->qFr trs σ (upd H p (.dK [])) λps H2=>H2 p=some (.dK []) /\ ∃kvs:List (Key×V),ps=kvs.map (λkv=>(kV kv.1,kv.2))/\kvs.length<=15/\Q (.ref p) (upd H2 p (.dK (qDb [] kvs)))
theorem qKd{X:Cx}{pos:Pos}{keys:List (Option Expr)}{values:List Expr}{trs:List (TE×TE)}(h:PPs X pos keys values trs)(hall:keys.all (·.isSome)=true)(hl:keys.length=values.length)(h0:keys ≠ [])(h15:keys.length<=15):PE X (.Dict keys values pos) (tDisp trs):=by
 intro pins s σ H Q I q;have hn:=I.hok.fresh (aD s.heap.objs.size);have I1:=I.laid (a:=s.heap.objs.size) (o :=.dK []) (h':=s.heap.push { cls :=.type "dict",data :=.dict #[] }) (t':=s.toks) (λ_ _ q=>aF _ q) (aD _) (qI2 s.heap I.big);refine wpAny_Dict_walk (knd:=qBc X.prog X.w) hall hl h0 h15 (thn (h pins _ σ _ _ I1 (q _ hn)) λws s2 hq_=>?_);obtain⟨ps,H2,I2,rel,e,kvs,ep,lk,q2⟩:=hq_;subst ep;obtain⟨rs,c,rk⟩:=qH5 (P:=X.prog) (w:=X.w) rel;obtain⟨z,hd,vs0,r0,dd⟩:=qPl I2.hok e;cases r0;refine⟨rs,c,dd,λh' dd' hs=>⟨.ref s.heap.objs.size,_,?_,rfl,q2⟩⟩;have hz:(qDb [] kvs).length<=sizeLine:=by
  have h1:=qD9 kvs [];rw [cY] at h1;rw [sizeLine_eq];lia
 have he:∃q,h'.get? s.heap.objs.size=some q:=let ⟨q,_,_,hq,_⟩:=dd';⟨q,hq⟩
 exact qG8 I2 (by rw [e];exact True.intro) hs he (qLr hz hd (rk.merge .nil) dd')
structure M2(X:Cx)(o:Expr)(m:Str)(apos:Pos)(e f:Expr)(cpos:Pos):Prop where
 base:attributeBase o m X.env (eval o X.env)=eval o X.env
 few:((backTo cpos (starEach [e,f] X.env)).all (λx => !x.1)&&(backToKw cpos (keywordEach [] X.env)).all (λx=>x.1.isSome)
  && decide (([e,f]:List Expr).length+([]:List Keyword).length+(if ([]:List Keyword).isEmpty then 0 else 1)<30))=true
 line:(apos.endLine == cpos.line)=true
 trees:backTo cpos (starEach [e,f] X.env) = [(false,eval e X.env),(false,eval f X.env)]
def IsD(H:Hp)(a:Addr):Prop:=(∃kvs,Rd H a (.dK kvs)) \/ ∃kvs,Rd H a (.dT kvs)
theorem qVx{X:Cx}{pins:List (Addr×Obj)}{σ : St}{H:Hp}{s:Shared}{a:Addr}(I:Inv X pins σ H s)(d:IsD H a):s.TypeIs (.ref a) "dict" /\ (∀b,Value.ref a = .ref b -> ∃ob,s.heap.get? b=some ob/\ob.dict=none)/\(a == sysModules)=false:=by
 rcases d with ⟨kvs,e⟩ | ⟨kvs,e⟩
 ·obtain⟨_,hd,vs,_,dd⟩:=qI1 I.hok e;refine⟨dd.typeIs,λb q=>?_,hd⟩;cases q;obtain⟨ob,_,_,h1,h2,_⟩:=dd;exact⟨ob,h1,h2.2.1⟩
 ·obtain⟨_,hd,xs,_,dd⟩:=qPk I.hok e;refine⟨dd.typeIs,λb q=>?_,hd⟩;cases q;obtain⟨ob,_,_,h1,h2,_⟩:=dd;exact⟨ob,h1,h2.2.1⟩
section
variable{X:Cx}{pins:List (Addr×Obj)}{σ : St}{H:Hp}{s:Shared}{a:Addr}{y d:V}{u r:Value}{o:Option V}{A:Around}{E:Value->Shared->Prop}
theorem qW3{Q:Value->Shared->Prop}(hu:A.units+1<cLine)(I:Inv X pins σ H s)(g:DGet H a y o)(ry:RelV y u)(rd:RelV d r)(h:∀w' s',Inv X pins σ H s'->RelV (o.getD d) w'->Q w' s'):wpAny (model X.prog X.w) A (call (.builtin "dict.get") [.ref a,u,r]) Q E s:=by
 rcases g with ⟨kvs,k,e,ey,l⟩ | ⟨kvs,k,b,e,ey,eb,l⟩
 ·subst ey;obtain⟨z,hd,vs,rel,dd⟩:=qI1 I.hok e;refine call_meetsIn PySem.F.slot_dict_get dd.typeIs PySem.F.entry_dict_get (PySem.F.args_dict_get_3 _ _ _) (meets_dict_get_default (qBc X.prog X.w) a (qJb ry) hd r) ⟨_,dd.mapOf,h _ _ (I.tok _) ?_⟩;rw [l];exact (rel.val k).getD rd
 ·subst ey;cases (show u=Value.ref b from ry);obtain⟨z,hd,xs,rel,dd⟩:=qPk I.hok e;refine call_meetsIn PySem.F.slot_dict_get dd.typeIs PySem.F.entry_dict_get (PySem.F.args_dict_get_3 _ _ _) (meetsH_dict_get_default (tupleKind (qBc X.prog X.w)) a b hd r) ⟨tupleKind_room_in1 hu,k,xs,qJa I.hok eb,dd,h _ _ (I.tok _) ?_⟩;rw [l];exact (rel.val k).getD rd
end
def qS5(td ty tx:TE):TE:=λσ H Q=>td σ H λx H1 => ∃a,x = .ref a/\IsD H1 a/\ty σ H1 λy H2=>tx σ H2 λz H3 => ∃o,DGet H3 a y o/\Q (o.getD z) H3
section
variable{X:Cx}{o e f:Expr}{apos cpos:Pos}{td ty tx:TE}
theorem qLg(hu:X.A.units+1<cLine)(ho:PE X o td)(he:PE X e ty)(hf:PE X f tx)(m:M2 X o "get" apos e f cpos):PE X (.Call (.Attribute o "get" apos) [e,f] [] cpos) (qS5 td ty tx):=by
 intro pins s σ H Q I h;refine wpAny_Call_method m.base m.few m.line PySem.F.plainAttrs_dict PySem.F.slot_dict_get PySem.F.type_dict_get (thn (ho pins s σ H _ I h) λu s1 hq_=>?_);obtain⟨x,H1,I1,rx,a,ex,d,q1⟩:=hq_;subst ex;obtain rfl:u=Value.ref a:=rx;obtain⟨t1,t2,_⟩:=qVx I1 d;refine⟨t1,t2,?_⟩;rw [m.trees];refine Calls.callWith_builtin rfl (Calls.evalArgs_plain (Calls.spliced_cons (thn (he pins s1 σ H1 _ I1 q1) λiv s2 hq_=>?_)));obtain⟨y,H2,I2,ry,q2⟩:=hq_;refine Calls.spliced_cons (thn (hf pins s2 σ H2 _ I2 q2) λfv s3 hq_=>?_);obtain⟨z,H3,I3,rz,ov,g,q3⟩:=hq_;refine Calls.spliced_nil ?_;exact qW3 hu I3 g ry rz λw' s4 I4 rw'=>⟨_,H3,I4,rw',q3⟩
end
end L2
namespace Att
open PySem PySem.W PySem.Calls PyProof.Rows
theorem qG6{P:Params}{h:Heap}:∀(ns:List Int) (vs:List Value),WellAll P h vs (ns.map WData.int)->IntsAre vs ns:=by
 intro ns
 induction ns with
 | nil =>
  intro vs w;rw [eZ] at w;cases w;exact .nil
 | cons n ns ih =>
  intro vs w;rw [bR] at w;cases w with
  | cons a b =>
   cases a;exact .cons _ _ (ih _ b)
theorem qNc{l:OpenLaw}{n:Nat}(hn:l.most=some n){P:Params}{h:Heap}{args:List WData}{vals:List Value}(hpre:l.row.toRowW.claim.pre args=true)(hwl:WellAll P h vals args):∃a vs ns,vals = [Value.ref a]/\args = [WData.list (ns.map WData.int)]/\h.get? a=some { cls :=.type "list",data :=.seq vs.toArray }/\IntsAre vs ns/\ns.length<=n:=by
 have hsh:WShape.hasAll [] args [.list .int]=true:=(pre_splitW hpre).1;have hc:l.pre.holds [] { args:=args }=true:=(pre_splitW hpre).2;obtain⟨d,r,rfl,h1,h2⟩:=hasAllW_cons hsh;obtain rfl:=hasAllW_nil h2;obtain⟨xs,rfl,h3⟩:=hasW_list h1;obtain⟨ns,rfl⟩:=items_int h3;have hlen:ns.length<=n:=by
  unfold OpenLaw.pre at hc;have h4:(WTm.not (.lt (.lit (.int (n:Int))) (.len (.arg 0)))).holds [] { args :=[.list (ns.map .int)] }=true:=by
   have h4:=(holds_andW hc).1;rw [hn] at h4;exact h4
  have h5:=condW_of h4 (w_not (w_lt w_lit (w_len_list (w_arg rfl))));rw [aC] at h5;refine Nat.le_of_not_lt λq=>?_;have q':(n:Int)<((ns.length:Nat):Int):=by lia
  first
   | (rw [decide_eq_true q'] at h5;exact absurd h5 (by decide))
   | (simp at h5;lia)
 cases hwl with
 | cons w1 w2 =>
  cases w2;cases w1 with
  | list ho hall=>exact⟨_,_,ns,rfl,rfl,ho,qG6 ns _ hall,hlen⟩
theorem qO2(l:OpenLaw)(args:List WData):l.row.toRowW.claim.post args (.bool true) args=true :=
 postW_of (r:=l.row.toRowW) (X:=(true == true))
  (show WShape.has [] (.bool true) .bool=true by first | rfl | decide | simp [WShape.has,WShape.arms,WShape.armsAll])
  (show (WTm.eq .res (.lit (.bool true))).value [] { args:=args,res:=some (.bool true),after:=args }=some (.bool (true == true)) from w_eq_bool (w_res rfl) w_lit) rfl
theorem attach_call{l:OpenLaw}{n:Nat}{q:Program}{loose:List Str}{XP:(Str->Option Value)->Heap->Prop}{YP:World->Heap->Prop}{d:DefRec}(hn:l.most=some n)(hdf:d.params.defaults = [])(call:∀(w:World) (s₀ s₁ : Shared) (mg mb:Str->Option Value) (fa:Addr) (o:Obj) (pm cd doc:Value) (a:Addr) (vs:List Value) (ns:List Int),
   Ground q loose [] XP w s₀ mg mb s₁.heap->YP w s₁.heap ->
   s₁.heap.get? fa=some o->o.data = .func (docDef d.name d.params d.body d.scope pm cd doc)->s₁.heap.CodeRec cd d.name->mg d.name=some (.ref fa) ->
   s₁.heap.get? a=some { cls :=.type "list",data :=.seq vs.toArray }->IntsAre vs ns->ns.length<=n->s₁.gens = #[] ->
   codeAny (model l.prog w) callerA (.call (.ref fa) ⟨[.ref a],[]⟩) (λr s'=>r = .ok (.ret (.bool true))/\OldK s₁.heap s'.heap/\s'.os=s₁.os/\AllBare s'.gens) s₁) :
  WalkO q loose XP YP l.row.toRowW d [] (λf vs=>PySem.call f vs):=by
 intro w s₀ s₁ mg mb G Y fa o pm cd doc dV kV ho hd hcd hD hmg hg args vals as hpre hlay hrd hwl hlo;obtain rfl:dV = .none:=Dflts.none hD hdf;obtain rfl:kV = .none:=Dflts.noKw hD;obtain⟨a,vs,ns,rfl,rfl,hobj,hints,hlen⟩:=qNc hn hpre hwl;refine enter_call (dR (call w s₀ s₁ mg mb fa o pm cd doc a vs ns G Y ho (fd_plain hd) hcd hmg hobj hints hlen hg) λr s' hq=>?_);obtain⟨rfl,h2,h3,h4⟩:=hq;exact⟨.inl ⟨.bool true,.bool true,[],rfl,λ_=>rfl,.bool true,qO2 l _,λ_=>⟨List.Pairwise.nil,λ_ hm=>(nomatch hm)⟩⟩,h2,h3,h4⟩
end Att
namespace L2
open PySem PySem.Spec PyProof.Rows
theorem qMx{vs:List Value}{ns:List Int}(h:IntsAre vs ns):Vals (ns.map V.int) vs:=by
 induction h with
 | nil=>exact .nil
 | cons n t _ ih=>exact .cons ⟨t,rfl⟩ ih
def Only(H:Hp):Prop := ∀b,H b=none \/ ∃o xs,H b=some (.frz o (.lst xs))
theorem qRm{P:Program}{w:World}{K:PySem.W.Frag}{mg mb:Str->Option Value}{CX:CXT}{k:Nat}{fa a:Addr}{fd:FuncData}{x:Str}{sp:Sp}{s₁ : Shared}{vs:List Value}{ns:List Int}
  (KX:K.In s₁.heap) (hns:s₁.heap.Ns mainGlobals mg) (hb:s₁.heap.Ns builtinsNs mb) (hbb:∀x:Str,x ≠ "__name__" -> mb x=bootBuiltins x) (hlim:s₁.heap.NoLimit) (hg:s₁.gens = #[])
  (ha:s₁.heap.get? a=some { cls :=.type "list",data :=.seq vs.toArray }) (hi:IntsAre vs ns) (hl:ns.length<=sizeLine) (hr:Room k callerA)
  (F:∀base:Heap,K.In base->base.Ns mainGlobals mg->FnOk P w K mg base CX k fa fd [x] sp) (hbind:∀(s:Shared) (u:Value),BindsTo s fd ⟨[u],[]⟩ [(x,u)])
  (hsp:∀H:Hp,Only H->SqL K H a (ns.map V.int)->sp [.ref a] H (λv _=>v = .bl true) λ_ _ _=>False)
  (hCX:∀H e s',CX [] H s₁ (λ_ _ _=>False) e s'->False) :
  codeAny (model P w) callerA (.call (.ref fa) ⟨[.ref a],[]⟩) (λr s'=>r = .ok (.ret (.bool true))/\OldK s₁.heap s'.heap/\s'.os=s₁.os/\AllBare s'.gens) s₁ :=by
 have rv:=qMx hi;have lenV:=hi.length;have core:∀H:Hp,Only H->SqL K H a (ns.map V.int)->HOk P w H s₁.heap->(∀b,H b≠none->b=a)->(H a≠none->K.lookup a=none) ->
   codeAny (model P w) callerA (.call (.ref fa) ⟨[.ref a],[]⟩) (λr s'=>r = .ok (.ret (.bool true))/\OldK s₁.heap s'.heap/\s'.os=s₁.os/\AllBare s'.gens) s₁ :=by
  intro H hO hS hok hA hK;have base_of:∀ {b:Addr} {o:Obj},s₁.heap.get? b=some o->H b=none->(hidT s₁.heap H).get? b=some o:=λe n=>qRo e n;have noA:∀ {b:Addr} {o:Obj} {es:Array DictEntry} {ep:Nat},s₁.heap.get? b=some o->o.data = .dict es ep->H b=none:=λ{b o es ep} e d=>by
   cases q:H b with
   | none=>rfl
   | some u =>
    have e':b=a:=hA b (by rw [q];simp);subst e';rw [ha] at e;cases e;have d':Data.seq vs.toArray _=Data.dict es ep:=d;cases d'
  have nsK:∀ {b:Addr} {m:Str->Option Value},s₁.heap.Ns b m->(hidT s₁.heap H).Ns b m:=λ{b m} ⟨o,es,ep,e,d,r⟩=>⟨o,es,ep,base_of e (noA e d),d,r⟩
  have hKb:K.In (hidT s₁.heap H):=λb o e=>base_of (KX b o e) (by
   cases q:H b with
   | none=>rfl
   | some u =>
    have e':b=a:=hA b (by rw [q];simp);subst e'
    rw [hK (by rw [q];simp)] at e;cases e)
  have hM:Mod K mg (hidT s₁.heap H):=⟨hKb,nsK hns,⟨mb,nsK hb,hbb⟩,let ⟨mc,h1,h2⟩:=hlim;⟨mc,nsK h1,h2⟩⟩;have e0:Env0 P w K mg (hidT s₁.heap H) callerA [] s₁ H:=⟨rfl,hM,λb o e=>qTv e,Nat.le_of_eq (qPg _ _),trivial,λb hb=>absurd (show b∈([]:List Addr) from hb) (by simp),hok,.of_eq hg⟩;refine dR ((F _ hKb (nsK hns)).run callerA [] s₁ H ⟨[.ref a],[]⟩ [.ref a] [.ref a] _ _ hr e0 (hbind s₁ (.ref a)) (.cons rfl .nil) (hsp H hO hS)) λr s' h=>?_;cases r with
  | error e=>exact (hCX H e s' h).elim
  | ok fl =>
   cases fl with
   | next=>exact False.elim h
   | brk=>exact False.elim h
   | cont=>exact False.elim h
   | ret u =>
    obtain⟨v,H',os,bare,un,hok',r',q⟩:=h;have q':v = .bl true:=q;subst q';obtain rfl:u=Value.bool true:=r';refine⟨rfl,OldK.of_keep λb o e=>?_,os,bare⟩;cases q:H b with
    | none=>exact un.keep b o e q (by intro z;exact absurd (show b∈([]:List Addr) from z) (by simp)) (by simp)
    | some u =>
     rcases hO b with z | ⟨ob,xs,z⟩
     ·rw [q] at z;cases z
     ·have z2:=un.frzs b ob _ z;obtain⟨e1,_⟩:=hok b _ z;obtain⟨e2,_⟩:=hok' b _ z2;rw [e] at e1;cases e1;exact e2
 cases hk:K.lookup a with
 | some o =>
  have e:=KX a o hk;rw [ha] at e;cases e;refine core (λ_=>none) (λ_ =>.inl rfl) (.inr ⟨_,vs.toArray,_,hk,rfl,rfl,rfl,by rw [aH,lenV];exact hl,by simpa using rv⟩) (λb u z=>by have z':(none:Option HO)=some u:=z;cases z') (λb z=>absurd rfl z) λz=>absurd rfl z
 | none =>
  refine core (λb=>if b=a then some (.frz { cls :=.type "list",data :=.seq vs.toArray } (.lst (ns.map V.int))) else none) (λb=>?_) (.inl (.inr ⟨{ cls :=.type "list",data :=.seq vs.toArray },if_pos rfl⟩)) (λb u z=>?_) (λb z=>?_) λ_=>hk
  ·by_cases hb:b=a
   ·exact .inr ⟨_,_,if_pos hb⟩
   ·exact .inl (if_neg hb)
  ·by_cases hb:b=a
   ·have z':=(if_pos hb).symm.trans z;cases z';subst hb;exact⟨ha,by rw [aC];exact hl,vs,_,rv,ha⟩
   ·have z':=(if_neg hb).symm.trans z;cases z'
  ·by_cases hb:b=a
   ·exact hb
   ·exact absurd (if_neg hb) z
theorem qSp{l:PySem.W.OpenLaw}{n k:Nat}{q:Program}{loose:List Str}{XP:(Str->Option Value)->Heap->Prop}{YP:World->Heap->Prop}{d:DefRec}{K:Params->PySem.W.Frag}{CX:World->CXT}{sp:World->Sp}{x:Str}(hn:l.most=some n)(hn2:n<=sizeLine)(hdf:d.params.defaults = [])(hr:Room k callerA)(hY:∀(w:World) (h:Heap),YP w h->(K w.params).In h)(F:∀(w:World) (mg:Str->Option Value) (fa:Addr) (h:Heap),(K w.params).In h->h.Ns mainGlobals mg->mg d.name=some (.ref fa) ->
   ∃fd:FuncData,(∀(s:Shared) (u:Value),BindsTo s fd ⟨[u],[]⟩ [(x,u)]) /\
    ∀base:Heap,(K w.params).In base->base.Ns mainGlobals mg->FnOk l.prog w (K w.params) mg base (CX w) k fa fd [x] (sp w))
  (hsp:∀(w:World) (H:Hp) (a:Addr) (ns:List Int),ns.length<=n->Only H->SqL (K w.params) H a (ns.map V.int)->sp w [.ref a] H (λv _=>v = .bl true) λ_ _ _=>False)
  (hCX:∀(w:World) (H:Hp) (s:Shared) (e:Value) (s':Shared),CX w [] H s (λ_ _ _=>False) e s'->False) :
  PySem.W.WalkO q loose XP YP l.row.toRowW d [] (λf vs=>PySem.call f vs):=by
 refine Att.attach_call hn hdf λw s₀ s₁ mg mb fa o pm cd doc a vs ns G Y ho hd hcd hmg hobj hints hlen hg=>?_;have KX:=hY w _ Y;obtain⟨fd,hb,hF⟩:=F w mg fa _ KX G.T.g hmg;exact qRm KX G.T.g G.T.b G.T.builtins G.T.nolimit hg hobj hints (bC hlen hn2) hr hF hb (λH hO hS=>hsp w H a ns hlen hO hS) λH e s'=>hCX w H s₁ e s'
def qAg(s:Stmt):Arguments:=match s with
 | .FunctionDef _ a _ _ _ _ _ _ _ _=>a
 | _ =>{ posonlyargs :=[],args :=[],vararg:=none,kwonlyargs :=[],kw_defaults :=[],kwarg:=none,defaults :=[] }
def qAc(s:Stmt):List Stmt:=match s with
 | .FunctionDef _ _ b _ _ _ _ _ _ _=>b
 | _ =>[]
def qA4(s:Stmt):Scope:=match s with
 | .FunctionDef _ _ _ _ _ _ sc _ _ _=>sc
 | _ =>{ kind :=.function,names :=[],isGenerator:=false,isCoroutine:=false }
abbrev CX0:CXT:=λ_ _ _ _ _ _=>False
abbrev E0:XK:=λ_ _ _=>False
theorem pass0{X:Cx}:qQ8 CX0 X E0:=λ_ _ _ _ _ _ _ h=>h.elim
structure Fun(K:PySem.W.Frag)(x qual:Str)(st:Stmt)(f:Addr)(fd:FuncData):Prop where
 ex:∃(oc:Value) (od:Option Addr) (kV doc pm:Value) (an:Option Addr) (cdv ct:Value) (osl:Array (Option Value)),
  fd=PySem.W.fnOf x qual (qAg st) (qAc st) (qA4 st) .none kV doc pm an cdv ct/\K.lookup f=some ⟨oc,od,.func fd,osl⟩/\PySem.W.codeIn K cdv qual=true
 kp:PySem.W.keepIn K (.ref f)=true
section
variable{P:Program}{w:World}{K:PySem.W.Frag}{mg:Str->Option Value}{base:Heap}
theorem Fun.ok{x qual:Str}{st:Stmt}{f:Addr}{fd:FuncData}{N ps:List Str}{k:Nat}{sp:Sp}(F:Fun K x qual st f fd)(S:FnScope N ps (qA4 st))(len:∀vs H Q E,sp vs H Q E->vs.length=ps.length)(hbody:∀(cdv:Value) (A:Around) (outer:List Env) (s:Shared) (H:Hp) (vs:List V) (Q:VK) (E:XK),Room k (A.deeper (envOfC qual (qA4 st) s.heap.objs.size f cdv))->sp vs H Q E ->
   ∃t,PSs (cxOf CX0 P w K mg base N qual (qA4 st) f cdv A outer s H E).nox (qAc st) t/\t { nx:=λ_ H'=>Q .non H',rt:=Q } (start N vs) H):FnOk P w K mg base CX0 (k+1) f fd ps sp:=by
 obtain⟨oc,od,kV,doc,pm,an,cdv,ct,osl,rfl,lk,hcd⟩:=F.ex;refine qWs lk hcd S len λA outer s H vs Q E hr hsp=>?_;obtain⟨t,h,q⟩:=hbody cdv A outer s H vs Q E hr hsp;exact⟨t,h.nox,q⟩
theorem Fun.binds{x qual:Str}{st:Stmt}{f:Addr}{fd:FuncData}{ps:List Str}(F:Fun K x qual st f fd)(h:∀(kV doc pm:Value) (an:Option Addr) (cdv ct:Value) (us:List Value),us.length=ps.length->bindArgs (PySem.W.fnOf x qual (qAg st) (qAc st) (qA4 st) .none kV doc pm an cdv ct) ⟨us,[]⟩=pure (ps.zip us)):Binds K fd ps []:=by
 obtain⟨oc,od,kV,doc,pm,an,cdv,ct,osl,rfl,lk,hcd⟩:=F.ex;exact .all (h kV doc pm an cdv ct)
theorem qSk{x qual:Str}{st:Stmt}{f:Addr}{oc:Value}{od an:Option Addr}{osl:Array (Option Value)}{kV doc pm cdv ct:Value}(l:K.lookup f=some ⟨oc,od,.func (PySem.W.fnOf x qual (qAg st) (qAc st) (qA4 st) .none kV doc pm an cdv ct),osl⟩)(c:PySem.W.codeIn K cdv qual=true)(k:PySem.W.keepIn K (.ref f)=true):Fun K x qual st f (PySem.W.fnOf x qual (qAg st) (qAc st) (qA4 st) .none kV doc pm an cdv ct):=⟨⟨oc,od,kV,doc,pm,an,cdv,ct,osl,rfl,l,c⟩,k⟩
end
theorem qCc{A:Around}{k:Nat}(hr:Room k A):A.units+1<cLine:=cS (Nat.add_le_add_left (by decide:1<=64) _) hr.units
theorem qAn{n:Nat}(h:n<=1000):n<sizeLine:=cS h (by decide)
section
variable{X:Cx}
theorem pv(i:Nat){x:Str}{pos:Pos}(hN:X.N[i]? = some x:=by rfl)(hv:Vis X.env.scope x:=by first | exact Or.inl rfl | exact Or.inr (Or.inl rfl) | exact Or.inr (Or.inr rfl))(hd:(x == ("__debug__" : Str))=false:=by decide)
  (hcd:(x == ("__classdict__" : Str))=false:=by decide):PE X (.Name x pos) (tVar i):=qVc hN hv hd hcd
theorem qQ0:CallR X (.builtin "len") (λxs H Q => ∃a kvs,xs = [V.ref a]/\H a=some (.dK kvs)/\Q (.int kvs.length) H):=by
 intro pins s σ H xs us Q I r h;obtain⟨a,kvs,rfl,ha,q⟩:=h;obtain⟨u,rfl,ru⟩:=vals1 r;cases ru;exact qWw I (.inl ha) λt s' I'=>⟨.int kvs.length,H,I',⟨t,rfl⟩,q⟩
end
theorem iteF{A B:Prop}(h:B):if false=true then A else B:=by
 rw [if_neg aQ];exact h
theorem iteT{A B:Prop}(h:A):if true=true then A else B:=by
 rw [if_pos rfl];exact h
theorem ite2{c A B:Prop} [Decidable c] (h1:c->A)(h2 : ¬c->B):if c then A else B:=by
 by_cases h:c
 ·rw [if_pos h];exact h1 h
 ·rw [if_neg h];exact h2 h
def Same(H H':Hp):Prop := ∀b o,H b=some o->H' b=some o
theorem Same.seq{K:PySem.W.Frag}{H H':Hp}{a:Addr}{xs:List V}(e:Same H H')(h:SqL K H a xs):SqL K H' a xs:=by
 rcases h with (h | ⟨o,h⟩) | h
 ·exact .inl (.inl (e _ _ h))
 ·exact .inl (.inr ⟨o,e _ _ h⟩)
 ·exact .inr h
end L2
set_option maxHeartbeats 4000000
namespace L2
open PySem PySem.Spec PyProof.Rows
abbrev TB:=St->Hp->(St->Hp->Prop)->Prop
def PB(X:Cx)(m:Sem Unit)(B:TB):Prop :=
 ∀(pins:List (Addr×Obj)) (s:Shared) (σ : St) (H:Hp) (Q:St->Hp->Prop),Inv X pins σ H s->B σ H Q ->
  wpAny (model X.prog X.w) X.A m (λ_ s' => ∃ σ' H',Inv X pins σ' H' s'/\Q σ' H') X.xe s
def tAll:List TT->TT
 | []=>λ_ H Q=>Q true H
 | t::r=>λσ H Q=>t σ H λb H1=>if b=true then tAll r σ H1 Q else Q false H1
inductive PTs(X:Cx):List Expr->List TT->Prop
 | nil:PTs X [] []
 | cons {e es t ts}:PT X e t->PTs X es ts->PTs X (e::es) (t::ts)
def qEj(ifs:List Expr)(env:Env)(b:Bool):Sem Bool:=forIn ifs b λc r=>if r=true then do let ok <-isTrue c env (eval c env);pure (ForInStep.yield ok) else pure (ForInStep.yield r)
theorem qFp{M:Model}{A:Around}{E:Value->Shared->Prop}{env:Env}{Q:Bool->Shared->Prop}{s:Shared}(h:Q false s):∀ifs:List Expr,wpAny M A (qEj ifs env false) Q E s
 | []=>aB h
 | c::r=>by
  unfold qEj;simp only [List.forIn_cons,Bool.false_eq_true,if_false];exact aA (aB (qFp h r))
theorem qL1{X:Cx}:∀ {ifs:List Expr} {ts:List TT},PTs X ifs ts -> ∀(pins:List (Addr×Obj)) (s:Shared) (σ : St) (H:Hp) (Q:Bool->Hp->Prop),Inv X pins σ H s->tAll ts σ H Q ->
  wpAny (model X.prog X.w) X.A (qEj ifs X.env true) (TP X pins σ Q) X.xe s
 | _,_,.nil,pins,s,σ,H,Q,I,h=>aB ⟨H,I,h⟩
 | _,_,.cons (es:=es) h1 h2,pins,s,σ,H,Q,I,h=>by
  unfold qEj;simp only [List.forIn_cons,if_true];refine aA (aA (thn (h1 pins s σ H _ I h) λb s1 hq_=>?_));obtain⟨H1,I1,q1⟩:=hq_;refine aB ?_;cases b with
  | true=>exact qL1 h2 pins s1 σ H1 Q I1 q1
  | false=>exact qFp (show TP X pins σ Q false s1 from⟨H1,I1,q1⟩) es
def LoopT(J:It)(g:TG)(tt:TT)(B:TB):TB:=λσ H Q => ∃W:Nat->Nat->St->Hp->Prop,(∃m,W 0 m σ H) /\ ∀i m σ H,W i m σ H ->
 (J.stop i H/\Q σ H)\/(J.go i H /\ ∀x H',J.yld i H x H'->g x σ H' λσ2 H2=>tt σ2 H2 λb H3 =>
  if b=true then B σ2 H3 (λσ3 H4 => ∃m',m'<m/\W (i+1) m' σ3 H4) else ∃m',m'<m/\W (i+1) m' σ2 H3)
def CompR(X:Cx)(pins:List (Addr×Obj))(Q:St->Hp->Prop):Result->Shared->Prop
 | .ok _,s' => ∃ σ' H',Inv X pins σ' H' s'/\Q σ' H'
 | .error _,_=>False
structure ClauseAt(X:Cx)(e:Expr)(d:Nat)(acc:Value)(tg iter:Expr)(ifs:List Expr)(beh:Sem Unit):Prop where
 quiet:∀it,(Code.compLoop e d it acc X.env).quiet=true
 under:∀it,X.A.under (Code.compLoop e d it acc X.env)=X.A
 den:∀it,(model X.prog X.w).den (.compLoop e d it acc X.env)=(compTurn e d it acc X.env).onRaise (λx=>do noteFrame x X.env;theTreesLotGoes x)
 turn:∀it,compTurn e d it acc X.env=(do
   standAt iter.pos
   match <-pyNext it with
   | none=>pure (.done .next)
   | some v =>
    letOwnedTupleGo tg it v
    assign tg X.env v
    let ok <-qEj ifs X.env true
    if ok then beh
    again (.compLoop e d it acc X.env))
 start:∀(it:Value) (R:Result->Shared->Prop) (s:Shared),codeAny (model X.prog X.w) X.A (.compLoop e d it acc X.env) R s ->
  wpAny (model X.prog X.w) X.A (pyIter it) (λit' s'=>codeAny (model X.prog X.w) X.A (.compLoop e d it' acc X.env) R s') (λ_ _=>False) s->codeAny (model X.prog X.w) X.A (.compStart e d it acc X.env) R s
theorem qJi{X:Cx}{e:Expr}{d:Nat}{acc:Value}{tg iter:Expr}{ifs:List Expr}{beh:Sem Unit}{J:It}{fp:List Addr}{it:Addr}{tn:Nat->Heap->Prop}{g:TG}{tts:List TT}{B:TB}(hxe:X.xe=λ_ _=>False)(hc:X.calm=true)(C:ClauseAt X e d acc tg iter ifs beh)(T:Turn X.prog X.w X.K tg J fp it tn)(hg:PG X tg g)(ht:PTs X ifs tts)(hb:PB X beh B){pins:List (Addr×Obj)}{σ : St}{H:Hp}{s:Shared}{Q:St->Hp->Prop}(I:Inv X pins σ H s)(st:tn 0 s.heap)(f:∀b∈fp,FpOk X pins H b)(q:LoopT J g (tAll tts) B σ H Q):codeAny (model X.prog X.w) X.A (.compLoop e d (.ref it) acc X.env) (CompR X pins Q) s:=by
 obtain⟨W,⟨m0,w0⟩,turn⟩:=q;have stat:∀ {H':Hp},(∀b∈fp,H' b=none) -> ∀b∈fp,FpOk X pins H' b:=λhn b hb=>⟨hn b hb,(f b hb).2⟩;refine codeAny_loop (C.quiet _) (λn s' => ∃i σ' H',Inv X pins σ' H' s'/\tn i s'.heap/\(∀b∈fp,H' b=none)/\W i n σ' H') ?_ m0 ⟨0,σ,H,I,st,λb hb=>(f b hb).1,w0⟩;rintro n s3 ⟨i,σ3,H3,I3,st3,fr3,w3⟩;rw [C.under,C.den];refine wpAny_noted ?_;rw [C.turn];refine aA (dE ?_);have lift:∀ {α : Type} {t:Sem α} {R : α -> Shared->Prop} {s:Shared},wpAny (model X.prog X.w) X.A t R X.xe s->wpAny (model X.prog X.w) X.A t R (notedBy (model X.prog X.w) X.A X.env λx s'=>CompR X pins Q (.error x) s') s:=by
  intro α t R s h;rw [hxe] at h;exact eX h (λ_ _ z=>z) λ_ _ z=>z.elim
 rcases turn i n σ3 H3 w3 with ⟨stop,qn⟩ | ⟨go,step⟩
 ·refine aA (lift (thn (T.done X rfl rfl rfl hc i pins s3 σ3 H3 X.xe I3 (stat fr3) st3 stop) λr s4 hq_=>?_));obtain⟨hr,I4⟩:=hq_;subst hr;exact aB ⟨σ3,H3,I4,qn⟩
 ·refine aA (lift (thn (T.item X rfl rfl rfl hc i pins s3 σ3 H3 X.xe I3 (stat fr3) st3 go) λr s4 hq_=>?_));obtain⟨u,hr,h4⟩:=hq_;subst hr;refine aA (lift (thn h4 λ_ s5 hq_=>?_));obtain⟨x,H5,I5,r5,y5,st5,fr5⟩:=hq_;have I5':=I5.pinned (stat fr5) (T.obj _ _ st5);refine aA (lift (thn (hg _ s5 σ3 H5 x u _ I5' r5 (step x H5 y5)) λ_ s6 hq_=>?_));obtain⟨σ6,H6,I6,q6⟩:=hq_;have again:∀ {σ7:St} {H7:Hp} {s7:Shared},Inv X (pins++qIs fp s5.heap) σ7 H7 s7->(∃m',m'<n/\W (i+1) m' σ7 H7) -> ∃m,m<n /\ ∃i σ' H',Inv X pins σ' H' s7/\tn i s7.heap/\(∀b∈fp,H' b=none)/\W i m σ' H':=λ{σ7 H7 s7} I7 ⟨m',hm,w7⟩=>by
   refine⟨m',hm,i+1,σ7,H7,I7.unpinned,T.keep _ _ _ st5 λb hb o e=>(I7.pin (b,o) (aY _ (aY _ (qDs hb e)))).1,λb hb=>?_,w7⟩;obtain⟨o,e,_⟩:=T.obj _ _ st5 b hb;exact (I7.pin (b,o) (aY _ (aY _ (qDs hb e)))).2.1
  refine aA (lift (thn (qL1 ht _ s6 σ6 H6 _ I6 q6) λok s7 hq_=>?_));obtain⟨H7,I7,q7⟩:=hq_;cases ok with
  | false =>
   exact aB ⟨rfl,again I7 q7⟩
  | true =>
   refine aA (lift (thn (hb _ s7 σ6 H7 _ I7 q7) λ_ s8 hq_=>?_));obtain⟨σ8,H8,I8,q8⟩:=hq_;exact aB ⟨rfl,again I8 q8⟩
theorem qF2(env:Env):∀(names:List (Str×NameKind)) (cs:List (Str×Addr)),(∀x∈names,x.2 = .free -> ∃c,env.cells.lookup x.1=some c) ->
  (∀x c,cs.lookup x=some c->env.cells.lookup x=some c) ->
  ∃cl,(forIn names cs λ(x:Str×NameKind) (r:List (Str×Addr))=>(if (x.2 == NameKind.free)=true then do let c <-cellOf env x.1;pure (ForInStep.yield ((x.1,c)::r)) else pure (ForInStep.yield r):Sem (ForInStep (List (Str×Addr)))))=pure cl /\
   (∀x c,cl.lookup x=some c->env.cells.lookup x=some c)/\(∀x,(x,NameKind.free)∈names\/(∃c,cs.lookup x=some c) -> ∃c,cl.lookup x=some c)
 | [],cs,_,h2=>⟨cs,rfl,h2,λx h=>h.elim (λz=>nomatch z) id⟩
 | (n,k)::r,cs,h1,h2=>by
  rw [List.forIn_cons];have hr:∀x∈r,x.2 = .free -> ∃c,env.cells.lookup x.1=some c:=λx hx=>h1 x (bO _ hx);by_cases hk:k = .free
  ·subst hk;obtain⟨c,hc⟩:=h1 (n,.free) bM rfl;have hcell:cellOf env n=pure c:=by unfold cellOf;rw [hc]
   obtain⟨cl,e,a,b⟩:=qF2 env r ((n,c)::cs) hr (λx d hx=>by
    rw [eT] at hx;cases hxn:x == n with
    | true =>
     rw [hxn] at hx;have:x=n:=eq_of_beq hxn;cases hx;rw [this];exact hc
    | false=>rw [hxn] at hx;exact h2 x d hx)
   refine⟨cl,?_,a,λx hx=>b x ?_⟩
   ·rw [hcell];exact e
   ·by_cases hxn:x=n
    ·exact .inr ⟨c,by rw [eT,hxn,beq_self_eq_true]⟩
    ·rcases hx with hx | ⟨d,hx⟩
     ·rcases aN.mp hx with z | z
      ·exact absurd (congrArg Prod.fst z) hxn
      ·exact .inl z
     ·refine .inr ⟨d,?_⟩;have:(x == n)=false:=by simpa using hxn
      rw [eT,this];exact hx
  ·have hb:(k == NameKind.free)=false:=by simpa using hk
   obtain⟨cl,e,a,b⟩:=qF2 env r cs hr h2;refine⟨cl,?_,a,λx hx=>b x ?_⟩
   ·show (if (k == NameKind.free)=true then _ else _) >>= _=_;rw [hb];exact e
   ·rcases hx with hx | hx
    ·rcases aN.mp hx with z | z
     ·exact absurd (congrArg Prod.snd z).symm hk
     ·exact .inl z
    ·exact .inr hx
theorem qH4{scope:Scope}{env:Env}(h:∀x∈scope.names,x.2 = .free -> ∃c,env.cells.lookup x.1=some c):∃cl,closureFor scope env=pure cl/\(∀x c,cl.lookup x=some c->env.cells.lookup x=some c) /\ ∀x,(x,NameKind.free)∈scope.names -> ∃c,cl.lookup x=some c:=by
 obtain⟨cl,e,a,b⟩:=qF2 env scope.names [] h (λx c hx=>nomatch hx);refine⟨cl,?_,a,λx hx=>b x (.inl hx)⟩;unfold closureFor;show (forIn scope.names ([]:List (Str×Addr)) _) >>= _=_;have e2:(forIn scope.names ([]:List (Str×Addr)) λ(x:Str×NameKind) (r:List (Str×Addr))=>(match x with | (name,kind)=>if (kind == NameKind.free)=true then do let c <-cellOf env name;pure (ForInStep.yield ((name,c)::r)) else pure (ForInStep.yield r):Sem (ForInStep (List (Str×Addr)))))=pure cl:=e;rw [e2];rfl
def relK(env:Env)(x:Str)(k:NameKind):NameKind:=if (k == .free&&env.scope.kind == .function&&env.kindOf x == some .cell)=true then .cell else k
theorem qDx(env:Env)(x:Str):∀names:List (Str×NameKind),
  (names.map λ(n,k)=>if (k == NameKind.free&&env.scope.kind == .function&&env.kindOf n == some .cell) then (n,NameKind.cell) else (n,k)).lookup x=(names.lookup x).map (relK env x)
 | []=>rfl
 | (n,k)::r=>by
  have ih:=qDx env x r;show List.lookup x ((if (k == NameKind.free&&env.scope.kind == .function&&env.kindOf n == some .cell)=true then (n,NameKind.cell) else (n,k))::_)=_;have e:(if (k == NameKind.free&&env.scope.kind == .function&&env.kindOf n == some .cell)=true then (n,NameKind.cell) else (n,k))=(n,relK env n k):=by
   unfold relK;split <;> rfl
  rw [e,eT,eT];cases hx:x == n with
  | true=>have:=eq_of_beq hx;subst this;rfl
  | false=>exact ih
theorem qF7(scope:Scope)(env:Env)(x:Str):(relabel scope env).names.lookup x=(scope.names.lookup x).map (relK env x):=qDx env x scope.names
def qAp(X:Cx)(own:List Str)(cap:List Nat)(scope:Scope)(cl:List (Str×Addr))(s:Shared)(H:Hp)(ex:List Addr):Cx :=
 { X with N:=own++cap.map (λj=>X.N.getD j ""),env:=compEnvC scope cl s.heap.objs.size X.env,s₀ :=s,H₀ :=H,outer:=X.stack,ex:=ex,fn:=λ_=>false,pn :=[],xe:=λ_ _=>False }
def qJk(own:List Str)(cap:List Nat)(σ : St):St:=own.map (λ_=>none)++cap.map (λj=>(σ[j]?).join)
structure CompScope(X:Cx)(own:List Str)(cap:List Nat)(scope:Scope):Prop where
 kind:scope.kind = .function
 nocell:∀x∈scope.names,x.2 ≠ .cell
 names:∀x∈scope.names,x.2 = .local->scope.names.lookup x.1=some .local
 free:∀x∈scope.names,x.2 = .free->X.env.kindOf x.1=some .cell\/X.env.kindOf x.1=some .free
 own:∀x∈own,scope.names.lookup x=some .local
 caps:∀j∈cap,scope.names.lookup (X.N.getD j "")=some .free/\j<X.N.length
theorem qRw{X:Cx}{own:List Str}{cap:List Nat}{scope:Scope}{cl:List (Str×Addr)}{pins:List (Addr×Obj)}{σ : St}{H:Hp}{s:Shared}{fp:List Addr}{h':Heap}{tk:Nat}(S:CompScope X own cap scope)(I:Inv X pins σ H s)(hcl:∀x c,cl.lookup x=some c->X.env.cells.lookup x=some c)(hfr:∀x,(x,NameKind.free)∈scope.names -> ∃c,cl.lookup x=some c)(hf:∀b∈fp,FpOk X pins H b)(hlt:∀b∈fp,b<s.heap.objs.size)(hns:h'.Ns s.heap.objs.size (λx=>([]:List (Str×Value)).reverse.lookup x))(hk:∀b u,s.heap.get? b=some u->h'.get? b=some u):Inv (qAp X own cap scope cl s H fp) [] (qJk own cap σ) H { s with heap:=h',toks:=tk }:=by
 have kc:∀x k,(relabel scope X.env).names.lookup x=some k->(k = .cell\/k = .free)->(x,NameKind.free)∈scope.names:=by
  intro x k e hk;rw [qF7] at e;cases q:scope.names.lookup x with
  | none=>rw [q] at e;cases e
  | some k0 =>
   rw [q] at e;have e':relK X.env x k0=k:=bG e;have hm:=cP q;have h0:k0 ≠ .cell:=S.nocell _ hm;have:k0 = .free:=by
    unfold relK at e';by_cases hb:(k0 == NameKind.free&&X.env.scope.kind == .function&&X.env.kindOf x == some .cell)=true
    ·simp only [aI,beq_iff_eq] at hb;exact hb.1.1
    ·rw [if_neg hb] at e';rcases hk with z | z
     ·exact absurd (e'.trans z) h0
     ·exact e'.trans z
   rw [this] at hm;exact hm
 have ok:(qAp X own cap scope cl s H fp).Ok :={
  mod:=I.ok.mod
  kind:=S.kind
  glob:=I.ok.glob
  blt:=I.ok.blt
  above:=aD _
  inj:=λx y c e1 e2=>I.ok.inj x y c (hcl x c e1) (hcl y c e2)
  has:=λx hx=>by
   rcases hx with hx | hx
   ·exact hfr x (kc x _ hx (.inl rfl))
   ·exact hfr x (kc x _ hx (.inr rfl))
  cab:=λx c h=>absurd h (show ¬(false=true) from aQ)
  hd:=I.ok.hd
  frames:=I.ok.frames
  stk :=.inl rfl
  exf:=λb hb=>⟨bA (hlt b hb),λx c e=>(hf b hb).2.2.2.2.1 x c (hcl x c e)⟩
  bs:=I.bs
  bsz:=bC I.ok.bsz I.sz
  noex:=λb o e hb=>by
   rcases (hf b hb).2.2.2.1 with z | z
   ·exact I.ok.noex b o e z
   ·exact absurd (aZ (aM e) (bC I.ok.bsz z)) (eQ _)
  exfs:=λb hb hm=>by
   rcases aN.mp (I.stkSub b hm) with z | z
   ·exact (hf b hb).2.1 z
   ·exact (hf b hb).2.2.1 z
  funs:=I.stack
  frf:=I.stkFree }
 refine⟨ok,rfl,I.bare,Un.kept hk,⟨_,hns,λi x v e1 e2 e3=>?_⟩,λx c e=>?_,I.hok.fresh (aD _),λx c e=>I.freeC x c (hcl x c e),λp hp=>absurd (show p∈([]:List (Addr×Obj)) from hp) (by simp),I.hok.kept hk,?_⟩
 ·have e1:(own++cap.map (λj=>X.N.getD j ""))[i]? = some x:=e1;have e2:(own.map (λ_=>(none:Option V))++cap.map (λj=>(σ[j]?).join))[i]? = some (some v):=e2;by_cases hi:i<own.length
  ·rw [cQ (by simpa using hi),aX] at e2;cases q:own[i]? with
   | none=>rw [q] at e2;cases e2
   | some y=>rw [q] at e2;cases e2
  ·rw [dC (by simpa using hi),aX] at e1;rw [dC (by simpa using hi),aX,aC] at e2;cases q:cap[i - own.length]? with
   | none=>rw [q] at e2;cases e2
   | some j =>
    rw [q] at e1 e2;have e1':X.N.getD j "" = x:=bG e1;have e2':(σ[j]?).join=some v:=bG e2;obtain⟨hj,hlj⟩:=S.caps j (aP q);rw [e1'] at hj;have hNj:X.N[j]? = some x:=by
     rw [aJ hlj,<-e1',cH,aJ hlj];rfl
    have hσ : σ[j]? = some (some v):=by
     cases z : σ[j]? with
     | none=>rw [z] at e2';cases e2'
     | some o=>rw [z] at e2';rw [show o=some v from e2']
    obtain⟨m,hn,hl⟩:=I.loc;have hm:=cP hj;have hkx:=S.free _ hm rfl;have vis:Vis X.env.scope x:=by
     rcases hkx with z | z
     ·exact .inr (.inl z)
     ·exact .inr (.inr z)
    obtain⟨u,r,l⟩:=hl j x v hNj hσ vis;refine⟨u,r,.inr ?_⟩;rcases l with ⟨kl,_⟩ | ⟨_,c,hc,z⟩
    ·rcases hkx with z | z
     ·rw [kl] at z;cases z
     ·rw [kl] at z;cases z
    ·obtain⟨c',hc'⟩:=hfr x hm;have:=hcl x c' hc';rw [hc] at this;cases this;refine⟨?_,c,hc',?_⟩
     ·have q:(relabel scope X.env).names.lookup x=some (relK X.env x .free):=by rw [qF7,hj];rfl
      show (relabel scope X.env).names.lookup x=some .cell\/(relabel scope X.env).names.lookup x=some .free;rw [q];unfold relK;split
      ·exact .inl rfl
      ·exact .inr rfl
     ·obtain⟨o,ho,hd⟩:=z;exact⟨o,hk c o ho,hd⟩
 ·obtain⟨v,o,ho,hd⟩:=I.cell x c (hcl x c e);exact⟨v,o,hk c o ho,hd⟩
 ·show (own.map (λ_=>(none:Option V))++cap.map (λj=>(σ[j]?).join)).length=(own++cap.map (λj=>X.N.getD j "")).length;simp only [aK,aC]
def qJw(X:Cx)(m:Sem Value)(o:HO):Prop :=
 ∀(pins:List (Addr×Obj)) (s:Shared) (σ : St) (H:Hp) (E:Value->Shared->Prop) (Q:Value->Shared->Prop),Inv X pins σ H s ->
  (∀l s',s.heap.objs.size<=l->H l=none->Inv X pins σ (upd H l o) s'->(∀b u,s.heap.get? b=some u->s'.heap.get? b=some u)->Q (.ref l) s')->wpAny (model X.prog X.w) X.A m Q E s
theorem qIc{X:Cx}:qJw X (newList []) (.lst []):=by
 intro pins s σ H E Q I h;exact wpAny_newList (h _ _ (aD _) I.fresh (I.lnew (its :=[]) (t':=s.toks) .nil (aW _)) λb u e=>aF _ e)
theorem qJj{X:Cx}{e:Expr}{tg iter:Expr}{ifs:List Expr}{scope:Scope}{own:List Str}{cap:List Nat}{newAcc:Sem Value}{o:HO}{cl:List (Str×Addr)}{behOf:Value->Env->Sem Unit}{g:TG}{tts:List TT}{Bof:Addr->TB}(hc:X.calm=true)(S:CompScope X own cap scope)(hcl:∀x c,cl.lookup x=some c->X.env.cells.lookup x=some c)(hfr:∀x,(x,NameKind.free)∈scope.names -> ∃c,cl.lookup x=some c)(hacc:qJw X newAcc o)(hC:∀s H ex l,ClauseAt (qAp X own cap scope cl s H ex) e 0 (.ref l) tg iter ifs (behOf (.ref l) (qAp X own cap scope cl s H ex).env))(hg:∀s H ex,PG (qAp X own cap scope cl s H ex) tg g)(ht:∀s H ex,PTs (qAp X own cap scope cl s H ex) ifs tts)(hb:∀s H ex l,PB (qAp X own cap scope cl s H ex) (behOf (.ref l) (qAp X own cap scope cl s H ex).env) (Bof l)){pins:List (Addr×Obj)}{σ : St}{s2:Shared}{itv:Value}{Q:Addr->Hp->Prop}{E:Value->Shared->Prop}{R:Value->Addr->Result->Shared->Prop}(h:PIE X pins σ tg (λJ H1 => ∀l,H1 l=none->LoopT J g (tAll tts) (Bof l) (qJk own cap σ) (upd H1 l o) λ_ H2=>Q l H2) itv s2)(hR:∀l C s' H',Inv X pins σ H' s'->FpOk X pins H' C->(∃m,s'.heap.Ns C m)->Q l H'->R (.ref l) C (.ok .next) s')(hok:∀acc C f s',R acc C (.ok .next) s'->R acc C (.ok f) s'):wpAny (model X.prog X.w) X.A newAcc (λacc s₃ =>wpAny (model X.prog X.w) X.A (newFunctionEnv scope X.env.globals cl [] X.env.qual none .none (some X.env)) (λcenv s₄ =>
   codeAny (model X.prog X.w) X.A (.compStart e 0 itv acc { cenv with scope:=relabel scope X.env }) (R acc cenv.locals) s₄) E s₃) E s2:=by
 obtain⟨it,fp,tn,J,H2,rfl,I2,T,st2,f2,q⟩:=h;have lt2:∀b∈fp,b<s2.heap.objs.size:=λb hb=>by
  obtain⟨ob,e,_⟩:=T.obj _ _ st2 b hb;exact aM e
 refine hacc pins s2 σ H2 E _ I2 λl s3 hl hn I3 k3=>?_;have q':=q l hn;have f3:∀b∈fp,FpOk X pins (upd H2 l o) b:=λb hb=>by
  obtain⟨a1,a2⟩:=f2 b hb;refine⟨?_,a2⟩;rw [qA7 (bA (aZ (lt2 b hb) hl))];exact a1
 have lt3:∀b∈fp,b<s3.heap.objs.size:=λb hb=>by
  obtain⟨ob,e,_⟩:=T.obj _ _ st2 b hb;exact aM (k3 b ob e)
 refine wpAny_newFunctionEnv S.nocell (by intro y hy;simp at hy) (λh1 hns hsb=>?_) S.kind;have k4:∀b u,s3.heap.get? b=some u->h1.get? b=some u:=λb u e=>by
  exact hsb.extBut b u (bA (aM e)) (aF _ e)
 have I4:Inv (qAp X own cap scope cl s3 (upd H2 l o) fp) [] (qJk own cap σ) (upd H2 l o) { s3 with heap:=h1,toks:=s3.toks+([]:List (Str×Value)).length }:=qRw S I3 hcl hfr f3 lt3 hns k4;have st4:tn 0 h1:=T.keep _ _ _ st2 λb hb ob e=>k4 b ob (k3 b ob e);have f4:∀b∈fp,FpOk (qAp X own cap scope cl s3 (upd H2 l o) fp) [] (upd H2 l o) b:=λb hb=>by
  obtain⟨a0,a1,a2,a3,a4,a5⟩:=f3 b hb;refine⟨a0,bA (lt3 b hb),λhm=>?_,.inl hb,λx c ex=>a4 x c (hcl x c ex),λp hp=>absurd (show p∈([]:List (Addr×Obj)) from hp) (by simp)⟩;rcases aN.mp (I3.stkSub b hm) with z | z
  ·exact a1 z
  ·exact a2 z
 have fin:∀(r:Result) (s':Shared),CompR (qAp X own cap scope cl s3 (upd H2 l o) fp) [] (λ_ H2=>Q l H2) r s'->R (.ref l) s3.heap.objs.size r s':=by
  intro r s' hr;cases r with
  | error x=>exact (show False from hr).elim
  | ok f =>
   obtain⟨σ5,H5,I5,q5⟩:=(show ∃ σ' H',Inv (qAp X own cap scope cl s3 (upd H2 l o) fp) [] σ' H' s'/\Q l H' from hr);have I6:Inv X pins σ H5 s':=I3.call' (ch:=fp) I5.os I5.base I5.hok I5.bare λb hb=>(f3 b hb).2.2.2 |> λ⟨z1,z2,z3⟩=>⟨z1,(f3 b hb).2.1,z2,z3⟩
   refine hok _ _ _ _ (hR l _ s' H5 I6 (I3.fpOk (aD _) I5.free) ?_ q5);obtain⟨m,hm,_⟩:=I5.loc;exact⟨m,hm⟩
 have loop:∀s4:Shared,s4 = { s3 with heap:=h1,toks:=s3.toks+([]:List (Str×Value)).length } ->
   codeAny (model X.prog X.w) X.A (.compLoop e 0 (.ref it) (.ref l) (qAp X own cap scope cl s3 (upd H2 l o) fp).env) (R (.ref l) s3.heap.objs.size) s4:=by
  rintro s4 rfl;exact dR (qJi (X:=qAp X own cap scope cl s3 (upd H2 l o) fp) rfl hc (hC _ _ _ _) T (hg _ _ _) (ht _ _ _) (hb _ _ _ l) I4 st4 f4 q') fin
 exact (hC s3 (upd H2 l o) fp l).start (.ref it) _ _ (loop _ rfl) (T.self _ 0 _ _ _ st4 (loop _ rfl))
section
variable{X:Cx}{e:Expr}{tg iter:Expr}{ifs:List Expr}{gs:List Comprehension}{scope:Scope}{own:List Str}{cap:List Nat}{newAcc:Sem Value}{o:HO}{behOf:Value->Env->Sem Unit}{wi:TI}{g:TG}{tts:List TT}{Bof:Addr->TB}{cpos:Pos}
def tComp(own:List Str)(cap:List Nat)(o:HO)(wi:TI)(g:TG)(tts:List TT)(Bof:Addr->TB):TE:=λσ H Q=>wi σ H λJ H1 => ∀l,H1 l=none->LoopT J g (tAll tts) (Bof l) (qJk own cap σ) (upd H1 l o) λ_ H2=>Q (.ref l) H2
theorem qI3(hc:X.calm=true)(S:CompScope X own cap scope)(hcl:clausesOf e=⟨tg,iter,ifs,0⟩::gs)(hi:PI X tg iter wi)(hacc:qJw X newAcc o)(hC:∀cl s H ex l,ClauseAt (qAp X own cap scope cl s H ex) e 0 (.ref l) tg iter ifs (behOf (.ref l) (qAp X own cap scope cl s H ex).env))(hg:∀cl s H ex,PG (qAp X own cap scope cl s H ex) tg g)(ht:∀cl s H ex,PTs (qAp X own cap scope cl s H ex) ifs tts)(hb:∀cl s H ex l,PB (qAp X own cap scope cl s H ex) (behOf (.ref l) (qAp X own cap scope cl s H ex).env) (Bof l))(hs:∀x,foldedSetIterable iter X.env x=pure x):∀(pins:List (Addr×Obj)) (s:Shared) (σ : St) (H:Hp) (Q:VK),Inv X pins σ H s->tComp own cap o wi g tts Bof σ H Q ->
   wpAny (model X.prog X.w) X.A (comprehension e scope X.env cpos newAcc false (eval iter X.env)) (EP X pins σ Q) X.xe s:=by
 intro pins s σ H Q I h;obtain⟨cl,hclos,h1,h2⟩:=qH4 (scope:=scope) (env:=X.env) λx hx hf=>I.ok.has x.1 (S.free x hx hf);refine wpAny_comprehension_free (use:=none) hcl hs hclos S.kind S.names (thn (hi pins s σ H _ I h) λv s1 q1=>thn q1 λitv s2 q2=>?_);refine qJj (R:=λacc C=>compPost (model X.prog X.w) X.A X.xe none (EP X pins σ Q) acc C) hc S h1 h2 hacc (hC cl) (hg cl) (ht cl) (hb cl) q2 (λl C s' H' I' fC hm q=>?_) (λacc C f s' z=>z);obtain⟨m,hm⟩:=hm;refine⟨m,hm,λh' sb=>⟨.ref l,H',I'.turned (t':=s'.toks) (λb o hb e=>(sb.2 b hb).trans e) fC.1 fC.2.1 fC.2.2.2.1 fC.2.2.2.2.1 fC.2.2.2.2.2,rfl,q⟩⟩
theorem qRv{i:Nat}{x:Str}{px:Pos}(hc:X.calm=true)(S:CompScope X own cap scope)(hcl:clausesOf e=⟨tg,iter,ifs,0⟩::gs)(hi:PI X tg iter wi)(hacc:qJw X newAcc o)(hC:∀cl s H ex l,ClauseAt (qAp X own cap scope cl s H ex) e 0 (.ref l) tg iter ifs (behOf (.ref l) (qAp X own cap scope cl s H ex).env))(hg:∀cl s H ex,PG (qAp X own cap scope cl s H ex) tg g)(ht:∀cl s H ex,PTs (qAp X own cap scope cl s H ex) ifs tts)(hb:∀cl s H ex l,PB (qAp X own cap scope cl s H ex) (behOf (.ref l) (qAp X own cap scope cl s H ex).env) (Bof l))(hs:∀x,foldedSetIterable iter X.env x=pure x)(hN:X.N.Nodup)(hix:X.N[i]? = some x)(hx:Loc X.env.scope x)(hf:X.fn x=true\/X.env.scope.names.lookup x=some .local):∀(pins:List (Addr×Obj)) (s:Shared) (σ : St) (H:Hp) (D:Ends),Inv X pins σ H s->tComp own cap o wi g tts Bof σ H (λv H1=>D.nx (σ.set i (some v)) H1) ->
   wpAny (model X.prog X.w) X.A (comprehension e scope X.env cpos newAcc false (eval iter X.env) (some (assign (.Name x px) X.env))) (λ_ s'=>SP X pins D .next s') X.xe s:=by
 intro pins s σ H D I h;obtain⟨cl,hclos,h1,h2⟩:=qH4 (scope:=scope) (env:=X.env) λx hx hf=>I.ok.has x.1 (S.free x hx hf);refine wpAny_comprehension_free (use:=some (assign (.Name x px) X.env)) hcl hs hclos S.kind S.names (thn (hi pins s σ H _ I h) λv s1 q1=>thn q1 λitv s2 q2=>?_);refine qJj (R:=λacc C=>compPost (model X.prog X.w) X.A X.xe (some (assign (.Name x px) X.env)) (λ_ s'=>SP X pins D .next s') acc C) hc S h1 h2 hacc (hC cl) (hg cl) (ht cl) (hb cl) q2 (λl C s' H' I' fC hm q=>?_) (λacc C f s' z=>z);obtain⟨m,hm⟩:=hm;show wpAny (model X.prog X.w) X.A (assign (.Name x px) X.env (.ref l)) _ X.xe s';refine wpAny_assign_Name (qIl (v :=.ref l) I' hN hix hx rfl (λs'' I'' hq_=>?_) hf);obtain⟨a,sa,ha⟩:=hq_
 have hCa:C≠a:=by
  rcases ha with z | z
  ·rw [z];exact fC.2.1
  ·exact cV (fC.2.2.2.2.1 x a z)
 refine⟨m,hm.sameBut sa hCa,λh' sb=>⟨_,H',I''.turned (t':=s''.toks) (λb o hb e=>(sb.2 b hb).trans e) fC.1 fC.2.1 fC.2.2.2.1 fC.2.2.2.2.1 fC.2.2.2.2.2,q⟩⟩
end
def eApp(te:TE)(l:Addr):TB:=λσ H Q=>te σ H λv H1 => ∃vs,H1 l=some (.lst vs)/\vs.length<sizeLine/\Q σ (upd H1 l (.lst (vs ++ [v])))
def qGd(elt:Expr)(acc:Value)(env:Env):Sem Unit:=do let _ <-call (.builtin "list.append") [acc,<-eval elt env]
theorem qKe{X:Cx}{elt:Expr}{te:TE}{l:Addr}(he:PE X elt te):PB X (qGd elt (.ref l) X.env) (eApp te l):=by
 intro pins s σ H Q I h;refine aA (thn (he pins s σ H _ I h) λv s1 hq_=>?_);obtain⟨x,H1,I1,r1,vs,e,hz,q⟩:=hq_;refine aA (thn (qCk pins s1 σ H1 (.ref l) [x] (.ref l) [v] (λ_ H2=>Q σ H2) I1 rfl (.cons r1 .nil) ⟨l,vs,x,rfl,rfl,e,hz,q⟩) λu s2 hq_=>?_);obtain⟨z,H2,I2,_,q2⟩:=hq_;exact aB ⟨σ,H2,I2,q2⟩
theorem qGc{X:Cx}{elt tg iter:Expr}{ifs:List Expr}{scope:Scope}{pos:Pos}{acc:Value}:ClauseAt X (.ListComp elt [⟨tg,iter,ifs,0⟩] scope pos) 0 acc tg iter ifs (qGd elt acc X.env) where
 quiet:=λ_=>rfl
 under:=λ_=>rfl
 den:=λ_=>rfl
 turn:=λ_=>rfl
 start:=λit R s h0 h=>codeAny_compStart_list h0 (eX h (λ_ _ z=>z) λ_ _ z=>z.elim)
theorem Inv.turnLaid{X:Cx}{pins:List (Addr×Obj)}{σ : St}{H:Hp}{s:Shared}{h':Heap}{t':Nat}{ch:List Addr}{p:Addr}{o:HO}(I:Inv X pins σ H s)(k:∀b u,b∉ch->s.heap.get? b=some u->h'.get? b=some u)(hth:∀b∈ch,∃u,h'.get? b=some u)(hf:∀b∈ch,FpOk X pins H b)(hp:s.heap.objs.size<=p)(new:ObjOk X.prog X.w (upd H p o) h' p o):Inv X pins σ (upd H p o) { s with heap:=h',toks:=t' }:=by
 have hn:H p=none:=I.hok.fresh hp;have nch:∀b u,H b=some u->b∉ch:=λb u e hb=>by rw [(hf b hb).1] at e;cases e
 refine I.step (g':=s.gens) (d':=s.drawn) (ch:=ch) (λb hb=>?_) (λb u _ _ hc e _=>k b u hc e) (λb u _ _ hc e _=>⟨u.slots,k b u hc e⟩) (λb u _ e n=>?_)
  (λb u hc e=>⟨u,k b u hc e⟩) (λb xs e=>?_) (λb ob xs e=>?_) (λb ps e=>?_) (λm hm=>?_) (λb u e=>?_) I.bare
 ·obtain⟨_,a1,_,a3,a4,a5⟩:=hf b hb;exact⟨a3,a1,a4,a5⟩
 ·rw [qA7 (bA (aZ (aM e) hp))];exact n
 ·rw [qA7 (qA2 e hn)];exact e
 ·rw [qA7 (qA2 e hn)];exact e
 ·exact⟨#[],by rw [qA7 (qA2 e hn),e];simp⟩
 ·obtain⟨ob,es,ep,ho,r⟩:=hm;exact⟨ob,es,ep,k _ ob (λhb=>(hf _ hb).2.1 rfl) ho,r⟩
 ·by_cases hb:b=p
  ·subst hb;rw [qA1] at e;cases e;exact new
  ·rw [qA7 hb] at e;refine (I.hok b u e).stay (λc v hc q=>k c v ?_ q) (λc q=>by rw [qA7 (qA2 q hn)];exact q) λc xs q=>by rw [qA7 (qA2 q hn)];exact q
   rcases hc with z | z
   ·rw [z];exact nch b u e
   ·exact nch c _ z
def Ite(K:PySem.W.Frag)(a:Addr):It:=⟨λi H => ∃xs x,SqL K H a xs/\xs[i]? = some x,λi H x H' => ∃p y,x = .ref p/\H p=none/\(∀ys,SqL K H a ys->ys[i]? = some y)/\H'=upd H p (.tup [.int (i:Int),y]),λi H => ∃xs,SqL K H a xs/\xs.length<=i⟩
theorem qN1{P:Program}{w:World}{K:PySem.W.Frag}{elts:List Expr}{k:Nat}{pos:Pos}(a e it:Addr)(hne:e≠it):Turn P w K (.Tuple elts k pos) (Ite K a) [e,it] e (λi h=>(∃old,IsEnum h e it (i:Nat) old)/\h.IsListIter it a i) where
 mem:=by simp
 obj:=λi h st b hb=>by
  obtain⟨⟨old,he⟩,⟨o,h1,h2,h3⟩⟩:=st;rcases aN.mp hb with z | z
  ·subst z
   exact⟨_,he,λv z=>by
    have z':Data.fields _=Data.cell v:=z
    cases z'⟩
  ·have z:b=it:=by simpa using z
   subst z;exact⟨o,h1,λv z=>by rw [h3] at z;cases z⟩
 keep:=λi h h' st kk=>by
  obtain⟨⟨old,he⟩,hi⟩:=st;exact⟨⟨old,kk e (by simp) _ he⟩,hi.at λo q=>kk it (by simp) o q⟩
 item:=by
  intro X hP hw hK hc i pins s σ H E I hf st hg;subst hP hw hK;obtain⟨xs,x,hq,hx⟩:=hg;obtain⟨⟨old,he⟩,hi⟩:=st;obtain⟨its,rv,p,hz⟩:=I.list hq;obtain⟨u,hu,ru⟩:=rv.get hx;refine wpAny_pyNext_enum_item he hi p.isList (x:=u) (by simpa using hu) hne λh1 heo hi1 ht hsz hk=>?_;refine⟨_,rfl,wpAny_letOwnedTupleGo_enum heo λh2 he2 hs2=>?_⟩;have helt:e<s.heap.objs.size:=aM he;have hs2':Heap.SameBut e h1 h2:=hs2;have I1:Inv X pins σ (upd H s.heap.objs.size (.tup [.int (i:Int),x])) { s with heap:=h2,toks:=s.toks+1 }:=by
   refine I.turnLaid (ch :=[e,it]) (λb o hb q=>?_) (λb hb=>?_) hf (aD _) ?_
   ·have h1':b≠e:=λz=>hb (by simp [z]);have h2':b≠it:=λz=>hb (by simp [z]);exact (hs2'.2 b h1').trans (hk b o h1' h2' q)
   ·rcases aN.mp hb with z | z
    ·subst z;exact⟨_,he2⟩
    ·have z:b=it:=by simpa using z
     subst z;obtain⟨o,q,_⟩:=hi1;exact⟨o,(hs2'.2 _ (cV hne)).trans q⟩
   ·refine⟨by show 2<=sizeLine;decide,[.int (i:Int) s.toks,u],.cons ⟨_,rfl⟩ (.cons ru .nil),⟨_,(hs2'.2 _ (eM helt)).trans ht,rfl,_,rfl⟩⟩
  refine⟨.ref s.heap.objs.size,_,I1,rfl,⟨s.heap.objs.size,x,rfl,I.fresh,λys hy=>by rw [I.list_inj hy hq];exact hx,rfl⟩,⟨⟨_,by
   have:((i+1:Nat):Int)=(i:Int)+1:=by lia
   rw [this];exact he2⟩,hi1.extBut hs2'.extBut (cV hne)⟩,λb hb=>?_⟩
  have hlt:b<s.heap.objs.size:=by
   rcases aN.mp hb with z | z
   ·rw [z];exact helt
   ·have z:b=it:=by simpa using z
    rw [z];obtain⟨o,q,_⟩:=hi;exact aM q
  rw [qA7 (bA hlt)];exact (hf b hb).1
 done:=by
  intro X hP hw hK hc i pins s σ H E I hf st hg;subst hP hw hK;obtain⟨xs,hq,hx⟩:=hg;obtain⟨⟨old,he⟩,hi⟩:=st;obtain⟨its,rv,p,hz⟩:=I.list hq;obtain⟨f0,f1,f2,f3,f4,f5⟩:=hf it (by simp);have hl:=rv.length;exact wpAny_pyNext_enum_end (I.ok.hd hc) he hi p.isList (by simp;lia) λh' eb=>⟨rfl,I.turned (t':=s.toks) (λb o hb q=>eb b o hb q) f0 f1 f3 f4 f5⟩
 self:=λ_ _ _ _ _ st h=>by
  obtain⟨⟨old,he⟩,_⟩:=st;exact wpAny_pyIter_enum he h
section
variable{X:Cx}{elts:List Expr}{k:Nat}{tpos:Pos}
def iEnum(K:PySem.W.Frag)(ta:TA):TI:=λσ H R=>ta σ H λvs H1 => ∃a,vs = [.ref a]/\(∃xs,SqL K H1 a xs)/\R (Ite K a) H1
theorem qTe{a:Expr}{ta:TA}{p pos:Pos}(hg:Gl X "enumerate")(hm:X.mg "enumerate" = none)(ha:PA X [a] ta)(hs:starEach [a] X.env = [(false,eval a X.env)]:=by rfl):PI X (.Tuple elts k tpos) (.Call (.Name "enumerate" p) [a] [] pos) (iEnum X.K ta):=by
 intro pins s σ H R I h;refine Call_ (qH1 I hg hm boot_enumerate (cX (thn (ha pos pins s σ H _ I h) λus s1 hq_=>?_) hs rfl));obtain⟨vs,H1,I1,r1,q1⟩:=hq_;obtain⟨l,e,⟨xs,hq⟩,q⟩:=q1;subst e;obtain⟨u,rfl,ru⟩:=vals1 r1;cases ru;obtain⟨its,rv,pl,hz⟩:=I1.list hq;refine call_enumerate_list pl.isList λh' he hi hsz hk=>?_;refine wpAny_pyIter_enum he ?_;have I2:Inv X pins σ H1 { s1 with heap:=h' }:=I1.kept (t':=s1.toks) hk;refine⟨s1.heap.objs.size+1,[s1.heap.objs.size+1,s1.heap.objs.size],_,_,H1,rfl,I2,qN1 l (s1.heap.objs.size+1) s1.heap.objs.size (eM (Nat.lt_succ_self _)),⟨⟨_,he⟩,hi⟩,λb hb=>?_,q⟩;have hge:s1.heap.objs.size<=b:=by
  rcases aN.mp hb with z | z
  ·rw [z];exact Nat.le_succ _
  ·have z:b=s1.heap.objs.size:=by simpa using z
   rw [z];exact aD _
 exact I1.fpOk hge (I1.hok.fresh hge)
end
section
variable{X:Cx}{elt tg iter tg2 iter2:Expr}{ifs ifs2:List Expr}{scope:Scope}{own:List Str}{cap:List Nat}{wi wi2:TI}{g g2:TG}{tts tts2:List TT}{te:TE}{pos:Pos}
theorem qFc(own:List Str)(cap:List Nat)(hc:X.calm=true)(S:CompScope X own cap scope)(hi:PI X tg iter wi)(hg:∀cl s H ex,PG (qAp X own cap scope cl s H ex) tg g)(ht:∀cl s H ex,PTs (qAp X own cap scope cl s H ex) ifs tts)(he:∀cl s H ex,PE (qAp X own cap scope cl s H ex) elt te)(hs:∀x,foldedSetIterable iter X.env x=pure x:=by intro _;rfl):PE X (.ListComp elt [⟨tg,iter,ifs,0⟩] scope pos) (tComp own cap (.lst []) wi g tts (eApp te)):=by
 intro pins s σ H Q I h;exact qI3 (behOf:=qGd elt) hc S rfl hi qIc (λ_ _ _ _ _=>qGc) hg ht (λcl s H ex l=>qKe (he cl s H ex)) hs pins s σ H Q I h
theorem qWm{i:Nat}{x:Str}{px spos:Pos}(own:List Str)(cap:List Nat)(hc:X.calm=true)(S:CompScope X own cap scope)(hN:X.N.Nodup)(hix:X.N[i]? = some x)(hx:Loc X.env.scope x)(hi:PI X tg iter wi)(hg:∀cl s H ex,PG (qAp X own cap scope cl s H ex) tg g)(ht:∀cl s H ex,PTs (qAp X own cap scope cl s H ex) ifs tts)(he:∀cl s H ex,PE (qAp X own cap scope cl s H ex) elt te)(hsw:swapsWith (.ListComp elt [⟨tg,iter,ifs,0⟩] scope pos) (some (.Name x px)) spos.line X.env=pure true:=by rfl)(hs:∀x,foldedSetIterable iter X.env x=pure x:=by intro _;rfl)(hf:X.fn x=true\/X.env.scope.names.lookup x=some .local:=by first | exact .inl rfl | exact .inr rfl | assumption):PS X (.Assign [.Name x px] (.ListComp elt [⟨tg,iter,ifs,0⟩] scope pos) spos) (tAsg (tComp own cap (.lst []) wi g tts (eApp te)) (gName i)):=by
 intro pins s σ H D I h;rw [exec_Assign_Name_used _ _ _ _ hsw];refine aA (dE (aA ?_));show wpAny _ X.A (do let _ <-comprehension (.ListComp elt [⟨tg,iter,ifs,0⟩] scope pos) scope X.env _ (newList []) false (eval iter X.env) (some (assign (.Name x px) X.env))) _ _ s;refine aA (thn (qRv (behOf:=qGd elt) hc S rfl hi qIc (λ_ _ _ _ _=>qGc) hg ht (λcl s H ex l=>qKe (he cl s H ex)) hs hN hix hx hf pins s σ H D I h) λ_ s' hq=>?_);exact aB (aB hq)
def qI9(e iter2:Expr)(d:Nat)(acc:Value)(env:Env):Sem Unit:=do
 let x <-eval iter2 env
 standAt iter2.pos
 let x <-foldedSetIterable iter2 env x
 let _ <-runOwn (.compStart e d (<-holding [x] (pyIter x)) acc env) env
def bNext(wi2:TI)(g2:TG)(tts2:List TT)(B:TB):TB:=λσ H Q=>wi2 σ H λJ H1=>LoopT J g2 (tAll tts2) B σ H1 Q
theorem qTi{e:Expr}{d:Nat}{acc:Value}{beh:Sem Unit}{B:TB}(hxe:X.xe=λ_ _=>False)(hc:X.calm=true)(C:ClauseAt X e d acc tg2 iter2 ifs2 beh)(hi:PI X tg2 iter2 wi2)(hg:PG X tg2 g2)(ht:PTs X ifs2 tts2)(hb:PB X beh B)(hs:∀x,foldedSetIterable iter2 X.env x=pure x):PB X (qI9 e iter2 d acc X.env) (bNext wi2 g2 tts2 B):=by
 intro pins s σ H Q I h;refine aA (thn (hi pins s σ H _ I h) λv s1 q1=>aA (dE (aA (wpAny_of_eq (hs v) (aA (bK (thn q1 λitv s2 q2=>?_)))))));obtain⟨it,fp,tn,J,H2,rfl,I2,T,st2,f2,q⟩:=q2;have L:=qJi hxe hc C T hg ht hb I2 st2 f2 q;refine aA (wpAny_runOwn ?_);refine dR (C.start (.ref it) (CompR X pins Q) s2 L (T.self _ 0 _ _ _ st2 L)) λr s' hr=>?_;cases r with
 | error x=>exact (show False from hr).elim
 | ok f=>exact aB hr
theorem qGm{elt:Expr}{gens:List Comprehension}{scope:Scope}{pos:Pos}{acc:Value}{d:Nat}{tg iter:Expr}{ifs:List Expr}(hd:gens[d]? = some ⟨tg,iter,ifs,0⟩)(it:Value)(R:Result->Shared->Prop)(s:Shared)(h0:codeAny (model X.prog X.w) X.A (.compLoop (.ListComp elt gens scope pos) d it acc X.env) R s)(h:wpAny (model X.prog X.w) X.A (pyIter it) (λit' s'=>codeAny (model X.prog X.w) X.A (.compLoop (.ListComp elt gens scope pos) d it' acc X.env) R s') (λ_ _=>False) s):codeAny (model X.prog X.w) X.A (.compStart (.ListComp elt gens scope pos) d it acc X.env) R s:=by
 refine codeAny_of_tree ?_;show wpAny _ X.A ((compStart (.ListComp elt gens scope pos) d it acc X.env).onRaise (λx=>do noteFrame x X.env;standAt theWindowsPlace)) _ _ s;refine wpAny_notedAt ?_;unfold compStart;have e1:(clausesOf (.ListComp elt gens scope pos))[d]? = some ⟨tg,iter,ifs,0⟩:=hd;rw [e1];show wpAny _ _ (ask >>= _) _ _ s;refine aA (wpAny_askSetting (wpAny_ite ?_));have h':wpAny (model X.prog X.w) X.A (pyIter it) (λit' s'=>codeAny (model X.prog X.w) X.A (.compLoop (.ListComp elt gens scope pos) d it' acc X.env) R s') (notedBy (model X.prog X.w) X.A X.env λx s'=>R (.error x) s') s:=eX h (λ_ _ z=>z) λ_ _ z=>z.elim;split
 ·first
   | exact aA (aB (aB (And.intro rfl h0)))
   | exact aB (And.intro rfl h0)
 ·first
   | exact aA (dJ (aA (dE (aA (eX h' (λit' s' h'=>aB (And.intro rfl h')) λ_ _ x=>x)))))
   | (refine aA (dJ ?_);show wpAny _ _ (standAt iter.pos >>= _) _ _ s;exact aA (dE (aA (eX h' (λit' s' h'=>aB (And.intro rfl h')) λ_ _ x=>x))))
theorem qI5{acc:Value}:ClauseAt X (.ListComp elt [⟨tg,iter,ifs,0⟩,⟨tg2,iter2,ifs2,0⟩] scope pos) 0 acc tg iter ifs (qI9 (.ListComp elt [⟨tg,iter,ifs,0⟩,⟨tg2,iter2,ifs2,0⟩] scope pos) iter2 1 acc X.env) where
 quiet:=λ_=>rfl
 under:=λ_=>rfl
 den:=λ_=>rfl
 turn:=λit=>by
  have e:compTurn (.ListComp elt [⟨tg,iter,ifs,0⟩,⟨tg2,iter2,ifs2,0⟩] scope pos) 0 it acc X.env=(do
   standAt iter.pos
   match <-pyNext it with
   | none=>pure (.done .next)
   | some v =>
    letOwnedTupleGo tg it v
    assign tg X.env v
    let ok <-qEj ifs X.env true
    if ok then
     let x <-eval iter2 X.env
     standAt iter2.pos
     let x <-foldedSetIterable iter2 X.env x
     let _ <-runOwn (.compStart (.ListComp elt [⟨tg,iter,ifs,0⟩,⟨tg2,iter2,ifs2,0⟩] scope pos) 1 (<-holding [x] (pyIter x)) acc X.env) X.env
    again (.compLoop (.ListComp elt [⟨tg,iter,ifs,0⟩,⟨tg2,iter2,ifs2,0⟩] scope pos) 0 it acc X.env)):=rfl
  rw [e];unfold qI9;simp only [bind_assoc,pure_bind]
  first
   | done
   | rfl
   | (congr 1;funext _;congr 1;funext r;cases r <;> rfl)
 start:=λit R s=>qGm rfl it R s
theorem qI4{acc:Value}:ClauseAt X (.ListComp elt [⟨tg,iter,ifs,0⟩,⟨tg2,iter2,ifs2,0⟩] scope pos) 1 acc tg2 iter2 ifs2 (qGd elt acc X.env) where
 quiet:=λ_=>rfl
 under:=λ_=>rfl
 den:=λ_=>rfl
 turn:=λ_=>rfl
 start:=λit R s=>qGm rfl it R s
theorem qVe(own:List Str)(cap:List Nat)(hc:X.calm=true)(S:CompScope X own cap scope)(hi:PI X tg iter wi)(hg:∀cl s H ex,PG (qAp X own cap scope cl s H ex) tg g)(ht:∀cl s H ex,PTs (qAp X own cap scope cl s H ex) ifs tts)(hi2:∀cl s H ex,PI (qAp X own cap scope cl s H ex) tg2 iter2 wi2)(hg2:∀cl s H ex,PG (qAp X own cap scope cl s H ex) tg2 g2)(ht2:∀cl s H ex,PTs (qAp X own cap scope cl s H ex) ifs2 tts2)(he:∀cl s H ex,PE (qAp X own cap scope cl s H ex) elt te)(hs:∀x,foldedSetIterable iter X.env x=pure x:=by intro _;rfl)(hs2:∀cl s H ex x,foldedSetIterable iter2 (qAp X own cap scope cl s H ex).env x=pure x:=by intros;rfl):PE X (.ListComp elt [⟨tg,iter,ifs,0⟩,⟨tg2,iter2,ifs2,0⟩] scope pos) (tComp own cap (.lst []) wi g tts λl=>bNext wi2 g2 tts2 (eApp te l)):=by
 intro pins s σ H Q I h;exact qI3 (behOf:=qI9 (.ListComp elt [⟨tg,iter,ifs,0⟩,⟨tg2,iter2,ifs2,0⟩] scope pos) iter2 1) hc S rfl hi qIc (λ_ _ _ _ _=>qI5) hg ht
  (λcl s H ex l=>qTi rfl hc qI4 (hi2 cl s H ex) (hg2 cl s H ex) (ht2 cl s H ex) (qKe (he cl s H ex)) (hs2 cl s H ex)) hs pins s σ H Q I h
end
end L2
namespace Srt
open PySem PySem.W PyProof.Rows
variable{lt:Nat->Nat->Bool}
end Srt
namespace L2
open PySem PySem.Spec PyProof.Rows
theorem HOk.gone{P:Program}{w:World}{H:Hp}{h:Heap}{D:Addr}(x:HOk P w H h)(hD:h.get? D=none):H D=none:=by
 cases q:H D with
 | none=>rfl
 | some u =>
  have z:∃ob,h.get? D=some ob:=by
   have:=x D u q;cases u with
   | lst xs=>obtain⟨_,_,_,_,e⟩:=this;exact⟨_,e⟩
   | tup xs=>obtain⟨_,_,_,ob,e,_⟩:=this;exact⟨_,e⟩
   | dK kvs=>obtain⟨_,_,_,_,o,_,_,e,_⟩:=this;exact⟨_,e⟩
   | dT kvs=>obtain⟨_,_,_,_,o,_,_,e,_⟩:=this;exact⟨_,e⟩
   | set S n=>obtain⟨o,_,_,_,e,_⟩:=this;exact⟨_,e⟩
   | ins C dx fs=>obtain⟨_,_,_,e,_⟩:=this;exact⟨_,e⟩
   | own y=>obtain⟨_,e⟩:=this;exact⟨_,e⟩
   | xd fs=>obtain⟨_,⟨_,_,_,e,_⟩,_⟩:=this;exact⟨_,e⟩
   | rng lo hi=>obtain⟨_,_,_,e⟩:=this;exact⟨_,e⟩
   | frz ob u=>obtain⟨e,_⟩:=this;exact⟨_,e⟩
   | tbl ps=>exact⟨_,this⟩
   | met f y=>exact⟨_,this⟩
   | ext φ =>obtain⟨_,⟨_,e⟩,_⟩:=this;exact⟨_,e⟩
  obtain⟨ob,z⟩:=z;rw [hD] at z;cases z
end L2
namespace Srt
open PySem PySem.W PyProof.Rows
end Srt
namespace L2
open PySem PySem.Spec PyProof.Rows
theorem Same.seqT{K:PySem.W.Frag}{H H':Hp}{a:Addr}{xs:List V}(e:Same H H')(h:SqT K H a xs):SqT K H' a xs:=by
 rcases h with (h | ⟨o,h⟩) | h
 ·exact .inl (.inl (e _ _ h))
 ·exact .inl (.inr ⟨o,e _ _ h⟩)
 ·exact .inr h
mutual
def Den(K:PySem.W.Frag)(G:Hp):PyData->V->Prop
 | .none,v=>v = .non
 | .bool b,v=>v = .bl b
 | .int i,v=>v = .int i
 | .str x,v=>v = .str x
 | .list ds,v => ∃a vs,v = .ref a/\SqL K G a vs/\DenL K G ds vs
 | .tuple ds,v => ∃a vs,v = .ref a/\SqT K G a vs/\DenL K G ds vs
 | .dict _,_=>False
def DenL(K:PySem.W.Frag)(G:Hp):List PyData->List V->Prop
 | [],vs=>vs = []
 | d::ds,vs => ∃v r,vs=v::r/\Den K G d v/\DenL K G ds r
end
section
variable{K:PySem.W.Frag}{G G':Hp}
mutual
theorem Den.mono(h:Same G G'):∀ {d:PyData} {v:V},Den K G d v->Den K G' d v
 | .none,_,e=>by simp only [Den] at e ⊢;exact e
 | .bool _,_,e=>by simp only [Den] at e ⊢;exact e
 | .int _,_,e=>by simp only [Den] at e ⊢;exact e
 | .str _,_,e=>by simp only [Den] at e ⊢;exact e
 | .list ds,_,e=>by
  simp only [Den] at e ⊢;obtain⟨a,vs,e1,e2,e3⟩:=e;exact⟨a,vs,e1,h.seq e2,DenL.mono h e3⟩
 | .tuple ds,_,e=>by
  simp only [Den] at e ⊢;obtain⟨a,vs,e1,e2,e3⟩:=e;exact⟨a,vs,e1,h.seqT e2,DenL.mono h e3⟩
 | .dict _,_,e=>by simp only [Den] at e
theorem DenL.mono(h:Same G G'):∀ {ds:List PyData} {vs:List V},DenL K G ds vs->DenL K G' ds vs
 | [],_,e=>by simp only [DenL] at e ⊢;exact e
 | d::ds,_,e=>by
  simp only [DenL] at e ⊢;obtain⟨v,r,e1,e2,e3⟩:=e;exact⟨v,r,e1,Den.mono h e2,DenL.mono h e3⟩
end
theorem DenL.len:∀ {ds:List PyData} {vs:List V},DenL K G ds vs->vs.length=ds.length
 | [],_,e=>by simp only [DenL] at e;rw [e];rfl
 | d::ds,_,e=>by
  simp only [DenL] at e;obtain⟨v,r,rfl,_,e3⟩:=e;simp [DenL.len e3]
theorem DenL.nil:DenL K G [] []:=by simp only [DenL]
theorem DenL.cons{d:PyData}{ds:List PyData}{v:V}{vs:List V}(h1:Den K G d v)(h2:DenL K G ds vs):DenL K G (d::ds) (v::vs):=by
 simp only [DenL];exact⟨v,vs,rfl,h1,h2⟩
theorem DenL.append:∀ {ds es:List PyData} {vs ws:List V},DenL K G ds vs->DenL K G es ws->DenL K G (ds++es) (vs++ws)
 | [],_,_,_,e,f=>by simp only [DenL] at e;subst e;exact f
 | d::ds,_,_,_,e,f=>by
  simp only [DenL] at e;obtain⟨v,r,rfl,e2,e3⟩:=e;exact .cons e2 (DenL.append e3 f)
theorem DenL.get:∀ {ds:List PyData} {vs:List V} {i:Nat} {v:V},DenL K G ds vs->vs[i]? = some v -> ∃d,ds[i]? = some d/\Den K G d v
 | [],_,_,_,e,h=>by simp only [DenL] at e;subst e;simp at h
 | d::ds,_,0,_,e,h=>by
  simp only [DenL] at e;obtain⟨v,r,rfl,e2,e3⟩:=e;simp at h;subst h;exact⟨d,rfl,e2⟩
 | d::ds,_,i+1,_,e,h=>by
  simp only [DenL] at e;obtain⟨v,r,rfl,e2,e3⟩:=e;exact DenL.get (i:=i) e3 (by simpa using h)
theorem DenL.get':∀ {ds:List PyData} {vs:List V} {i:Nat} {d:PyData},DenL K G ds vs->ds[i]? = some d -> ∃v,vs[i]? = some v/\Den K G d v
 | [],_,_,_,e,h=>by simp at h
 | d::ds,_,0,_,e,h=>by
  simp only [DenL] at e;obtain⟨v,r,rfl,e2,e3⟩:=e;simp at h;subst h;exact⟨v,rfl,e2⟩
 | d::ds,_,i+1,_,e,h=>by
  simp only [DenL] at e;obtain⟨v,r,rfl,e2,e3⟩:=e;exact DenL.get' (i:=i) e3 (by simpa using h)
theorem Den.int{i:Int}:Den K G (.int i) (.int i):=by simp only [Den]
theorem Den.str{i:Str}:Den K G (.str i) (.str i):=by simp only [Den]
theorem Den.list{ds:List PyData}{a:Addr}{vs:List V}(h:SqL K G a vs)(e:DenL K G ds vs):Den K G (.list ds) (.ref a):=by simp only [Den];exact⟨a,vs,rfl,h,e⟩
theorem Den.tuple{ds:List PyData}{a:Addr}{vs:List V}(h:SqT K G a vs)(e:DenL K G ds vs):Den K G (.tuple ds) (.ref a):=by simp only [Den];exact⟨a,vs,rfl,h,e⟩
theorem Den.ofInt{i:Int}{v:V}(h:Den K G (.int i) v):v = .int i:=by simpa only [Den] using h
theorem Den.ofStr{i:Str}{v:V}(h:Den K G (.str i) v):v = .str i:=by simpa only [Den] using h
theorem Den.ofList{ds:List PyData}{v:V}(h:Den K G (.list ds) v):∃a vs,v = .ref a/\SqL K G a vs/\DenL K G ds vs:=by simpa only [Den] using h
theorem Den.ofTuple{ds:List PyData}{v:V}(h:Den K G (.tuple ds) v):∃a vs,v = .ref a/\SqT K G a vs/\DenL K G ds vs:=by simpa only [Den] using h
theorem DenL.ofCons{d:PyData}{ds:List PyData}{vs:List V}(h:DenL K G (d::ds) vs):∃v r,vs=v::r/\Den K G d v/\DenL K G ds r:=by simpa only [DenL] using h
theorem DenL.ofNil{vs:List V}(h:DenL K G [] vs):vs = []:=by simpa only [DenL] using h
theorem DenL.ints:∀ {ns:List Int} {vs:List V},DenL K G (ns.map PyData.int) vs->vs=ns.map V.int
 | [],_,e=>e.ofNil
 | n::ns,_,e=>by
  obtain⟨v,r,rfl,e2,e3⟩:=DenL.ofCons e;rw [e2.ofInt,DenL.ints e3];rfl
theorem DenL.ofInts:∀ns:List Int,DenL K G (ns.map PyData.int) (ns.map V.int)
 | [] =>.nil
 | n::ns =>.cons .int (DenL.ofInts ns)
end
section
variable{X:Cx}{pins:List (Addr×Obj)}{σ : St}{H:Hp}{s:Shared}
mutual
theorem Den.reads(I:Inv X pins σ H s):∀ {d:PyData} {v:V} {u:Value},Den X.K H d v->RelV v u -> ∃as,Reads s.heap u d as
 | .none,_,_,e,r=>by simp only [Den] at e;subst e;cases r;exact⟨_,.none⟩
 | .bool b,_,_,e,r=>by simp only [Den] at e;subst e;cases r;exact⟨_,.bool b⟩
 | .int i,_,_,e,r=>by simp only [Den] at e;subst e;obtain⟨t,rfl⟩:=r;exact⟨_,.int i t⟩
 | .str x,_,_,e,r=>by simp only [Den] at e;subst e;obtain⟨t,rfl⟩:=r;exact⟨_,.str x t⟩
 | .list ds,_,_,e,r=>by
  simp only [Den] at e;obtain⟨a,vs,rfl,e2,e3⟩:=e;cases r;obtain⟨its,rv,⟨o,n,h1,h2,h3,h4⟩,_⟩:=I.list e2;obtain⟨as,ra⟩:=DenL.reads I e3 rv;exact⟨_,.list h1 h2 h4 (by simpa using ra)⟩
 | .tuple ds,_,_,e,r=>by
  simp only [Den] at e;obtain⟨a,vs,rfl,e2,e3⟩:=e;cases r;obtain⟨its,rv,⟨o,h1,h2,n,h4⟩,_⟩:=I.tuple e2;obtain⟨as,ra⟩:=DenL.reads I e3 rv;exact⟨_,.tuple h1 h2 h4 (by simpa using ra)⟩
 | .dict _,_,_,e,_=>by simp only [Den] at e
theorem DenL.reads(I:Inv X pins σ H s):∀ {ds:List PyData} {vs:List V} {us:List Value},DenL X.K H ds vs->Vals vs us -> ∃as,ReadsAll s.heap us ds as
 | [],_,_,e,r=>by simp only [DenL] at e;subst e;cases r;exact⟨_,.nil⟩
 | d::ds,_,_,e,r=>by
  simp only [DenL] at e;obtain⟨v,vr,rfl,e2,e3⟩:=e;cases r with
  | cons r1 r2 =>
   obtain⟨as,ra⟩:=Den.reads I e2 r1;obtain⟨bs,rb⟩:=DenL.reads I e3 r2;exact⟨_,.cons ra rb⟩
end
end
section
variable{X:Cx}{k:Nat}
def rEqD(K:PySem.W.Frag)(neg:Bool):R2:=λx y H Q => ∃da db,Den K H da x/\Den K H db y/\SeqAt.shaped da=true/\SeqAt.shaped db=true/\Q (.bl (if neg then !PyData.eqv da db else PyData.eqv da db)) H
theorem qVj(hr:Room k X.A):OpR X (compareOp .Eq) (rEqD X.K false):=by
 intro pins s σ H x y v u Q I rx ry h;obtain⟨da,db,ha,hb,h1,h2,q⟩:=h;obtain⟨as,ra⟩:=Den.reads I ha rx;obtain⟨bs,rb⟩:=Den.reads I hb ry;exact SeqAt.compareEq_shaped ra rb h1 h2 hr.units ⟨.bl _,H,I,rfl,q⟩
end
end L2
namespace Miss
open PySem PySem.Spec PyProof.Rows
theorem qU0:typeLookup (.type "list") "keys" = pure none:=am_miss_of_fast (by decide +kernel)
theorem qWr:typeLookup (.type "list") "__getattr__" = pure none:=am_miss_of_fast (by decide +kernel)
section
variable{prog:Program}{w:World}{A:Around}{E:Value->Shared->Prop}{a:Addr}{its:Array Value}{n:Nat}
theorem entry{u:Tok}:Meets (Builtin.«object.__getattribute__» ⟨[.ref a,.str "keys" u],[]⟩) (λA R s=>s.heap.get? a=some { cls :=.type "list",dict:=none,data :=.seq its n,slots := #[] }/\raisesAttr (.ref a) "keys" A R s) :=
 Meets.of_wp λprog w A R s hs=>by
  obtain⟨hp,g,d,tk,os⟩:=s;obtain⟨hx,hs⟩:=hs;have hT:(⟨hp,g,d,tk,os⟩:Shared).TypeIs (.ref a) "list" :=⟨_,hx,rfl⟩;have f4:=qU0;unfold Builtin.«object.__getattribute__»
  repeat (any_goals (first | assumption | wp_step))
  exact wpAny_raiseAttrError hs.1 hs.2 (attrMsg_fits (by decide +kernel) (by rw [sizeLine_eq];decide +kernel))
theorem no_keys{s:Shared}{Q:Option Value->Shared->Prop}(hA:A.handled=none)(hx:s.heap.get? a=some { cls :=.type "list",dict:=none,data :=.seq its n,slots := #[] })
  (h:∀h' tk,(∀b o,s.heap.get? b=some o->h'.get? b=some o)->Q none { s with heap:=h',toks:=tk }):wpAny (model prog w) A (getAttr? (.ref a) "keys") Q E s:=by
 obtain⟨hp,g,d,tk,os⟩:=s;have hT:∀tk,(⟨hp,g,d,tk,os⟩:Shared).TypeIs (.ref a) "list" :=λ_=>⟨_,hx,rfl⟩;have f1:=sub_AttributeError;have f3:=fA.lookup;have f4:=fA.bind (.ref a);have f5:=qWr;unfold getAttr? getAttrBy? getAttrBy
 repeat (any_goals (first | assumption | ((with_reducible show wpAny _ _ (call (Value.builtin "list.__getattribute__") _ _) _ _ _);refine call_meets fA (hT _) F.entry_list_ga (F.args_list_getattribute_2 _ _) (entry (its:=its) (n:=n)) ⟨hx,hA,λh' tk' e x=>?_⟩) | wp_step))
 obtain⟨t',u',he⟩:=x.there;show wpAny _ _ (getattributeRaised _ _ (Value.type "list") _ _ _ _) _ _ _;unfold getattributeRaised
 repeat (any_goals (first | assumption | wp_step))
 exact h _ _ x.keeps
theorem entry_loop:entryFor table "dict.update.loop" = some Builtin.«dict.update.loop» :=entryFor_of_tree (by kernel_rfl)
theorem plain_loop:plainId "dict.update.loop" = true:=by decide +kernel
end
end Miss
namespace L2
open PySem PySem.Spec PyProof.Rows
theorem qS0{X:Cx}:qJw X newDict (.dK []):=by
 intro pins s σ H E Q I h;refine bU (h _ _ (aD _) I.fresh (I.laid (t':=s.toks) (λ_ _ q=>aF _ q) (aD _) (qI2 s.heap I.big)) λb u e=>aF _ e) ?_
 first | trivial | size_fits | decide
def ePut(tk tv:TE)(l:Addr):TB:=λσ H Q=>tk σ H λx H1=>tv σ H1 λy H2 => ∃kvs k,x=kV k/\H2 l=some (.dK kvs)/\kvs.length<sizeLine/\Q σ (upd H2 l (.dK (putK kvs k y)))
def qKt(k v:Expr)(acc:Value)(env:Env):Sem Unit:=do
 let kv <-eval k env
 let vv <-holding [kv] (eval v env)
 match acc with
 | .ref d=>do
  standAt { k.pos with endLine:=v.pos.endLine,endCol:=v.pos.endCol }
  holding [kv,vv] (dictSet d kv vv)
 | _=>unsupported "internal:dictcomp"
theorem qTj{X:Cx}{k v:Expr}{tk tv:TE}{l:Addr}(hk:PE X k tk)(hv:PE X v tv):PB X (qKt k v (.ref l) X.env) (ePut tk tv l):=by
 intro pins s σ H Q I h;refine aA (thn (hk pins s σ H _ I h) λu s1 hq_=>?_);obtain⟨x,H1,I1,r1,q1⟩:=hq_;refine aA (bK (thn (hv pins s1 σ H1 _ I1 q1) λw2 s2 hq_=>?_));obtain⟨y,H2,I2,r2,kvs,kk,e,hd,hz,q⟩:=hq_;subst e;obtain⟨z,hs,vs,rel,dd⟩:=qPl I2.hok hd;have hl:(putK kvs kk y).length<=sizeLine:=by have:=qC2 kvs kk y;lia
 refine aA (dE (bK (wpAny_dictSet_pairs (qJb r1) dd (λh' dd' sb=>?_) (by rw [<-rel.length];exact z))));have he:∃q,h'.get? l=some q:=let ⟨q,_,_,hq,_⟩:=dd';⟨q,hq⟩
 exact⟨σ,_,qG8 I2 (by rw [hd];exact True.intro) sb he (qLr hl hs (rel.put kk r2) dd'),q⟩
theorem qKq{X:Cx}{k v tg iter:Expr}{ifs:List Expr}{scope:Scope}{pos:Pos}{acc:Value}:ClauseAt X (.DictComp k v [⟨tg,iter,ifs,0⟩] scope pos) 0 acc tg iter ifs (qKt k v acc X.env) where
 quiet:=λ_=>rfl
 under:=λ_=>rfl
 den:=λ_=>rfl
 turn:=λ_=>rfl
 start:=λit R s h0 h=>codeAny_compStart_dict h0 (eX h (λ_ _ z=>z) λ_ _ z=>z.elim)
section
variable{X:Cx}{ke ve tg iter:Expr}{ifs:List Expr}{scope:Scope}{own:List Str}{cap:List Nat}{wi:TI}{g:TG}{tts:List TT}{tk tv:TE}{pos:Pos}
theorem qWo(own:List Str)(cap:List Nat)(hc:X.calm=true)(S:CompScope X own cap scope)(hi:PI X tg iter wi)(hg:∀cl s H ex,PG (qAp X own cap scope cl s H ex) tg g)(ht:∀cl s H ex,PTs (qAp X own cap scope cl s H ex) ifs tts)(hk:∀cl s H ex,PE (qAp X own cap scope cl s H ex) ke tk)(hv:∀cl s H ex,PE (qAp X own cap scope cl s H ex) ve tv)(hs:∀x,foldedSetIterable iter X.env x=pure x:=by intro _;rfl):PE X (.DictComp ke ve [⟨tg,iter,ifs,0⟩] scope pos) (tComp own cap (.dK []) wi g tts (ePut tk tv)):=by
 intro pins s σ H Q I h;exact qI3 (behOf:=qKt ke ve) hc S rfl hi qS0 (λ_ _ _ _ _=>qKq) hg ht (λcl s H ex l=>qTj (hk cl s H ex) (hv cl s H ex)) hs pins s σ H Q I h
end
def Itd(d:Addr)(o:Obj)(kvs:List (Key×V)):It:=⟨λi H=>H d=some (.frz o (.dK kvs))/\i<kvs.length,λi H x H'=>H'=H /\ ∃k v,kvs[i]? = some (k,v)/\x=kV k,λi H=>H d=some (.frz o (.dK kvs))/\kvs.length<=i⟩
section
variable{X:Cx}{tg:Expr}
def iDict(td:TE):TI:=λσ H R=>td σ H λx H1 => ∃d kvs,x = .ref d/\H1 d=some (.dK kvs) /\ ∀o,R (Itd d o kvs) (upd H1 d (.frz o (.dK kvs)))
end
def PairsAt(H:Hp):List V->List (Key×V)->Prop:=Paired λv kv => ∃a,v = .ref a/\H a=some (.tup [kV kv.1,kv.2])
theorem PairsAt.mono{H H':Hp}(h:∀b xs,H b=some (.tup xs)->H' b=some (.tup xs)){vs:List V}{kvs:List (Key×V)}(p:PairsAt H vs kvs):PairsAt H' vs kvs:=Paired.mapP p λ_ _ ⟨a,e,q⟩=>⟨a,e,h _ _ q⟩
theorem qS1{X:Cx}{pins:List (Addr×Obj)}{σ : St}{l d it:Addr}(hh:X.A.handled=none):∀ {more:List (Key×V)} {items:List V} {i:Nat} {A:Around} {H:Hp} {s:Shared} {kvs:List (Key×V)} {R:Result->Shared->Prop},A.handled=none->Inv X pins σ H s->s.heap.IsListIter it l i->FpOk X pins H it ->
  H l=some (.lst items)->H d=some (.dK kvs)->l≠d->PairsAt H (items.drop i) more->kvs.length+more.length<=sizeLine->(∀s',Inv X pins σ (upd H d (.dK (qDb kvs more))) s'->R (.ok (.ret .none)) s') ->
  codeAny (model X.prog X.w) A (.builtin "dict.update.loop" ⟨[.ref d,.ref it,rawInt i,.none],[]⟩) R s
 | [],items,i,A,H,s,kvs,R,hA,I,st,hf,hl,hd,hne,hp,hz,h=>by
  refine dQ Miss.entry_loop ?_;rw [dI Miss.plain_loop _];obtain⟨its,n,r,ho,_⟩:=I.lst hl;have hlen:items.length<=i:=by
   have:=dY hp;rw [cJ] at this;have e:([]:List (Key×V)).length=0:=rfl;lia
  have hl2:=r.length;show wpAny _ _ (pyNext (.ref it) >>= _) _ _ s;obtain⟨f0,f1,f2,f3,f4,f5⟩:=hf;refine aA (wpAny_pyNext_list_end (show A.in1.handled=none from hA) st (l:=l) (items:=its.toArray) ⟨_,ho,rfl,n,rfl⟩ (by simp;lia) λh' eb=>?_);have I1:Inv X pins σ H { s with heap:=h' }:=I.turned (t':=s.toks) (λb ob hb e=>eb b ob hb e) f0 f1 f3 f4 f5;have e1:upd H d (.dK (qDb kvs []))=H:=by
   funext b
   by_cases hb:b=d
   ·subst hb;rw [qA1,hd];rfl
   ·rw [qA7 hb]
  rw [e1] at h;show wpAny _ _ (Builtin.Dict.addKeywords d [] >>= _) _ _ _;exact aA (aB (aB (h _ I1)))
 | (k,w)::more,items,i,A,H,s,kvs,R,hA,I,st,hf,hl,hd,hne,hp,hz,h=>by
  refine dQ Miss.entry_loop ?_;rw [dI Miss.plain_loop _];obtain⟨its,n,r,ho,_⟩:=I.lst hl;have hl2:=r.length;cases e0:items.drop i with
  | nil=>rw [e0] at hp;cases hp
  | cons v rest =>
   rw [e0] at hp;cases hp with
   | cons hv hr =>
    obtain⟨a,rfl,ha⟩:=hv;have hi:items[i]? = some (.ref a):=by rw [<-List.head?_drop,e0];rfl
    obtain⟨u,hu,ru⟩:=r.get hi;cases ru;obtain⟨f0,f1,f2,f3,f4,f5⟩:=id hf;show wpAny _ _ (pyNext (.ref it) >>= _) _ _ s;refine aA (wpAny_pyNext_list_item st (l:=l) (items:=its.toArray) ⟨_,ho,rfl,n,rfl⟩ (x :=.ref a) (by simpa using hu) λh' st' sb=>?_);have I1:Inv X pins σ H { s with heap:=h' }:=I.turned (t':=s.toks) (λb ob hb e=>(sb.2 b hb).trans e) f0 f1 f3 f4 f5;obtain⟨_,its2,rt,ob,ho2,hc2,n2,hd2⟩:=(show ObjOk X.prog X.w H h' a (.tup [kV k,w]) from I1.hok a _ ha);obtain⟨uk,uw,rfl,rk,rw'⟩:=vals2 rt;refine aA (bK (aA (wpAny_tryCatch ?_)));unfold Builtin.Dict.pairItems;refine aA (wpAny_typeOf (T := "tuple") ⟨ob,ho2,hc2⟩ ?_);rw [if_pos (by decide)];refine aA (cR ho2 hd2 (aB ?_))
    show wpAny _ _ (holding [uk,uw] (dictSet d uk uw)) _ _ _;obtain⟨z,hs,vs,rel,dd⟩:=qPl I1.hok hd;have hz2:kvs.length+(more.length+1)<=sizeLine:=hz;have hl3:(putK kvs k w).length<=kvs.length+1:=qC2 kvs k w;refine bK (wpAny_dictSet_pairs (qJb rk) dd (λh2 dd' sb2=>aB ?_) (by rw [<-rel.length];exact z));have he:∃q,h2.get? d=some q:=let ⟨q,_,_,hq,_⟩:=dd';⟨q,hq⟩
    have I2:Inv X pins σ (upd H d (.dK (putK kvs k w))) { s with heap:=h2,toks:=s.toks+1 }:=qG8 (s :={ s with heap:=h' }) (t':=s.toks+1) I1 (by rw [hd];exact True.intro) sb2 he (qLr (by lia) hs (rel.put k rw') dd');have hitd:it≠d:=λz=>by rw [z,hd] at f0;cases f0
    have tk:∀b xs,H b=some (.tup xs)->upd H d (.dK (putK kvs k w)) b=some (.tup xs):=λb xs q=>by
     rw [qA7 (qMb q hd (by intro z;cases z))];exact q
    refine⟨plainId_quiet Miss.plain_loop _,?_⟩;have e3:(i:Int)+1=((i+1:Nat):Int):=by lia
    rw [e3];refine qS1 hh (more:=more) (items:=items) (i:=i+1) (kvs:=putK kvs k w) hA I2 (st'.extBut sb2.extBut hitd) ⟨by rw [qA7 hitd];exact f0,f1,f2,f3,f4,f5⟩ (by rw [qA7 hne];exact hl) qA1 hne ?_ (by lia) λs' I'=>h s' ?_
    ·have e4:items.drop (i+1)=rest:=by rw [<-List.tail_drop,e0];rfl
     rw [e4];exact PairsAt.mono tk hr
    ·rw [qK1] at I';exact I'
def qO0:V->List V->Hp->VK->Prop:=λx vs H Q => ∃d l kvs items more,x = .ref d/\vs = [.ref l]/\H d=some (.dK kvs)/\H l=some (.lst items)/\PairsAt H items more/\kvs.length+more.length<=sizeLine/\Q .non (upd H d (.dK (qDb kvs more)))
theorem qP1{X:Cx}(hc:X.calm=true):MtM X "dict.update" qO0:=by
 intro pins s σ H x vs v us Q I rx rv h;obtain⟨d,l,kvs,items,more,rfl,rfl,hd,hl,hp,hz,q⟩:=h;cases rx;obtain⟨u,rfl,ru⟩:=rv.one;cases ru;have hne:l≠d:=qMb hl hd (by intro z;cases z);obtain⟨z,hs,ws,rel,dd⟩:=qPl I.hok hd;obtain⟨its,n,r,ho,_⟩:=I.lst hl;have hA:=I.ok.hd hc;refine wpAny_call (codeAny_call_builtin fB.plain PySem.F.entry_dict_update (fB.check _ _ _ _ _ _ _ _ dd.typeIs (PySem.F.args_dict_update_2 _ _) ?_));unfold Builtin.«dict.update»;refine aA ?_;unfold Builtin.Dict.selfAndRest;refine aA (wpAny_notOrdered_dict dd.typeIs ?_);show wpAny _ _ (pure (d,[Value.ref l])) _ _ s;refine aB ?_;show wpAny _ _ (Builtin.Dict.updateFrom "dict.update" d (.ref l) [] .none) _ _ s
 unfold Builtin.Dict.updateFrom;refine aA (wpAny_typeOf (T := "list") ⟨_,ho,rfl⟩ ?_);rw [if_pos (by decide)];refine aA (Miss.no_keys hA ho λh' tk kp=>?_);have I1:Inv X pins σ H { s with heap:=h',toks:=tk }:=I.kept kp;show wpAny _ _ (if true=true then _ else _) _ _ _;rw [if_pos rfl];refine aA (dJ ?_);refine aA (dP (l:=l) (items:=its.toArray) ⟨_,kp _ _ ho,rfl,n,rfl⟩ ?_);have I2:Inv X pins σ H { s with heap:=h'.push { cls :=.type "list_iterator",data :=.fields #[.ref l,.int 0 0] },toks:=tk }:=I1.kept (t':=tk) λb ob e=>aF _ e;refine aB ⟨plainId_quiet Miss.plain_loop _,?_⟩;exact qS1 (i:=0) hA hA I2 ⟨_,aR _ rfl,rfl,rfl⟩ (I1.fpOk (aD _) (I1.hok.fresh (aD _))) hl hd hne hp hz λs' I'=>⟨.non,_,I',rfl,q⟩
def wo(ts:List Addr)(H:Hp):Hp:=λb=>if b∈ts then none else H b
theorem qSo{ts:List Addr}{H:Hp}{b:Addr}(h:b∈ts):wo ts H b=none:=if_pos h
theorem qDv{ts:List Addr}{H:Hp}{b:Addr}(h:b∉ts):wo ts H b=H b:=if_neg h
theorem qAs(ts:List Addr)(H:Hp):Same (wo ts H) H:=λb o e=>by
 by_cases h:b∈ts
 ·rw [qSo h] at e;cases e
 ·rw [qDv h] at e;exact e
def Ext(ts:List Addr)(H H':Hp):Prop := ∀b o,b∉ts->H b=some o->H' b=some o
theorem Ext.refl(ts:List Addr)(H:Hp):Ext ts H H:=λ_ _ _ h=>h
theorem Ext.trans{ts:List Addr}{H H1 H2:Hp}(a:Ext ts H H1)(b:Ext ts H1 H2):Ext ts H H2:=λc o h e=>b c o h (a c o h e)
theorem Ext.same{ts:List Addr}{H H':Hp}(a:Ext ts H H'):Same (wo ts H) (wo ts H'):=λb o e=>by
 by_cases h:b∈ts
 ·rw [qSo h] at e;cases e
 ·rw [qDv h] at e ⊢;exact a b o h e
theorem Ext.put{ts:List Addr}{H:Hp}{t:Addr}{o:HO}(h:t∈ts):Ext ts H (upd H t o):=λb u hb e=>by
 have ne:b≠t:=λz=>hb (by rw [z];exact h);rw [qA7 ne];exact e
theorem Ext.laid{ts:List Addr}{H:Hp}{l:Addr}{o:HO}(h:H l=none):Ext ts H (upd H l o):=λb u _ e=>by
 rw [qA7 (qA2 e h)];exact e
theorem Ext.mono{ts us:List Addr}{H H':Hp}(a:Ext ts H H')(h:∀b∈ts,b∈us):Ext us H H':=λb o hb e=>a b o (λz=>hb (h b z)) e
theorem Ext.drop{ts:List Addr}{l:Addr}{H H':Hp}(a:Ext (l::ts) H H')(h:H l=none):Ext ts H H':=λb o hb e=>a b o (λz=>by
 rcases aN.mp z with y | y
 ·rw [y,h] at e;cases e
 ·exact hb y) e
def yo(H0:Hp)(ts:List Addr)(H:Hp):Hp:=λb=>match H0 b with
 | some _=>none
 | none=>wo ts H b
theorem qBr{H0:Hp}{ts:List Addr}{H:Hp}{b:Addr}(h0:H0 b=none)(h:b∉ts):yo H0 ts H b=H b:=by
 unfold yo;rw [h0];exact qDv h
theorem qCg{H0:Hp}{ts:List Addr}{H:Hp}{b:Addr}{o:HO}(h:yo H0 ts H b=some o):H0 b=none/\b∉ts/\H b=some o:=by
 unfold yo at h;cases z:H0 b with
 | some _=>rw [z] at h;cases h
 | none =>
  rw [z] at h;have h:wo ts H b=some o:=h;by_cases hb:b∈ts
  ·rw [qSo hb] at h;cases h
  ·rw [qDv hb] at h;exact⟨rfl,hb,h⟩
theorem Ext.none{ts:List Addr}{H H':Hp}{b:Addr}(a:Ext ts H H')(h:b∉ts)(e:H' b=none):H b=none:=by
 cases z:H b with
 | none=>rfl
 | some o=>rw [a _ _ h z] at e;cases e
theorem Ext.young{H0:Hp}{ts:List Addr}{H H':Hp}(a:Ext ts H H'):Same (yo H0 ts H) (yo H0 ts H'):=λb o e=>by
 obtain⟨h0,h1,h2⟩:=qCg e;rw [qBr h0 h1];exact a b o h1 h2
theorem qMq{H0:Hp}{ts us:List Addr}{H:Hp}(h:∀b∈ts,b∈us):Same (yo H0 us H) (yo H0 ts H):=λb o e=>by
 obtain⟨h0,h1,h2⟩:=qCg e;rw [qBr h0 (λz=>h1 (h b z))];exact h2
theorem yo_same{H0:Hp}{ts:List Addr}{H:Hp}:Same (yo H0 ts H) H:=λb o e=>(qCg e).2.2
theorem qQc{H0 H1:Hp}{ts us:List Addr}{H:Hp}(a:Ext ts H0 H1)(h:∀b∈ts,b∈us):Same (yo H1 us H) (yo H0 us H):=λb o e=>by
 obtain⟨h0,h1,h2⟩:=qCg e;rw [qBr (a.none (λz=>h1 (h b z)) h0) h1];exact h2
theorem qKx{H0 H1:Hp}{ts us:List Addr}{H:Hp}(h:∀b∈us,b∈ts\/H1 b≠none):Same (yo H1 ts H) (yo H1 us H):=λb o e=>by
 obtain⟨h0,h1,h2⟩:=qCg e;rw [qBr h0 (λz=>(h b z).elim h1 (λy=>y h0))];exact h2
def Tape(H:Hp)(t:Addr)(k:Nat):Prop := ∃(a b c:Int),H t=some (.lst [.int a,.int b,.int c])/\0<=a/\0<=b/\b<2^62/\0<=c/\c<=k
theorem Tape.mono{H:Hp}{t:Addr}{k j:Nat}(h:Tape H t k)(hk:k<=j):Tape H t j:=by
 obtain⟨a,b,c,h1,h2,h3,h4,h5,h6⟩:=h;exact⟨a,b,c,h1,h2,h3,h4,h5,by lia⟩
theorem Tape.ext{H H':Hp}{t:Addr}{k:Nat}{ts:List Addr}(h:Tape H t k)(e:Ext ts H H')(ht:t∉ts):Tape H' t k:=by
 obtain⟨a,b,c,h1,r⟩:=h;exact⟨a,b,c,e _ _ ht h1,r⟩
theorem Tape.ne{H:Hp}{t l:Addr}{k:Nat}(h:Tape H t k)(hl:H l=none):l≠t:=by
 obtain⟨a,b,c,h1,_⟩:=h;exact (qA2 h1 hl).symm
def qD0:Sp:=λvs H Q _ => ∃(t:Addr) (k:Nat) (n:Int),vs = [.ref t,.int n]/\Tape H t k/\k<=2^40/\0<n/\n<2^24 /\ ∀(r:Int) (H':Hp),0<=r->r<n->Tape H' t (k+1)->Ext [t] H H'->(∀b,b≠t->H' b=H b)->Q (.int r) H'
section
variable{K:PySem.W.Frag}{σ : St}{H:Hp}{Q:VK}{p:Addr}{xs:List V}{i j:Int}{v:V}{ta tb te to ti:TE}{r:R2}{t u:TS}{D:Ends}{n m:Nat}{tt t2:TT}{tl tr:TA}
theorem qWg(h:ta σ H λx H1=>tb σ H1 λy H2=>r x y H2 Q):tOp r ta tb σ H Q:=h
theorem qFw(h : σ[n]? = some (some v))(q:Q v H):tVar n σ H Q:=⟨v,h,q⟩
theorem r_c(q:Q v H):tC v σ H Q:=q
theorem qWj{g:Int->Int->V}(q:Q (g i j) H):rI0 g (.int i) (.int j) H Q:=⟨i,j,rfl,rfl,q⟩
theorem qK5(c:(-(2^64)<i/\i<2^64)\/(-(2^64)<j/\j<2^64))(q:Q (.int (i*j)) H):rI CMul (λi j =>.int (i*j)) (.int i) (.int j) H Q:=⟨i,j,rfl,rfl,c,q⟩
theorem qM5(c1:0<=j)(c2:j<=1000000)(c3:i.natAbs<2^64)(q:Q (.int (i^j.toNat)) H):rI CPow (λi j =>.int (i^j.toNat)) (.int i) (.int j) H Q:=⟨i,j,rfl,rfl,⟨c1,c2,c3⟩,q⟩
theorem qUz(c1:0<j)(c2:j<1073741824)(q:Q (.int (i / j)) H):rI CDiv (λi j =>.int (i / j)) (.int i) (.int j) H Q:=⟨i,j,rfl,rfl,⟨c1,c2⟩,q⟩
theorem qEy(c:0<j)(q:Q (.int (i%j)) H):rI (λ_ j=>0<j) (λi j =>.int (i%j)) (.int i) (.int j) H Q:=⟨i,j,rfl,rfl,c,q⟩
theorem qW9{g:Int->V}(h:ta σ H λx H1=>rU g x H1 Q):tUn (rU g) ta σ H Q:=h
theorem r_u{g:Int->V}(q:Q (g i) H):rU g (.int i) H Q:=⟨i,rfl,q⟩
theorem qB6(h:SqL K H p xs)(e:atI xs i=some v)(q:Q v H):rIxL K (.ref p) (.int i) H Q:=⟨p,xs,i,v,rfl,rfl,h,e,q⟩
theorem qGf(h:SqT K H p xs)(e:atI xs i=some v)(q:Q v H):rIxT K (.ref p) (.int i) H Q:=⟨p,xs,i,v,rfl,rfl,h,e,q⟩
theorem qQr(h:t { D with nx:=u D } σ H):tSeq t u D σ H:=h
theorem qV1{g:TG}(h:te σ H λx H1=>g x σ H1 D.nx):tAsg te g D σ H:=h
theorem qId{R:St->Hp->Prop}(q:R (σ.set n (some v)) H):gName n v σ H R:=q
theorem qUu(h:te σ H D.rt):tRet te D σ H:=h
theorem qL9(h:te σ H λ_ H1=>D.nx σ H1):tDrop te D σ H:=h
theorem qIn(h:D.nx σ H):tNext D σ H:=h
theorem qWi(h:tt σ H λb H1=>if b=true then t D σ H1 else u D σ H1):tIfS tt t u D σ H:=h
theorem qNi{R:Bool->Hp->Prop}(h:te σ H λx H' => ∃k,x = .bl k/\R k H'):tTest te σ H R:=h
theorem qWb{R:Bool->Hp->Prop}(h:te σ H λx H' => ∃k,x = .bl k/\R k H'):tB te σ H R:=h
theorem qUk{b:Bool}{R:Bool->Prop}(q:R b):∃k,V.bl b = .bl k/\R k:=⟨b,rfl,q⟩
theorem qNq{ts:TSet}{R:St->Hp->Prop}(h:to σ H λo H1=>ti σ H1 λi H2=>ts o i v H2 λH3=>R σ H3):gSub to ti ts v σ H R:=h
theorem qS9{R:Hp->Prop}(h:H p=some (.lst xs))(e:ixN xs.length i=some n)(q:R (upd H p (.lst (xs.set n v)))):rSetL (.ref p) (.int i) v H R:=⟨p,xs,i,n,rfl,rfl,h,e,q⟩
theorem qNn{R:List V->Hp->Prop}(q:R [] H):tNil σ H R:=q
theorem qIo{R:List V->Hp->Prop}(h:ta σ H λx H1=>tr σ H1 λxs H2=>R (x::xs) H2):tCons ta tr σ H R:=h
theorem qSw(h:tl σ H λxs H1=>xs.length<=sizeLine /\ ∀p,H1 p=none->Q (.ref p) (upd H1 p (.tup xs))):tTup tl σ H Q:=h
theorem qT0(h:tl σ H λxs H1=>xs.length<=sizeLine /\ ∀p,H1 p=none->Q (.ref p) (upd H1 p (.lst xs))):tLst tl σ H Q:=h
theorem qNw{sp:Sp}{dvs:List V}{E:XK}(h:tl σ H λvs H1=>sp (vs++dvs) H1 Q E):tCall sp dvs E tl σ H Q:=h
theorem qWl{rr:List V->Hp->VK->Prop}(h:tl σ H λvs H1=>rr vs H1 Q):tCB rr tl σ H Q:=h
theorem qT2(h:tt σ H λb H1=>if b=true then ta σ H1 Q else tb σ H1 Q):tIf tt ta tb σ H Q:=h
theorem qT7{R:Bool->Hp->Prop}(h:tt σ H λc H1=>if c=true then t2 σ H1 R else R false H1):tAnd tt t2 σ H R:=h
theorem qWf{R:Bool->Hp->Prop}(h:tt σ H λc H1=>if c=true then R true H1 else t2 σ H1 R):tOr tt t2 σ H R:=h
theorem qSy{R:Bool->Hp->Prop}(h:tt σ H λc H1=>R (!c) H1):tNot tt σ H R:=h
theorem qSx(h:tl σ H λvs H1 => ∃v w,vs = [v,w]/\D.nx ((σ.set n (some v)).set m (some w)) H1):tPar n m tl D σ H:=h
end
section
variable{K:PySem.W.Frag}{σ : St}{H:Hp}{Q:VK}{l t:Addr}{xs:List V}{i j n:Int}{v y:V}{k:Nat}{E:XK}
theorem qAx(hT:Tape H t k)(hk:k<=2^40)(h0:0<n)(h1:n<2^24)(q:∀r H',0<=r->r<n->Tape H' t (k+1)->Ext [t] H H'->(∀b,b≠t->H' b=H b)->Q (.int r) H'):qD0 ([.ref t,.int n] ++ []) H Q E:=⟨t,k,n,rfl,hT,hk,h0,h1,q⟩
theorem qCv(q:Q (.bl (decide (i=j))) H):rEq (.int i) (.int j) H Q:=⟨rfl,by
 have e:decide (V.int i=V.int j)=decide (i=j):=by rw [cI];simp
 rw [e];exact q⟩
theorem qNo(q:Q (.bl (!decide (i=j))) H):rNe (.int i) (.int j) H Q:=⟨rfl,by
 have e:decide (V.int i=V.int j)=decide (i=j):=by rw [cI];simp
 rw [e];exact q⟩
theorem qNs{a b:Str}(q:Q (.bl (decide (a=b))) H):rEq (.str a) (.str b) H Q:=⟨rfl,by
 have e:decide (V.str a=V.str b)=decide (a=b):=by rw [cI];simp
 rw [e];exact q⟩
theorem qWh{a b:Str}(q:Q (.bl (!decide (a=b))) H):rNe (.str a) (.str b) H Q:=⟨rfl,by
 have e:decide (V.str a=V.str b)=decide (a=b):=by rw [cI];simp
 rw [e];exact q⟩
theorem qFa{R:Prop}(h:H l=some (.lst xs))(q:R):tyV K "list" (.ref l) H/\R:=⟨.inl ⟨rfl,_,SqL.of h⟩,q⟩
theorem qFb(h:H l=some (.lst xs))(hz:xs.length<sizeLine)(q:Q .non (upd H l (.lst (xs ++ [y])))):qHp (.ref l) [y] H Q:=⟨l,xs,y,rfl,rfl,h,hz,q⟩
theorem bit01(b:Bool):0<=(if b=true then (1:Int) else 0)/\(if b=true then (1:Int) else 0)<=1:=by cases b <;> decide
end
theorem len2{n:Nat}(h:n<=1000):n<=sizeLine:=bC h (by decide)
theorem qBm{CX:CXT}{P:Program}{w:World}{K:PySem.W.Frag}{mg:Str->Option Value}{base:Heap}{N:List Str}{qual:Str}{scope:Scope}{f:Addr}{cd:Value}{A:Around}{outer:List Env}{s:Shared}{H:Hp}{E:XK}:(cxOf CX P w K mg base N qual scope f cd A outer s H E).nox.K=K:=rfl
theorem qB5{X:Cx}{own:List Str}{cap:List Nat}{scope:Scope}{cl:List (Str×Addr)}{s:Shared}{H:Hp}{ex:List Addr}:(qAp X own cap scope cl s H ex).K=X.K:=rfl
def Has(P:Program)(w:World)(K:PySem.W.Frag)(mg:Str->Option Value)(base:Heap)(x:Str)(k:Nat)(ps:List Str)(sp:Sp):Prop :=
 ∃f fd,FnOk P w K mg base CX0 k f fd ps sp/\mg x=some (.ref f)/\PySem.W.keepIn K (.ref f)=true/\Binds K fd ps []
theorem qAd{X:Cx}{x:Str}{k j:Nat}{ps:List Str}{sp:Sp}{e:Expr}{es:List Expr}{t:TA}{p pos:Pos}(h:Has X.prog X.w X.K X.mg X.base x k ps sp)(hr:Room j X.A)(hj:k<=j)(ha:PA X (e::es) t)(hg:Gl X x:=by rfl)
  (hdb:(x == ("__debug__" : Str))=false:=by decide) (he:starEach (e::es) X.env=(false,eval e X.env)::starEach es X.env:=by rfl) (hpl:(backTo pos (starEach es X.env)).any (·.1)=false:=by rfl) :
  PE X (.Call (.Name x p) (e::es) [] pos) (tCall sp [] E0 t):=by
 obtain⟨f,fd,G,hm,hk,hb⟩:=h;exact qTg G (hr.mono hj) hg hm hk hb .nil pass0 ha hdb he hpl
def qN7(K:PySem.W.Frag):Sp:=λvs H Q _ => ∃(a:Addr) (ns:List Int) (k:Nat),vs = [.ref a,.int k]/\SqL K H a (ns.map V.int)/\k<=100 /\ ∀(t:Addr) (H':Hp),H t=none->Tape H' t 0->Same H H'->Q (.ref t) H'
def qSs(c:Nat)(lo hi:Int):Sp:=λvs H Q _ => ∃(t:Addr) (k:Nat),vs = [.ref t]/\Tape H t k/\k+c<=2^40 /\ ∀(r:Int) (H':Hp),lo<=r->r<=hi->Tape H' t (k+c)->Ext [t] H H'->Q (.int r) H'
abbrev qN8:Sp:=qSs 3 1 12
abbrev qHg:Sp:=qSs 3 (-(10^12)) (10^12)
def chk(X:Cx)(own:List Str)(cap:List Nat)(scope:Scope):Bool :=
 decide (scope.kind = .function)&&(scope.names.all λx=>decide (x.2 ≠ .cell))&&(scope.names.all λx => !decide (x.2 = .local)||decide (scope.names.lookup x.1=some .local)) &&
 (scope.names.all λx => !decide (x.2 = .free)||(decide (X.env.scope.names.lookup x.1=some .cell)||decide (X.env.scope.names.lookup x.1=some .free)))&&(own.all λx=>decide (scope.names.lookup x=some .local)) &&
 (cap.all λj=>decide (scope.names.lookup (X.N.getD j "")=some .free)&&decide (j<X.N.length))
theorem CompScope.of{X:Cx}{own:List Str}{cap:List Nat}{scope:Scope}(h:chk X own cap scope=true):CompScope X own cap scope:=by
 unfold chk at h;simp only [aI,cT,decide_eq_true_eq,Bool.or_eq_true,Bool.not_eq_true',decide_eq_false_iff_not] at h;obtain⟨⟨⟨⟨⟨h1,h2⟩,h3⟩,h4⟩,h5⟩,h6⟩:=h;exact⟨h1,λx hx=>h2 x hx,λx hx e=>(h3 x hx).resolve_left (λz=>z e),λx hx e=>(h4 x hx).resolve_left (λz=>z e),h5,λj hj=>h6 j hj⟩
section
variable{K:PySem.W.Frag}{a:Addr}{xs:List V}{g:TG}{tt:TT}{B:TB}{σ : St}{H:Hp}{Q:St->Hp->Prop}
theorem qG3{J:It}{n:Nat}(Pv:Nat->St->Hp->Prop)(h0:Pv 0 σ H)(hgo:∀i σ H,i<n->Pv i σ H->J.go i H)(hst:∀ σ H,Pv n σ H->J.stop n H)(hs:∀i σ H (R:St->Hp->Prop),i<n->Pv i σ H->(∀ σ' H',Pv (i+1) σ' H'->R σ' H') -> ∀x H',J.yld i H x H'->g x σ H' λσ2 H2=>tt σ2 H2 λb H3=>if b=true then B σ2 H3 R else R σ2 H3)(hd:∀ σ H,Pv n σ H->Q σ H):LoopT J g tt B σ H Q:=by
 refine⟨λi m σ H=>m=n - i/\i<=n/\Pv i σ H,⟨n,by simp,aW _,h0⟩,?_⟩;rintro i m σ H ⟨rfl,hi,p⟩;by_cases hlt:i<n
 ·refine .inr ⟨hgo i σ H hlt p,λx H' y=>?_⟩;exact hs i σ H _ hlt p (λσ' H' p'=>⟨n - (i+1),by lia,rfl,hlt,p'⟩) x H' y
 ·have e:i=n:=by lia
  subst e;exact .inl ⟨hst σ H p,hd σ H p⟩
theorem qC7(Pv:Nat->St->Hp->Prop)(h0:Pv 0 σ H)(hl:∀i σ H,i<=xs.length->Pv i σ H->SqL K H a xs)(hs:∀i x σ H (R:St->Hp->Prop),xs[i]? = some x->Pv i σ H->(∀ σ' H',Pv (i+1) σ' H'->R σ' H')->g x σ H λσ2 H2=>tt σ2 H2 λb H3=>if b=true then B σ2 H3 R else R σ2 H3)(hd:∀ σ H,Pv xs.length σ H->Q σ H):LoopT (Itl K a) g tt B σ H Q:=by
 refine qG3 (n:=xs.length) Pv h0 (λi σ H hi p=>⟨xs,xs[i],hl i σ H (cK hi) p,by simp [hi]⟩) (λσ H p=>⟨xs,hl _ σ H (aD _) p,aD _⟩) (λi σ H R hi p hR x H' y=>?_) hd;obtain⟨e,y⟩:=y;subst e;exact hs i x σ _ R (y xs (hl i σ _ (cK hi) p)) p hR
theorem qGz{lo:Int}{n:Nat}(Pv:Nat->St->Hp->Prop)(h0:Pv 0 σ H)(hs:∀i σ H (R:St->Hp->Prop),i<n->Pv i σ H->(∀ σ' H',Pv (i+1) σ' H'->R σ' H')->g (.int (lo+i)) σ H λσ2 H2=>tt σ2 H2 λb H3=>if b=true then B σ2 H3 R else R σ2 H3)(hd:∀ σ H,Pv n σ H->Q σ H):LoopT (Itr lo n) g tt B σ H Q:=by
 refine qG3 (n:=n) Pv h0 (λi σ H hi p=>hi) (λσ H p=>aD _) (λi σ H R hi p hR x H' y=>?_) hd;obtain⟨e,y⟩:=y;subst e y;exact hs i σ _ R hi p hR
theorem qP7(Pv:Nat->St->Hp->Prop)(h0:Pv 0 σ H)(hl:∀i σ H,i<=xs.length->Pv i σ H->SqL K H a xs)(hs:∀i x σ H p (R:St->Hp->Prop),xs[i]? = some x->Pv i σ H->H p=none->(∀ σ' H',Pv (i+1) σ' H'->R σ' H')->g (.ref p) σ (upd H p (.tup [.int i,x])) λσ2 H2=>tt σ2 H2 λb H3=>if b=true then B σ2 H3 R else R σ2 H3)(hd:∀ σ H,Pv xs.length σ H->Q σ H):LoopT (Ite K a) g tt B σ H Q:=by
 refine qG3 (n:=xs.length) Pv h0 (λi σ H hi p=>⟨xs,xs[i],hl i σ H (cK hi) p,by simp [hi]⟩) (λσ H p=>⟨xs,hl _ σ H (aD _) p,aD _⟩) (λi σ H R hi p hR x H' y=>?_) hd;obtain⟨q,y,e,hq,hy,e2⟩:=y;subst e e2;exact hs i y σ H q R (hy xs (hl i σ H (cK hi) p)) p hq hR
end
abbrev intsD(ns:List Int):PyData :=.list (ns.map .int)
def NxOk(m:Int)(nx:List (List Int)):Prop:=(nx.length:Int)=m /\ ∀ns∈nx,ns = []\/(∃x,ns = [x]/\1<=x/\x<m) \/ ∃x y,ns = [x,y]/\x≠y/\1<=x/\x<m/\1<=y/\y<m
section
variable{K:PySem.W.Frag}{σ : St}{H:Hp}{Q:VK}{l d:Addr}{xs:List V}{i j:Int}{v y:V}{to ta tb te td ty tk tv tx:TE}{tl:TA}{wi:TI}{g:TG}{tts:List TT}{D:Ends}{tb2:TS}
theorem qV0{T:String}{r:V->List V->Hp->VK->Prop}(h:to σ H λx H1=>tyV K T x H1/\tl σ H1 λxs H2=>r x xs H2 Q):tBM K T r to tl σ H Q:=h
theorem qT6{T:String}{r:V->List V->Hp->VK->Prop}(h:to σ H λx H1=>tyV K T x H1/\r x [] H1 Q):tBM0 K T r to σ H Q:=h
theorem qWa{R:Prop}{kvs:List (Key×V)}(h:H d=some (.dK kvs))(q:R):tyV K "dict" (.ref d) H/\R:=⟨.inr (.inr (.inl ⟨rfl,.inl ⟨_,h⟩⟩)),q⟩
theorem qLa{own:List Str}{cap:List Nat}{o:HO}{Bof:Addr->TB}(h:wi σ H λJ H1 => ∀l,H1 l=none->LoopT J g (tAll tts) (Bof l) (qJk own cap σ) (upd H1 l o) λ_ H2=>Q (.ref l) H2):tComp own cap o wi g tts Bof σ H Q:=h
theorem qHn{R:It->Hp->Prop}(h:te σ H λx H1 => ∃a,x = .ref a/\(∃xs,SqL K H1 a xs)/\R (Itl K a) H1):iList K te σ H R:=h
theorem qK6{R:It->Hp->Prop}(h:tl σ H λvs H1 => ∃a,vs = [.ref a]/\(∃xs,SqL K H1 a xs)/\R (Ite K a) H1):iEnum K tl σ H R:=h
theorem qK7{R:It->Hp->Prop}(h:te σ H λx H1 => ∃d kvs,x = .ref d/\H1 d=some (.dK kvs) /\ ∀o,R (Itd d o kvs) (upd H1 d (.frz o (.dK kvs)))):iDict te σ H R:=h
theorem qNp{R:It->Hp->Prop}(h:te σ H λx H1 => ∃a,x = .ref a/\(∃xs,SqT K H1 a xs)/\R (Itt K a) H1):iTup K te σ H R:=h
theorem qNk{R:It->Hp->Prop}(h:tl σ H λvs H1 => ∃j:Int,vs = [.int j] /\ -(2^62)<=j/\j<2^62/\R (Itr 0 j.toNat) H1):iRng1 tl σ H R:=h
theorem qT4(h:wi σ H λJ H1 => ∃W:Nat->Nat->St->Hp->Prop,(∃m,W 0 m σ H1) /\ ∀i m σ H,W i m σ H ->
 (J.stop i H/\D.nx σ H)\/(J.go i H /\ ∃N:St->Hp->Prop,(∀ σ' H',N σ' H' -> ∃m',m'<m/\W (i+1) m' σ' H') /\ ∀x H',J.yld i H x H'->g x σ H' λσ2 H2=>tb2 { D with nx:=N,ct:=N,bk:=D.nx } σ2 H2)):tFor wi g tb2 D σ H:=h
theorem qNu(h:∀p,H p=none->Q (.ref p) (upd H p (.dK []))):qS4 σ H Q:=h
theorem qT5(h:ty σ H λy H1=>td σ H1 λx H2 => ∃a o,x = .ref a/\DGet H2 a y o/\Q (.bl o.isSome) H2):tDIn ty td σ H Q:=h
theorem qHo(h:ty σ H λy H1=>td σ H1 λx H2 => ∃a o,x = .ref a/\DGet H2 a y o/\Q (.bl (!o.isSome)) H2):qN5 ty td σ H Q:=h
theorem qNv(h:td σ H λx H1=>ty σ H1 λy H2 => ∃a v,x = .ref a/\DGet H2 a y (some v)/\Q v H2):tDGet td ty σ H Q:=h
theorem qK9(h:td σ H λx H1 => ∃a,x = .ref a/\IsD H1 a/\ty σ H1 λy H2=>tx σ H2 λz H3 => ∃o,DGet H3 a y o/\Q (o.getD z) H3):qS5 td ty tx σ H Q:=h
theorem qNt(h:tv σ H λv H1=>td σ H1 λx H2=>ty σ H2 λy H3 => ∃a H4,x = .ref a/\DPut H3 a y v H4/\D.nx σ H4):sDPut td ty tv D σ H:=h
theorem qNx{R:St->Hp->Prop}(h:te σ H λv H1 => ∃vs,H1 l=some (.lst vs)/\vs.length<sizeLine/\R σ (upd H1 l (.lst (vs ++ [v])))):eApp te l σ H R:=h
theorem qNl{R:St->Hp->Prop}(h:tk σ H λx H1=>tv σ H1 λy H2 => ∃kvs k,x=kV k/\H2 l=some (.dK kvs)/\kvs.length<sizeLine/\R σ (upd H2 l (.dK (putK kvs k y)))):ePut tk tv l σ H R:=h
theorem qNz{R:Bool->Hp->Prop}(h:R true H):tAll [] σ H R:=h
theorem qNy{tt:TT}{R:Bool->Hp->Prop}(h:tt σ H λb H1=>if b=true then R true H1 else R false H1):tAll [tt] σ H R:=h
theorem qL8{n:Nat}{t:TGs}{R:St->Hp->Prop}(h:SqT K H l xs)(hn:xs.length=n)(q:t xs σ H R):gTup K n t (.ref l) σ H R:=⟨l,xs,rfl,h,hn,q⟩
theorem qK8{t:TG}{u:TGs}{R:St->Hp->Prop}(h:t v σ H λσ' H'=>u xs σ' H' R):gCons t u (v::xs) σ H R:=⟨v,xs,rfl,h⟩
theorem qNr{R:St->Hp->Prop}(h:R σ H):gNil [] σ H R:=⟨rfl,h⟩
theorem qWc{r:V->Option Int->Option Int->Hp->VK->Prop}{t1 t2:TO}(h:te σ H λx H1=>t1 σ H1 λl H2=>t2 σ H2 λu H3=>r x l u H3 Q):tSl r te t1 t2 σ H Q:=h
theorem qSz{R:Option Int->Hp->Prop}(h:R none H):qN4 σ H R:=h
theorem qNm{R:Option Int->Hp->Prop}(h:te σ H λx H1 => ∃i,x = .int i/\R (some i) H1):tPart te σ H R:=h
end
def Nx(N A:St->Hp->Prop):Prop := ∀ σ H,A σ H->N σ H
theorem qBq{N A:St->Hp->Prop}{σ : St}{H:Hp}(h:Nx N A)(q:A σ H):N σ H:=h σ H q
def NxV(Q' Q:VK):Prop := ∀v H,Q v H->Q' v H
theorem qU7{Q' Q:VK}{v:V}{H:Hp}(h:NxV Q' Q)(q:Q v H):Q' v H:=h v H q
theorem qEe{K:PySem.W.Frag}{a:Addr}{xs:List V}{g:TG}{tb:TS}{D:Ends}{σ : St}{H:Hp}(Pv:Nat->St->Hp->Prop)(h0:Pv 0 σ H)(hl:∀i σ H,i<=xs.length->Pv i σ H->SqL K H a xs)(hs:∀i x σ H,xs[i]? = some x->Pv i σ H -> ∀(N B C:St->Hp->Prop) (R:VK),Nx N (Pv (i+1))->Nx C (Pv (i+1))->NxV R D.rt->g x σ H λσ2 H2=>tb ⟨N,R,B,C⟩ σ2 H2)(hd:∀ σ H,Pv xs.length σ H->D.nx σ H):∃W:Nat->Nat->St->Hp->Prop,(∃m,W 0 m σ H) /\ ∀i m σ H,W i m σ H ->
   ((Itl K a).stop i H/\D.nx σ H)\/((Itl K a).go i H /\ ∃N:St->Hp->Prop,(∀ σ' H',N σ' H' -> ∃m',m'<m/\W (i+1) m' σ' H') /\ ∀x H',(Itl K a).yld i H x H'->g x σ H' λσ2 H2=>tb { D with nx:=N,ct:=N,bk:=D.nx } σ2 H2) :=
 qRp Pv h0 hl (λi x σ H hx hp=>hs i x σ H hx hp _ _ _ _ (λ_ _ h=>h) (λ_ _ h=>h) (λ_ _ h=>h)) hd
theorem qC3{lo:Int}{n:Nat}{g:TG}{tb:TS}{D:Ends}{σ : St}{H:Hp}(Pv:Nat->St->Hp->Prop)(h0:Pv 0 σ H)(hs:∀i σ H,i<n->Pv i σ H -> ∀(N B C:St->Hp->Prop) (R:VK),Nx N (Pv (i+1))->Nx C (Pv (i+1))->NxV R D.rt->g (.int (lo+i)) σ H λσ2 H2=>tb ⟨N,R,B,C⟩ σ2 H2)(hd:∀ σ H,Pv n σ H->D.nx σ H):∃W:Nat->Nat->St->Hp->Prop,(∃m,W 0 m σ H) /\ ∀i m σ H,W i m σ H ->
   ((Itr lo n).stop i H/\D.nx σ H)\/((Itr lo n).go i H /\ ∃N:St->Hp->Prop,(∀ σ' H',N σ' H' -> ∃m',m'<m/\W (i+1) m' σ' H') /\ ∀x H',(Itr lo n).yld i H x H'->g x σ H' λσ2 H2=>tb { D with nx:=N,ct:=N,bk:=D.nx } σ2 H2) :=
 qPh Pv h0 (λi σ H hx hp=>hs i σ H hx hp _ _ _ _ (λ_ _ h=>h) (λ_ _ h=>h) (λ_ _ h=>h)) hd
theorem qNj{t u:TS}{D:Ends}{σ : St}{H:Hp}(h:∀N:St->Hp->Prop,Nx N (u D)->t ⟨N,D.rt,D.bk,D.ct⟩ σ H):tSeq t u D σ H:=h _ λ_ _ h=>h
theorem qT3{tt:TT}{A B:TS}{D:Ends}{σ : St}{H:Hp}(h:∀A' B':St->Hp->Prop,Nx A' (A D)->Nx B' (B D)->tt σ H λc H1=>if c=true then A' σ H1 else B' σ H1):tIfS tt A B D σ H:=h _ _ (λ_ _ h=>h) λ_ _ h=>h
theorem hide{B:Prop}(h:∀G:Prop,(B->G)->G):B:=h B id
inductive Deed where
 | set (b n:Int)
 | add (b o:Int)
 | tell (b:Int)
 | call (c:Int)
 | save (b:Int)
 | back (b:Int)
def deedD:Deed->PyData
 | .set b n =>.tuple [.str "set",.int b,.int n]
 | .add b o =>.tuple [.str "add",.int b,.int o]
 | .tell b =>.tuple [.str "tell",.int b]
 | .call c =>.tuple [.str "call",.int c]
 | .save b =>.tuple [.str "save",.int b]
 | .back b =>.tuple [.str "back",.int b]
def qJx(works:Int):Deed->Prop
 | .set b n=>0<=b/\b<8 /\ -(10^12)<=n/\n<=10^12
 | .add b o=>0<=b/\b<8/\0<=o/\o<8
 | .tell b=>0<=b/\b<8
 | .call c=>0<=c/\c<works
 | .save b=>0<=b/\b<8
 | .back b=>0<=b/\b<8
def endD:List Int->PyData
 | [] =>.tuple [.str "out"]
 | [x] =>.tuple [.str "go",.int x]
 | x::y::_ =>.tuple [.str "fork",.int x,.int y]
structure Blk where
 ds:List Deed
 ns:List Int
def blkD(b:Blk):PyData :=.tuple [.list (b.ds.map deedD),endD b.ns]
def workD(w:List Blk):PyData :=.list (w.map blkD)
def NsOk(m:Int)(ns:List Int):Prop:=ns = []\/(∃x,ns = [x]/\1<=x/\x<m) \/ ∃x y,ns = [x,y]/\x≠y/\1<=x/\x<m/\1<=y/\y<m
structure BlkOk(m works:Int)(b:Blk):Prop where
 ns:NsOk m b.ns
 ds:∀d∈b.ds,qJx works d
 few:b.ds.length<=20
structure WorkOk(m works:Int)(w:List Blk):Prop where
 len:(w.length:Int)=m
 blk:∀b∈w,BlkOk m works b
structure BsOk(bs:List Int):Prop where
 one:1<=bs.length
 few:bs.length<=8
 all:∀b∈bs,0<=b/\b<8
theorem qUy{k c:Nat}{lo hi:Int}{t:Addr}{H:Hp}{Q:VK}{E:XK}(hT:Tape H t k)(hk:k+c<=2^40)(q:∀r H',lo<=r->r<=hi->Tape H' t (k+c)->Ext [t] H H'->Q (.int r) H'):qSs c lo hi ([.ref t] ++ []) H Q E:=⟨t,k,rfl,hT,hk,q⟩
theorem qIa{ns:List Int}{r:Int}(h0:0<=r)(h1:r<ns.length):∃n,n∈ns/\atI (ns.map V.int) r=some (.int n):=by
 obtain⟨j,rfl⟩:=dZ h0;have hj:j<ns.length:=by exact_mod_cast h1
 refine⟨ns[j],cU hj,?_⟩;have:=qAw (xs:=ns.map V.int) (j:=j) (by rw [aX,aJ hj];rfl);exact this
section
variable{X:Cx}
def qV6:List V->Hp->VK->Prop:=λxs H Q => ∃j:Int,xs = [.int j] /\ ∀l,H l=none->Q (.ref l) (upd H l (.rng 0 j))
theorem qKs:CallR X (.type "range") qV6:=by
 intro pins s σ H xs us Q I r h;obtain⟨j,rfl,q⟩:=h;obtain⟨u,rfl,t,rfl⟩:=vals1 r;refine call_range_1 ⟨.ref s.heap.objs.size,_,?_,rfl,q _ (I.hok.fresh (aD _))⟩;exact I.laid (λb o e=>aF _ e) (aD _) ⟨_,_,_,aR _ rfl⟩
def qQt:List V->Hp->VK->Prop:=λxs H Q => ∃(p:Addr) (j:Nat),xs = [.ref p]/\H p=some (.rng 0 j)/\j<=1000 /\ ∀l,H l=none->Q (.ref l) (upd H l (.lst ((List.range j).map λ(i:Nat)=>V.int (i:Int))))
theorem qI6(hh:X.A.handled=none):CallR X (.type "list") qQt:=by
 intro pins s σ H xs us Q I r h;obtain⟨p,j,rfl,hp,hj,q⟩:=h;obtain⟨u,rfl,rx⟩:=vals1 r;cases rx;obtain⟨t,u,v,e⟩:∃t u v,s.heap.get? p=some { cls :=.type "range",data :=.fields #[.int 0 t,.int (j:Int) u,.int 1 v] }:=I.hok p _ hp;refine call_list_range hh e (small_one (by decide) (by decide) (by lia) (by lia)) (n:=j) (by rw [rangeSize_one];split <;> lia) (by lia) λh' tk acc c kp hS hI=>?_;refine⟨.ref s.heap.objs.size,_,I.laid (o :=.lst ((List.range j).map λ(i:Nat)=>V.int (i:Int))) kp (aD _) (show _/\_ from⟨?_,acc.toList,c,?_,?_⟩),rfl,q _ (I.hok.fresh (aD _))⟩
 ·rw [aC,List.length_range];exact len2 hj
 ·have hl:acc.toList.length=j:=by rw [bN];exact hI.1
  have hv:∀(i:Nat) v,acc.toList[i]? = some v -> ∃t,v=Value.int (i:Int) t:=λi v hv=>by
   obtain⟨t,h⟩:=hI.2 i v (by rw [<-hv,bS]);exact⟨t,by rw [h];congr 1;lia⟩
  generalize acc.toList=us at hl hv;subst hl;have key:∀(us:List Value) (k:Nat),(∀(i:Nat) v,us[i]? = some v -> ∃t,v=Value.int ((k+i:Nat):Int) t)->Vals ((List.range' k us.length).map λ(i:Nat)=>V.int (i:Int)) us:=by
   intro us
   induction us with
   | nil=>intro k _;exact .nil
   | cons u us ih =>
    intro k h;obtain⟨t,rfl⟩:=h 0 u rfl;refine .cons ⟨t,rfl⟩ (ih (k+1) λi v e=>?_);obtain⟨t,e⟩:=h (i+1) v e;exact⟨t,by rw [e];congr 1;lia⟩
  have:=key us 0 (λi v e=>by obtain⟨t,h⟩:=hv i v e;exact⟨t,by rw [h];congr 1;lia⟩)
  rwa [<-List.range_eq_range'] at this
 ·rw [Array.toArray_toList];exact hS
variable{K:PySem.W.Frag}
theorem qU4(K:PySem.W.Frag)(hK:X.K=K):IxR X (rIxT K):=hK▸qB1
theorem qSt(K:PySem.W.Frag)(hK:X.K=K):SlR X (rSlT K):=hK▸qE7
theorem qHw(K:PySem.W.Frag)(hK:X.K=K):CallR X (.builtin "len") (λxs H Q => ∃p ys,xs = [.ref p]/\(SqL K H p ys\/SqT K H p ys)/\Q (.int ys.length) H):=hK▸qA8
theorem qRj(K:PySem.W.Frag)(hK:X.K=K):CallR X (.type "list") (λxs H Q => ∃p ys,xs = [.ref p]/\(SqL K H p ys\/SqT K H p ys) /\ ∀l,H l=none->Q (.ref l) (upd H l (.lst ys))):=hK▸qBs
theorem qQx(K:PySem.W.Frag)(hK:X.K=K){tg l:Expr}{tl:TE}(hl:PE X l tl):PI X tg l (iList K tl):=hK▸qCb hl
theorem qHr(K:PySem.W.Frag)(hK:X.K=K){es:List Expr}{pos:Pos}{k:Nat}{t:TGs}{n:Nat}(hc:X.calm=true)(h:PGs X es t)(hn:(assignEach es X.env).length=n:=by rfl)(hst:(assignEach es X.env).findIdx? (·.1)=none:=by rfl):PG X (.Tuple es k pos) (gTup K n t):=hK▸qSd hc h hn hst
theorem qVf(K:PySem.W.Frag)(hK:X.K=K){T:String}{name:Str}{id:String}{r:V->List V->Hp->VK->Prop}{o e:Expr}{es:List Expr}{to:TE}{t:TA}{apos cpos:Pos}(pa:PlainAttrs T)(slot:Slot T name id)(hty:typeOf (.builtin id)=pure (.type "method_descriptor"))(hm:MtR X id r)(ho:PE X o to)(ha:PA X (e::es) t)
  (hbase:attributeBase o name X.env (eval o X.env)=eval o X.env:=by rfl)
  (hfew:((backTo cpos (starEach (e::es) X.env)).all (λx => !x.1)&&(backToKw cpos (keywordEach [] X.env)).all (λx=>x.1.isSome)
   && decide ((e::es).length+([]:List Keyword).length+(if ([]:List Keyword).isEmpty then 0 else 1)<30))=true:=by rfl)
  (hline:(apos.endLine == cpos.line)=true:=by rfl) (hs:starEach (e::es) X.env=(false,eval e X.env)::starEach es X.env:=by rfl) (hplain:(backTo cpos (starEach es X.env)).any (·.1)=false:=by rfl) :
  PE X (.Call (.Attribute o name apos) (e::es) [] cpos) (tBM K T r to t):=hK▸qGg pa slot hty hm ho ha hbase hfew hline hs hplain
theorem qUo{j n:Nat}(h:j<n):seqIndex? (j:Int) n=some j:=by
 show (if (decide (0<=if (j:Int)<0 then (j:Int)+n else j)&&decide ((if (j:Int)<0 then (j:Int)+n else j)<n))=true then some (if (j:Int)<0 then (j:Int)+n else (j:Int)).toNat else none)=some j;have e:(if (j:Int)<0 then (j:Int)+n else (j:Int))=j:=if_neg (by lia);rw [e,decide_eq_true (show (0:Int)<=j by lia),decide_eq_true (show (j:Int)<n by lia)];rfl
theorem qJ4{α β : Type}{f : α -> β}:∀(l:List α) (n:Nat),(l.eraseIdx n).map f=(l.map f).eraseIdx n
 | [],_=>rfl
 | _::_,0=>rfl
 | a::l,n+1=>congrArg (f a :: ·) (qJ4 l n)
end
theorem qUb{ns:List Int}(h:ns.length<=2):∃w:Str,endD ns = .tuple (.str w::ns.map .int):=by
 match ns,h with
 | [],_=>exact⟨_,rfl⟩
 | [x],_=>exact⟨_,rfl⟩
 | [x,y],_=>exact⟨_,rfl⟩
theorem Ext.toSame{H H':Hp}(e:Ext [] H H'):Same H H':=λb o h=>e b o (by simp) h
theorem NsOk.few{m:Int}{ns:List Int}(h:NsOk m ns):ns.length<=2:=by
 rcases h with h | ⟨x,h,_⟩ | ⟨x,y,h,_⟩ <;> subst h <;> simp
theorem NsOk.range{m:Int}{ns:List Int}(h:NsOk m ns):∀x∈ns,1<=x/\x<m:=by
 rcases h with h | ⟨x,h,h1,h2⟩ | ⟨x,y,h,_,h1,h2,h3,h4⟩ <;> subst h <;> intro z hz
 ·cases hz
 ·rw [aL.mp hz];exact⟨h1,h2⟩
 ·rcases aN.mp hz with e | e
  ·rw [e];exact⟨h1,h2⟩
  ·rw [aL.mp e];exact⟨h3,h4⟩
theorem qVo{X:Cx}(K:PySem.W.Frag)(hK:X.K=K):OpR X (compareOp .NotIn) (rIn K true):=hK▸qIz
theorem inK{X:Cx}(K:PySem.W.Frag)(hK:X.K=K):OpR X (compareOp .In) (rIn K false):=hK▸qOf
theorem qU9{a b:Int}:eqV (.int a) (.int b)=decide (a=b):=by
 first | rfl | (unfold eqV;simp)
theorem qLp(x:Int):∀ns:List Int,inV (.int x) (ns.map V.int)=decide (x∈ns)
 | []=>rfl
 | n::r=>by
  have ih:=qLp x r;show (eqV (.int n) (.int x)||inV (.int x) (r.map V.int))=_;rw [ih,qU9];by_cases h1:n=x
  ·subst h1;simp
  ·by_cases h2:x∈r
   ·simp [h2]
   ·simp [h1,h2,cV h1]
theorem qJe:∀ns:List Int,(ns.map V.int).all flatV=true
 | []=>rfl
 | _::r=>qJe r
theorem qUw{K:PySem.W.Frag}{x:Int}{ns:List Int}{p:Addr}{H:Hp}{Q:VK}(h:SqL K H p (ns.map V.int))(q:Q (.bl (!decide (x∈ns))) H):rIn K true (.int x) (.ref p) H Q:=⟨p,_,rfl,.inl h,rfl,qJe ns,by rw [if_pos rfl,qLp];exact q⟩
theorem qHv{α β : Type}{f : α -> β}{l:List α}{i:Nat}{y : β}(h:(l.map f)[i]? = some y):∃x,l[i]? = some x/\y=f x:=by
 rw [aX] at h;cases z:l[i]? with
 | none=>rw [z] at h;cases h
 | some x=>rw [z] at h;exact⟨x,rfl,(bG h).symm⟩
theorem qCn{α : Type}{l:List α}{i:Nat}{x : α}(h:l[i]? = some x):l.take (i+1)=l.take i ++ [x]:=by rw [bQ,h];rfl
def nxt(w:List Blk)(i:Int):List Int:=if 0<=i then ((w[i.toNat]?).map Blk.ns).getD [] else []
inductive Reach(nx:Int->List Int)(a:Int):Int->Prop
 | refl:Reach nx a a
 | step {b c:Int}:Reach nx a b->c∈nx b->Reach nx a c
theorem qOx{w:List Blk}{i:Nat}{b:Blk}(h:w[i]? = some b):nxt w (i:Int)=b.ns:=by
 unfold nxt;rw [if_pos (by lia),cG,h];rfl
theorem qOw{m works:Int}{w:List Blk}(h:WorkOk m works w)(i:Int):NsOk m (nxt w i):=by
 unfold nxt;split
 ·cases z:w[i.toNat]? with
  | none=>exact .inl rfl
  | some b=>exact (h.blk b (aP z)).ns
 ·exact .inl rfl
theorem Reach.range{m works a x:Int}{w:List Blk}(h:WorkOk m works w)(ha:0<=a/\a<m)(r:Reach (nxt w) a x):0<=x/\x<m:=by
 induction r with
 | refl=>exact ha
 | step _ hc _=>have:=(qOw h _).range _ hc;lia
def cnt(p:Int->Bool):Nat->Nat
 | 0=>0
 | m+1=>cnt p m+(if p (m:Int)=true then 1 else 0)
theorem qGb(p:Int->Bool):∀m,cnt p m<=m
 | 0=>aD _
 | m+1=>by
  have:=qGb p m;show cnt p m+_<=_;split <;> lia
theorem qLu{p q:Int->Bool}(h:∀i,p i=true->q i=true):∀m,cnt p m<=cnt q m
 | 0=>aD _
 | m+1=>by
  have:=qLu h m;show cnt p m+_<=cnt q m+_;by_cases hp:p (m:Int)=true
  ·rw [if_pos hp,if_pos (h _ hp)];lia
  ·rw [if_neg hp];lia
theorem qLv{p q:Int->Bool}{x:Int}(h:∀i,p i=true->q i=true)(hq:q x=true)(hp:p x=false):∀m:Nat,0<=x->x<m->cnt p m<cnt q m
 | 0,h0,h1=>by lia
 | m+1,h0,h1=>by
  show cnt p m+_<cnt q m+_;by_cases e:x=(m:Int)
  ·subst e;have:=qLu h m;rw [if_neg (by rw [hp];decide),if_pos hq];lia
  ·have:=qLv h hq hp m h0 (by lia);by_cases hp:p (m:Int)=true
   ·rw [if_pos hp,if_pos (h _ hp)];lia
   ·rw [if_neg hp];lia
theorem qPt{p:Int->Bool}:∀m:Nat,cnt p m=m -> ∀x:Int,0<=x->x<m->p x=true
 | 0,_,x,h0,h1=>by lia
 | m+1,h,x,h0,h1=>by
  have hle:=qGb p m;have h:cnt p m+(if p (m:Int)=true then 1 else 0)=m+1:=h;by_cases hp:p (m:Int)=true
  ·rw [if_pos hp] at h;by_cases e:x=(m:Int)
   ·rw [e];exact hp
   ·exact qPt m (by lia) x h0 (by lia)
  ·rw [if_neg hp] at h;lia
section
variable(nx:Int->List Int)(a:Int)
def lay:Nat->List Int×List Int
 | 0=>([],[a])
 | j+1=>let f:=(lay j).2.flatMap λb=>(nx b).filter λx => !decide (x∈(lay j).1);((lay j).1++f,f)
variable{nx a}
theorem lay_further{j:Nat}{x:Int}:x∈(lay nx a (j+1)).2↔(∃b∈(lay nx a j).2,x∈nx b)/\x∉(lay nx a j).1:=by
 show x∈(lay nx a j).2.flatMap _↔_;simp only [List.mem_flatMap,List.mem_filter,Bool.not_eq_true',decide_eq_false_iff_not];constructor
 ·rintro⟨b,hb,h1,h2⟩;exact⟨⟨b,hb,h1⟩,h2⟩
 ·rintro⟨⟨b,hb,h1⟩,h2⟩;exact⟨b,hb,h1,h2⟩
theorem qKl{j:Nat}:(lay nx a (j+1)).1=(lay nx a j).1++(lay nx a (j+1)).2:=rfl
theorem qP4{x:Int}:∀ {j:Nat},x∈(lay nx a j).1 -> ∃i,i<=j/\x∈(lay nx a i).2
 | 0,h=>absurd h (by simp [lay])
 | j+1,h=>by
  rw [qKl] at h;rcases aS.mp h with h | h
  ·obtain⟨i,hi,e⟩:=qP4 h;exact⟨i,by lia,e⟩
  ·exact⟨j+1,aD _,h⟩
theorem qJ8{x:Int}:∀ {j:Nat},x∈(lay nx a j).2->Reach nx a x
 | 0,h=>by
  have:x=a:=by simpa [lay] using h
  rw [this];exact .refl
 | j+1,h=>by
  obtain⟨⟨b,hb,h1⟩,_⟩:=lay_further.mp h;exact .step (qJ8 hb) h1
theorem qNf{x:Int}(r:Reach nx a x):∃j,x∈(lay nx a j).2:=by
 induction r with
 | refl=>exact⟨0,by simp [lay]⟩
 | @step b c _ hc ih =>
  obtain⟨j,hj⟩:=ih;by_cases hm:c∈(lay nx a j).1
  ·obtain⟨i,_,e⟩:=qP4 hm;exact⟨i,e⟩
  ·exact⟨j+1,lay_further.mpr ⟨⟨b,hj,hc⟩,hm⟩⟩
theorem qLn{j:Nat}(h:(lay nx a (j+1)).2 ≠ []):(lay nx a j).2 ≠ []:=by
 intro e;apply h;show (lay nx a j).2.flatMap _ = [];rw [e];rfl
theorem qJ7{j:Nat}:∀ {i:Nat},(lay nx a (j+i)).2 ≠ []->(lay nx a j).2 ≠ []
 | 0,h=>h
 | i+1,h=>qJ7 (i:=i) (qLn h)
theorem qP9{m:Nat}(hr:∀x j,x∈(lay nx a j).2->0<=x/\x<(m:Int)):∀j,(lay nx a j).2 ≠ []->j<=cnt (λx=>decide (x∈(lay nx a j).1)) m
 | 0,_=>aW _
 | j+1,h=>by
  have ih:=qP9 hr j (qLn h);obtain⟨x,hx⟩:=List.exists_mem_of_ne_nil _ h;have h1:=hr x (j+1) hx;have h2:=(lay_further.mp hx).2
  have:=qLv (p:=λx=>decide (x∈(lay nx a j).1)) (q:=λx=>decide (x∈(lay nx a (j+1)).1)) (x:=x) (λi hi=>by
   rw [qKl]
   exact decide_eq_true (bJ _ (of_decide_eq_true hi))) (decide_eq_true (by rw [qKl];exact aY _ hx)) (decide_eq_false h2) m h1.1 h1.2
  lia
theorem qU2{m:Nat}(hr:∀x j,x∈(lay nx a j).2->0<=x/\x<(m:Int)){x:Int}(r:Reach nx a x):∃j,j<=m/\x∈(lay nx a j).2:=by
 obtain⟨j,hj⟩:=qNf r;by_cases h:j<=m
 ·exact⟨j,h,hj⟩
 ·have hm:(lay nx a m).2 ≠ []:=qJ7 (i:=j - m) (by rw [show m+(j - m)=j by lia];exact List.ne_nil_of_mem hj);have h1:=qP9 hr m hm;have h2:=qGb (λx=>decide (x∈(lay nx a m).1)) m;have h3:=hr x j hj;have:=qPt (p:=λx=>decide (x∈(lay nx a m).1)) m (by lia) x h3.1 h3.2;exact qP4 (of_decide_eq_true this)
end
theorem qLk{α : Type} [DecidableEq α]:∀ {l1 l2:List α},l1.Nodup->(∀x∈l1,x∈l2)->l1.length<=l2.length
 | [],_,_,_=>aW _
 | x::r,l2,h,hs=>by
  rw [List.nodup_cons] at h;have hx:=hs x (bM ..);have ih:=qLk (l2:=l2.erase x) h.2 λy hy=>by
   have hne:y≠x:=λz=>h.1 (z▸hy);exact (List.mem_erase_of_ne hne).mpr (hs y (bO _ hy))
  have hl:=List.length_erase_of_mem hx;have hp:=List.length_pos_of_mem hx;rw [bI];lia
theorem qAa{X:Cx}{a:Expr}{ta:TE}(K:PySem.W.Frag)(hK:X.K=K)(ha:PE X a ta)(he:∀whole,isTrue a X.env whole=(do let v <-whole;standAt a.pos;holding [v] (truthy v))):PT X a (λσ H Q=>ta σ H λx H' => ∃k,TruV K x H' k/\Q k H'):=hK▸qLb ha he
theorem qI8(xs:Array Nat)(j:Nat)(up:xs.toList.Pairwise (· < ·)):∀(fuel lo hi:Nat),lo<=hi->hi<=xs.size->hi - lo<=fuel->(∀(i x:Nat),xs[i]? = some x->i<lo->x<j)->(∀(i x:Nat),xs[i]? = some x->hi<=i->j<=x) ->
  (SetTable.below.go xs j fuel lo hi<=xs.size)/\(∀(i x:Nat),xs[i]? = some x->i<SetTable.below.go xs j fuel lo hi->x<j)/\(∀(i x:Nat),xs[i]? = some x->SetTable.below.go xs j fuel lo hi<=i->j<=x)
 | 0,lo,hi,h1,h2,h3,h4,h5=>by
  have e:lo=hi:=by lia
  subst e;exact⟨h2,h4,h5⟩
 | fuel+1,lo,hi,h1,h2,h3,h4,h5=>by
  unfold SetTable.below.go;by_cases hl:lo<hi
  ·rw [if_pos hl];dsimp only;have hm:(lo+hi) / 2<xs.size:=by lia
   have le:∀(i k x y:Nat),xs[i]? = some x->xs[k]? = some y->i<=k->x<=y:=by
    intro i k x y hx hy hik;rw [<-bS] at hx hy;obtain⟨hi',rfl⟩:=aE.mp hx;obtain⟨hk',rfl⟩:=aE.mp hy;rcases Nat.lt_or_eq_of_le hik with z | z
    ·exact cK (List.pairwise_iff_getElem.mp up i k hi' hk' z)
    ·subst z;exact aD _
   obtain⟨y,hy⟩:∃y,xs[(lo+hi) / 2]? = some y:=⟨_,Array.getElem?_eq_getElem hm⟩;have hg:xs.getD ((lo+hi) / 2) j=y:=by rw [Array.getD_eq_getD_getElem?,hy];rfl
   rw [hg];by_cases hy2:y<j
   ·rw [if_pos hy2];exact qI8 xs j up fuel _ _ (by lia) h2 (by lia) (λi x hx hlt=>cS (le i _ x y hx hy (by lia)) hy2) h5
   ·rw [if_neg hy2];exact qI8 xs j up fuel _ _ (by lia) (by lia) (by lia) h4 (λi x hx hlt=>bC (Nat.le_of_not_lt hy2) (le _ i y x hy hx (by lia)))
  ·rw [if_neg hl];have e:lo=hi:=by lia
   subst e;exact⟨h2,h4,h5⟩
theorem qRy(xs:Array Nat)(j:Nat)(up:xs.toList.Pairwise (· < ·)):SetTable.below xs j<=xs.size/\(∀(i x:Nat),xs[i]? = some x->i<SetTable.below xs j->x<j)/\(∀(i x:Nat),xs[i]? = some x->SetTable.below xs j<=i->j<=x):=qI8 xs j up xs.size 0 xs.size (aW _) (aD _) (Nat.sub_le _ _) (λ_ _ _ h=>absurd h (Nat.not_lt_zero _)) (λi x hx h=>absurd (Array.getElem?_eq_some_iff.mp hx).1 (by lia))
theorem qO1(xs:Array Nat)(j:Nat)(up:xs.toList.Pairwise (· < ·))(hj:xs[SetTable.below xs j]? ≠ some j):(SetTable.insertAt xs (SetTable.below xs j) j).toList.Pairwise (· < ·):=by
 obtain⟨h1,h2,h3⟩:=qRy xs j up;rw [SetTable.toList_insertAt];generalize SetTable.below xs j=b at *;have h4:∀x∈xs.toList.drop b,j<x:=by
  intro x hx;obtain⟨i,hi,e⟩:=cZ hx;have hg:xs.toList[b+i]? = some x:=by rw [<-List.getElem?_drop,aJ hi,e]
  rw [bS] at hg;have hle:=h3 _ _ hg (cC _ _);rcases Nat.lt_or_eq_of_le hle with z | z
  ·exact z
  ·subst z;by_cases hi0:i=0
   ·subst hi0;exact absurd hg hj
   ·have hbs:b<xs.toList.length:=by rw [cJ] at hi;lia
    have hb:xs[b]? = some xs.toList[b]:=by rw [<-bS,aJ hbs]
    have z1:=h3 _ _ hb (aD _);rw [<-bS] at hg;obtain⟨hbi,e2⟩:=aE.mp hg;have z2:=List.pairwise_iff_getElem.mp up b (b+i) hbs hbi (by lia);lia
 refine List.pairwise_append.mpr ⟨up.sublist (List.take_sublist _ _),List.pairwise_cons.mpr ⟨h4,up.sublist (List.drop_sublist _ _)⟩,λx hx y hy=>?_⟩;obtain⟨i,hi,e⟩:=cZ hx;have hib:i<b:=by rw [bD] at hi;lia
 have hg:xs.toList[i]? = some x:=by rw [<-List.getElem?_take_of_lt hib,aJ hi,e]
 rw [bS] at hg;have hlt:=h2 _ _ hg hib;rcases aN.mp hy with z | z
 ·subst z;exact hlt
 ·exact Nat.lt_trans hlt (h4 y z)
theorem qD6(n:Nat):(Array.range n).toList.Pairwise (· < ·):=by
 rw [Array.toList_range];exact List.pairwise_lt_range
def qQ9(t:SetTable)(j:Nat):Prop:=t.place[SetTable.below t.place j]? ≠ some j
theorem qGx{t:SetTable}{j:Nat}(h:t.slot j = .empty\/t.slot j = .dummy):qQ9 t j:=by
 intro e;unfold SetTable.slot at h;dsimp only at h;rw [e] at h;simp at h
theorem qHq{t:SetTable}{f:Nat->Int}{h:Int}{j:Nat}{dm:Option Nat}:∀(fuel:Nat) (p:SetTable.Probe),SetTable.probe.go t f h fuel p=some (.empty j dm)->(∀d,p.dummy=some d->t.slot d = .dummy) ->
  t.slot j = .empty /\ ∀d,dm=some d->t.slot d = .dummy
 | 0,p,e,_=>by unfold SetTable.probe.go at e;cases e
 | fuel+1,p,e,hd=>by
  unfold SetTable.probe.go at e;have ha:∀q:SetTable.Probe,(t.advance q).dummy=q.dummy:=by
   intro q;unfold SetTable.advance;split <;> rfl
  cases hs:t.slot p.j with
  | empty=>rw [hs] at e;dsimp only at e;cases e;exact⟨hs,hd⟩
  | dummy=>rw [hs] at e;dsimp only at e;exact qHq fuel _ e (λd z=>by rw [ha] at z;cases z;exact hs)
  | live i =>
   rw [hs] at e;dsimp only at e;split at e
   ·cases e
   ·exact qHq fuel _ e (λd z=>by rw [ha] at z;exact hd d z)
theorem qKo{t:SetTable}{h:Int}{slot:Nat}{wd:Bool}(e:t.freeSlot h=some (slot,wd)):qQ9 t slot:=by
 unfold SetTable.freeSlot at e;split at e
 ·rename_i j dm hp;obtain⟨a,b⟩:=qHq _ _ hp (λd z=>by unfold SetTable.probeStart at z;cases z);cases e;cases dm with
  | none=>exact qGx (.inl a)
  | some d=>exact qGx (.inr (b d rfl))
 ·cases e
structure GoodT(b:Bool)(t:SetTable)(n:Nat):Prop where
 fits:t.fits n=true
 rise:t.place.toList.Pairwise (· < ·)
 led:t.led=b
theorem qKm{b:Bool}{t:SetTable}{es:Array (Int×Value)}{h:Int}{x:Value}(g:GoodT b t es.size):GoodT b (layNew t es h x).2.1 (layNew t es h x).1.size:=by
 refine⟨layNew_fits t es h x,?_,?_⟩
 ·unfold layNew;split
  ·rename_i slot wd hs;dsimp only;unfold SetTable.orStandIn;split
   ·exact qO1 _ _ g.rise (qKo hs)
   ·exact qD6 _
  ·exact qD6 _
 ·unfold layNew;split
  ·dsimp only;unfold SetTable.orStandIn;split
   ·exact g.led
   ·exact g.led
  ·exact g.led
theorem qHm{b:Bool}{t:SetTable}{es:Array (Int×Value)}{m:Nat}(g:GoodT b t es.size):GoodT b (relayAll t es m).2.1 (relayAll t es m).1.size:=by
 refine⟨relayAll_fits t es m,?_,?_⟩
 ·unfold relayAll;split
  ·rename_i t' order hr;dsimp only;split
   ·unfold SetTable.relaid SetTable.laid at hr;cases hl:SetTable.layClean (SetTable.sizeAbove m - 1) (es.map (·.1)) with
    | none=>rw [hl] at hr;cases hr
    | some owner =>
     rw [hl] at hr;cases hr;show (((List.range _).filterMap λj=>(owner.getD j none).map (j,·)).map (·.1)).Pairwise (· < ·);have hsub:∀l:List Nat,((l.filterMap λj=>(owner.getD j none).map (j,·)).map (·.1)).Sublist l:=by
      intro l
      induction l with
      | nil=>exact .slnil
      | cons a r ih =>
       rw [eU];cases owner.getD a none with
       | none=>exact ih.cons _
       | some k=>exact ih.cons₂ a
     exact List.Pairwise.sublist (hsub _) List.pairwise_lt_range
   ·exact qD6 _
  ·exact qD6 _
 ·unfold relayAll;split
  ·rename_i t' order hr;dsimp only;split
   ·unfold SetTable.relaid SetTable.laid at hr;cases hl:SetTable.layClean (SetTable.sizeAbove m - 1) (es.map (·.1)) with
    | none=>rw [hl] at hr;cases hr
    | some owner=>rw [hl] at hr;cases hr;exact g.led
   ·exact g.led
  ·exact g.led
theorem GoodT.plainOff{b:Bool}{t:SetTable}{n:Nat}(g:GoodT b t n):GoodT b { t with plain:=false } n:=⟨SetTable.fits_plain_off g.fits,g.rise,g.led⟩
def keyI:Int×Value->Int
 | (_,.int n _)=>n
 | _=>0
def EI(e:Int×Value):Prop := ∃n t,e=(hashInt n,Value.int n t)
def qLy(w:World):Bool:=w.params.followText "set-order"
def SetI(w:World)(h:Heap)(a:Addr)(ns:List Int):Prop :=
 ∃o es ep t,h.get? a=some o/\o.ExactSet/\o.data = .set es ep t/\(∀e∈es.toList,EI e)/\(es.toList.map keyI).Perm ns/\ns.Nodup/\es.size<scanBound/\GoodT (!qLy w) t es.size
theorem EI.elems{P:Program}{w:World}{l:List (Int×Value)}(h:∀e∈l,EI e):ElemsOf (intKind P w) l:=λe he=>by
 obtain⟨n,t,rfl⟩:=h e he;exact⟨⟨n,intKind_is P w n t,rfl⟩,rfl⟩
theorem qLm{P:Program}{w:World}{l:List (Int×Value)}(h:∀e∈l,EI e)(n:Int):n∈l.map keyI ↔ ∃e∈l,(intKind P w).is n e.2=true:=by
 constructor
 ·intro hm;obtain⟨e,he,q⟩:=bZ.mp hm;obtain⟨m,t,rfl⟩:=h e he;cases q;exact⟨_,he,intKind_is P w m t⟩
 ·rintro⟨e,he,q⟩;obtain⟨m,t,rfl⟩:=h e he;have:n=m:=(intKind P w).inj _ _ _ q (intKind_is P w m t);subst this;exact bZ.mpr ⟨_,he,rfl⟩
theorem SetI.stay{w:World}{h h':Heap}{a:Addr}{ns:List Int}(S:SetI w h a ns)(k:∀o,h.get? a=some o->h'.get? a=some o):SetI w h' a ns:=by
 obtain⟨o,es,ep,t,e,r⟩:=S;exact⟨o,es,ep,t,k o e,r⟩
def addN(ns:List Int)(n:Int):List Int:=if n∈ns then ns else ns ++ [n]
theorem qDu{ns:List Int}{n:Int}(h:ns.Nodup):(addN ns n).Nodup:=by
 unfold addN;split
 ·exact h
 ·rename_i hn;exact List.nodup_append.mpr ⟨h,by simp,by intro x hx y hy;simp at hy;subst hy;intro e;subst e;exact hn hx⟩
theorem qRh{ns:List Int}{n m:Int}:m∈addN ns n↔m∈ns\/m=n:=by
 unfold addN;split
 ·rename_i hn;constructor
  ·exact .inl
  ·rintro (h | rfl)
   ·exact h
   ·exact hn
 ·simp
theorem qRz{ns:List Int}{n:Int}:(addN ns n).length<=ns.length+1:=by
 unfold addN;split <;> simp
section
variable{P:Program}{w:World}{A:Around}{E:Value->Shared->Prop}{s:Shared}
theorem SetI.store{h:Heap}{a:Addr}{o:Obj}{es es':Array (Int×Value)}{ep:Nat}{t t':SetTable}{ns:List Int}(ho:h.get? a=some o)(hex:o.ExactSet)(hd:o.data = .set es ep t)(hel:∀e∈es'.toList,EI e)(hp:(es'.toList.map keyI).Perm ns)(hn:ns.Nodup)(hb:es'.size<scanBound)(g:GoodT (!qLy w) t' es'.size):(h.update a (Obj.putSet es' t')).get? a=some { o with data :=.set es' (ep+1) t' }/\SetI w (h.update a (Obj.putSet es' t')) a ns:=by
 have hg:=Heap.get?_update_self (Obj.putSet es' t') ho (by rw [putSet_of es' t' hd];rfl);rw [putSet_of es' t' hd] at hg;exact⟨hg,_,es',ep+1,t',hg,hex,rfl,hel,hp,hn,hb,g⟩
theorem qJu{gw:Bool->Sem Unit}(hg:∀(b:Bool) (s₁ : Shared) (Q':Unit->Shared->Prop),Q' () s₁ -> wpAny (model P w) A (gw b) Q' E s₁){a:Addr}{o:Obj}{es:Array (Int×Value)}{ep:Nat}{t:SetTable}(ho:s.heap.get? a=some o)(hex:o.ExactSet)(hd:o.data = .set es ep t){es1:Array (Int×Value)}{t2:SetTable}{ns:List Int}(hel:∀e∈es1.toList,EI e)(hp:(es1.toList.map keyI).Perm ns)(hn:ns.Nodup)(hb:es1.size<scanBound)(g:GoodT (!qLy w) t2 es1.size){wd:Bool}{R:Option Bool->Shared->Prop}(h:∀h',Heap.SameBut a s.heap h'->SetI w h' a ns->R (some true) { s with heap:=h' }):wpAny (model P w) A (do
    storeSet a es1 t2
    if (!wd&&t2.tooFull)=true then do
      gw (relayAll t2 es1 (SetTable.grown es1.size)).2.2
      storeSet a (relayAll t2 es1 (SetTable.grown es1.size)).1 (relayAll t2 es1 (SetTable.grown es1.size)).2.1
      pure (some true)
     else pure (some true)) R E s:=by
 refine aA (wpAny_storeSet_of ho hd ?_ (fits_of_scanBound hb));obtain⟨ho1,hS1⟩:=SetI.store (w:=w) ho hex hd hel hp hn hb g;have sb:=eV s.heap a (Obj.putSet es1 t2);split
 ·have hp2:=relayAll_perm t2 es1 (SetTable.grown es1.size);have g2:=qHm (m:=SetTable.grown es1.size) g;generalize relayAll t2 es1 (SetTable.grown es1.size)=Rl at hp2 g2 ⊢;obtain⟨es2,t3,gv⟩:=Rl;dsimp only at hp2 g2 ⊢;have hz:es2.size=es1.size:=by rw [<-bN,hp2.length_eq,bN]
  have hb2:es2.size<scanBound:=by lia
  refine aA (hg _ _ _ (aA (wpAny_storeSet_of ho1 rfl ?_ (fits_of_scanBound hb2))));exact aB (h _ (sb.trans (eV _ a _)) (SetI.store (w:=w) ho1 hex rfl (λe he=>hel e (hp2.mem_iff.mp he)) ((hp2.map keyI).trans hp) hn hb2 g2).2)
 ·exact aB (h _ sb hS1)
theorem addI{a:Addr}{ns:List Int}{n:Int}{tk:Tok}{Q:Bool->Shared->Prop}(S:SetI w s.heap a ns)(hroom:ns.length+1<scanBound)(h:∀h',Heap.SameBut a s.heap h'->SetI w h' a (addN ns n)->Q (!decide (n∈ns)) { s with heap:=h',toks:=s.toks+1 }):wpAny (model P w) A (setAdd a (.int n tk)) Q E s:=by
 unfold setAdd;refine bK (aA ((intKind P w).pyHash (k:=n) (intKind_is _ _ _ _) ?_));obtain⟨o,es,ep,t,ho,hex,hd,hel,hp,hn,hb,g⟩:=S;have hlen:es.size=ns.length:=by rw [<-hp.length_eq,aC,bN]
 have he:=EI.elems (P:=P) (w:=w) hel;have hkey:=intKind_is P w n tk;unfold setAddHashed setAddHashedIn;refine bK (aA (wpAny_setState_of (s :={ s with toks:=s.toks+1 }) ho hd g.fits ?_));dsimp only;rw [byScan_of (knd:=intKind P w) (x :=.int n tk) rfl hb he];simp only [↓reduceIte];unfold setAddByScan;refine aA (aA (dJ (aA (wpAny_setScan_of (knd:=intKind P w) (k:=n) hkey ho hd g.fits he ?_))));cases hr:List.findIdx? (λe=>(intKind P w).is n e.2) es.toList with
 | some j =>
  dsimp only;obtain⟨hj,hpj,_⟩:=List.findIdx?_eq_some_iff_getElem.mp hr;have hm:n∈ns:=hp.mem_iff.mp ((qLm (P:=P) (w:=w) hel n).mpr ⟨_,cU hj,hpj⟩);refine aB (aB ?_);have q:=h s.heap (Heap.SameBut.refl a s.heap) ⟨o,es,ep,t,ho,hex,hd,hel,by unfold addN;rw [if_pos hm];exact hp,qDu hn,hb,g⟩;rw [decide_eq_true hm] at q;exact q
 | none =>
  dsimp only;have hm:n∉ns:=λz=>by
   obtain⟨e,he,q⟩:=(qLm (P:=P) (w:=w) hel n).mp (hp.mem_iff.mpr z);have:=List.findIdx?_eq_none_iff.mp hr e he;rw [q] at this;cases this
  have hgw:∀(b:Bool) {s₁ : Shared} {Q':Unit->Shared->Prop},Q' () s₁ -> wpAny (model P w) A (match b with | true=>rule "set.scan.the-table-gave-way" | false=>pure ()) Q' E s₁ :=λb s₁ Q' hq=>by
   cases b
   ·exact aB hq
   ·exact dJ hq
  have hp1:=layNew_perm t es ((intKind P w).hash n) (.int n tk);have g1:=qKm (h:=(intKind P w).hash n) (x :=.int n tk) g;generalize layNew t es ((intKind P w).hash n) (.int n tk)=L at hp1 g1 ⊢;obtain⟨es1,t1,wd,gave⟩:=L;dsimp only at hp1 g1 ⊢;rw [Array.toList_push] at hp1;have hel1:∀e∈es1.toList,EI e:=λe he=>by
   rcases aS.mp (hp1.mem_iff.mp he) with z | z
   ·exact hel e z
   ·rw [aL] at z;exact⟨n,tk,z⟩
  have hz1:es1.size=es.size+1:=by rw [<-bN,hp1.length_eq,aK,bN];rfl
  have hq1:(es1.toList.map keyI).Perm (addN ns n):=by
   unfold addN;rw [if_neg hm];refine (hp1.map keyI).trans ?_;rw [aO];exact hp.append_right _
  have fin:∀h',Heap.SameBut a s.heap h'->SetI w h' a (addN ns n)->Q true { s with heap:=h',toks:=s.toks+1 }:=λh' sb S'=>by
   have q:=h h' sb S';rw [decide_eq_false hm] at q;exact q
  refine aA (hgw _ ?_);have gw2:∀(b:Bool) (s₁ : Shared) (Q':Unit->Shared->Prop),Q' () s₁ -> wpAny (model P w) A (match b with | true=>rule "set.scan.the-table-gave-way" | false=>pure ()) Q' E s₁ :=λb s₁ Q' hq=>hgw b hq;split
  ·refine aA ?_;rw [hashByValue_scannable 8 (x :=.int n tk) rfl];refine aB ?_;refine qJu (s :={ s with toks:=s.toks+1 }) (λb s₁ Q' hq=>?_) ho hex hd hel1 hq1 (qDu hn) (by lia) ?_ (λh' sb S'=>?_)
   ·cases b
    ·exact aB hq
    ·exact dJ hq
   ·split
    ·exact g1
    ·exact g1.plainOff
   ·dsimp only;exact aB (fin h' sb S')
  ·refine aA (aB ?_);simp only [↓reduceIte];refine qJu (s :={ s with toks:=s.toks+1 }) (λb s₁ Q' hq=>?_) ho hex hd hel1 hq1 (qDu hn) (by lia) g1 (λh' sb S'=>?_)
   ·cases b
    ·exact aB hq
    ·exact dJ hq
   ·dsimp only;exact aB (fin h' sb S')
end
def setO(w:World)(ns:List Int):HO :=.ext λa h=>SetI w h a ns
section
variable{X:Cx}
theorem qNb{w:World}{P:Program}{w':World}{H:Hp}{h:Heap}{a:Addr}{ns:List Int}(S:SetI w h a ns):ObjOk P w' H h a (setO w ns):=by
 refine⟨S,?_,λh1 h2 S1 k=>S1.stay k⟩;obtain⟨o,_,_,_,e,_⟩:=S;exact⟨o,e⟩
end
def newS(w:World):Obj :={ cls :=.type "set",dict:=none,data :=.set #[] 0 (.fresh 0 0 (!qLy w)) }
theorem qP0{w:World}{h:Heap}{a:Addr}(e:h.get? a=some (newS w)):SetI w h a []:=⟨_,#[],0,_,e,⟨rfl,rfl,rfl⟩,rfl,λe he=>by simp at he,.refl _,.nil,by decide,⟨rfl,.nil,rfl⟩⟩
def qBd(ms:List Int):List Int:=ms.foldl addN []
theorem qKw(ms:List Int)(n:Int):qBd (ms ++ [n])=addN (qBd ms) n:=by unfold qBd;rw [List.foldl_append];rfl
theorem qGe:∀(ms ns:List Int),(ms.foldl addN ns).length<=ns.length+ms.length
 | [],ns=>aD _
 | m::r,ns=>by
  have h1:=qGe r (addN ns m);have h2:=qRz (ns:=ns) (n:=m);rw [List.foldl_cons,bI];lia
theorem qH7(ms:List Int):(qBd ms).length<=ms.length:=by have h:=qGe ms [];rw [cY,Nat.zero_add] at h;exact h
theorem qG2{m:Int}:∀(ms ns:List Int),m∈ms.foldl addN ns↔m∈ns\/m∈ms
 | [],ns=>by simp
 | k::r,ns=>by rw [List.foldl_cons,qG2 r,qRh,aN,or_assoc]
theorem qMd{m:Int}(ms:List Int):m∈qBd ms↔m∈ms:=by unfold qBd;rw [qG2];simp
theorem qEh:∀(ms ns:List Int),ns.Nodup->(ms.foldl addN ns).Nodup
 | [],ns,h=>h
 | k::r,ns,h=>qEh r _ (qDu h)
theorem qJv(ms:List Int):(qBd ms).Nodup:=qEh ms [] .nil
section
variable{P:Program}{w:World}{A:Around}{R:Result->Shared->Prop}{I:Addr}{fp wr:List Addr}{G:Array GenState->Array GenState->Prop}{n:Nat}{T:Nat->Value->Prop}{St:Nat->Shared->Prop}
theorem qJf(W:WalksS P w A.in1 I fp wr G n T St)(S:Addr)(hSf:S∉fp)(ms:List Int)(hms:ms.length=n)(hval:∀i v,T i v -> ∃t,v = .int (ms.getD i 0) t)(hb:n+1<scanBound):∀(k i:Nat) (s:Shared),n - i=k->i<=n->St i s->SetI w s.heap S (qBd (ms.take i))->(∀s',Moved (S::wr) G s s'->SetI w s'.heap S (qBd ms)->R (.ok (.ret .none)) s') ->
   codeAny (model P w) A (.builtin "set.update.loop" ⟨[.ref S,.ref I],[]⟩) R s:=by
 have hSw:S∉wr:=λh=>hSf (W.sub _ h);have hsub:∀b∈wr,b∈S::wr:=λb hb=>bO _ hb;intro k
 induction k with
 | zero =>
  intro i s hk hi hst hS hR;have hin:i=n:=by lia
  subst hin;refine dQ F.entry_set_update_loop ?_;rw [dI F.plain_set_update_loop _];show wpAny _ A.in1 (pyNext (.ref I) >>= _) _ _ s;refine aA (W.done s _ _ hst λs' hm=>?_);show wpAny _ A.in1 (ret Value.none) _ _ s';rw [<-hms,eJ] at hS;exact aB (hR s' (hm.mono hsub) (hS.stay λo e=>hm.heap S _ hSw e))
 | succ k ih =>
  intro i s hk hi hst hS hR;have hlt:i<n:=by lia
  refine dQ F.entry_set_update_loop ?_;rw [dI F.plain_set_update_loop _];show wpAny _ A.in1 (pyNext (.ref I) >>= _) _ _ s;refine aA (W.item i s _ _ hlt hst λv s' hP hst' hm=>?_);obtain⟨t,rfl⟩:=hval i v hP;have hS':SetI w s'.heap S (qBd (ms.take i)):=hS.stay λo e=>hm.heap S _ hSw e;show wpAny _ A.in1 (holding [Value.int (ms.getD i 0) t] (setAdd S (.int (ms.getD i 0) t)) >>= _) _ _ s';have hlen:=qH7 (ms.take i);rw [bD] at hlen;refine aA (bK (addI hS' (by lia) λh' sb S2=>?_));have ht:ms.take (i+1)=ms.take i ++ [ms.getD i 0]:=by
   have h1:ms[i]? = some (ms.getD i 0):=by
    have:i<ms.length:=by lia
    rw [cH,aJ this];rfl
   rw [bQ,h1];rfl
  rw [<-qKw,<-ht] at S2;refine aB ⟨plainId_quiet F.plain_set_update_loop _,ih (i+1) _ (by lia) hlt (W.frame _ s' _ _ hst' (Nat.le_succ _) λb hb o e=>?_) S2 λs'' hm'' hS''=>?_⟩
  ·rw [sb.2 b (λh:b=S=>hSf (by rw [<-h];exact hb))];exact e
  ·refine hR s'' (Moved.trans W.gtrans ((hm.mono hsub).then_heap (Nat.le_succ _) λb o hb e=>?_) hm'') hS'';rw [sb.2 b (λh:b=S=>hb (by rw [h];exact bM))];exact e
end
section
variable{P:Program}{w:World}{A:Around}{E:Value->Shared->Prop}{s:Shared}
theorem qGo(a:Value){Q₁ : Value->Shared->Prop}(h:Q₁ (.ref s.heap.objs.size) { s with heap:=s.heap.push (newS w) }):codeAny (model P w) A (.call (.builtin "set.__new__") ⟨[.type "set",a],[]⟩) (wants Q₁ E) s:=by
 refine codeAny_of_tree ?_;show wpAny _ A.in1 (do checkBuiltinCall "set.__new__" ⟨[.type "set",a],[]⟩;again (.builtin "set.__new__" ⟨[.type "set",a],[]⟩)) _ _ s;refine aA (wpAny_of_eq (F.newCall_set_1 a) (aB ⟨plainId_quiet F.plain_set_new _,dQ F.entry_set_new ?_⟩));rw [dI F.plain_set_new _];unfold Builtin.«set.__new__» Builtin.Frozenset.newClass;have hsub:=sub_set_self;obtain⟨hp,g,d,tk,os⟩:=s;dsimp only
 wp_walk
 refine wpAny_askSetting (aB ?_);dsimp only;simp only [newObj];exact aA (wpAny_alloc (aB (aB h)))
theorem qK4{l:Addr}{items:Array Value}{ns:List Int}{Q:Value->Shared->Prop}(hh:A.handled=none)(hl:s.heap.IsList l items)(hi:IntsAre items.toList ns)(hb:items.size+1<scanBound)(h:∀(h':Heap) (tk:Nat),SetI w h' s.heap.objs.size (qBd ns)->(∀b o,b<s.heap.objs.size->s.heap.get? b=some o->h'.get? b=some o)->Q (.ref s.heap.objs.size) { s with heap:=h',toks:=tk }):wpAny (model P w) A (call (.type "set") [.ref l]) Q E s:=by
 obtain⟨c,tl,hmro⟩:=cE.mro;have hmade:=cE.made;have hsub:=cE.sub;refine wpAny_call (codeAny_of_tree ?_);show wpAny _ _ (callAny (.type "set") _) _ _ _;refine aB ⟨Code.quiet_builtin _ (by decide +kernel),dQ F.entry_type_call ?_⟩;rw [Around.under_plain (weight_type_call_type "set" [.ref l] []) rfl];have h1:=cE.notType;have h2:=cE.canCreate;have hct:=F.typeCall_set_1 (.ref l)
 repeat (any_goals (first | assumption | wp_step))
 refine dR (qGo (.ref l) (E:=E) (Q₁ :=λobj s₁ =>obj = .ref s.heap.objs.size/\s₁ = { s with heap:=s.heap.push (newS w) }) ⟨rfl,rfl⟩) λr s₁ hr=>?_;cases r with
 | error e=>exact hr
 | ok fl =>
  cases fl with
  | ret obj =>
   obtain⟨rfl,rfl⟩:=hr;have hS:(s.heap.push (newS w)).get? s.heap.objs.size=some (newS w):=aR _ rfl;have hT:Shared.TypeIs { s with heap:=s.heap.push (newS w) } (.ref s.heap.objs.size) "set" :=⟨_,hS,rfl⟩;have hli:=cE.init.lookup;have hbi:=cE.init.bind (.ref s.heap.objs.size)
   repeat (any_goals (first | assumption | wp_step))
   refine dR (codeAny_call_builtin (R:=wants (λr s₂ =>r = .none /\ ∃h' tk,s₂ = { s with heap:=h',toks:=tk }/\SetI w h' s.heap.objs.size (qBd ns)/\(∀b o,b<s.heap.objs.size->s.heap.get? b=some o->h'.get? b=some o)) E) cE.init.plain F.entry_set_init (check_set_init_1 hT ?_)) λr₂ s₂ hr₂=>?_
   ·obtain⟨ol,hol,hcl,nl,hdl⟩:=hl;obtain⟨ocls,odict,odata,oslots⟩:=ol;simp only at hcl hdl;subst hcl;subst hdl;have hol':(s.heap.push (newS w)).get? l=some { cls :=.type "list",dict:=odict,data :=.seq items nl,slots:=oslots }:=aF _ hol;have hsls:=F.sub_list_set;have hslf:=F.sub_list_frozenset;have hne:(Value.type "list" == Value.type "dict")=false:=by decide
    have hl1:(s.heap.push (newS w)).IsList l items:=⟨_,hol',rfl,nl,rfl⟩;unfold Builtin.«set.__init__» noKeywords Builtin.Frozenset.updateFrom;generalize hPI:pyIter=PI
    wp_walk
    subst hPI;refine dP hl1 (aA (wpAny_runValue ?_));have hlS:l<s.heap.objs.size:=aM hol;have hh3:A.in1.in1.in1.handled=none:=hh;have hneI:l≠(s.heap.push (newS w)).objs.size:=by rw [cN];exact bA (Nat.lt_succ_of_lt hlS)
    have hSf:s.heap.objs.size ∉ [(s.heap.push (newS w)).objs.size,l]:=by
     rw [cN];simp only [aN,aL,bH,or_false,not_or];exact⟨bA (Nat.lt_succ_self _),eM hlS⟩
    have hlen:ns.length=items.size:=by rw [<-IntsAre.length hi,bN]
    refine qJf ((Walks.list hh3 _ l hneI items).toS) s.heap.objs.size hSf ns hlen (λi v hv=>IntsAre.int_at hi i v (by rw [bS];exact hv)) hb (items.size - 0) 0 _ (by lia) (aW _) ⟨⟨_,aR _ rfl,rfl,rfl⟩,(hl1.push _)⟩ (qP0 (aF _ hS)) ?_;intro s' hm hS';obtain⟨h',g',d',tk',os'⟩:=s';have eg:g'=s.gens:=hm.gens;have ed:d'=s.drawn:=hm.drawn;have eo:os'=s.os:=hm.os;subst eg;subst ed;subst eo;show wpAny _ _ _ _ _ _;refine aB ?_;show wpAny _ _ (ret Value.none) _ _ _;refine aB ⟨rfl,h',tk',rfl,hS',λb o hb e=>?_⟩;refine hm.heap b o (λz=>?_) (aF _ (aF _ e));rcases aN.mp z with z | z
    ·exact bA hb z
    ·have z2:b=(s.heap.push (newS w)).objs.size:=by simpa using z
     rw [cN] at z2;exact bA (Nat.lt_succ_of_lt hb) z2
   ·cases r₂ with
    | error e=>exact hr₂
    | ok fl₂ =>cases fl₂ with
     | ret r=>obtain⟨rfl,h',tk,rfl,hS',hk'⟩:=hr₂;(repeat (any_goals (first | assumption | wp_step)));exact h _ _ hS' hk'
     | _=>exact hr₂.elim
  | _=>exact hr.elim
end
section
variable{X:Cx}
def qV3(w:World)(K:PySem.W.Frag):List V->Hp->VK->Prop:=λxs H Q => ∃(a:Addr) (ns:List Int),xs = [.ref a]/\SqL K H a (ns.map V.int)/\ns.length+1<4096 /\ ∀l,H l=none->Q (.ref l) (upd H l (setO w (qBd ns)))
theorem qPy(hh:X.A.handled=none):CallR X (.type "set") (qV3 X.w X.K):=by
 intro pins s σ H xs us Q I r h;obtain⟨a,ns,rfl,hq,hz,q⟩:=h;obtain⟨u,rfl,ru⟩:=vals1 r;cases ru;obtain⟨its,rv,pl,_⟩:=I.list hq;have hl:=rv.length;rw [aC] at hl;refine qK4 hh pl.isList (qH3 rv) (by rw [aH];show its.length+1<4096;lia) λh' tk S' k=>?_;exact⟨.ref s.heap.objs.size,_,I.laid (t':=tk) (λb u e=>k b u (aM e) e) (aD _) (qNb S'),rfl,q _ (I.hok.fresh (aD _))⟩
end
section
variable{X:Cx}
def qT9:V->List V->Hp->VK->Prop:=λx vs H Q => ∃l xs i y,x = .ref l/\vs = [.int i,y]/\H l=some (.lst xs)/\0<=i/\i<=xs.length/\xs.length<1000/\Q .non (upd H l (.lst (xs.take i.toNat++y::xs.drop i.toNat)))
theorem qP2:MtM X "list.insert" qT9:=by
 intro pins s σ H x vs v us Q I rx rv h;obtain⟨l,xs,i,y,rfl,rfl,hH,h0,h1,hz,q⟩:=h;cases rx;obtain⟨u1,u2,rfl,r1,r2⟩:=rv.two;obtain⟨tk,rfl⟩:=r1;obtain⟨z,its,n,r,hl,e⟩:=I.lstM hH;have hfit : ¬(!Builtin.List.listFitsIndex i)=true:=by
  have:=fitsIndex_both (k:=i) (by lia) (by lia);simpa using this
 refine call_meets F.slot_list_insert ⟨_,e,rfl⟩ F.entry_list_insert (F.args_list_insert_3 _ _ _) (AutoSeq1.list_insert_list_int_val_1 l its.toArray n i tk u2 hfit (by rw [aH,sizeLine_eq];lia)) ⟨e,?_⟩;refine⟨.non,_,I.lset (its':=its.take i.toNat++u2::its.drop i.toNat) hH e ?_ (Vals.append (r.take _) (.cons r2 (r.drop _))) ?_,rfl,q⟩
 ·dsimp only;rw [if_neg (by lia),aH,Nat.min_eq_left (by lia)];apply Array.ext';simp [List.extract_eq_take_drop];exact aT (by simp)
 ·rw [sizeLine_eq];simp;lia
end
def WorksAt(K:PySem.W.Frag)(G H:Hp)(as:List Addr)(ws:List (List Blk)):Prop:=Paired (λa w => ∃bs,H a=some (.lst bs)/\DenL K G (w.map blkD) bs) as ws
theorem WorksAt.len{K:PySem.W.Frag}{G H:Hp}{as:List Addr}{ws:List (List Blk)}(h:WorksAt K G H as ws):as.length=ws.length:=dY h
theorem WorksAt.mono{K:PySem.W.Frag}{G G' H H':Hp}(g:Same G G'):∀ {as:List Addr} {ws:List (List Blk)},WorksAt K G H as ws->(∀a∈as,∀o,H a=some o->H' a=some o)->WorksAt K G' H' as ws
 | _,_,.nil,_ =>.nil
 | _,_,.cons ⟨bs,e,d⟩ r,k =>.cons ⟨bs,k _ (by simp) _ e,d.mono g⟩ (WorksAt.mono g r λa ha o e=>k a (by simp [ha]) o e)
theorem WorksAt.get{K:PySem.W.Frag}{G H:Hp}:∀ {as:List Addr} {ws:List (List Blk)} {i:Nat} {a:Addr},WorksAt K G H as ws->as[i]? = some a -> ∃w bs,ws[i]? = some w/\H a=some (.lst bs)/\DenL K G (w.map blkD) bs
 | _,_,_,_,.nil,e=>by simp at e
 | _,_,0,_,.cons ⟨bs,e,d⟩ _,h=>by simp at h;subst h;exact⟨_,bs,rfl,e,d⟩
 | _,_,i+1,a,.cons _ r,h=>by
  obtain⟨w,bs,h1,h2⟩:=WorksAt.get (i:=i) (a:=a) r (by simpa using h);exact⟨w,bs,by simpa using h1,h2⟩
theorem WorksAt.snoc{K:PySem.W.Frag}{G H:Hp}{a:Addr}{w:List Blk}{bs:List V}:∀ {as:List Addr} {ws:List (List Blk)},WorksAt K G H as ws->H a=some (.lst bs)->DenL K G (w.map blkD) bs->WorksAt K G H (as ++ [a]) (ws ++ [w])
 | _,_,.nil,e,d =>.cons ⟨bs,e,d⟩ .nil
 | _,_,.cons h r,e,d =>.cons h (WorksAt.snoc r e d)
structure AllOk(works:Int)(ws:List (List Blk)):Prop where
 all:∀w∈ws,∃m:Int,1<=m/\m<=12/\WorkOk m works w
 one:1<=ws.length
 few:ws.length<=10
section
variable{K:PySem.W.Frag}{a:Addr}{xs:List V}{g:TG}{tt:TT}{B:TB}{σ : St}{H:Hp}{Q:St->Hp->Prop}
theorem qFm(Pv:Nat->St->Hp->Prop)(h0:Pv 0 σ H)(hl:∀i σ H,i<=xs.length->Pv i σ H->SqT K H a xs)(hs:∀i x σ H (R:St->Hp->Prop),xs[i]? = some x->Pv i σ H->(∀ σ' H',Pv (i+1) σ' H'->R σ' H')->g x σ H λσ2 H2=>tt σ2 H2 λb H3=>if b=true then B σ2 H3 R else R σ2 H3)(hd:∀ σ H,Pv xs.length σ H->Q σ H):LoopT (Itt K a) g tt B σ H Q:=by
 refine qG3 (n:=xs.length) Pv h0 (λi σ H hi p=>⟨xs,xs[i],hl i σ H (cK hi) p,by simp [hi]⟩) (λσ H p=>⟨xs,hl _ σ H (aD _) p,aD _⟩) (λi σ H R hi p hR x H' y=>?_) hd;obtain⟨e,y⟩:=y;subst e;exact hs i x σ _ R (y xs (hl i σ _ (cK hi) p)) p hR
end
def wr:Deed->Option Int
 | .set b _=>some b
 | .add b _=>some b
 | _=>none
mutual
def tame:PyData->Bool
 | .int i=>decide (i.natAbs<10^13)
 | .str x=>x.cps.all (· < 0x110000)&&decide (x.cps.size<=10)
 | .list xs=>qB8 xs
 | .tuple xs=>qB8 xs
 | .none=>false
 | .bool _=>false
 | .dict _=>false
def qB8:List PyData->Bool
 | []=>true
 | x::xs=>tame x&&qB8 xs
end
mutual
def cells:PyData->Nat
 | .list xs=>qBf xs
 | .tuple xs=>qBf xs
 | .int _=>0
 | .str _=>0
 | .none=>0
 | .bool _=>0
 | .dict _=>0
def qBf:List PyData->Nat
 | []=>0
 | x::xs=>cells x+1+qBf xs
end
theorem qSh{n:Nat}(h:n<10^13):n.log2<44:=by
 by_cases hn:n=0
 ·subst hn;decide
 ·exact (Nat.log2_lt hn).mpr (aZ h (by decide))
mutual
theorem qIj:∀d:PyData,tame d=true->PyData.showable d=true
 | .int i,h=>by
  have h1:i.natAbs<10^13:=by simpa only [tame,decide_eq_true_eq] using h
  have:=qSh h1;simp only [PyData.showable,decide_eq_true_eq];lia
 | .str x,_=>rfl
 | .list xs,h=>qDe xs (by simpa only [tame] using h)
 | .tuple xs,h=>qDe xs (by simpa only [tame] using h)
theorem qDe:∀ds:List PyData,qB8 ds=true->PyData.showableAll ds=true
 | [],_=>rfl
 | x::xs,h=>by
  have h1:(tame x&&qB8 xs)=true:=by simpa only [qB8] using h
  rw [aI] at h1;simp only [PyData.showableAll,qIj x h1.1,qDe xs h1.2,cW]
end
mutual
theorem qL2:∀d:PyData,tame d=true->PyData.canLay0 d=true
 | .int i,h=>rfl
 | .str x,h=>by
  have h1:(x.cps.all (· < 0x110000)&&decide (x.cps.size<=10))=true:=by simpa only [tame] using h
  rw [aI] at h1;simpa only [PyData.canLay0,PyData.strOk] using h1.1
 | .list xs,h=>qE1 xs (by simpa only [tame] using h)
 | .tuple xs,h=>qE1 xs (by simpa only [tame] using h)
theorem qE1:∀ds:List PyData,qB8 ds=true->PyData.canLayAll0 ds=true
 | [],_=>rfl
 | x::xs,h=>by
  have h1:(tame x&&qB8 xs)=true:=by simpa only [qB8] using h
  rw [aI] at h1;simp only [PyData.canLayAll0,qL2 x h1.1,qE1 xs h1.2,cW]
end
mutual
theorem qGk:∀d:PyData,tame d=true->PyData.intsShort 14 d=true
 | .int i,h=>by
  have h1:i.natAbs<10^13:=by simpa only [tame,decide_eq_true_eq] using h
  have e:=int_text_length_le10 (k:=13) (by decide) h1;simp only [PyData.intsShort,decide_eq_true_eq];show (Str.ofString (toString i)).length<=14;rw [PySem.ofString_length];exact e
 | .str x,h=>rfl
 | .list xs,h=>qD5 xs (by simpa only [tame] using h)
 | .tuple xs,h=>qD5 xs (by simpa only [tame] using h)
theorem qD5:∀ds:List PyData,qB8 ds=true->PyData.intsShortAll 14 ds=true
 | [],_=>rfl
 | x::xs,h=>by
  have h1:(tame x&&qB8 xs)=true:=by simpa only [qB8] using h
  rw [aI] at h1;simp only [PyData.intsShortAll,qGk x h1.1,qD5 xs h1.2,cW]
end
mutual
theorem qFq:∀d:PyData,tame d=true->PyData.weight d<=46*cells d+45
 | .int i,h=>by
  have h1:i.natAbs<10^13:=by simpa only [tame,decide_eq_true_eq] using h
  have:=qSh h1;simp only [PyData.weight,cells];split <;> lia
 | .str x,h=>by
  have h1:(x.cps.all (· < 0x110000)&&decide (x.cps.size<=10))=true:=by simpa only [tame] using h
  rw [aI,decide_eq_true_eq] at h1;simp only [PyData.weight,cells];lia
 | .list xs,h=>by
  have:=qCu xs (by simpa only [tame] using h);simp only [PyData.weight,cells];lia
 | .tuple xs,h=>by
  have:=qCu xs (by simpa only [tame] using h);simp only [PyData.weight,cells];lia
theorem qCu:∀ds:List PyData,qB8 ds=true->PyData.weightAll ds<=46*qBf ds
 | [],_=>aD _
 | x::xs,h=>by
  have h1:(tame x&&qB8 xs)=true:=by simpa only [qB8] using h
  rw [aI] at h1;have h2:=qFq x h1.1;have h3:=qCu xs h1.2;simp only [PyData.weightAll,qBf];lia
end
theorem qBt{s:Str}(h:(s.cps.all (λx=>decide (x<0x110000))&&decide (s.cps.size<=10))=true):tame (.str s)=true:=by simpa only [tame] using h
theorem qPn{works:Int}{d:Deed}(hw:works<=100)(h:qJx works d):tame (deedD d)=true/\cells (deedD d)<=3/\(deedD d).depth<=1:=by
 have key:∀(s:Str) (b:Int),tame (.str s)=true -> -(10^12)<=b->b<=10^12->tame (.tuple [.str s,.int b])=true:=λs b hs h1 h2=>by
  simp only [tame,qB8,eB] at hs ⊢;rw [hs];simp only [bF,decide_eq_true_eq];lia
 have key3:∀(s:Str) (b c:Int),tame (.str s)=true -> -(10^12)<=b->b<=10^12 -> -(10^12)<=c->c<=10^12->tame (.tuple [.str s,.int b,.int c])=true:=λs b c hs h1 h2 h3 h4=>by
  simp only [tame,qB8,eB] at hs ⊢;rw [hs];simp only [bF,aI,decide_eq_true_eq];lia
 cases d with
 | set b n=>obtain⟨h1,h2,h3,h4⟩:=h;exact⟨key3 _ _ _ (qBt (by decide +kernel)) (by lia) (by lia) h3 h4,by simp [deedD,cells,qBf],aD _⟩
 | add b n=>obtain⟨h1,h2,h3,h4⟩:=h;exact⟨key3 _ _ _ (qBt (by decide +kernel)) (by lia) (by lia) (by lia) (by lia),by simp [deedD,cells,qBf],aD _⟩
 | tell b=>obtain⟨h1,h2⟩:=h;exact⟨key _ _ (qBt (by decide +kernel)) (by lia) (by lia),by simp [deedD,cells,qBf],aD _⟩
 | call b=>obtain⟨h1,h2⟩:=h;exact⟨key _ _ (qBt (by decide +kernel)) (by lia) (by lia),by simp [deedD,cells,qBf],aD _⟩
 | save b=>obtain⟨h1,h2⟩:=h;exact⟨key _ _ (qBt (by decide +kernel)) (by lia) (by lia),by simp [deedD,cells,qBf],aD _⟩
 | back b=>obtain⟨h1,h2⟩:=h;exact⟨key _ _ (qBt (by decide +kernel)) (by lia) (by lia),by simp [deedD,cells,qBf],aD _⟩
theorem qRq{m:Int}{ns:List Int}(hm:m<=12)(h:NsOk m ns):tame (endD ns)=true/\cells (endD ns)<=3/\(endD ns).depth<=1:=by
 have hs:∀s:Str,tame (.str s)=true->(s.cps.all (λx=>decide (x<0x110000))&&decide (s.cps.size<=10))=true:=λs h=>by simpa only [tame] using h
 rcases h with z | ⟨x,z,h1,h2⟩ | ⟨x,y,z,_,h1,h2,h3,h4⟩ <;> subst z
 ·refine⟨?_,by simp [endD,cells,qBf],aD _⟩;simp only [endD,tame,qB8,eB];exact hs "out" (qBt (by decide +kernel))
 ·refine⟨?_,by simp [endD,cells,qBf],aD _⟩;simp only [endD,tame,qB8,eB];rw [hs "go" (qBt (by decide +kernel))];simp only [bF,decide_eq_true_eq];lia
 ·refine⟨?_,by simp [endD,cells,qBf],aD _⟩;simp only [endD,tame,qB8,eB];rw [hs "fork" (qBt (by decide +kernel))];simp only [bF,aI,decide_eq_true_eq];lia
section
variable{X:Cx}
theorem qNg{bs:List Bool}{f:Nat->Bool}(hf:∀i b,bs[i]? = some b->f i=b):(List.range bs.length).any f=bs.any id:=by
 rw [cI,List.any_eq_true,List.any_eq_true];constructor
 ·rintro⟨i,hi,h⟩;have hi:=dH.mp hi;have:=hf i bs[i] (aJ hi);exact⟨bs[i],cU hi,by rw [<-this];exact h⟩
 ·rintro⟨b,hb,h⟩;obtain⟨i,hi,e⟩:=cZ hb;exact⟨i,dH.mpr hi,by rw [hf i b (by rw [aJ hi,e])];exact h⟩
def rAnyB(K:PySem.W.Frag):List V->Hp->VK->Prop:=λxs H Q => ∃(a:Addr) (bs:List Bool),xs = [.ref a]/\SqL K H a (bs.map V.bl)/\Q (.bl (bs.any id)) H
theorem qQ1(hh:X.A.handled=none):CallR X (.builtin "any") (rAnyB X.K):=by
 intro pins s σ H xs us Q I r h;obtain⟨a,bs,rfl,hq,q⟩:=h;obtain⟨u,rfl,ru⟩:=vals1 r;cases ru;obtain⟨its,rv,pl,_⟩:=I.list hq;have hlen:=rv.length;rw [aC] at hlen;have hl:=pl.isList;have hne:a≠s.heap.objs.size:=by obtain⟨o,e,_⟩:=hl;exact bA (aM e)
 have hval:∀(i:Nat) (v:Value),its.toArray[i]? = some v->v = .bool (bs.getD i false):=λi v e=>by
  rw [eO] at e;have hi:i<bs.length:=by rw [hlen];exact (aE.mp e).1
  obtain⟨u,e2,r2⟩:=rv.get (i:=i) (x:=V.bl bs[i]) (by rw [aX,aJ hi];rfl);rw [e] at e2;cases e2;have r2:v=Value.bool bs[i]:=r2;rw [r2,cH,aJ hi];rfl
 refine call_any_walk (dP hl ⟨_,_,_,_,_,_,λi=>bs.getD i false,rfl,Walks.list (by exact hh) _ a hne its.toArray,⟨⟨_,aR _ rfl,rfl,rfl⟩,hl.push _⟩,λi v s Q E hP hQ=>?_,λh' tk k=>?_⟩)
 ·rw [hval i v hP];exact cD hQ
 ·have e:(List.range its.toArray.size).any (λi=>bs.getD i false)=bs.any id:=by
   rw [aH,<-hlen];exact qNg λi b hb=>by rw [cH,hb];rfl
  rw [e];exact⟨.bl (bs.any id),H,I.kept (t':=tk) (λb o e=>k b o (by simpa using bA (aM e)) (aF _ e)),rfl,q⟩
end
abbrev qDc(ws:List (List Blk)):PyData :=.list (ws.map workD)
def qUh(X:Cx)(own:List Str)(cap:List Nat)(scope:Scope)(y:Str)(cl:List (Str×Addr))(s:Shared)(H:Hp)(ex:List Addr):Cx :=
 { qAp X own cap scope ((y,s.heap.objs.size+1)::cl) s H ex with fn:=λx=>x == y }
theorem qB0{X:Cx}{own:List Str}{cap:List Nat}{scope:Scope}{y:Str}{cl:List (Str×Addr)}{s:Shared}{H:Hp}{ex:List Addr}:(qUh X own cap scope y cl s H ex).K=X.K:=rfl
def Nex(H:Hp)(nd:Addr)(w:List Blk):Prop := ∃kvs:List (Key×V),H nd=some (.dK kvs) /\ ∀k:Int,0<=k->k<w.length -> ∃c,valV kvs (Sum.inl k)=some (.ref c)/\H c=some (.lst ((nxt w k).map V.int))
theorem valV_ks(y:Int):∀ks:List Int,valV (ks.map λk=>((Sum.inl k:Key),V.bl true)) (Sum.inl y)=if y∈ks then some (V.bl true) else none
 | []=>rfl
 | k::r=>by
  have ih:=valV_ks y r;by_cases e:k=y
  ·subst e;rw [bR,qBi rfl,if_pos (bM ..)]
  ·rw [bR,qBj (λz=>e (Sum.inl.inj z)),ih];have:(y∈k::r)↔y∈r:=by simp [cV e]
   simp only [this]
structure LedI(H:Hp)(st nd d du:Addr)(wk:List Blk)(ss:List Int)(ks due:List Int)(H':Hp):Prop where
 ext:Ext [] H H'
 hd:H' d=some (.dK (ks.map λk=>((Sum.inl k:Key),V.bl true)))
 hdu:H' du=some (.lst (due.map V.int))
 nod:ks.Nodup
 rk:∀x∈ks,∃s∈ss,Reach (nxt wk) s x
 rd:∀x∈due,∃s∈ss,Reach (nxt wk) s x
 clo:∀k∈ks,∀c∈nxt wk k,c∈ks\/c∈due
 one:∀s∈ss,s∈ks\/s∈due
 few:ks.length<=cnt (λx=>decide (x∈ks)) wk.length
 fewd:due.length<=500+2*cnt (λx=>decide (x∈ks)) wk.length
def LedW(H:Hp)(st nd d du:Addr)(wk:List Blk)(ss:List Int)(μ : Nat)(σ':St)(H':Hp):Prop := ∃(ks due:List Int) (o4:Option V),μ = (wk.length - cnt (λx=>decide (x∈ks)) wk.length)*3+due.length /\ σ' = [some (.ref st),some (.ref nd),some (.ref d),some (.ref du),o4]/\LedI H st nd d du wk ss ks due H'
theorem LedI.end_{H H':Hp}{st nd d du:Addr}{wk:List Blk}{ss:List Int}{ks:List Int}(h:LedI H st nd d du wk ss ks [] H')(x:Int):x∈ks ↔ ∃s∈ss,Reach (nxt wk) s x:=by
 have key:∀s∈ss,∀y,Reach (nxt wk) s y->y∈ks:=by
  intro s hs y r
  induction r with
  | refl=>exact (h.one s hs).elim id λz=>absurd z (by simp)
  | step _ hc ih=>exact (h.clo _ ih _ hc).elim id λz=>absurd z (by simp)
 exact⟨h.rk x,λ⟨s,hs,r⟩=>key s hs x r⟩
def grow(nx:Int->List Int)(F:List Int)(b:Int):List Int:=F++(nx b).filter λx => !decide (x∈F)
structure BehI(nx:Int->List Int)(ss:List Int)(m:Nat)(F:List Int):Prop where
 sub:∀s∈ss,s∈F
 rk:∀x∈F,∃s∈ss,Reach nx s x
 len:F.length<=ss.length+2*cnt (λx=>decide (x∈F)) m
theorem BehI.start(nx:Int->List Int)(ss:List Int)(m:Nat):BehI nx ss m ss:=⟨λ_ h=>h,λx h=>⟨x,h,.refl⟩,cC _ _⟩
theorem mem_grow{nx:Int->List Int}{F:List Int}{b x:Int}:x∈grow nx F b↔x∈F\/x∈nx b:=by
 unfold grow;rw [aS,List.mem_filter];by_cases h:x∈F <;> simp [h]
theorem BehI.grow{nx:Int->List Int}{ss F:List Int}{m:Nat}{b:Int}(h:BehI nx ss m F)(hb:b∈F)(few:∀x,(nx x).length<=2)(hr:∀x,(∃s∈ss,Reach nx s x)->0<=x/\x<(m:Int)):BehI nx ss m (grow nx F b):=by
 refine⟨λs hs=>mem_grow.mpr (.inl (h.sub s hs)),λx hx=>?_,?_⟩
 ·rcases mem_grow.mp hx with z | z
  ·exact h.rk x z
  ·obtain⟨s,hs,r⟩:=h.rk b hb;exact⟨s,hs,.step r z⟩
 ·have hl:=h.len;by_cases e:(nx b).filter (λx => !decide (x∈F)) = []
  ·have:L2.grow nx F b=F:=by unfold L2.grow;rw [e,List.append_nil]
   rw [this];exact hl
  ·obtain⟨y,hy⟩:=List.exists_mem_of_ne_nil _ e;obtain⟨hy1,hy2⟩:=List.mem_filter.mp hy;have hyF:y∉F:=by simpa using hy2
   obtain⟨s,hs,r⟩:=h.rk b hb;have hyr:=hr y ⟨s,hs,.step r hy1⟩;have hlt:=qLv (p:=λx=>decide (x∈F)) (q:=λx=>decide (x∈L2.grow nx F b)) (x:=y) (λi hi=>decide_eq_true (mem_grow.mpr (.inl (of_decide_eq_true hi)))) (decide_eq_true (mem_grow.mpr (.inr hy1))) (decide_eq_false hyF) m hyr.1 hyr.2;have h1:=List.length_filter_le (λx => !decide (x∈F)) (nx b);have h2:=few b;have:(L2.grow nx F b).length=F.length+((nx b).filter λx => !decide (x∈F)).length:=by unfold L2.grow;rw [aK]
   lia
def Lays(nx:Int->List Int)(ss:List Int)(t:Nat)(F:List Int):Prop := ∀s∈ss,∀j,j<=t -> ∀x∈(lay nx s j).2,x∈F
theorem Lays.zero{nx:Int->List Int}{ss F:List Int}(h:∀s∈ss,s∈F):Lays nx ss 0 F:=λs hs j hj x hx=>by
 have:j=0:=by lia
 subst this;have:x=s:=by simpa [lay] using hx
 rw [this];exact h s hs
theorem Lays.succ{nx:Int->List Int}{ss F G:List Int}{t:Nat}(h:Lays nx ss t F)(h1:∀x∈F,x∈G)(h2:∀b∈F,∀c∈nx b,c∈G):Lays nx ss (t+1) G:=λs hs j hj x hx=>by
 by_cases e:j=t+1
 ·subst e;obtain⟨⟨b,hb,hx1⟩,_⟩:=lay_further.mp hx;exact h2 b (h s hs t (aD _) b hb) x hx1
 ·exact h1 x (h s hs j (by lia) x hx)
theorem Lays.all{nx:Int->List Int}{ss F:List Int}{m:Nat}(h:Lays nx ss m F)(I:BehI nx ss m F)(hr:∀x,(∃s∈ss,Reach nx s x)->0<=x/\x<(m:Int))(x:Int):x∈F ↔ ∃s∈ss,Reach nx s x:=by
 refine⟨I.rk x,λ⟨s,hs,r⟩=>?_⟩;obtain⟨j,hj,hx⟩:=qU2 (m:=m) (λy i hy=>hr y ⟨s,hs,qJ8 hy⟩) r;exact h s hs j hj x hx
mutual
def noI:PyData->Bool
 | .list ds=>noIs ds&&(match ds with | .int _::_=>false | _=>true)
 | .tuple ds=>noIs ds
 | _=>true
def noIs:List PyData->Bool
 | []=>true
 | d::ds=>noI d&&noIs ds
end
section
variable{K:PySem.W.Frag}{H:Hp}{t:Addr}{x:Int}{r:List V}
theorem qS8{a:Addr}{o:HO}(h:a≠t)(e:Rd H a o):Rd (wo [t] H) a o:=by
 have hn:a ∉ [t]:=by simpa using h
 rcases e with e | ⟨u,e⟩
 ·exact .inl (by rw [qDv hn];exact e)
 ·exact .inr ⟨u,by rw [qDv hn];exact e⟩
mutual
theorem Den.off(ht:H t=some (.lst (.int x::r))):∀ {d:PyData} {v:V},noI d=true->Den K H d v->Den K (wo [t] H) d v
 | .none,_,_,e=>by simp only [Den] at e ⊢;exact e
 | .bool _,_,_,e=>by simp only [Den] at e ⊢;exact e
 | .int _,_,_,e=>by simp only [Den] at e ⊢;exact e
 | .str _,_,_,e=>by simp only [Den] at e ⊢;exact e
 | .list ds,_,hn,e=>by
  simp only [Den] at e ⊢;obtain⟨a,vs,e1,e2,e3⟩:=e;simp only [noI,aI] at hn;refine⟨a,vs,e1,?_,DenL.off ht hn.1 e3⟩;rcases e2 with e2 | e2
  ·refine .inl (qS8 (λh=>?_) e2);subst h;rcases e2 with e2 | ⟨o,e2⟩
   ·rw [ht] at e2;cases e2;cases ds with
    | nil=>have:=e3.ofNil;cases this
    | cons d ds =>
     obtain⟨v,r',e4,e5,_⟩:=e3.ofCons;cases e4;cases d with
     | int i=>simp at hn
     | none=>simp only [Den] at e5;cases e5
     | bool=>simp only [Den] at e5;cases e5
     | str=>simp only [Den] at e5;cases e5
     | list=>simp only [Den] at e5;obtain⟨_,_,z,_⟩:=e5;cases z
     | tuple=>simp only [Den] at e5;obtain⟨_,_,z,_⟩:=e5;cases z
     | dict=>simp only [Den] at e5
   ·rw [ht] at e2;cases e2
  ·exact .inr e2
 | .tuple ds,_,hn,e=>by
  simp only [Den] at e ⊢;obtain⟨a,vs,e1,e2,e3⟩:=e;simp only [noI] at hn;refine⟨a,vs,e1,?_,DenL.off ht hn e3⟩;rcases e2 with e2 | e2
  ·refine .inl (qS8 (λh=>?_) e2);subst h;rcases e2 with e2 | ⟨o,e2⟩
   ·rw [ht] at e2;cases e2
   ·rw [ht] at e2;cases e2
  ·exact .inr e2
 | .dict _,_,_,e=>by simp only [Den] at e
theorem DenL.off(ht:H t=some (.lst (.int x::r))):∀ {ds:List PyData} {vs:List V},noIs ds=true->DenL K H ds vs->DenL K (wo [t] H) ds vs
 | [],_,_,e=>by simp only [DenL] at e ⊢;exact e
 | d::ds,_,hn,e=>by
  simp only [DenL] at e ⊢;simp only [noIs,aI] at hn;obtain⟨v,r,e1,e2,e3⟩:=e;exact⟨v,r,e1,Den.off ht hn.1 e2,DenL.off ht hn.2 e3⟩
end
end
theorem qFk{α : Type}{f : α -> PyData}:∀ {l:List α},(∀a∈l,noI (f a)=true)->noIs (l.map f)=true
 | [],_=>rfl
 | a::l,h=>by
  simp only [bR,noIs,aI];exact⟨h a (bM ..),qFk λb hb=>h b (bO _ hb)⟩
theorem qRf(d:Deed):noI (deedD d)=true:=by cases d <;> rfl
theorem qTy(ns:List Int):noI (endD ns)=true:=by
 match ns with
 | []=>rfl
 | [x]=>rfl
 | x::y::_=>rfl
theorem qTz(b:Blk):noI (blkD b)=true:=by
 simp only [blkD,noI,noIs,qTy,eB,aI];refine⟨qFk λd _=>qRf d,?_⟩;cases b.ds with
 | nil=>rfl
 | cons d ds=>cases d <;> rfl
theorem qRe(w:List Blk):noI (workD w)=true:=by
 simp only [workD,noI,aI];refine⟨qFk λd _=>qTz d,?_⟩;cases w <;> rfl
theorem qOz(ws:List (List Blk)):noI (qDc ws)=true:=by
 simp only [qDc,noI,aI];refine⟨qFk λd _=>qRe d,?_⟩;cases ws <;> rfl
theorem Tape.works{K:PySem.W.Frag}{H:Hp}{t:Addr}{k:Nat}{ws:List (List Blk)}{v:V}(T:Tape H t k)(h:Den K H (qDc ws) v):Den K (wo [t] H) (qDc ws) v:=by
 obtain⟨a,b,c,h1,_⟩:=T;exact Den.off h1 (qOz ws) h
structure Fr where
 n:Nat
 w0:Int
 w1:Int
 pos:Int
 bx:List Int
 as:List (Int×Int)
structure Ms where
 held:List Int
 told:List Int
 flt:List (Int×Int)
 sv:Int
 bk:Int
 steps:Int
 taken:Int
 log:List (Int×Int×Int)
 st:List Fr
structure Gv where
 mean:Bool
 ws:List (List Blk)
 ch:List Int
 most:Int
abbrev K3:=Int×Int×Int
section
variable{P:Program}{w:World}
variable{A:Around}{E:Value->Shared->Prop}{s:Shared}
end
structure RA where
 self:Addr
 dx:Addr
 wa:Addr
 ba:Addr
 ca:Addr
 ta:Addr
 fa:Addr
 ga:Addr
 C:Addr
 CC:Addr
def cntL(log:List K3)(k:K3):Option Int:=if log.count k=0 then none else some (log.count k:Int)
def PrsAt(H:Hp):List V->List (Int×Int)->Prop:=Paired λv p => ∃a,v = .ref a/\H a=some (.tup [.int p.1,.int p.2])
def asD(as:List (Int×Int)):List (Key×V):=as.map λp=>((Sum.inl p.1:Key),V.int p.2)
theorem qCj{CX:CXT}{P:Program}{w:World}{K:PySem.W.Frag}{mg:Str->Option Value}{base:Heap}{N:List Str}{qual:Str}{scope:Scope}{f:Addr}{cd:Value}{A:Around}{outer:List Env}{s:Shared}{H:Hp}{E:XK}:(cxOf CX P w K mg base N qual scope f cd A outer s H E).nox.w=w:=rfl
theorem qG9{CX:CXT}{P:Program}{w:World}{K:PySem.W.Frag}{mg:Str->Option Value}{base:Heap}{N:List Str}{qual:Str}{scope:Scope}{f:Addr}{cd:Value}{A:Around}{outer:List Env}{s:Shared}{H:Hp}{E:XK}:(cxOf CX P w K mg base N qual scope f cd A outer s H E).w=w:=rfl
def nowD(hd td fd mv:Addr)(st tk:Int):List (Key×V) :=[(.inr "held",.ref hd),(.inr "told",.ref td),(.inr "faults",.ref fd),(.inr "moves",.ref mv),(.inr "steps",.int st),(.inr "taken",.int tk)]
theorem qL7{K:PySem.W.Frag}{H:Hp}{p:Addr}{xs:List V}{Q:List V->Prop}(h:SqL K H p xs)(q:Q xs):∃p' ys,[V.ref p] = [.ref p']/\(SqL K H p' ys\/SqT K H p' ys)/\Q ys:=⟨p,xs,rfl,.inl h,q⟩
structure FA where
 fa:Addr
 wy:Addr
 bx:Addr
 as:Addr
def FrAt(H:Hp)(f:Fr)(a:FA):Prop:=H a.fa=some (.lst [.int (f.n:Int),.ref a.wy,.int f.pos,.ref a.bx,.ref a.as])/\H a.wy=some (.tup [.int f.w0,.int f.w1])/\H a.bx=some (.lst (f.bx.map V.int))/\H a.as=some (.dK (asD f.as))
structure LR where
 now:Addr
 hd:Addr
 td:Addr
 fd:Addr
 mv:Addr
 sk:Addr
 gn:Addr
 gs:List Addr
def adrs(fas:List FA):List Addr:=fas.flatMap λa =>[a.fa,a.bx,a.as]
def LR.all(l:LR)(fas:List FA):List Addr:=l.now::l.hd::l.td::l.fd::l.mv::l.sk::l.gn::(adrs fas++l.gs)
def WayAt(H:Hp)(x:Addr)(log:List K3)(i:Nat):Prop := ∃kvs:List (List Key×V),H x=some (.dT kvs)/\kvs.length<=log.length /\ ∀a b:Int,valV kvs [Sum.inl a,Sum.inl b]=(cntL log ((i:Int),a,b)).map V.int
structure LawAt(g:Gv)(l:LR)(G0 H:Hp)(m:Ms)(fas:List FA):Prop where
 now:H l.now=some (.dK (nowD l.hd l.td l.fd l.mv m.steps m.taken))
 held:H l.hd=some (.lst (m.held.map V.int))
 told:H l.td=some (.lst (m.told.map V.int))
 flt:∃fl,H l.fd=some (.lst fl)/\PrsAt H fl m.flt
 mv:H l.mv=some (.lst [.int m.sv,.int m.bk])
 sk:H l.sk=some (.lst (fas.reverse.map λa =>.ref a.fa))
 gn:H l.gn=some (.lst (l.gs.map V.ref))
 gl:l.gs.length=g.ws.length
 gw:∀i x,l.gs[i]? = some x->WayAt H x m.log i
 frs:Paired (FrAt H) m.st fas
 nd:(l.all fas).Nodup
 old:Ext [] G0 H
 ng:∀x∈l.all fas,G0 x=none
def psi(f:Fr):Nat:=if f.pos<0 then 2 else (23 - f.pos).toNat
def mu(g:Gv)(m:Ms):Nat:=(g.most - m.steps).toNat*1000+(m.st.map psi).sum
def lim(m:Ms):Nat:=10^12*2^m.steps.toNat
theorem qSb{trs:List (TE×TE)}{σ : St}{H:Hp}{Q:VK}(h:∀p,H p=none->qFr trs σ (upd H p (.dK [])) λps H2=>H2 p=some (.dK []) /\ ∃kvs:List (Key×V),ps=kvs.map (λkv=>(kV kv.1,kv.2))/\kvs.length<=15/\Q (.ref p) (upd H2 p (.dK (qDb [] kvs)))):tDisp trs σ H Q:=h
theorem qWy{tk tv:TE}{r:List (TE×TE)}{σ : St}{H:Hp}{Q:List (V×V)->Hp->Prop}(h:tk σ H λx H1=>tv σ H1 λy H2=>qFr r σ H2 λps H3=>Q ((x,y)::ps) H3):qFr ((tk,tv)::r) σ H Q:=h
theorem qWx{σ : St}{H:Hp}{Q:List (V×V)->Hp->Prop}(h:Q [] H):qFr [] σ H Q:=h
theorem qSa{t u:TS}{D:Ends}{σ : St}{H:Hp}(C:St->Hp->Prop)(h2:∀ σ' H',C σ' H'->u D σ' H')(h1:(∀ σ' H',C σ' H'->u D σ' H')->t { D with nx:=u D } σ H):tSeq t u D σ H:=h1 h2
section
variable{g:Gv}{m:Ms}{f:Fr}{rest:List Fr}{wk:List Blk}{b:Blk}(est:m.st=f::rest)(hwk:g.ws[f.n]? = some wk)
include est hwk
variable(hne : ¬f.w1=(wk.length:Int))(hbk:wk[f.w1.toNat]? = some b)
include hne hbk
end
def DeedP(works:Int):Deed->Prop
 | .set b n=>0<=b/\b<8 /\ -(10^12)<=n/\n<=10^12
 | .add b o=>0<=b/\b<8/\0<=o/\o<8
 | .tell b=>0<=b/\b<8
 | .call c=>0<=c/\c<works
 | .save _=>False
 | .back _=>False
theorem DeedP.ok{works:Int}{d:Deed}(h:DeedP works d):qJx works d:=by
 cases d <;> first | exact h | exact h.elim
def Fw(works:Int)(b:Blk):Prop:=b.ds.length<=12 /\ ∀d∈b.ds,DeedP works d
def qFi(K:PySem.W.Frag):Sp:=λvs H Q _ => ∃(t b:Addr) (k:Nat) (most first works:Int) (bs:List Int),vs = [.ref t,.int most,.ref b,.int first,.int works]/\Tape H t k/\k+130<=2^40/\0<=most/\most<=12/\0<=first/\first<=100/\1<=works/\works<=100 /\
 H b=some (.lst (bs.map V.int))/\b≠t/\BsOk bs /\ ∀(l:Addr) (ds:List Deed) (H':Hp),H l=none->Tape H' t (k+130)->Ext [t] H H'->(∀d∈ds,DeedP works d)->ds.length<=12->Den K (yo H [t] H') (.list (ds.map deedD)) (.ref l)->Q (.ref l) H'
theorem qGi{K:PySem.W.Frag}{G H:Hp}{as:List Addr}{ws:List (List Blk)}(h:WorksAt K G H as ws)(g:Same G H):DenL K H (ws.map workD) (as.map V.ref):=by
 unfold WorksAt at h
 induction h with
 | nil=>exact .nil
 | cons r _ ih =>
  obtain⟨bs,e,d⟩:=r;exact .cons (.list (SqL.of e) (d.mono g)) ih
def Ledx(nx:List (List Int)):Prop := ∀j:Nat,1<=j->j<nx.length -> ∃i ns,i<j/\nx[i]? = some ns/\(j:Int)∈ns
def Lp(m:Int)(nx:List (List Int)):Prop := ∀j:Nat,1<=j->j<=nx.length->(j:Int)<m -> ∃i ns,i<j/\nx[i]? = some ns/\(j:Int)∈ns
def Kp(nx:List (List Int))(kvs:List (Key×V)):Prop := ∀n:Int,valV kvs (Sum.inl n)≠none -> ∃(i:Nat) (ns:List Int),nx[i]? = some ns/\n∈ns
theorem Lp.nil{m:Int}:Lp m []:=λj h1 h2=>by simp at h2;lia
theorem Kp.nil:Kp [] []:=λn h=>absurd rfl h
theorem Lp.led{m:Int}{nx:List (List Int)}(h:Lp m nx)(e:(nx.length:Int)=m):Ledx nx:=λj h1 h2=>h j h1 (by lia) (by lia)
theorem Lp.snoc{m:Int}{nx:List (List Int)}{kvs:List (Key×V)}{ns:List Int}{j:Int}(hj:j=0+(nx.length:Int)+1)(h:Lp m nx)(hk:Kp nx kvs)(hl:j<m->j∈ns\/valV kvs (Sum.inl j)≠none):Lp m (nx ++ [ns]):=by
 intro i h1 h2 h3;rw [aK] at h2;by_cases c:i<=nx.length
 ·obtain⟨i',ns',a,b,d⟩:=h i h1 c h3;exact⟨i',ns',a,by rw [cQ (aE.mp b).1];exact b,d⟩
 ·have e:(i:Int)=j:=by simp at h2;lia
  rcases hl (by lia) with z | z
  ·exact⟨nx.length,ns,by lia,by simp,by rw [e];exact z⟩
  ·obtain⟨i',ns',b,d⟩:=hk j z;have b1:=(aE.mp b).1;exact⟨i',ns',by lia,by rw [cQ b1];exact b,by rw [e];exact d⟩
theorem Kp.snoc{nx:List (List Int)}{kvs kvs':List (Key×V)}{ns:List Int}(h:Kp nx kvs)(hv:∀n:Int,valV kvs' (Sum.inl n)≠none->valV kvs (Sum.inl n)≠none\/n∈ns):Kp (nx ++ [ns]) kvs':=by
 intro n z;rcases hv n z with y | y
 ·obtain⟨i,ns',b,d⟩:=h n y;exact⟨i,ns',by rw [cQ (aE.mp b).1];exact b,d⟩
 ·exact⟨nx.length,ns,by simp,y⟩
theorem qMy{κ : Type} [DecidableEq κ] {kvs:List (κ × V)}{k k' : κ}{v:V}(h:valV (putK kvs k v) k'≠none):valV kvs k'≠none\/k'=k:=by
 by_cases c:k'=k
 ·exact .inr c
 ·refine .inl λz=>h ?_;rw [qKz,if_neg c];exact z
theorem qGy:∀(ns:List Int) (kvs:List (Key×V)) (n:Int),valV (qDb kvs (ns.map λn=>((Sum.inl n:Key),V.bl true))) (Sum.inl n)≠none->valV kvs (Sum.inl n)≠none\/n∈ns
 | [],_,_,h =>.inl h
 | x::ns,kvs,n,h=>by
  rcases qGy ns _ n h with z | z
  ·rcases qMy z with y | y
   ·exact .inl y
   ·cases y;exact .inr (by simp)
  ·exact .inr (bO _ z)
def Led(w:List Blk):Prop:=Ledx (w.map (·.ns))
def FwL(works:Int)(w:List Blk):Prop:=(∀b∈w,Fw works b)/\Led w
def qHh(K:PySem.W.Frag):Sp:=λvs H Q _ => ∃(t:Addr) (k:Nat) (m:Int),vs = [.ref t,.int m]/\Tape H t k/\k+30<=2^40/\1<=m/\m<=12 /\
 ∀(l:Addr) (nx:List (List Int)) (H':Hp),H l=none->Tape H' t (k+30)->Ext [t] H H'->(NxOk m nx/\Ledx nx)->Den K (yo H [t] H') (.list (nx.map intsD)) (.ref l)->Q (.ref l) H'
def qK3(K:PySem.W.Frag):Sp:=λvs H Q _ => ∃(t:Addr) (k:Nat) (m most first works:Int),vs = [.ref t,.int m,.int most,.int first,.int works]/\Tape H t k/\k+2000<=2^40/\1<=m/\m<=12/\0<=most/\most<=12/\0<=first/\first<=100/\1<=works/\works<=100 /\
 ∀(l:Addr) (w:List Blk) (bs:List V) (H':Hp),H l=none->l≠t->Tape H' t (k+2000)->Ext [t] H H'->WorkOk m works w->FwL works w->H' l=some (.lst bs)->DenL K (yo H [l,t] H') (w.map blkD) bs->Q (.ref l) H'
def qHc(K:PySem.W.Frag):Sp:=λvs H Q _ => ∃(t:Addr) (k:Nat) (most:Int),vs = [.ref t,.int most]/\Tape H t k/\k+21000<=2^40/\0<=most/\most<=12 /\
 ∀(l:Addr) (as:List Addr) (ws:List (List Blk)) (H':Hp),H l=none->l≠t->l∉as->(∀a∈as,H a=none/\a≠t)->as.Nodup->Tape H' t (k+21000)->Ext [t] H H'->H' l=some (.lst (as.map V.ref))->WorksAt K (yo H (l::t::as) H') H' as ws->AllOk (ws.length:Int) ws->(∀w∈ws,FwL (ws.length:Int) w)->Q (.ref l) H'
section
variable{X:Cx}
theorem qNh{bs:List Bool}{f:Nat->Bool}(hf:∀i b,bs[i]? = some b->f i=b):(List.range bs.length).all f=bs.all id:=by
 rw [cI,cT,cT];constructor
 ·intro h b hb;obtain⟨i,hi,e⟩:=cZ hb;have:=h i (dH.mpr hi);rw [hf i b (by rw [aJ hi,e])] at this;exact this
 ·intro h i hi;have hi:=dH.mp hi;rw [hf i bs[i] (aJ hi)];exact h _ (cU hi)
def rAllB(K:PySem.W.Frag):List V->Hp->VK->Prop:=λxs H Q => ∃(a:Addr) (bs:List Bool),xs = [.ref a]/\SqL K H a (bs.map V.bl)/\Q (.bl (bs.all id)) H
theorem qBy(hh:X.A.handled=none):CallR X (.builtin "all") (rAllB X.K):=by
 intro pins s σ H xs us Q I r h;obtain⟨a,bs,rfl,hq,q⟩:=h;obtain⟨u,rfl,ru⟩:=vals1 r;cases ru;obtain⟨its,rv,pl,_⟩:=I.list hq;have hlen:=rv.length;rw [aC] at hlen;have hl:=pl.isList;have hne:a≠s.heap.objs.size:=by obtain⟨o,e,_⟩:=hl;exact bA (aM e)
 have hval:∀(i:Nat) (v:Value),its.toArray[i]? = some v->v = .bool (bs.getD i false):=λi v e=>by
  rw [eO] at e;have hi:i<bs.length:=by rw [hlen];exact (aE.mp e).1
  obtain⟨u,e2,r2⟩:=rv.get (i:=i) (x:=V.bl bs[i]) (by rw [aX,aJ hi];rfl);rw [e] at e2;cases e2;have r2:v=Value.bool bs[i]:=r2;rw [r2,cH,aJ hi];rfl
 refine call_all_walk (dP hl ⟨_,_,_,_,_,_,λi=>bs.getD i false,rfl,Walks.list (by exact hh) _ a hne its.toArray,⟨⟨_,aR _ rfl,rfl,rfl⟩,hl.push _⟩,λi v s Q E hP hQ=>?_,λh' tk k=>?_⟩)
 ·rw [hval i v hP];exact cD hQ
 ·have e:(List.range its.toArray.size).all (λi=>bs.getD i false)=bs.all id:=by
   rw [aH,<-hlen];exact qNh λi b hb=>by rw [cH,hb];rfl
  rw [e];exact⟨.bl (bs.all id),H,I.kept (t':=tk) (λb o e=>k b o (by simpa using bA (aM e)) (aF _ e)),rfl,q⟩
end
theorem Inv.laidN{X:Cx}{pins:List (Addr×Obj)}{σ : St}{H:Hp}{s:Shared}{h':Heap}{t':Nat}{D:Addr}{o:HO}(I:Inv X pins σ H s)(k:∀b u,s.heap.get? b=some u->h'.get? b=some u)(hD:s.heap.get? D=none)(new:ObjOk X.prog X.w (upd H D o) h' D o):Inv X pins σ (upd H D o) { s with heap:=h',toks:=t' }:=by
 have hn:H D=none:=I.hok.gone hD;have neD:∀b u,s.heap.get? b=some u->b≠D:=λb u e z=>by rw [z,hD] at e;cases e
 refine I.step (g':=s.gens) (d':=s.drawn) (ch :=[]) (λ_ z=>nomatch z) (λb u _ _ _ e _=>k b u e) (λb u _ _ _ e _=>⟨u.slots,k b u e⟩) (λb u _ e n=>by rw [qA7 (neD b u e)];exact n)
  (λb u _ e=>⟨u,k b u e⟩) (λb xs e=>by rw [qA7 (qA2 e hn)];exact e) (λb ob xs e=>by rw [qA7 (qA2 e hn)];exact e) (λb ps e=>⟨#[],by rw [qA7 (qA2 e hn),e];simp⟩) (λm' hm=>?_) (λb u e=>?_) I.bare
 ·obtain⟨ob,es,ep,ho,r⟩:=hm;exact⟨ob,es,ep,k _ ob ho,r⟩
 ·by_cases hb:b=D
  ·subst hb;rw [qA1] at e;cases e;exact new
  ·rw [qA7 hb] at e;exact (I.hok b u e).stay (λc v _ q=>k c v q) (λc q=>by rw [qA7 (qA2 q hn)];exact q) λc xs q=>by rw [qA7 (qA2 q hn)];exact q
theorem qV2{ta tb:TE}{σ : St}{H:Hp}{Q:VK}(h:ta σ H λx H1 => ∃c,x = .bl c/\if c=true then tb σ H1 Q else Q (.bl false) H1):tAndV ta tb σ H Q:=h
theorem qUv{ta:TE}{σ : St}{H:Hp}{Q:VK}(h:ta σ H λx H1 => ∃c,x = .bl c/\Q (.bl (!c)) H1):tNotV ta σ H Q:=h
theorem qQs{r r':R2}{ta tb tc:TE}{σ : St}{H:Hp}{Q:VK}(h:ta σ H λx H1=>tb σ H1 λy H2=>r x y H2 λz H3 => ∃k,z = .bl k/\(if k=true then tc σ H3 λw' H4=>r' y w' H4 Q else Q (.bl false) H3)):qS6 r r' ta tb tc σ H Q:=h
def kD:Key->PyData
 | .inl i =>.int i
 | .inr x =>.str x
mutual
def DenX(K:PySem.W.Frag)(G:Hp):PyData->V->Prop
 | .none,v=>v = .non
 | .bool b,v=>v = .bl b
 | .int i,v=>v = .int i
 | .str x,v=>v = .str x
 | .list ds,v => ∃a vs,v = .ref a/\SqL K G a vs/\DenXs K G ds vs
 | .tuple ds,v => ∃a vs,v = .ref a/\SqT K G a vs/\DenXs K G ds vs
 | .dict kvs,v => ∃a ps,v = .ref a/\Rd G a (.dK ps)/\DenXk K G kvs ps
def DenXs(K:PySem.W.Frag)(G:Hp):List PyData->List V->Prop
 | [],vs=>vs = []
 | d::ds,vs => ∃v r,vs=v::r/\DenX K G d v/\DenXs K G ds r
def DenXk(K:PySem.W.Frag)(G:Hp):List (PyData×PyData)->List (Key×V)->Prop
 | [],ps=>ps = []
 | (k,d)::r,ps => ∃kk v q,ps=(kk,v)::q/\k=kD kk/\DenX K G d v/\DenXk K G r q
end
mutual
theorem Den.x{K:PySem.W.Frag}{G:Hp}:∀ {d:PyData} {v:V},Den K G d v->DenX K G d v
 | .none,_,e=>by simp only [Den] at e;simp only [DenX];exact e
 | .bool _,_,e=>by simp only [Den] at e;simp only [DenX];exact e
 | .int _,_,e=>by simp only [Den] at e;simp only [DenX];exact e
 | .str _,_,e=>by simp only [Den] at e;simp only [DenX];exact e
 | .list ds,_,e=>by
  simp only [Den] at e;obtain⟨a,vs,e1,e2,e3⟩:=e;simp only [DenX];exact⟨a,vs,e1,e2,DenL.x e3⟩
 | .tuple ds,_,e=>by
  simp only [Den] at e;obtain⟨a,vs,e1,e2,e3⟩:=e;simp only [DenX];exact⟨a,vs,e1,e2,DenL.x e3⟩
 | .dict _,_,e=>by simp only [Den] at e
theorem DenL.x{K:PySem.W.Frag}{G:Hp}:∀ {ds:List PyData} {vs:List V},DenL K G ds vs->DenXs K G ds vs
 | [],_,e=>by simp only [DenL] at e;simp only [DenXs];exact e
 | d::ds,_,e=>by
  simp only [DenL] at e;obtain⟨v,r,e1,e2,e3⟩:=e;simp only [DenXs];exact⟨v,r,e1,Den.x e2,DenL.x e3⟩
end
theorem DenXs.nil{K:PySem.W.Frag}{G:Hp}:DenXs K G [] []:=by simp only [DenXs]
theorem DenXs.cons{K:PySem.W.Frag}{G:Hp}{d:PyData}{ds:List PyData}{v:V}{vs:List V}(h:DenX K G d v)(t:DenXs K G ds vs):DenXs K G (d::ds) (v::vs):=by simp only [DenXs];exact⟨v,vs,rfl,h,t⟩
theorem DenX.list{K:PySem.W.Frag}{G:Hp}{ds:List PyData}{a:Addr}{vs:List V}(h:SqL K G a vs)(t:DenXs K G ds vs):DenX K G (.list ds) (.ref a):=by simp only [DenX];exact⟨a,vs,rfl,h,t⟩
def RdX(P:Program)(w:World)(h:Heap)(u:Value)(d:PyData):Prop:=(∃as,Reads h u d as)/\(d.showable=true->d.shown.length<=sizeLine -> ∃bs,ReadAtMost h d.depth bs/\ReprK P w bs h d.depth u d.shown)
def RdXs(P:Program)(w:World)(h:Heap)(us:List Value)(ds:List PyData):Prop:=(∃as,ReadsAll h us ds as)/\(PyData.showableAll ds=true->(∀t∈PyData.shownAll ds,t.length<=sizeLine) -> ∃bs,ReadAtMost h (PyData.depthAll ds) bs/\ReprAllK P w bs h (PyData.depthAll ds) us (PyData.shownAll ds))
theorem RdX.of{P:Program}{w:World}{h:Heap}{u:Value}{d:PyData}{as:List Addr}(r:Reads h u d as)(hn:d.hasDict=false):RdX P w h u d:=⟨⟨as,r⟩,λhs hz=>ReprK.of_reads r hs (λz=>by rw [hn] at z;cases z) hz⟩
theorem RdXs.nil{P:Program}{w:World}{h:Heap}:RdXs P w h [] []:=⟨⟨[],.nil⟩,λ_ _=>⟨[],(λ_ z=>nomatch z),by simp only [PyData.shownAll];exact .nil⟩⟩
theorem RdXs.cons{P:Program}{w:World}{h:Heap}{u:Value}{d:PyData}{us:List Value}{ds:List PyData}(x:RdX P w h u d)(t:RdXs P w h us ds):RdXs P w h (u::us) (d::ds):=by
 obtain⟨⟨as,ra⟩,x2⟩:=x;obtain⟨⟨cs,rc⟩,t2⟩:=t;refine⟨⟨_,.cons ra rc⟩,λhs hz=>?_⟩;have hs:(d.showable&&PyData.showableAll ds)=true:=by simpa only [PyData.showableAll] using hs
 rw [aI] at hs;obtain⟨b1,m1,k1⟩:=x2 hs.1 (hz _ (by simp only [PyData.shownAll];exact bM ..));obtain⟨b2,m2,k2⟩:=t2 hs.2 (λt ht=>hz t (by simp only [PyData.shownAll];exact bO _ ht));have e1:d.depth<=PyData.depthAll (d::ds):=by simp only [PyData.depthAll];lia
 have e2:PyData.depthAll ds<=PyData.depthAll (d::ds):=by simp only [PyData.depthAll];lia
 refine⟨b1++b2,(m1.mono e1).append (m2.mono e2),?_⟩;simp only [PyData.shownAll];exact .cons ((k1.more λb hb=>bJ _ hb).level_le e1) (k2.more_le (λb hb=>aY _ hb) e2)
theorem RdX.list{P:Program}{w:World}{h:Heap}{a:Addr}{o:Obj}{us:Array Value}{n:Nat}{ds:List PyData}(h1:h.get? a=some o)(h2:o.cls = .type "list")(h3:o.data = .seq us n)(t:RdXs P w h us.toList ds):RdX P w h (.ref a) (.list ds):=by
 obtain⟨⟨cs,rc⟩,t2⟩:=t;have r:Reads h (.ref a) (.list ds) (a::cs) :=.list h1 h2 h3 rc;refine⟨⟨_,r⟩,λhs hz=>?_⟩;have hz:(listText (PyData.shownAll ds)).length<=sizeLine:=by simpa only [PyData.shown] using hz
 obtain⟨bs,hb,hk⟩:=t2 (by simpa [PyData.showable] using hs) λt ht=>bC (listText_mem_le ht) hz;have hna:=not_mem_of_deeper r (by simp only [PyData.depth];lia) hb;refine⟨a::bs,ReadAtMost.cons r (by simp only [PyData.depth];lia) hb,?_⟩;simp only [PyData.depth,PyData.shown];obtain⟨l⟩:=us;cases l with
 | nil =>
  have rc:ReadsAll h [] ds cs:=rc;cases rc;simp only [PyData.shownAll,listText_nil];exact .listEmpty h1 h2 h3
 | cons x l=>exact .list h1 h2 h3 hna (by simpa using hk.length_eq) λi y e=>hk.item i y (by simpa using e)
theorem RdX.tuple{P:Program}{w:World}{h:Heap}{a:Addr}{o:Obj}{us:Array Value}{n:Nat}{ds:List PyData}(h1:h.get? a=some o)(h2:o.cls = .type "tuple")(h3:o.data = .seq us n)(t:RdXs P w h us.toList ds):RdX P w h (.ref a) (.tuple ds):=by
 obtain⟨⟨cs,rc⟩,t2⟩:=t;have r:Reads h (.ref a) (.tuple ds) cs :=.tuple h1 h2 h3 rc;refine⟨⟨_,r⟩,λhs hz=>?_⟩;have hz:(tupleText (PyData.shownAll ds)).length<=sizeLine:=by simpa only [PyData.shown] using hz
 obtain⟨bs,hb,hk⟩:=t2 (by simpa [PyData.showable] using hs) λt ht=>bC (tupleText_mem_le ht) hz;have hna:=not_mem_of_deeper r (by simp only [PyData.depth];lia) hb;refine⟨a::bs,ReadAtMost.cons r (by simp only [PyData.depth];lia) hb,?_⟩;simp only [PyData.depth,PyData.shown];exact .tuple h1 h2 h3 hna hk
theorem RdX.dict{P:Program}{w:World}{h:Heap}{a:Addr}{o:Obj}{es:Array DictEntry}{n:Nat}{kvs:List (PyData×PyData)}(h1:h.get? a=some o)(h2:o.cls = .type "dict")(h3:o.data = .dict es n)(hsys:(a == sysModules)=false)
  (t1:RdXs P w h (es.toList.map (·.key)) (kvs.map (·.1))) (t2:RdXs P w h (es.toList.map (·.val)) (kvs.map (·.2))):RdX P w h (.ref a) (.dict kvs):=by
 obtain⟨⟨cs,rc⟩,t1⟩:=t1;obtain⟨⟨ds,rd⟩,t2⟩:=t2;have r:Reads h (.ref a) (.dict kvs) (a::cs++ds) :=.dict h1 h2 h3 rc rd;refine⟨⟨_,r⟩,λhs hz=>?_⟩;have hz:(dictText (PyData.shownKv kvs)).length<=sizeLine:=by simpa only [PyData.shown] using hz
 obtain⟨s1,s2⟩:=PyData.showableKv_split kvs (by simpa [PyData.showable] using hs);have fits:∀ {t:Str},(∃p∈PyData.shownKv kvs,t.length<=p.length)->t.length<=sizeLine:=λ{t} ⟨p,hp,hl⟩=>bC hl (bC (dictText_mem_le hp) hz);obtain⟨b1,m1,k1⟩:=t1 s1 λt ht=>fits (PyData.shownKv_key_le kvs t ht);obtain⟨b2,m2,k2⟩:=t2 s2 λt ht=>fits (PyData.shownKv_val_le kvs t ht);have l1:=PyData.depthAll_keys_le kvs;have l2:=PyData.depthAll_vals_le kvs;have hb:=(m1.mono l1).append (m2.mono l2);have hna:=not_mem_of_deeper r (by simp only [PyData.depth];lia) hb;refine⟨a::(b1++b2),ReadAtMost.cons r (by simp only [PyData.depth];lia) hb,?_⟩;simp only [PyData.depth,PyData.shown,PyData.shownKv_eq];exact .dict h1 h2 h3 hsys hna (ReprEntriesK.of_two _ _ _ (k1.more_le (λb hb=>bJ _ hb) l1) (k2.more_le (λb hb=>aY _ hb) l2))
theorem RdX.key{P:Program}{w:World}{h:Heap}{k:Key}{u:Value}(e:(qBc P w).is k u=true):RdX P w h u (kD k):=by
 rcases qB4 e with ⟨i,t,rfl,z⟩ | ⟨y,t,rfl,z⟩
 ·rw [z];exact .of (.int i t) (by simp only [kD,PyData.hasDict])
 ·rw [z];exact .of (.str y t) (by simp only [kD,PyData.hasDict])
section
variable{X:Cx}{pins:List (Addr×Obj)}{σ : St}{H:Hp}{s:Shared}
mutual
theorem DenX.reads(I:Inv X pins σ H s):∀ {d:PyData} {v:V} {u:Value},DenX X.K H d v->RelV v u->RdX X.prog X.w s.heap u d
 | .none,_,_,e,r=>by simp only [DenX] at e;subst e;cases r;exact .of .none (by simp only [PyData.hasDict])
 | .bool b,_,_,e,r=>by simp only [DenX] at e;subst e;cases r;exact .of (.bool b) (by simp only [PyData.hasDict])
 | .int i,_,_,e,r=>by simp only [DenX] at e;subst e;obtain⟨t,rfl⟩:=r;exact .of (.int i t) (by simp only [PyData.hasDict])
 | .str x,_,_,e,r=>by simp only [DenX] at e;subst e;obtain⟨t,rfl⟩:=r;exact .of (.str x t) (by simp only [PyData.hasDict])
 | .list ds,_,_,e,r=>by
  simp only [DenX] at e;obtain⟨a,vs,rfl,e2,e3⟩:=e;cases r;obtain⟨its,rv,⟨o,n,h1,h2,h3,h4⟩,_⟩:=I.list e2;exact .list h1 h2 h4 (by simpa using DenXs.reads I e3 rv)
 | .tuple ds,_,_,e,r=>by
  simp only [DenX] at e;obtain⟨a,vs,rfl,e2,e3⟩:=e;cases r;obtain⟨its,rv,⟨o,h1,h2,n,h4⟩,_⟩:=I.tuple e2;exact .tuple h1 h2 h4 (by simpa using DenXs.reads I e3 rv)
 | .dict kvs,_,_,e,r=>by
  simp only [DenX] at e;obtain⟨a,ps,rfl,e2,e3⟩:=e;cases r;obtain⟨z,hs,vs,rel,o,es,ep,ho,h2,h3,h4,h5,h6⟩:=qI1 I.hok e2;obtain⟨t1,t2⟩:=DenXk.reads I e3 rel h5;exact .dict ho h2.1 h3 hs t1 t2
theorem DenXs.reads(I:Inv X pins σ H s):∀ {ds:List PyData} {vs:List V} {us:List Value},DenXs X.K H ds vs->Vals vs us->RdXs X.prog X.w s.heap us ds
 | [],_,_,e,r=>by simp only [DenXs] at e;subst e;cases r;exact .nil
 | d::ds,_,_,e,r=>by
  simp only [DenXs] at e;obtain⟨v,vr,rfl,e2,e3⟩:=e;cases r with
  | cons r1 r2=>exact .cons (DenX.reads I e2 r1) (DenXs.reads I e3 r2)
theorem DenXk.reads(I:Inv X pins σ H s):∀ {kvs:List (PyData×PyData)} {ps:List (Key×V)} {vs:List (Key×Value)} {es:List DictEntry},DenXk X.K H kvs ps->KV ps vs->Pairs (qBc X.prog X.w) es vs->RdXs X.prog X.w s.heap (es.map (·.key)) (kvs.map (·.1))/\RdXs X.prog X.w s.heap (es.map (·.val)) (kvs.map (·.2))
 | [],_,_,_,e,r,q=>by
  simp only [DenXk] at e;subst e;cases r;cases q;exact⟨.nil,.nil⟩
 | (k,d)::kvs,_,_,_,e,r,q=>by
  simp only [DenXk] at e;obtain⟨kk,v,ps,rfl,rfl,e2,e3⟩:=e;cases r with
  | @cons _ b _ bs r1 r2 =>
   obtain⟨b1,b2⟩:=b;obtain⟨r1,r1'⟩:=r1;have r1:kk=b1:=r1;subst r1;cases q with
   | @cons en _ _ _ q1 q0 q2 =>
    obtain⟨t1,t2⟩:=DenXk.reads I e3 r2 q2;have r1':RelV v b2:=r1';have q0:en.val=b2:=q0;rw [<-q0] at r1';exact⟨.cons (.key q1) t1,.cons (DenX.reads I e2 r1') t2⟩
end
def qV4(K:PySem.W.Frag):List V->Hp->VK->Prop:=λxs H Q => ∃(a:Addr) (ds:List PyData),xs = [.ref a]/\DenX K H (.list ds) (.ref a)/\PyData.showable (.list ds)=true/\PyData.depth (.list ds)<=100/\(PyData.shown (.list ds)).length<=sizeLine/\Q (.str (PyData.shown (.list ds))) H
theorem qMk{k:Nat}(hr:Room k X.A):CallR X (.builtin "repr") (qV4 X.K):=by
 intro pins s σ H xs us Q I r h;obtain⟨a,ds,rfl,hd,h1,h2,h3,q⟩:=h;obtain⟨u,rfl,ru⟩:=vals1 r;cases ru;have hd:=hd;simp only [DenX] at hd;obtain⟨a',vs,ea,e2,e3⟩:=hd;cases ea;obtain⟨its,rv,⟨o,n,g1,g2,g3,g4⟩,_⟩:=I.list e2;obtain⟨⟨cs,rc⟩,t2⟩:=DenXs.reads I e3 rv;have hz:(listText (PyData.shownAll ds)).length<=sizeLine:=by simpa only [PyData.shown] using h3
 have hu:=hr.un;obtain⟨bs,hb,hk⟩:=t2 (by simpa [PyData.showable] using h1) λt ht=>bC (listText_mem_le ht) hz;have r:Reads s.heap (.ref a) (.list ds) (a::cs) :=.list g1 g2 g4 (by simpa using rc);have hna:=not_mem_of_deeper r (by simp only [PyData.depth];lia) hb;have hd2:PyData.depthAll ds+1<=100:=by simpa only [PyData.depth] using h2
 have fin:∀(h':Heap) (u:Tok) (tk:Nat),(∀b o,s.heap.get? b=some o->h'.get? b=some o)->EP X pins σ Q (.str (PyData.shown (.list ds)) u) { s with heap:=h',toks:=tk }:=λh' u tk kk=>⟨.str _,H,I.kept (t':=tk) kk,⟨_,rfl⟩,q⟩;refine call_repr_slot (by lia) ⟨o,g1,g2⟩ F.slot_list_repr.toG ?_;cases its with
 | nil =>
  cases rc;refine call_list_repr_empty ⟨o,g1,g2⟩ g1 g4 ⟨_,_,rfl,?_⟩;have:=fin s.heap;simp only [PyData.shown,PyData.shownAll,listText_nil] at this;exact this _ _ λ_ _ e=>e
 | cons x l =>
  refine call_list_reprK g1 g2 g4 hna (by simpa using hk.length_eq) (λi y e=>hk.item i y (by simpa using e)) hr.gd (λb _=>Clear.nil b) (show X.A.units+1+(PyData.depthAll ds+1)<cLine by lia) (λ_ _ e=>e) (λh' u tk kk=>⟨_,_,rfl,?_⟩) hz;have:=fin h' u tk kk;simpa only [PyData.shown] using this
end
structure Fit(d:PyData)(W D:Nat):Prop where
 sh:d.showable=true
 lv:d.leavesShort 14=true
 we:d.weight<=W
 de:d.depth<=D
theorem Fit.mono{d:PyData}{W D W' D':Nat}(h:Fit d W D)(h1:W<=W')(h2:D<=D'):Fit d W' D':=⟨h.sh,h.lv,bC h.we h1,bC h.de h2⟩
theorem Fit.of{d:PyData}{n D:Nat}(h:tame d=true)(hc:cells d<=n)(hd:d.depth<=D):Fit d (46*n+45) D:=⟨qIj d h,PyData.leavesShort_of_canLay0 14 d (qL2 d h) (qGk d h),bC (qFq d h) (by lia),hd⟩
def FitS(ds:List PyData)(W D:Nat):Prop:=PyData.showableAll ds=true/\PyData.leavesShortAll 14 ds=true/\PyData.weightAll ds<=W/\PyData.depthAll ds<=D
theorem FitS.nil(D:Nat):FitS [] 0 D:=⟨rfl,rfl,aD _,aW _⟩
theorem FitS.cons{d:PyData}{ds:List PyData}{W V D:Nat}(h:Fit d W D)(t:FitS ds V D):FitS (d::ds) (W+1+V) D:=by
 obtain⟨t1,t2,t3,t4⟩:=t;have h3:=h.we;have h4:=h.de;refine⟨?_,?_,?_,?_⟩
 ·simp only [PyData.showableAll,h.sh,t1,cW]
 ·simp only [PyData.leavesShortAll,h.lv,t2,cW]
 ·simp only [PyData.weightAll];lia
 ·simp only [PyData.depthAll];lia
theorem FitS.map{α : Type}{f : α -> PyData}{W D:Nat}:∀ {l:List α},(∀x∈l,Fit (f x) W D)->FitS (l.map f) ((W+1)*l.length) D
 | [],_ =>.nil D
 | x::r,h=>by
  have:=(h x (bM ..));have t:=FitS.map (l:=r) λy hy=>h y (bO _ hy);have e:(W+1)*(x::r).length=W+1+(W+1)*r.length:=by rw [bI,Nat.mul_add,Nat.mul_one,Nat.add_comm]
  rw [e];exact .cons this t
theorem FitS.list{ds:List PyData}{W D:Nat}(t:FitS ds W D):Fit (.list ds) W (D+1):=by
 obtain⟨t1,t2,t3,t4⟩:=t;refine⟨?_,?_,?_,?_⟩
 ·simpa only [PyData.showable] using t1
 ·simpa only [PyData.leavesShort] using t2
 ·simpa only [PyData.weight] using t3
 ·simp only [PyData.depth];lia
theorem Fit.shown{d:PyData}{W D:Nat}(h:Fit d W D)(hW:W<=1000000)(hD:D<=100):d.showable=true/\d.depth<=100/\d.shown.length<=sizeLine:=by
 refine⟨h.sh,bC h.de hD,?_⟩;have h1:=PyData.shown_le 14 (by decide) d h.lv;have h2:=h.we;have e:sizeLine=16777216:=by decide
 have h3:(14+2)*d.weight<=16*1000000:=Nat.mul_le_mul (by decide) (by lia);lia
def TabK(K:PySem.W.Frag)(a:Addr)(D:List (Str×V)):Prop:=(a == sysModules)=false /\ ∃(o:Obj) (es:Array DictEntry) (ep:Nat),K.lookup a=some o/\o.ExactDict/\o.data = .dict es ep/\KTD.Rows RelV es.toList D
theorem TabK.at{K:PySem.W.Frag}{a:Addr}{D:List (Str×V)}{h:Heap}(T:TabK K a D)(k:K.In h):KTD.TabOf RelV h a D:=by
 obtain⟨h1,o,es,ep,h2,h3,h4,h5⟩:=T;exact⟨h1,o,es,ep,k _ _ h2,h3,h4,h5⟩
section
variable{prog:Program}{w:World}{A:Around}{E:Value->Shared->Prop}{s:Shared}{a:Addr}{D:List (Str×V)}{x:Str}{t:Tok}
theorem qHb(T:KTD.TabOf RelV s.heap a D):s.TypeIs (.ref a) "dict" :=by
 obtain⟨_,o,_,_,ho,hx,_⟩:=T;exact⟨o,ho,hx.1⟩
theorem qL3{Q:Option Value->Shared->Prop}(T:KTD.TabOf RelV s.heap a D)(q1:∀v u,KTD.datumAt x D=some v->RelV v u->Q (some u) { s with toks:=s.toks+1 })(q0:KTD.datumAt x D=none->Q none { s with toks:=s.toks+1 }):wpAny (model prog w) A (dictGet a (.str x t)) Q E s:=by
 obtain⟨_,o,ents,ep,ho,_,hd,rows⟩:=T;have q:Q (findBy (λk v=>v.isStr k) ents x) { s with toks:=s.toks+1 }:=by
  have e:findBy (λk v=>v.isStr k) ents x=(ents.toList.find? λe=>e.key.isStr x).map (·.val):=by cases ents;simp [findBy]
  rw [e];cases c:KTD.datumAt x D with
  | none=>rw [rows.find_none c];exact q0 c
  | some v =>
   obtain⟨u,e1,r⟩:=rows.find_some c;rw [e1];exact q1 v u c r
 unfold dictGet
 try with_reducible refine bK ?_
 refine aA (wpAny_pyHash_str (aA (KTD.kt_dictFind_strs (s :={ s with toks:=s.toks+1 }) ho hd (by cases ents;simpa using rows.exact) ?_)));rw [findBy_of_findIdx?] at q;cases c:ents.findIdx? λe=>e.key.isStr x with
 | some i=>rw [c] at q;exact aA (wpAny_dictEntries (s :={ s with toks:=s.toks+1 }) ho hd (aB q))
 | none=>rw [c] at q;exact aB q
theorem qQh{Q:Value->Shared->Prop}{v:V}(T:KTD.TabOf RelV s.heap a D)(hv:KTD.datumAt x D=some v)(q:∀u,RelV v u->Q u { s with toks:=s.toks+1 }):wpAny (model prog w) A (getItem (.ref a) (.str x t)) Q E s:=by
 have ty:=qHb T;unfold getItem
 try with_reducible refine bK ?_
 refine aA (wpAny_sequenceKey ty (by decide) (aA (cA (name:=Str.ofString "__getitem__") ty slot_dict_getitem
  (cO slot_dict_getitem ty entry_dict_getitem ?_ (args_dict_getitem _ _)))))
 show wpAny _ _ (dictGet a (.str x t) >>= _) _ _ s;refine aA (qL3 T (λv' u c r=>?_) λc=>by rw [hv] at c;cases c);rw [hv] at c;cases c;exact aB ⟨u,rfl,aB (q u r)⟩
theorem qSq{Q:Bool->Shared->Prop}(T:KTD.TabOf RelV s.heap a D)(q:Q (KTD.datumAt x D).isSome { s with toks:=s.toks+1 }):wpAny (model prog w) A (contains (.ref a) (.str x t)) Q E s:=by
 have ty:=qHb T;unfold contains
 try with_reducible refine bK ?_
 refine aA (wpAny_specialOf ty slot_dict_contains.lookup ?_);show wpAny _ _ (if (some (Value.builtin "dict.__contains__") == some Value.none)=true then _ else _) _ E s;rw [if_neg (by rw [beq_builtin_none];exact aQ)]
 refine aA (wpAny_callSpecialUnlessNone?_slot (name:=Str.ofString "__contains__") ty slot_dict_contains (cO slot_dict_contains ty entry_dict_contains ?_
  (args_dict_contains _ _)))
 show wpAny _ _ (dictGet a (.str x t) >>= _) _ _ s;refine aA (qL3 T (λv u c _=>?_) λc=>?_)
 ·rw [c] at q;show wpAny _ _ (ret (.bool true)) _ _ _;exact aB ⟨_,rfl,cD (by first | exact q | exact aB q)⟩
 ·rw [c] at q;exact aA (wpAny_pendingKey_other T.1 (aB ⟨_,rfl,cD (by first | exact q | exact aB q)⟩))
end
section
variable{X:Cx}
def qGl(D:List (Str×V))(x:Str):Bool:=(KTD.datumAt x D).isSome
def qV9(K:PySem.W.Frag)(neg:Bool):R2:=λx y H Q => ∃(k:Str) (a:Addr) (D:List (Str×V)),x = .str k/\y = .ref a/\TabK K a D/\Q (.bl (if neg then !qGl D k else qGl D k)) H
theorem qG1:OpR X (compareOp .NotIn) (qV9 X.K true):=by
 intro pins s σ H x y v u Q I rx ry h;obtain⟨k,a,D,rfl,rfl,T,q⟩:=h;obtain⟨t,rfl⟩:=rx;cases ry;show wpAny _ _ (do return Value.bool (!(<-contains (.ref a) (.str k t)))) _ _ s;exact aA (qSq (T.at I.kIn) (aB ⟨.bl _,H,I.tok _,rfl,q⟩))
def qV8(K:PySem.W.Frag):R2:=λx y H Q => ∃(k:Str) (a:Addr) (D:List (Str×V)) (v:V),x = .ref a/\y = .str k/\TabK K a D/\KTD.datumAt k D=some v/\Q v H
theorem qSj:IxR X (qV8 X.K):=by
 intro value slice pins s σ H x y v u Q I rx ry h hs;obtain⟨k,a,D,z,rfl,rfl,T,hv,q⟩:=h;obtain⟨t,rfl⟩:=ry;cases rx;exact tail_any (qHb (T.at I.kIn)) slot_dict_getitem.lookup (qQh (T.at I.kIn) hv λu r=>⟨z,H,I.tok _,r,q⟩) hs
end
section
variable{P:Program}{w:World}{A:Around}{E:Value->Shared->Prop}{s:Shared}
theorem qM3{l:Addr}{items:Array Value}{ns:List Int}{Q:Value->Shared->Prop}(hh:A.handled=none)(hl:IsTup s.heap l items)(hi:IntsAre items.toList ns)(hb:items.size+1<scanBound)(h:∀(h':Heap) (tk:Nat),SetI w h' s.heap.objs.size (qBd ns)->(∀b o,b<s.heap.objs.size->s.heap.get? b=some o->h'.get? b=some o)->Q (.ref s.heap.objs.size) { s with heap:=h',toks:=tk }):wpAny (model P w) A (call (.type "set") [.ref l]) Q E s:=by
 obtain⟨c,tl,hmro⟩:=cE.mro;have hmade:=cE.made;have hsub:=cE.sub;refine wpAny_call (codeAny_of_tree ?_);show wpAny _ _ (callAny (.type "set") _) _ _ _;refine aB ⟨Code.quiet_builtin _ (by decide +kernel),dQ F.entry_type_call ?_⟩;rw [Around.under_plain (weight_type_call_type "set" [.ref l] []) rfl];have h1:=cE.notType;have h2:=cE.canCreate;have hct:=F.typeCall_set_1 (.ref l)
 repeat (any_goals (first | assumption | wp_step))
 refine dR (qGo (.ref l) (E:=E) (Q₁ :=λobj s₁ =>obj = .ref s.heap.objs.size/\s₁ = { s with heap:=s.heap.push (newS w) }) ⟨rfl,rfl⟩) λr s₁ hr=>?_;cases r with
 | error e=>exact hr
 | ok fl =>
  cases fl with
  | ret obj =>
   obtain⟨rfl,rfl⟩:=hr;have hS:(s.heap.push (newS w)).get? s.heap.objs.size=some (newS w):=aR _ rfl;have hT:Shared.TypeIs { s with heap:=s.heap.push (newS w) } (.ref s.heap.objs.size) "set" :=⟨_,hS,rfl⟩;have hli:=cE.init.lookup;have hbi:=cE.init.bind (.ref s.heap.objs.size)
   repeat (any_goals (first | assumption | wp_step))
   refine dR (codeAny_call_builtin (R:=wants (λr s₂ =>r = .none /\ ∃h' tk,s₂ = { s with heap:=h',toks:=tk }/\SetI w h' s.heap.objs.size (qBd ns)/\(∀b o,b<s.heap.objs.size->s.heap.get? b=some o->h'.get? b=some o)) E) cE.init.plain F.entry_set_init (check_set_init_1 hT ?_)) λr₂ s₂ hr₂=>?_
   ·obtain⟨ol,hol,hcl,nl,hdl⟩:=hl;obtain⟨ocls,odict,odata,oslots⟩:=ol;simp only at hcl hdl;subst hcl;subst hdl;have hol':(s.heap.push (newS w)).get? l=some { cls :=.type "tuple",dict:=odict,data :=.seq items nl,slots:=oslots }:=aF _ hol;have hsls:=F.sub_tuple_set;have hslf:=F.sub_tuple_frozenset;have hne:(Value.type "tuple" == Value.type "dict")=false:=by decide
    have hl1:(s.heap.push (newS w)).IsTuple l items:=⟨_,hol',rfl,nl,rfl⟩;unfold Builtin.«set.__init__» noKeywords Builtin.Frozenset.updateFrom;generalize hPI:pyIter=PI
    wp_walk
    subst hPI;refine wpAny_pyIter_tuple hl1 (aA (wpAny_runValue ?_));have hlS:l<s.heap.objs.size:=aM hol;have hh3:A.in1.in1.in1.handled=none:=hh;have hneI:l≠(s.heap.push (newS w)).objs.size:=by rw [cN];exact bA (Nat.lt_succ_of_lt hlS)
    have hSf:s.heap.objs.size ∉ [(s.heap.push (newS w)).objs.size,l]:=by
     rw [cN];simp only [aN,aL,bH,or_false,not_or];exact⟨bA (Nat.lt_succ_self _),eM hlS⟩
    have hlen:ns.length=items.size:=by rw [<-IntsAre.length hi,bN]
    refine qJf ((Walks.tuple hh3 _ l hneI items).toS) s.heap.objs.size hSf ns hlen (λi v hv=>IntsAre.int_at hi i v (by rw [bS];exact hv)) hb (items.size - 0) 0 _ (by lia) (aW _) ⟨⟨_,aR _ rfl,rfl,rfl⟩,(hl1.push _)⟩ (qP0 (aF _ hS)) ?_;intro s' hm hS';obtain⟨h',g',d',tk',os'⟩:=s';have eg:g'=s.gens:=hm.gens;have ed:d'=s.drawn:=hm.drawn;have eo:os'=s.os:=hm.os;subst eg;subst ed;subst eo;show wpAny _ _ _ _ _ _;refine aB ?_;show wpAny _ _ (ret Value.none) _ _ _;refine aB ⟨rfl,h',tk',rfl,hS',λb o hb e=>?_⟩;refine hm.heap b o (λz=>?_) (aF _ (aF _ e));rcases aN.mp z with z | z
    ·exact bA hb z
    ·have z2:b=(s.heap.push (newS w)).objs.size:=by simpa using z
     rw [cN] at z2;exact bA (Nat.lt_succ_of_lt hb) z2
   ·cases r₂ with
    | error e=>exact hr₂
    | ok fl₂ =>cases fl₂ with
     | ret r=>obtain⟨rfl,h',tk,rfl,hS',hk'⟩:=hr₂;(repeat (any_goals (first | assumption | wp_step)));exact h _ _ hS' hk'
     | _=>exact hr₂.elim
  | _=>exact hr.elim
end
section
variable{X:Cx}
def qT8(w:World)(K:PySem.W.Frag):List V->Hp->VK->Prop:=λxs H Q => ∃(a:Addr) (ns:List Int),xs = [.ref a]/\SqT K H a (ns.map V.int)/\ns.length+1<4096 /\ ∀l,H l=none->Q (.ref l) (upd H l (setO w (qBd ns)))
theorem qPx(hh:X.A.handled=none):CallR X (.type "set") (qT8 X.w X.K):=by
 intro pins s σ H xs us Q I r h;obtain⟨a,ns,rfl,hq,hz,q⟩:=h;obtain⟨u,rfl,ru⟩:=vals1 r;cases ru;obtain⟨its,rv,pl,_⟩:=I.tuple hq;have hl:=rv.length;rw [aC] at hl;refine qM3 hh pl (qH3 rv) (by rw [aH];show its.length+1<4096;lia) λh' tk S' k=>?_;exact⟨.ref s.heap.objs.size,_,I.laid (t':=tk) (λb u e=>k b u (aM e) e) (aD _) (qNb S'),rfl,q _ (I.hok.fresh (aD _))⟩
def rLenS(w:World):List V->Hp->VK->Prop:=λxs H Q => ∃(a:Addr) (ns:List Int),xs = [.ref a]/\H a=some (setO w ns)/\Q (.int ns.length) H
theorem qJn:CallR X (.builtin "len") (rLenS X.w):=by
 intro pins s σ H xs us Q I r h;obtain⟨a,ns,rfl,ha,q⟩:=h;obtain⟨u,rfl,ru⟩:=vals1 r;cases ru;obtain⟨S,_⟩:=id (I.hok a _ ha);obtain⟨o,es,ep,t,ho,hx,hd,_,hp,_,hz,hg⟩:=S;have e:es.size=ns.length:=by rw [<-hp.length_eq,aC,bN]
 have hs:es.size<4096:=hz;refine call_len_set ho hx hd hg.fits (by lia) ⟨.int ns.length,H,I.tok _,⟨_,by rw [e]⟩,q⟩
end
theorem Inv.turnMany{X:Cx}{pins:List (Addr×Obj)}{σ : St}{H:Hp}{s:Shared}{h':Heap}{t':Nat}{ch:List Addr}(I:Inv X pins σ H s)(k:∀b u,b∉ch->s.heap.get? b=some u->h'.get? b=some u)(hf:∀b∈ch,FpOk X pins H b):Inv X pins σ H { s with heap:=h',toks:=t' }:=by
 have nch:∀b u,H b=some u->b∉ch:=λb u e hb=>by rw [(hf b hb).1] at e;cases e
 refine I.step (g':=s.gens) (d':=s.drawn) (ch:=ch) (λb hb=>?_) (λb u _ _ hc e _=>k b u hc e) (λb u _ _ hc e _=>⟨u.slots,k b u hc e⟩) (λ_ _ _ _ n=>n)
  (λb u hc e=>⟨u,k b u hc e⟩) (λ_ _ e=>e) (λ_ _ _ e=>e) (λb ps e=>⟨#[],by rw [e];simp⟩) (λm hm=>?_) (λb u e=>?_) I.bare
 ·obtain⟨_,a1,_,a3,a4,a5⟩:=hf b hb;exact⟨a3,a1,a4,a5⟩
 ·obtain⟨ob,es,ep,ho,r⟩:=hm;exact⟨ob,es,ep,k _ ob (λhb=>(hf _ hb).2.1 rfl) ho,r⟩
 ·refine (I.hok b u e).stay (λc v hc q=>k c v ?_ q) (λ_ q=>q) λ_ _ q=>q;rcases hc with z | z
  ·rw [z];exact nch b u e
  ·exact nch c _ z
def SqIt(tp:Bool)(h:Heap)(it l:Addr)(k:Nat):Prop:=match tp with | true=>h.IsTupleIter it l k | false=>h.IsListIter it l k
def SqOb(tp:Bool)(h:Heap)(l:Addr)(xs:Array Value):Prop:=match tp with | true=>h.IsTuple l xs | false=>h.IsList l xs
def itO(tp:Bool)(l:Addr):Obj :={ cls :=.type (match tp with | true => "tuple_iterator" | false => "list_iterator"),data :=.fields #[.ref l,.int 0 0] }
theorem SqIt.at{tp:Bool}{h h':Heap}{it l:Addr}{k:Nat}(y:SqIt tp h it l k)(e:∀o,h.get? it=some o->h'.get? it=some o):SqIt tp h' it l k:=by
 cases tp <;> (obtain⟨o,ho,r⟩:=y;exact⟨o,e o ho,r⟩)
theorem SqOb.at{tp:Bool}{h h':Heap}{l:Addr}{xs:Array Value}(y:SqOb tp h l xs)(e:∀o,h.get? l=some o->h'.get? l=some o):SqOb tp h' l xs:=by
 cases tp <;> (obtain⟨o,ho,r⟩:=y;exact⟨o,e o ho,r⟩)
theorem SqIt.ob{tp:Bool}{h:Heap}{it l:Addr}{k:Nat}(y:SqIt tp h it l k):∃o,h.get? it=some o/\o.data = .fields #[.ref l,.int k 0]:=by
 cases tp <;> (obtain⟨o,ho,_,r⟩:=y;exact⟨o,ho,r⟩)
theorem SqOb.ob{tp:Bool}{h:Heap}{l:Addr}{xs:Array Value}(y:SqOb tp h l xs):∃o,h.get? l=some o:=by
 cases tp <;> (obtain⟨o,ho,_⟩:=y;exact⟨o,ho⟩)
theorem SqIt.new(tp:Bool)(h:Heap)(l:Addr):SqIt tp (h.push (itO tp l)) h.objs.size l 0:=by
 cases tp <;> exact⟨_,aR _ rfl,rfl,rfl⟩
section
variable{prog:Program}{w:World}{A:Around}{E:Value->Shared->Prop}{s:Shared}
theorem qPe{tp:Bool}{l:Addr}{xs:Array Value}{Q:Value->Shared->Prop}(y:SqOb tp s.heap l xs)(q:Q (.ref s.heap.objs.size) { s with heap:=s.heap.push (itO tp l) }):wpAny (model prog w) A (pyIter (.ref l)) Q E s:=by
 cases tp
 ·exact dP y q
 ·exact wpAny_pyIter_tuple y q
theorem qOy{tp:Bool}{it l:Addr}{k:Nat}{xs:Array Value}{x:Value}{Q:Value->Shared->Prop}(y:SqIt tp s.heap it l k)(z:SqOb tp s.heap l xs)(hx:xs[k]? = some x)(q:∀h',SqIt tp h' it l (k+1)->Heap.SameBut it s.heap h'->Q x { s with heap:=h' }):wpAny (model prog w) A (Builtin.SmallTypes.nextOf (.ref it)) Q E s:=by
 cases tp
 ·exact wpAny_nextOf_list_item y z hx q
 ·have y:s.heap.IsTupleIter it l k:=y;obtain⟨oi,hoi,hci,hdi⟩:=id y;obtain⟨ot,hot,_,nt,hdt⟩:=(show s.heap.IsTuple l xs from z);unfold Builtin.SmallTypes.nextOf;refine aA (cA (name:=Str.ofString "__next__") y.typeIs dD (cO dD y.typeIs F.entry_tuple_iterator_next ?_ (F.args_tuple_iterator_next_1 _)));refine aA (m:=field (.ref it) 0) (bV hoi hdi (x :=.ref l) rfl ?_);refine (if_neg (show ¬((Value.ref l == Value.none)=true) from aQ)).symm ▸ ?_;refine aA (m:=field (.ref it) 1) (bV hoi hdi (x :=.int k 0) rfl (aA (m:=seqItems? (.ref l)) (cR hot hdt ?_)))
  simp only [cG,hx];refine aA (wpAny_setField hoi hdi (by simp) (aB ⟨x,rfl,aB (q _ ?_ (eV ..))⟩));exact⟨_,Heap.get?_update_self _ hoi (Obj.isFreed_of_fields (Obj.data_mapFields hdi _)),(Obj.cls_mapFields ..).trans hci,by rw [Obj.data_mapFields hdi];simp [rawInt]⟩
theorem qVn{tp:Bool}{it l:Addr}{k:Nat}{xs:Array Value}{Q:Value->Shared->Prop}(hh:A.handled=none)(y:SqIt tp s.heap it l k)(z:SqOb tp s.heap l xs)(hx:xs[k]? = none)
  (q:∀h' e,Heap.ExtBut it s.heap h'->(∃o,h'.get? e=some o/\o.cls = .type "StopIteration")->E (.ref e) { s with heap:=h' }):wpAny (model prog w) A (Builtin.SmallTypes.nextOf (.ref it)) Q E s:=by
 cases tp
 ·exact wpAny_nextOf_list_end hh y z hx q
 ·have y:s.heap.IsTupleIter it l k:=y;obtain⟨oi,hoi,hci,hdi⟩:=id y;obtain⟨ot,hot,_,nt,hdt⟩:=(show s.heap.IsTuple l xs from z);unfold Builtin.SmallTypes.nextOf;refine aA (cA (name:=Str.ofString "__next__") y.typeIs dD (cO dD y.typeIs F.entry_tuple_iterator_next ?_ (F.args_tuple_iterator_next_1 _)));refine aA (m:=field (.ref it) 0) (bV hoi hdi (x :=.ref l) rfl ?_);refine (if_neg (show ¬((Value.ref l == Value.none)=true) from aQ)).symm ▸ ?_;refine aA (m:=field (.ref it) 1) (bV hoi hdi (x :=.int k 0) rfl (aA (m:=seqItems? (.ref l)) (cR hot hdt ?_)))
  simp only [cG,hx];refine aA (dJ (aA (wpAny_setField hoi hdi (by simp) (aA (m:=newExc (.type "StopIteration") []) ?_))));simp only [newExc,newTuple];refine aA (bU (aA (m:=firstArgMember _ _) (wpAny_of_eq (a:=Value.none) (by first | rfl | (simp only [firstArgMember];rfl)) (bU ?_ (by size_fits)))) (by size_fits));simp only [raiseNew];refine aA (wpAny_handled ?_)
  first | rw [show A.in1.handled=none from hh] | rw [hh]
  exact aA (aB (wpAny_throw (q _ _ (((eV ..).extBut.push _).push _) ⟨_,aR _ rfl,rfl⟩)))
theorem qMp{tp tq:Bool}{zz TI TO i1 i2 l1 l2:Addr}{j k:Nat}{xs ys:Array Value}{x y p q:Value}{Q:Value->Shared->Prop}(D:ZipApart zz TI TO i1 i2 l1 l2)(hz:IsZip s.heap zz TI TO .none)(hI:IsPair s.heap TI (.ref i1) (.ref i2))(hO:IsPair s.heap TO p q)(y1:SqIt tp s.heap i1 l1 j)(y2:SqIt tq s.heap i2 l2 k)(o1:SqOb tp s.heap l1 xs)(o2:SqOb tq s.heap l2 ys)(hx:xs[j]? = some x)(hy:ys[k]? = some y)(hQ:∀h',IsZip h' zz TI TO (rawInt s.heap.objs.size)->IsPair h' TO x y->SqIt tp h' i1 l1 (j+1)->SqIt tq h' i2 l2 (k+1)->IsPair h' s.heap.objs.size x y->h'.objs.size=s.heap.objs.size+1 ->
   (∀c o,c≠zz->c≠TO->c≠i1->c≠i2->s.heap.get? c=some o->h'.get? c=some o)->Q (.ref s.heap.objs.size) { s with heap:=h' }):wpAny (model prog w) A (Builtin.«zip.__next__» ⟨[.ref zz],[]⟩) (λfin s' => ∃v,fin = .done (.ret v)/\Q v s') E s:=by
 refine aA (m:=field (.ref zz) 2) (bV hz rfl (x :=.bool false) rfl ?_);refine aA (m:=field (.ref zz) 3) (bV hz rfl (x :=.ref TI) rfl (aA (cR hI rfl (aA (m:=Builtin.SmallTypes.ownedTupleIsFree (.ref zz)) ?_))));unfold Builtin.SmallTypes.ownedTupleIsFree;refine aA (bV hz rfl (x :=.none) rfl (aB ?_));simp only [if_true];refine aA (dJ (aA (bV hz rfl (x :=.ref TO) rfl (aA (eL hz (by simp) λha za ka=>aA ?_)))));replace za:IsZip ha zz TI TO .ellipsis:=za;simp only [List.zipIdx_cons,List.zipIdx_nil,List.forIn_cons,List.forIn_nil];refine aA (aA (wpAny_onRaise (aA (m:=Builtin.SmallTypes.nextOf (.ref i1)) (qOy (y1.at λo e=>ka.extBut _ o D.i1z e) (o1.at λo e=>ka.extBut _ o D.l1z e) hx λhb yb kb=>aB ?_))))
 have Ob:IsPair hb TO p q:=kb.extBut _ _ D.TOi1 (ka.extBut _ _ D.TOz hO);refine aA (cR Ob rfl (aA (wpAny_updateSeq_pair Ob λhc Oc kc=>aA (wpAny_letGo (aB ?_)))));replace Oc:IsPair hc TO x q:=Oc;refine aA (aA (wpAny_onRaise (aA (m:=Builtin.SmallTypes.nextOf (.ref i2)) (qOy (y2.at λo e=>kc.extBut _ o D.TOi2.symm (kb.extBut _ o D.i12.symm (ka.extBut _ o D.i2z e))) (o2.at λo e=>kc.extBut _ o D.l2TO (kb.extBut _ o D.l2i1 (ka.extBut _ o D.l2z e))) hy λhd yd kd=>aB ?_))));have Od:IsPair hd TO x q:=kd.extBut _ _ D.TOi2 Oc;refine aA (cR Od rfl (aA (wpAny_updateSeq_pair Od λhe Oe ke=>aA (wpAny_letGo (aB (aB ?_))))))
 replace Oe:IsPair he TO x y:=Oe;refine aA (cR Oe rfl (aA (wpAny_newTuple ?_)));have sz:he.objs.size=s.heap.objs.size:=by rw [ke.1,kd.1,kc.1,kb.1,ka.1]
 have ze:IsZip he zz TI TO .ellipsis:=ke.extBut _ _ D.TOz.symm (kd.extBut _ _ D.i2z.symm (kc.extBut _ _ D.TOz.symm (kb.extBut _ _ D.i1z.symm za)));have kk:∀c o,c≠zz->c≠TO->c≠i1->c≠i2->s.heap.get? c=some o->he.get? c=some o:=λc o c1 c2 c3 c4 e=>ke.extBut _ _ c2 (kd.extBut _ _ c4 (kc.extBut _ _ c2 (kb.extBut _ _ c3 (ka.extBut _ _ c1 e))));have ye1:SqIt tp he i1 l1 (j+1):=yb.at λo e=>ke.extBut _ o D.TOi1.symm (kd.extBut _ o D.i12 (kc.extBut _ o D.TOi1.symm e));have ye2:SqIt tq he i2 l2 (k+1):=yd.at λo e=>ke.extBut _ o D.TOi2.symm e;have zlt:zz<he.objs.size:=aM ze;refine aA (m:=Builtin.SmallTypes.ownedTupleHandOut (.ref zz) (.ref he.objs.size)) ?_;unfold Builtin.SmallTypes.ownedTupleHandOut
 have zf:IsZip (he.push { cls :=.type "tuple",data :=.seq #[x,y] }) zz TI TO .ellipsis:=aF _ ze;refine aA (eL zf (by simp) λhg zg kg=>?_);replace zg:IsZip hg zz TI TO (rawInt he.objs.size):=zg;refine eL zg (by simp) λhi zi ki=>?_;replace zi:IsZip hi zz TI TO (rawInt he.objs.size):=zi;have up:∀c o,c≠zz->he.get? c=some o->hi.get? c=some o:=λc o c1 e=>ki.extBut _ _ c1 (kg.extBut _ _ c1 (aF _ e));have Ti:IsPair hi he.objs.size x y:=ki.extBut _ _ (eM zlt) (kg.extBut _ _ (eM zlt) (aR _ rfl));have si:hi.objs.size=he.objs.size+1:=by rw [ki.1,kg.1,cN]
 rw [sz] at zi Ti si;refine aB ⟨_,rfl,(show Q (.ref he.objs.size) _ from ?_)⟩;rw [sz];exact hQ hi zi (up _ _ D.TOz Oe) (ye1.at λo e=>up _ o D.i1z e) (ye2.at λo e=>up _ o D.i2z e) Ti si λc o c1 c2 c3 c4 e=>up c o c1 (kk c o c1 c2 c3 c4 e)
theorem qQb{tp tq:Bool}{zz TI TO i1 i2 l1 l2:Addr}{j k:Nat}{xs ys:Array Value}{p q:Value}{Q:Fin->Shared->Prop}(hh:A.handled=none)(D:ZipApart zz TI TO i1 i2 l1 l2)(hz:IsZip s.heap zz TI TO .none)(hI:IsPair s.heap TI (.ref i1) (.ref i2))(hO:IsPair s.heap TO p q)(y1:SqIt tp s.heap i1 l1 j)(y2:SqIt tq s.heap i2 l2 k)(o1:SqOb tp s.heap l1 xs)(o2:SqOb tq s.heap l2 ys)(hend:xs[j]? = none)
  (hE:∀h' e,(∀c o,c≠zz->c≠TO->c≠i1->c≠i2->s.heap.get? c=some o->h'.get? c=some o)->(∃o,h'.get? e=some o/\o.cls = .type "StopIteration")->E (.ref e) { s with heap:=h' }):wpAny (model prog w) A (Builtin.«zip.__next__» ⟨[.ref zz],[]⟩) Q E s:=by
 refine aA (m:=field (.ref zz) 2) (bV hz rfl (x :=.bool false) rfl ?_);refine aA (m:=field (.ref zz) 3) (bV hz rfl (x :=.ref TI) rfl (aA (cR hI rfl (aA (m:=Builtin.SmallTypes.ownedTupleIsFree (.ref zz)) ?_))));unfold Builtin.SmallTypes.ownedTupleIsFree;refine aA (bV hz rfl (x :=.none) rfl (aB ?_));simp only [if_true];refine aA (dJ (aA (bV hz rfl (x :=.ref TO) rfl (aA (eL hz (by simp) λha za ka=>aA ?_)))));replace za:IsZip ha zz TI TO .ellipsis:=za;simp only [List.zipIdx_cons,List.zipIdx_nil,List.forIn_cons,List.forIn_nil];refine aA (aA (wpAny_onRaise (aA (m:=Builtin.SmallTypes.nextOf (.ref i1)) (qVn hh (y1.at λo e=>ka.extBut _ o D.i1z e) (o1.at λo e=>ka.extBut _ o D.l1z e) hend λhb e kb he=>?_))))
 obtain⟨oe,hoe,hce⟩:=he;have zb:IsZip hb zz TI TO .ellipsis:=kb _ _ D.i1z.symm za;have ne:e≠zz:=λx=>by subst x;rw [zb] at hoe;cases hoe;simp at hce
 exact eL zb (by simp) λhc _ kc=>hE hc e (λc o c1 _ c3 _ x=>kc.extBut _ _ c1 (kb _ _ c3 (ka.extBut _ _ c1 x))) ⟨oe,kc.extBut _ _ ne hoe,hce⟩
theorem qMo{tp tq:Bool}{zz TI TO i1 i2 l1 l2:Addr}{j k:Nat}{xs ys:Array Value}{x y p q:Value}{Q:Option Value->Shared->Prop}(D:ZipApart zz TI TO i1 i2 l1 l2)(hz:IsZip s.heap zz TI TO .none)(hI:IsPair s.heap TI (.ref i1) (.ref i2))(hO:IsPair s.heap TO p q)(y1:SqIt tp s.heap i1 l1 j)(y2:SqIt tq s.heap i2 l2 k)(o1:SqOb tp s.heap l1 xs)(o2:SqOb tq s.heap l2 ys)(hx:xs[j]? = some x)(hy:ys[k]? = some y)(hQ:∀h',IsZip h' zz TI TO (rawInt s.heap.objs.size)->IsPair h' TO x y->SqIt tp h' i1 l1 (j+1)->SqIt tq h' i2 l2 (k+1)->IsPair h' s.heap.objs.size x y->h'.objs.size=s.heap.objs.size+1 ->
   (∀c o,c≠zz->c≠TO->c≠i1->c≠i2->s.heap.get? c=some o->h'.get? c=some o)->Q (some (.ref s.heap.objs.size)) { s with heap:=h' }):wpAny (model prog w) A (pyNext (.ref zz)) Q E s:=by
 have ty:s.TypeIs (.ref zz) "zip" :=⟨_,hz,rfl⟩;unfold pyNext;refine aA (wpAny_attempt (cA (name:=Str.ofString "__next__") ty F.slot_zip_next (cO F.slot_zip_next ty F.entry_zip_next ?_ (F.args_zip_next_1 _))));exact qMp D hz hI hO y1 y2 o1 o2 hx hy λh' a1 a2 a3 a4 a5 a6 a7=>aB (hQ h' a1 a2 a3 a4 a5 a6 a7)
theorem qMn{tp tq:Bool}{zz TI TO i1 i2 l1 l2:Addr}{j k:Nat}{xs ys:Array Value}{p q:Value}{Q:Option Value->Shared->Prop}(hh:A.handled=none)(D:ZipApart zz TI TO i1 i2 l1 l2)(hz:IsZip s.heap zz TI TO .none)(hI:IsPair s.heap TI (.ref i1) (.ref i2))(hO:IsPair s.heap TO p q)(y1:SqIt tp s.heap i1 l1 j)(y2:SqIt tq s.heap i2 l2 k)(o1:SqOb tp s.heap l1 xs)(o2:SqOb tq s.heap l2 ys)(hend:xs[j]? = none)(hQ:∀h',(∀c o,c≠zz->c≠TO->c≠i1->c≠i2->s.heap.get? c=some o->h'.get? c=some o)->Q none { s with heap:=h' }):wpAny (model prog w) A (pyNext (.ref zz)) Q E s:=by
 have ty:s.TypeIs (.ref zz) "zip" :=⟨_,hz,rfl⟩;unfold pyNext;refine aA (wpAny_attempt (cA (name:=Str.ofString "__next__") ty F.slot_zip_next (cO F.slot_zip_next ty F.entry_zip_next ?_ (F.args_zip_next_1 _))));refine qQb hh D hz hI hO y1 y2 o1 o2 hend λh' e kk hq_=>?_;obtain⟨o,ho,hc⟩:=hq_;exact aA (wpAny_isInstance (T := "StopIteration") (b:=true) ⟨o,ho,hc⟩ isSubtype_stop (aB (hQ _ kk)))
end
abbrev zg1(tp:Bool)(h:Heap)(l1:Addr):Heap:=h.push (itO tp l1)
abbrev zg2(tp tq:Bool)(h:Heap)(l1 l2:Addr):Heap:=(zg1 tp h l1).push (itO tq l2)
abbrev zg3(tp tq:Bool)(h:Heap)(l1 l2:Addr):Heap:=(zg2 tp tq h l1 l2).push { cls :=.type "tuple",data :=.seq #[.ref h.objs.size,.ref (zg1 tp h l1).objs.size] }
abbrev zg4(tp tq:Bool)(h:Heap)(l1 l2:Addr):Heap:=(zg3 tp tq h l1 l2).push { cls :=.type "tuple",data :=.seq #[.none,.none] }
abbrev zg5(tp tq:Bool)(h:Heap)(l1 l2:Addr):Heap:=(zg4 tp tq h l1 l2).push { cls :=.type "zip",data :=.fields #[.none,.bool false,.bool false,.ref (zg2 tp tq h l1 l2).objs.size,.ref (zg3 tp tq h l1 l2).objs.size] }
theorem qQa(tp tq:Bool)(l1 l2:Addr)(xs ys:Array Value):Meets (Builtin.«zip.__new__» ⟨[.type "zip",.ref l1,.ref l2],[]⟩) (λ_ R s=>SqOb tp s.heap l1 xs/\SqOb tq s.heap l2 ys/\R (.ok (.ret (.ref (zg4 tp tq s.heap l1 l2).objs.size))) { s with heap:=zg5 tp tq s.heap l1 l2 }) :=
 .of_wp λprog w A R s h=>by
  obtain⟨hp,g,d,tk,os⟩:=s;obtain⟨a1,a2,h⟩:=h;have hsub:=sub_zip;have b1:SqOb tp (Shared.heap ⟨hp,g,d,tk,os⟩) l1 xs:=a1;have b2:SqOb tq (Shared.heap ⟨hp.push (itO tp l1),g,d,tk,os⟩) l2 ys:=a2.at λo e=>aF _ e
  wp_walk using qPe b1,qPe b2
  exact⟨_,rfl,h⟩
def SqV(tp:Bool)(K:PySem.W.Frag)(H:Hp)(a:Addr)(xs:List V):Prop:=match tp with | true=>SqT K H a xs | false=>SqL K H a xs
theorem Inv.sqv{X:Cx}{pins:List (Addr×Obj)}{σ : St}{H:Hp}{s:Shared}{tp:Bool}{a:Addr}{xs:List V}(I:Inv X pins σ H s)(h:SqV tp X.K H a xs):∃its:List Value,Vals xs its/\SqOb tp s.heap a its.toArray:=by
 cases tp
 ·obtain⟨its,r,p,_⟩:=I.list h;exact⟨its,r,p.isList⟩
 ·obtain⟨its,r,p,_⟩:=I.tuple h;exact⟨its,r,p⟩
theorem Inv.sqv_inj{X:Cx}{pins:List (Addr×Obj)}{σ : St}{H:Hp}{s:Shared}{tp:Bool}{a:Addr}{xs ys:List V}(I:Inv X pins σ H s)(h:SqV tp X.K H a xs)(h':SqV tp X.K H a ys):xs=ys:=by
 cases tp
 ·exact I.list_inj h h'
 ·exact I.tuple_inj h h'
section
variable{prog:Program}{w:World}{A:Around}{E:Value->Shared->Prop}{s:Shared}
theorem qPv{tp tq:Bool}{l1 l2:Addr}{xs ys:Array Value}{Q:Value->Shared->Prop}(a1:SqOb tp s.heap l1 xs)(a2:SqOb tq s.heap l2 ys)(q:∀h',IsZip h' (s.heap.objs.size+4) (s.heap.objs.size+2) (s.heap.objs.size+3) .none->IsPair h' (s.heap.objs.size+2) (.ref s.heap.objs.size) (.ref (s.heap.objs.size+1))->IsPair h' (s.heap.objs.size+3) .none .none ->
   SqIt tp h' s.heap.objs.size l1 0->SqIt tq h' (s.heap.objs.size+1) l2 0->(∀c o,s.heap.get? c=some o->h'.get? c=some o)->Q (.ref (s.heap.objs.size+4)) { s with heap:=h' }):wpAny (model prog w) A (call (.type "zip") [.ref l1,.ref l2]) Q E s:=by
 refine callType_new F.called_zip (by decide) (F.typeCall_zip_2 _ _) (F.newCall_zip_2 _ _) (λobj=>F.args_object_init_3 obj _ _) F.entry_zip_new (qQa tp tq l1 l2 xs ys) ⟨a1,a2,?_⟩;have up:∀(h:Heap) (o:Obj) (c:Addr) (u:Obj),h.get? c=some u->(h.push o).get? c=some u:=λh o c u e=>aF _ e;have s1:(zg1 tp s.heap l1).objs.size=s.heap.objs.size+1:=cN ..;have s2:(zg2 tp tq s.heap l1 l2).objs.size=s.heap.objs.size+2:=by rw [cN,s1]
 have s3:(zg3 tp tq s.heap l1 l2).objs.size=s.heap.objs.size+3:=by rw [cN,s2]
 have s4:(zg4 tp tq s.heap l1 l2).objs.size=s.heap.objs.size+4:=by rw [cN,s3]
 have g5:(zg5 tp tq s.heap l1 l2).get? (zg4 tp tq s.heap l1 l2).objs.size=some _:=aR _ rfl;have g4:(zg5 tp tq s.heap l1 l2).get? (zg3 tp tq s.heap l1 l2).objs.size=some _:=up _ _ _ _ (aR _ rfl);have g3:(zg5 tp tq s.heap l1 l2).get? (zg2 tp tq s.heap l1 l2).objs.size=some _:=up _ _ _ _ (up _ _ _ _ (aR _ rfl));have g2:SqIt tq (zg5 tp tq s.heap l1 l2) (zg1 tp s.heap l1).objs.size l2 0:=(SqIt.new tq (zg1 tp s.heap l1) l2).at λo e=>up _ _ _ _ (up _ _ _ _ (up _ _ _ _ e));have g1:SqIt tp (zg5 tp tq s.heap l1 l2) s.heap.objs.size l1 0:=(SqIt.new tp s.heap l1).at λo e=>up _ _ _ _ (up _ _ _ _ (up _ _ _ _ (up _ _ _ _ e)));show _/\_;rw [s2,s3,s4] at g5;rw [s1,s2] at g3
 rw [s3] at g4;rw [s1] at g2;rw [s4];exact⟨⟨_,g5,rfl⟩,q _ g5 g3 g4 g1 g2 λc o x=>up _ _ _ _ (up _ _ _ _ (up _ _ _ _ (up _ _ _ _ (up _ _ _ _ x))))⟩
end
def Itzg(K:PySem.W.Frag)(tp tq:Bool)(a b:Addr):It :=
 ⟨λi H => ∃xs ys x y,SqV tp K H a xs/\SqV tq K H b ys/\xs[i]? = some x/\ys[i]? = some y,
   λi H v H' => ∃p x y,v = .ref p/\H p=none/\(∀us,SqV tp K H a us->us[i]? = some x)/\(∀us,SqV tq K H b us->us[i]? = some y)/\H'=upd H p (.tup [x,y]),
   λi H => ∃xs ys,SqV tp K H a xs/\SqV tq K H b ys/\xs.length<=i⟩
theorem qMz{P:Program}{w:World}{K:PySem.W.Frag}{elts:List Expr}{k:Nat}{pos:Pos}{tp tq:Bool}{z TI TO i1 i2 l1 l2:Addr}(D:ZipApart z TI TO i1 i2 l1 l2):Turn P w K (.Tuple elts k pos) (Itzg K tp tq l1 l2) [z,TI,TO,i1,i2] z (λi h=>IsZip h z TI TO .none/\IsPair h TI (.ref i1) (.ref i2)/\(∃a b,IsPair h TO a b)/\SqIt tp h i1 l1 i/\SqIt tq h i2 l2 i) where
 mem:=by simp
 obj:=λi h st b hb=>by
  obtain⟨hz,hTI,⟨a,c,hTO⟩,y1,y2⟩:=st;obtain⟨o1,e1,d1⟩:=y1.ob;obtain⟨o2,e2,d2⟩:=y2.ob;simp only [aN,bH,or_false] at hb;rcases hb with x | x | x | x | x <;> subst x
  ·exact⟨_,hz,λv q=>by have q:Data.fields _=Data.cell v:=q;cases q⟩
  ·exact⟨_,hTI,λv q=>by have q:Data.seq _ _=Data.cell v:=q;cases q⟩
  ·exact⟨_,hTO,λv q=>by have q:Data.seq _ _=Data.cell v:=q;cases q⟩
  ·exact⟨o1,e1,λv q=>by rw [d1] at q;cases q⟩
  ·exact⟨o2,e2,λv q=>by rw [d2] at q;cases q⟩
 keep:=λi h h' st kk=>by
  obtain⟨hz,hTI,⟨a,c,hTO⟩,h1,h2⟩:=st;exact⟨kk z (by simp) _ hz,kk TI (by simp) _ hTI,⟨a,c,kk TO (by simp) _ hTO⟩,h1.at λo q=>kk i1 (by simp) o q,h2.at λo q=>kk i2 (by simp) o q⟩
 item:=by
  intro X hP hw hK hc i pins s σ H E I hf st hg;subst hP hw hK;obtain⟨xs,ys,x,y,hq1,hq2,hx,hy⟩:=hg;obtain⟨hz,hTI,⟨a,c,hTO⟩,h1,h2⟩:=st;obtain⟨its,rv,p⟩:=I.sqv hq1;obtain⟨its2,rv2,p2⟩:=I.sqv hq2;obtain⟨u,hu,ru⟩:=rv.get hx;obtain⟨u2,hu2,ru2⟩:=rv2.get hy;refine qMo D hz hTI hTO h1 h2 p p2 (x:=u) (y:=u2) (by simpa using hu) (by simpa using hu2) λh' a1 a2 a3 a4 a5 a6 hk=>?_;have hzlt:z<s.heap.objs.size:=aM hz;refine⟨_,rfl,wpAny_letOwnedTupleGo_zip a1 λh3 hz3 hs3=>?_⟩;have hs3:Heap.SameBut z h' h3:=hs3;have I1:Inv X pins σ (upd H s.heap.objs.size (.tup [x,y])) { s with heap:=h3,toks:=s.toks }:=by
   refine I.turnLaid (ch :=[z,TI,TO,i1,i2]) (λb o hb q=>?_) (λb hb=>?_) hf (aD _) ?_
   ·simp only [aN,bH,or_false,not_or] at hb;exact hs3.extBut b o hb.1 (hk b o hb.1 hb.2.2.1 hb.2.2.2.1 hb.2.2.2.2 q)
   ·simp only [aN,bH,or_false] at hb;rcases hb with e | e | e | e | e <;> subst e
    ·exact⟨_,hz3⟩
    ·exact⟨_,hs3.extBut _ _ D.TIz (hk _ _ D.TIz D.TITO D.TIi1 D.TIi2 hTI)⟩
    ·exact⟨_,hs3.extBut _ _ D.TOz a2⟩
    ·obtain⟨o,q,_⟩:=a3.ob;exact⟨o,hs3.extBut _ _ D.i1z q⟩
    ·obtain⟨o,q,_⟩:=a4.ob;exact⟨o,hs3.extBut _ _ D.i2z q⟩
   ·exact⟨by show 2<=sizeLine;decide,[u,u2],.cons ru (.cons ru2 .nil),⟨_,hs3.extBut _ _ (eM hzlt) a5,rfl,_,rfl⟩⟩
  refine⟨.ref s.heap.objs.size,_,I1,rfl,⟨s.heap.objs.size,x,y,rfl,I.fresh,(λus hs=>by rw [I.sqv_inj hs hq1];exact hx),(λus hs=>by rw [I.sqv_inj hs hq2];exact hy),rfl⟩,⟨hz3,hs3.extBut _ _ D.TIz (hk _ _ D.TIz D.TITO D.TIi1 D.TIi2 hTI),⟨_,_,hs3.extBut _ _ D.TOz a2⟩,a3.at λo e=>hs3.extBut _ o D.i1z e,a4.at λo e=>hs3.extBut _ o D.i2z e⟩,λb hb=>?_⟩;have hlt:b<s.heap.objs.size:=by
   simp only [aN,bH,or_false] at hb;rcases hb with e | e | e | e | e <;> subst e
   ·exact hzlt
   ·exact aM hTI
   ·exact aM hTO
   ·obtain⟨o,q,_⟩:=h1.ob;exact aM q
   ·obtain⟨o,q,_⟩:=h2.ob;exact aM q
  rw [qA7 (bA hlt)];exact (hf b hb).1
 done:=by
  intro X hP hw hK hc i pins s σ H E I hf st hg;subst hP hw hK;obtain⟨xs,ys,hq1,hq2,hend⟩:=hg;obtain⟨hz,hTI,⟨a,c,hTO⟩,h1,h2⟩:=st;obtain⟨its,rv,p⟩:=I.sqv hq1;obtain⟨its2,rv2,p2⟩:=I.sqv hq2;have hl1:=rv.length;have hl2:=rv2.length;refine qMn (I.ok.hd hc) D hz hTI hTO h1 h2 p p2 (by simp;lia) λh' hk=>⟨rfl,I.turnMany (t':=s.toks) (ch :=[z,TI,TO,i1,i2]) (λb o hb q=>?_) hf⟩;simp only [aN,bH,or_false,not_or] at hb;exact hk b o hb.1 hb.2.2.1 hb.2.2.2.1 hb.2.2.2.2 q
 self:=λ_ _ _ _ _ st h=>wpAny_pyIter_zip st.1 h
section
variable{X:Cx}{elts:List Expr}{k:Nat}{tpos:Pos}
def iZipg(K:PySem.W.Frag)(tp tq:Bool)(ta:TA):TI:=λσ H R=>ta σ H λvs H1 => ∃a b,vs = [.ref a,.ref b]/\(∃xs,SqV tp K H1 a xs)/\(∃ys,SqV tq K H1 b ys)/\R (Itzg K tp tq a b) H1
theorem qTd(tp tq:Bool){a b:Expr}{ta:TA}{p pos:Pos}(hg:Gl X "zip")(hm:X.mg "zip" = none)(ha:PA X [a,b] ta)(hs:starEach [a,b] X.env=(false,eval a X.env)::starEach [b] X.env:=by rfl)(hs2:∀pos,(backTo pos (starEach [b] X.env)).any (·.1)=false:=by intro _;rfl):PI X (.Tuple elts k tpos) (.Call (.Name "zip" p) [a,b] [] pos) (iZipg X.K tp tq ta):=by
 intro pins s σ H R I h;refine Call_ (qH1 I hg hm boot_zip (cX (thn (ha pos pins s σ H _ I h) λus s1 hq_=>?_) hs (hs2 _)));obtain⟨vs,H1,I1,r1,q1⟩:=hq_;obtain⟨l1,l2,e,⟨xs,hq1⟩,⟨ys,hq2⟩,q⟩:=q1;subst e;obtain⟨u,u2,rfl,ru,ru2⟩:=vals2 r1;cases ru;cases ru2;obtain⟨its,rv,p1⟩:=I1.sqv hq1;obtain⟨its2,rv2,p2⟩:=I1.sqv hq2;have a1:l1<s1.heap.objs.size:=by obtain⟨_,e⟩:=p1.ob;exact aM e
 have a2:l2<s1.heap.objs.size:=by obtain⟨_,e⟩:=p2.ob;exact aM e
 refine qPv p1 p2 λh' hz hTI hTO hi1 hi2 hk=>?_;refine wpAny_pyIter_zip hz ?_;have I2:Inv X pins σ H1 { s1 with heap:=h' }:=I1.kept (t':=s1.toks) hk;refine⟨_,_,_,_,H1,rfl,I2,qMz (zipApart_new a1 a2),⟨hz,hTI,⟨_,_,hTO⟩,hi1,hi2⟩,λc hc=>?_,q⟩;have hge:s1.heap.objs.size<=c:=by
  simp only [aN,bH,or_false] at hc;rcases hc with e | e | e | e | e <;> subst e
  ·exact cC _ _
  ·exact cC _ _
  ·exact cC _ _
  ·exact aD _
  ·exact cC _ _
 exact I1.fpOk hge (I1.hok.fresh hge)
theorem qT1{K:PySem.W.Frag}{tp tq:Bool}{tl:TA}{σ : St}{H:Hp}{R:It->Hp->Prop}(h:tl σ H λvs H1 => ∃a b,vs = [.ref a,.ref b]/\(∃xs,SqV tp K H1 a xs)/\(∃ys,SqV tq K H1 b ys)/\R (Itzg K tp tq a b) H1):iZipg K tp tq tl σ H R:=h
end
theorem qP6{K:PySem.W.Frag}{tp tq:Bool}{a b:Addr}{xs ys:List V}{g:TG}{tt:TT}{B:St->Hp->(St->Hp->Prop)->Prop}{σ : St}{H:Hp}{Q:St->Hp->Prop}(hxy:xs.length=ys.length)(Pv:Nat->St->Hp->Prop)(h0:Pv 0 σ H)(hl:∀i σ H,i<=xs.length->Pv i σ H->SqV tp K H a xs/\SqV tq K H b ys)(hs:∀i x y σ H p (R:St->Hp->Prop),xs[i]? = some x->ys[i]? = some y->Pv i σ H->H p=none->(∀ σ' H',Pv (i+1) σ' H'->R σ' H')->g (.ref p) σ (upd H p (.tup [x,y])) λσ2 H2=>tt σ2 H2 λb H3=>if b=true then B σ2 H3 R else R σ2 H3)(hd:∀ σ H,Pv xs.length σ H->Q σ H):LoopT (Itzg K tp tq a b) g tt B σ H Q:=by
 refine qG3 (n:=xs.length) Pv h0 (λi σ H hi p=>⟨xs,ys,xs[i],ys[i],(hl i σ H (cK hi) p).1,(hl i σ H (cK hi) p).2,by simp [hi],by simp [hxy▸hi]⟩) (λσ H p=>⟨xs,ys,(hl _ σ H (aD _) p).1,(hl _ σ H (aD _) p).2,aD _⟩) (λi σ H R hi p hR x H' y=>?_) hd;obtain⟨r,x1,y1,e,hr,hx,hy,e2⟩:=y;subst e e2;exact hs i x1 y1 σ H r R (hx xs (hl i σ H (cK hi) p).1) (hy ys (hl i σ H (cK hi) p).2) p hr hR
section
variable{K:PySem.W.Frag}{G G':Hp}
theorem Same.rd(h:Same G G'){a:Addr}{u:HO}(e:Rd G a u):Rd G' a u:=by
 rcases e with e | ⟨o,e⟩
 ·exact .inl (h _ _ e)
 ·exact .inr ⟨o,h _ _ e⟩
mutual
theorem DenX.mono(h:Same G G'):∀ {d:PyData} {v:V},DenX K G d v->DenX K G' d v
 | .none,_,e=>by simp only [DenX] at e ⊢;exact e
 | .bool _,_,e=>by simp only [DenX] at e ⊢;exact e
 | .int _,_,e=>by simp only [DenX] at e ⊢;exact e
 | .str _,_,e=>by simp only [DenX] at e ⊢;exact e
 | .list ds,_,e=>by
  simp only [DenX] at e ⊢;obtain⟨a,vs,e1,e2,e3⟩:=e;exact⟨a,vs,e1,h.seq e2,DenXs.mono h e3⟩
 | .tuple ds,_,e=>by
  simp only [DenX] at e ⊢;obtain⟨a,vs,e1,e2,e3⟩:=e;exact⟨a,vs,e1,h.seqT e2,DenXs.mono h e3⟩
 | .dict kvs,_,e=>by
  simp only [DenX] at e ⊢;obtain⟨a,ps,e1,e2,e3⟩:=e;exact⟨a,ps,e1,h.rd e2,DenXk.mono h e3⟩
theorem DenXs.mono(h:Same G G'):∀ {ds:List PyData} {vs:List V},DenXs K G ds vs->DenXs K G' ds vs
 | [],_,e=>by simp only [DenXs] at e ⊢;exact e
 | d::ds,_,e=>by
  simp only [DenXs] at e ⊢;obtain⟨v,r,e1,e2,e3⟩:=e;exact⟨v,r,e1,DenX.mono h e2,DenXs.mono h e3⟩
theorem DenXk.mono(h:Same G G'):∀ {kvs:List (PyData×PyData)} {ps:List (Key×V)},DenXk K G kvs ps->DenXk K G' kvs ps
 | [],_,e=>by simp only [DenXk] at e ⊢;exact e
 | (k,d)::r,_,e=>by
  simp only [DenXk] at e ⊢;obtain⟨kk,v,q,e1,e2,e3,e4⟩:=e;exact⟨kk,v,q,e1,e2,DenX.mono h e3,DenXk.mono h e4⟩
end
theorem DenXs.len:∀ {ds:List PyData} {vs:List V},DenXs K G ds vs->vs.length=ds.length
 | [],_,e=>by simp only [DenXs] at e;rw [e];rfl
 | d::ds,_,e=>by
  simp only [DenXs] at e;obtain⟨v,r,rfl,_,e3⟩:=e;simp [DenXs.len e3]
theorem DenXs.get:∀ {ds:List PyData} {vs:List V} {i:Nat} {v:V},DenXs K G ds vs->vs[i]? = some v -> ∃d,ds[i]? = some d/\DenX K G d v
 | [],_,_,_,e,h=>by simp only [DenXs] at e;subst e;simp at h
 | d::ds,_,0,_,e,h=>by
  simp only [DenXs] at e;obtain⟨v,r,rfl,e2,e3⟩:=e;cases h;exact⟨d,rfl,e2⟩
 | d::ds,_,i+1,_,e,h=>by
  simp only [DenXs] at e;obtain⟨v,r,rfl,e2,e3⟩:=e;obtain⟨d',h1,h2⟩:=DenXs.get (i:=i) e3 (by simpa using h);exact⟨d',by simpa using h1,h2⟩
theorem DenX.tuple{ds:List PyData}{a:Addr}{vs:List V}(h:SqT K G a vs)(t:DenXs K G ds vs):DenX K G (.tuple ds) (.ref a):=by simp only [DenX];exact⟨a,vs,rfl,h,t⟩
theorem DenX.ofList{ds:List PyData}{v:V}(h:DenX K G (.list ds) v):∃a vs,v = .ref a/\SqL K G a vs/\DenXs K G ds vs:=by simpa only [DenX] using h
theorem DenX.ofTuple{ds:List PyData}{v:V}(h:DenX K G (.tuple ds) v):∃a vs,v = .ref a/\SqT K G a vs/\DenXs K G ds vs:=by simpa only [DenX] using h
theorem DenX.ofDict{kvs:List (PyData×PyData)}{v:V}(h:DenX K G (.dict kvs) v):∃a ps,v = .ref a/\Rd G a (.dK ps)/\DenXk K G kvs ps:=by simpa only [DenX] using h
theorem DenX.ofInt{i:Int}{v:V}(h:DenX K G (.int i) v):v = .int i:=by simpa only [DenX] using h
theorem DenX.ofStr{i:Str}{v:V}(h:DenX K G (.str i) v):v = .str i:=by simpa only [DenX] using h
theorem DenX.ofBool{i:Bool}{v:V}(h:DenX K G (.bool i) v):v = .bl i:=by simpa only [DenX] using h
theorem DenX.ofNone{v:V}(h:DenX K G .none v):v = .non:=by simpa only [DenX] using h
theorem DenXs.ofCons{d:PyData}{ds:List PyData}{vs:List V}(h:DenXs K G (d::ds) vs):∃v r,vs=v::r/\DenX K G d v/\DenXs K G ds r:=by simpa only [DenXs] using h
theorem DenXs.ofNil{vs:List V}(h:DenXs K G [] vs):vs = []:=by simpa only [DenXs] using h
end
def kindN:PyData->String
 | .none => "NoneType" | .bool _ => "bool" | .int _ => "int" | .str _ => "str" | .list _ => "list" | .tuple _ => "tuple" | .dict _ => "dict"
def qAr(d:PyData)(n:String):Bool:=kindN d == n||(kindN d == "bool" && n == "int")
def qJ9:List String :=["int","bool","str","list","tuple","dict"]
theorem qHx(K:PySem.W.Frag)(d:PyData):∀n∈qJ9,PySem.W.kitOne K (.type (kindN d)) (.type n)=some (qAr d n):=by
 intro n hn;simp only [qJ9,aN,bH,or_false] at hn;cases d <;> rcases hn with rfl | rfl | rfl | rfl | rfl | rfl <;> rfl
section
variable{X:Cx}{pins:List (Addr×Obj)}{σ : St}{H:Hp}{s:Shared}{A:Around}{E:Value->Shared->Prop}
theorem qVr(I:Inv X pins σ H s){d:PyData}{x:V}{u:Value}(h:DenX X.K H d x)(rx:RelV x u):∃p:Heap->Prop,PySem.W.KitX X.K u (.type (kindN d)) p/\p s.heap/\u ≠ .builtin "__main__.__loader__#opaque" :=by
 cases d with
 | none=>cases h.ofNone;cases rx;exact⟨_,PySem.W.kitx_none,True.intro,λz=>nomatch z⟩
 | bool b=>cases h.ofBool;cases rx;exact⟨_,PySem.W.kitx_bool,True.intro,λz=>nomatch z⟩
 | int i=>cases h.ofInt;obtain⟨t,rfl⟩:=rx;exact⟨_,PySem.W.kitx_int,True.intro,λz=>nomatch z⟩
 | str i=>cases h.ofStr;obtain⟨t,rfl⟩:=rx;exact⟨_,PySem.W.kitx_str,True.intro,λz=>nomatch z⟩
 | list ds =>
  obtain⟨a,vs,rfl,hs,_⟩:=h.ofList;cases rx;obtain⟨its,rv,pl,_⟩:=I.list hs;obtain⟨o,h1,h2,_⟩:=pl.isList;exact⟨_,PySem.W.kitx_list,⟨o,h1,h2⟩,λz=>nomatch z⟩
 | tuple ds =>
  obtain⟨a,vs,rfl,hs,_⟩:=h.ofTuple;cases rx;obtain⟨its,rv,pl,_⟩:=I.tuple hs;obtain⟨o,h1,h2,_⟩:=id pl;exact⟨_,PySem.W.kitx_tuple,⟨o,h1,h2⟩,λz=>nomatch z⟩
 | dict kvs =>
  obtain⟨a,ps,rfl,hs,_⟩:=h.ofDict;cases rx;obtain⟨_,hd,vs,_,o,es,ep,h1,h2,_⟩:=qI1 I.hok hs;exact⟨_,PySem.W.kitx_dict,⟨o,h1,h2.1⟩,λz=>nomatch z⟩
end
section
variable{X:Cx}
def rIsA(K:PySem.W.Frag):List V->Hp->VK->Prop:=λxs H Q => ∃(x:V) (d:PyData) (n:String),xs = [x,.ty n]/\DenX K H d x/\n∈qJ9/\Q (.bl (qAr d n)) H
theorem qAq:CallR X (.builtin "isinstance") (rIsA X.K):=by
 intro pins s σ H xs us Q I r h;obtain⟨x,d,n,rfl,hd,hn,q⟩:=h;obtain⟨u,u2,rfl,ru,ru2⟩:=vals2 r;cases (show u2=Value.type n from ru2);obtain⟨p,kx,hp,hu⟩:=qVr I hd ru;exact PySem.W.kia_one kx I.kIn hp (qHx X.K d n hn) hu λtk=>⟨.bl _,H,I.tok _,rfl,q⟩
def rIsA2(K:PySem.W.Frag):List V->Hp->VK->Prop:=λxs H Q => ∃(x:V) (d:PyData) (p:Addr) (n m:String),xs = [x,.ref p]/\DenX K H d x/\SqT K H p [.ty n,.ty m]/\n∈qJ9/\m∈qJ9/\Q (.bl (qAr d n||qAr d m)) H
theorem qJo:CallR X (.builtin "isinstance") (rIsA2 X.K):=by
 intro pins s σ H xs us Q I r h;obtain⟨x,d,p,n,m,rfl,hd,hT,hn,hm,q⟩:=h;obtain⟨u,u2,rfl,ru,ru2⟩:=vals2 r;cases ru2;obtain⟨pp,kx,hp,hu⟩:=qVr I hd ru;obtain⟨its,rv,pl,_⟩:=I.tuple hT;obtain⟨u3,u4,rfl,r3,r4⟩:=vals2 rv;cases (show u3=Value.type n from r3);cases (show u4=Value.type m from r4);obtain⟨⟨c,dd,dt,sl⟩,h1,h2,k,h3⟩:=pl;simp only at h2 h3;subst h2 h3;refine PySem.W.kia_tup kx I.kIn hp h1 (b:=qAr d n||qAr d m) ?_ hu λtk=>⟨.bl _,H,I.tok _,rfl,q⟩;unfold PySem.W.kitAny PySem.W.kitAny PySem.W.kitAny;rw [qHx X.K d n hn,qHx X.K d m hm];cases qAr d n <;> cases qAr d m <;> rfl
end
def TupK(K:PySem.W.Frag)(a:Addr)(xs:List V):Prop := ∃(o:Obj) (its:Array Value) (n:Nat),K.lookup a=some o/\o.cls = .type "tuple" /\ o.data = .seq its n/\its.size<=sizeLine/\Vals xs its.toList
theorem TupK.sq{K:PySem.W.Frag}{H:Hp}{a:Addr}{xs:List V}(h:TupK K a xs):SqT K H a xs :=.inr h
def Parts(K:PySem.W.Frag)(dp:Addr):Prop := ∃b1 b2 b3 b4 b5 b6:Addr,TabK K dp [("set",.ref b1),("add",.ref b2),("tell",.ref b3),("call",.ref b4),("save",.ref b5),("back",.ref b6)] /\
 TupK K b1 [.str "box",.str "number"]/\TupK K b2 [.str "box",.str "box"]/\TupK K b3 [.str "box"]/\TupK K b4 [.str "work"]/\TupK K b5 [.str "box"]/\TupK K b6 [.str "box"]
def Blocks(K:PySem.W.Frag)(eb:Addr):Prop:=TabK K eb [("out",.int 0),("go",.int 1),("fork",.int 2)]
def qMv:Deed->Str
 | .set _ _ => "set" | .add _ _ => "add" | .tell _ => "tell" | .call _ => "call" | .save _ => "save" | .back _ => "back"
def qSf:Deed->List Int
 | .set b n =>[b,n] | .add b o =>[b,o] | .tell b =>[b] | .call c =>[c] | .save b =>[b] | .back b =>[b]
theorem qLs(d:Deed):deedD d = .tuple (.str (qMv d)::(qSf d).map .int):=by cases d <;> rfl
def endW:List Int->Str
 | [] => "out" | [_] => "go" | _ => "fork"
theorem qUc{ns:List Int}(h:ns.length<=2):endD ns = .tuple (.str (endW ns)::ns.map .int):=by
 match ns,h with
 | [],_=>rfl
 | [x],_=>rfl
 | [x,y],_=>rfl
theorem Led.reach{w:List Blk}(h:Led w):∀(j:Nat),j<w.length->Reach (nxt w) 0 (j:Int):=by
 intro j
 induction j using Nat.strongRecOn with
 | _ j ih =>
  intro hj;by_cases c:j=0
  ·subst c;exact .refl
  ·obtain⟨i,ns,hi,hn,hm⟩:=h j (by lia) (by rw [aC];exact hj);rw [aX] at hn;cases z:w[i]? with
   | none=>rw [z] at hn;cases hn
   | some b =>
    rw [z] at hn;cases hn;exact .step (ih i hi (aE.mp z).1) (by rw [qOx z];exact hm)
theorem qWe{ta tb:TE}{σ : St}{H:Hp}{Q:VK}(h:ta σ H λx H1 => ∃c,x = .bl c/\if c=true then Q (.bl true) H1 else tb σ H1 Q):tOrV ta tb σ H Q:=h
theorem qW5(v:V)(xs:List V):cutV (v::xs) (some 1) none=xs:=by
 unfold cutV HT.sIx;simp
theorem qGw(v:V)(xs:List V) : ¬(HT.sIx (v::xs).length 0 (some 1)=0/\HT.sIx (v::xs).length (v::xs).length none=(v::xs).length):=by
 unfold HT.sIx;simp
theorem qEx{K:PySem.W.Frag}{H:Hp}{Q:VK}{a:Addr}{v:V}{xs:List V}(h:SqT K H a (v::xs))(q:∀p,H p=none->Q (.ref p) (upd H p (.tup xs))):rSlT K (.ref a) (some 1) none H Q:=⟨a,_,rfl,h,qGw v xs,λp hp=>by rw [qW5];exact q p hp⟩
theorem qDf{K:PySem.W.Frag}{H:Hp}{Q:VK}{a:Addr}{v:V}{xs:List V}(h:SqT K H a (v::xs))(q:Q v H):rIxT K (.ref a) (.int 0) H Q:=qGf h (qAw (j:=0) rfl) q
theorem qE9{K:PySem.W.Frag}{H:Hp}{p:Addr}{xs:List V}{Q:List V->Prop}(h:SqT K H p xs)(q:Q xs):∃p' ys,[V.ref p] = [.ref p']/\(SqL K H p' ys\/SqT K H p' ys)/\Q ys:=⟨p,xs,rfl,.inr h,q⟩
mutual
def qBl:PyData->Bool
 | .list ds=>decide (ds.length<=900)&&qBg ds
 | .tuple ds=>decide (ds.length<=900)&&qBg ds
 | .none=>true
 | .bool _=>true
 | .int _=>true
 | .str _=>true
 | .dict _=>true
def qBg:List PyData->Bool
 | []=>true
 | d::ds=>qBl d&&qBg ds
end
theorem qD8:∀ {ds:List PyData} {d:PyData},qBg ds=true->d∈ds->qBl d=true
 | x::ds,d,h,hm=>by
  have h:(qBl x&&qBg ds)=true:=by simpa only [qBg] using h
  rw [aI] at h;rcases aN.mp hm with rfl | hm
  ·exact h.1
  ·exact qD8 h.2 hm
theorem qC1{ds:List PyData}(h:qBl (.list ds)=true):ds.length<=900 /\ ∀d∈ds,qBl d=true:=by
 have h:(decide (ds.length<=900)&&qBg ds)=true:=by simpa only [qBl] using h
 rw [aI,decide_eq_true_eq] at h;exact⟨h.1,λd hd=>qD8 h.2 hd⟩
theorem qCr{ds:List PyData}(h:qBl (.tuple ds)=true):ds.length<=900 /\ ∀d∈ds,qBl d=true:=by
 have h:(decide (ds.length<=900)&&qBg ds)=true:=by simpa only [qBl] using h
 rw [aI,decide_eq_true_eq] at h;exact⟨h.1,λd hd=>qD8 h.2 hd⟩
def qEd:PyData->Bool
 | .int _=>true
 | _=>false
def fromD(lo hi:Int):PyData->Bool
 | .int n=>decide (lo<=n)&&decide (n<hi)
 | _=>false
def wordD:PyData->Option (Str×List PyData)
 | .tuple (.str s::r)=>some (s,r)
 | _=>none
def qCe(s:Str):Option (List Str):=if s = "set" then some ["box","number"] else if s = "add" then some ["box","box"] else if s = "tell" then some ["box"] else if s = "call" then some ["work"] else if s = "save" then some ["box"] else if s = "back" then some ["box"] else none
def endN(s:Str):Option Nat:=if s = "out" then some 0 else if s = "go" then some 1 else if s = "fork" then some 2 else none
def partD(works:Int)(k:Str)(d:PyData):Bool:=if k = "box" then fromD 0 8 d else if k = "work" then fromD 0 works d else qEd d
def deedB(works:Int)(d:PyData):Bool:=match wordD d with
 | none=>false
 | some (s,ps)=>match qCe s with
  | none=>false
  | some ks=>decide (ps.length=ks.length)&&(ps.zip ks).all λp=>partD works p.2 p.1
def intD:PyData->Int
 | .int n=>n
 | _=>0
def endB(many:Int)(d:PyData):Bool:=match wordD d with
 | none=>false
 | some (s,ns)=>match endN s with
  | none=>false
  | some n=>decide (ns.length=n)&&ns.all (fromD 1 many)&&decide ((qBd (ns.map intD)).length=ns.length)
def qBh(many works:Int)(d:PyData):Bool:=match d with
 | .tuple [.list ds,e]=>endB many e&&ds.all (deedB works)
 | _=>false
def nsD:PyData->List Int
 | .tuple [_,.tuple (_::ns)]=>ns.map intD
 | _ =>[]
def nxD(bs:List PyData)(i:Int):List Int:=if 0<=i then ((bs[i.toNat]?).map nsD).getD [] else []
open Classical in
noncomputable def workB(works:Int)(d:PyData):Bool:=match d with
 | .list bs => !bs.isEmpty&&bs.all (qBh bs.length works)&&decide (∀j:Nat,j<bs.length->Reach (nxD bs) 0 (j:Int))
 | _=>false
noncomputable def worksB(d:PyData):Bool:=match d with
 | .list ws => !ws.isEmpty&&ws.all (workB ws.length)
 | _=>false
def qFh(K:PySem.W.Frag):Sp:=λvs H Q _ => ∃(x:V) (d:PyData),vs = [x]/\DenX K H d x/\Q (.bl (qEd d)) H
def qE6(K:PySem.W.Frag):Sp:=λvs H Q _ => ∃(x:V) (d:PyData) (lo hi:Int),vs = [x,.int lo,.int hi]/\DenX K H d x/\Q (.bl (fromD lo hi d)) H
def qDm(K:PySem.W.Frag):Sp:=λvs H Q _ => ∃(x:V) (d:PyData),vs = [x]/\DenX K H d x/\Q (.bl (wordD d).isSome) H
def qFu(K:PySem.W.Frag):Sp:=λvs H Q _ => ∃(x:V) (d:PyData) (k:Str) (works:Int),vs = [x,.str k,.int works]/\DenX K H d x/\Q (.bl (partD works k d)) H
def qCz(K:PySem.W.Frag):Sp:=λvs H Q _ => ∃(x:V) (d:PyData) (works:Int),vs = [x,.int works]/\DenX K H d x/\qBl d=true /\ ∀H',Ext [] H H'->Q (.bl (deedB works d)) H'
def qDl(K:PySem.W.Frag):Sp:=λvs H Q _ => ∃(x:V) (d:PyData) (many:Int),vs = [x,.int many]/\DenX K H d x/\qBl d=true /\ ∀H',Ext [] H H'->Q (.bl (endB many d)) H'
def qEk(K:PySem.W.Frag):Sp:=λvs H Q _ => ∃(x:V) (d:PyData) (many works:Int),vs = [x,.int many,.int works]/\DenX K H d x/\qBl d=true /\ ∀H',Ext [] H H'->Q (.bl (qBh many works d)) H'
def qC6(K:PySem.W.Frag):Sp:=λvs H Q _ => ∃(x:V) (d:PyData) (works:Int),vs = [x,.int works]/\DenX K H d x/\qBl d=true/\(∀bs,d = .list bs->bs.length<=20) /\ ∀H',Ext [] H H'->Q (.bl (workB works d)) H'
def qBo(K:PySem.W.Frag):Sp:=λvs H Q _ => ∃(x:V) (d:PyData),vs = [x]/\DenX K H d x/\qBl d=true/\(∀ws w bs,d = .list ws->w∈ws->w = .list bs->bs.length<=20) /\ ∀H',Ext [] H H'->Q (.bl (worksB d)) H'
theorem Parts.atW{K:PySem.W.Frag}{dp:Addr}(h:Parts K dp)(s:Str):∃D,TabK K dp D/\qGl D s=(qCe s).isSome /\ ∀ks,qCe s=some ks -> ∃b,KTD.datumAt s D=some (.ref b)/\TupK K b (ks.map V.str):=by
 obtain⟨b1,b2,b3,b4,b5,b6,T,t1,t2,t3,t4,t5,t6⟩:=h;refine⟨_,T,?_⟩;unfold qCe;by_cases c1:s = "set"
 ·subst c1;exact⟨rfl,λks e=>by cases e;exact⟨b1,rfl,t1⟩⟩
 by_cases c2:s = "add"
 ·subst c2;exact⟨rfl,λks e=>by cases e;exact⟨b2,rfl,t2⟩⟩
 by_cases c3:s = "tell"
 ·subst c3;exact⟨rfl,λks e=>by cases e;exact⟨b3,rfl,t3⟩⟩
 by_cases c4:s = "call"
 ·subst c4;exact⟨rfl,λks e=>by cases e;exact⟨b4,rfl,t4⟩⟩
 by_cases c5:s = "save"
 ·subst c5;exact⟨rfl,λks e=>by cases e;exact⟨b5,rfl,t5⟩⟩
 by_cases c6:s = "back"
 ·subst c6;exact⟨rfl,λks e=>by cases e;exact⟨b6,rfl,t6⟩⟩
 rw [if_neg c1,if_neg c2,if_neg c3,if_neg c4,if_neg c5,if_neg c6];refine⟨?_,λks e=>by cases e⟩;unfold qGl;simp [KTD.datumAt,c1,c2,c3,c4,c5,c6,cV]
theorem Blocks.atW{K:PySem.W.Frag}{eb:Addr}(h:Blocks K eb)(s:Str):∃D,TabK K eb D/\qGl D s=(endN s).isSome /\ ∀n,endN s=some n->KTD.datumAt s D=some (.int n):=by
 refine⟨_,h,?_⟩;unfold endN;by_cases c1:s = "out"
 ·subst c1;exact⟨rfl,λks e=>by cases e;rfl⟩
 by_cases c2:s = "go"
 ·subst c2;exact⟨rfl,λks e=>by cases e;rfl⟩
 by_cases c3:s = "fork"
 ·subst c3;exact⟨rfl,λks e=>by cases e;rfl⟩
 rw [if_neg c1,if_neg c2,if_neg c3];refine⟨?_,λks e=>by cases e⟩;unfold qGl;simp [KTD.datumAt,c1,c2,c3]
theorem qF1(d:PyData):qEd d=(qAr d "int" && !qAr d "bool"):=by cases d <;> rfl
theorem qJd{d:PyData}(h:qEd d=true):∃n,d = .int n:=by cases d <;> first | exact⟨_,rfl⟩ | cases h
theorem qHy{lo hi:Int}{d:PyData}(h:qEd d=false):fromD lo hi d=false:=by cases d <;> first | rfl | cases h
theorem qIe{d:PyData}(h:qAr d "tuple" = false):wordD d=none:=by cases d <;> first | rfl | cases h
theorem qIf(e:PyData)(r:List PyData):(wordD (.tuple (e::r))).isSome=qAr e "str" :=by cases e <;> rfl
theorem qCx{d:PyData}{s:Str}{r:List PyData}(h:wordD d=some (s,r)):d = .tuple (.str s::r):=by
 unfold wordD at h;split at h
 ·cases h;rfl
 ·cases h
theorem qDt{d:PyData}(h:qAr d "tuple" = true):∃ds,d = .tuple ds:=by cases d <;> first | exact⟨_,rfl⟩ | (revert h;decide) | cases h
theorem qCm{d:PyData}(h:qAr d "list" = true):∃ds,d = .list ds:=by cases d <;> first | exact⟨_,rfl⟩ | (revert h;decide) | cases h
theorem qEa{K:PySem.W.Frag}{G:Hp}{Q:VK}{lc:Addr}{bs:List Bool}(h:G lc=some (.lst (bs.map V.bl)))(q:Q (.bl (bs.all id)) G):rAllB K [.ref lc] G Q:=⟨lc,bs,rfl,SqL.of h,q⟩
theorem qKn{K:PySem.W.Frag}{G:Hp}{lo hi:Int}:∀ {ds:List PyData} {vs:List V},DenXs K G ds vs->ds.all (fromD lo hi)=true->vs=(ds.map intD).map V.int
 | [],_,e,_=>e.ofNil
 | d::ds,_,e,h=>by
  obtain⟨v,r,rfl,e2,e3⟩:=e.ofCons;rw [dF,aI] at h;rw [qKn e3 h.2];cases d <;> first | (have e2:=e2.ofInt;subst e2;rfl) | (have h1:=h.1;cases h1)
theorem qEg{m works:Int}{d:PyData}(h:qAr d "tuple" = false):qBh m works d=false:=by cases d <;> first | rfl | cases h
theorem qJp{m works:Int}{ds:List PyData}(h:ds.length≠2):qBh m works (.tuple ds)=false:=by
 match ds,h with
 | [],_=>rfl
 | [a],_=>cases a <;> rfl
 | [a,e],h=>exact absurd rfl h
 | a::b::c::r,_=>cases a <;> rfl
theorem qF8{m works:Int}{a e:PyData}(h:qAr a "list" = false):qBh m works (.tuple [a,e])=false:=by cases a <;> first | rfl | cases h
theorem qHz{lo hi:Int}{d:PyData}(h:fromD lo hi d=true):d = .int (intD d)/\lo<=intD d/\intD d<hi:=by
 cases d with
 | int n =>
  have h:(decide (lo<=n)&&decide (n<hi))=true:=h;rw [aI,decide_eq_true_eq,decide_eq_true_eq] at h;exact⟨rfl,h⟩
 | _=>cases h
theorem qTw{d:PyData}(h:qEd d=true):d = .int (intD d):=by cases d <;> first | rfl | cases h
theorem qR5{works:Int}{k:Str}{d:PyData}(h:partD works k d=true):d = .int (intD d):=by
 unfold partD at h;split at h
 ·exact (qHz h).1
 ·split at h
  ·exact (qHz h).1
  ·exact qTw h
theorem qRs{works:Int}{d:PyData}(h:deedB works d=true):∃dd:Deed,d=deedD dd:=by
 unfold deedB at h;cases hW:wordD d with
 | none=>rw [hW] at h;cases h
 | some pr =>
  obtain⟨wd,ps⟩:=pr;rw [hW] at h;have hd:=qCx hW;subst hd;cases hK:qCe wd with
  | none=>simp only [hK] at h;cases h
  | some ks =>
   simp only [hK] at h;rw [aI,decide_eq_true_eq] at h;obtain⟨hl,ha⟩:=h;have one:∀(j:Nat) (p:PyData) (k:Str),ps[j]? = some p->ks[j]? = some k->p = .int (intD p):=λj p k hp hk=>by
    have hz:(ps.zip ks)[j]? = some (p,k):=by rw [List.getElem?_zip_eq_some];exact⟨hp,hk⟩
    exact qR5 (cT.mp ha _ (aP hz))
   have all2:∀a b:Str,ks = [a,b] -> ∃x y:Int,ps = [.int x,.int y]:=λa b e=>by
    subst e
    match ps,hl with
    | [p,q],_=>exact⟨intD p,intD q,by rw [<-one 0 p a rfl rfl,<-one 1 q b rfl rfl]⟩
   have all1:∀a:Str,ks = [a] -> ∃x:Int,ps = [.int x]:=λa e=>by
    subst e
    match ps,hl with
    | [p],_=>exact⟨intD p,by rw [<-one 0 p a rfl rfl]⟩
   unfold qCe at hK;by_cases c1:wd = "set"
   ·rw [if_pos c1] at hK;cases hK;obtain⟨x,y,rfl⟩:=all2 _ _ rfl;exact⟨.set x y,by rw [c1];rfl⟩
   rw [if_neg c1] at hK;by_cases c2:wd = "add"
   ·rw [if_pos c2] at hK;cases hK;obtain⟨x,y,rfl⟩:=all2 _ _ rfl;exact⟨.add x y,by rw [c2];rfl⟩
   rw [if_neg c2] at hK;by_cases c3:wd = "tell"
   ·rw [if_pos c3] at hK;cases hK;obtain⟨x,rfl⟩:=all1 _ rfl;exact⟨.tell x,by rw [c3];rfl⟩
   rw [if_neg c3] at hK;by_cases c4:wd = "call"
   ·rw [if_pos c4] at hK;cases hK;obtain⟨x,rfl⟩:=all1 _ rfl;exact⟨.call x,by rw [c4];rfl⟩
   rw [if_neg c4] at hK;by_cases c5:wd = "save"
   ·rw [if_pos c5] at hK;cases hK;obtain⟨x,rfl⟩:=all1 _ rfl;exact⟨.save x,by rw [c5];rfl⟩
   rw [if_neg c5] at hK;by_cases c6:wd = "back"
   ·rw [if_pos c6] at hK;cases hK;obtain⟨x,rfl⟩:=all1 _ rfl;exact⟨.back x,by rw [c6];rfl⟩
   rw [if_neg c6] at hK;cases hK
theorem qW1{m:Int}{d:PyData}(h:endB m d=true):∃ns:List Int,d=endD ns/\NsOk m ns:=by
 unfold endB at h;cases hW:wordD d with
 | none=>rw [hW] at h;cases h
 | some pr =>
  obtain⟨wd,ps⟩:=pr;rw [hW] at h;have hd:=qCx hW;subst hd;cases hK:endN wd with
  | none=>simp only [hK] at h;cases h
  | some n =>
   simp only [hK] at h;rw [aI,aI,decide_eq_true_eq,decide_eq_true_eq] at h;obtain⟨⟨hl,ha⟩,hs⟩:=h;have one:∀p∈ps,p = .int (intD p)/\1<=intD p/\intD p<m:=λp hp=>qHz (cT.mp ha p hp);unfold endN at hK;by_cases c1:wd = "out"
   ·rw [if_pos c1] at hK;cases hK
    match ps,hl with
    | [],_=>exact⟨[],by rw [c1];rfl,.inl rfl⟩
   rw [if_neg c1] at hK;by_cases c2:wd = "go"
   ·rw [if_pos c2] at hK;cases hK
    match ps,hl with
    | [p],_ =>
     obtain⟨e,h1,h2⟩:=one p (by simp);exact⟨[intD p],by rw [c2,e];rfl,.inr (.inl ⟨_,rfl,h1,h2⟩)⟩
   rw [if_neg c2] at hK;by_cases c3:wd = "fork"
   ·rw [if_pos c3] at hK;cases hK
    match ps,hl with
    | [p,q],_ =>
     obtain⟨e,h1,h2⟩:=one p (by simp);obtain⟨e',h3,h4⟩:=one q (by simp);refine⟨[intD p,intD q],by rw [c3,e,e'];rfl,.inr (.inr ⟨_,_,rfl,λz=>?_,h1,h2,h3,h4⟩)⟩;have hs:(addN (addN [] (intD p)) (intD q)).length=2:=hs;rw [z] at hs;simp [addN] at hs
   rw [if_neg c3] at hK;cases hK
theorem qJg{works:Int}:∀ {ds:List PyData},ds.all (deedB works)=true -> ∃dd:List Deed,ds=dd.map deedD
 | [],_=>⟨[],rfl⟩
 | d::ds,h=>by
  rw [dF,aI] at h;obtain⟨x,hx⟩:=qRs h.1;obtain⟨xs,hxs⟩:=qJg h.2;exact⟨x::xs,by rw [hx,hxs];rfl⟩
theorem qRx{m works:Int}{d:PyData}(h:qBh m works d=true):∃b:Blk,d=blkD b/\NsOk m b.ns:=by
 unfold qBh at h;split at h
 ·rename_i ds e;rw [aI] at h;obtain⟨ns,he,hn⟩:=qW1 h.1;obtain⟨dd,hd⟩:=qJg h.2;exact⟨⟨dd,ns⟩,by rw [he,hd];rfl,hn⟩
 ·cases h
theorem qF3{m works:Int}:∀ {bs:List PyData},bs.all (qBh m works)=true -> ∃wk:List Blk,bs=wk.map blkD /\ ∀b∈wk,NsOk m b.ns
 | [],_=>⟨[],rfl,by simp⟩
 | d::ds,h=>by
  rw [dF,aI] at h;obtain⟨x,hx,hn⟩:=qRx h.1;obtain⟨xs,hxs,hns⟩:=qF3 h.2
  exact⟨x::xs,by rw [hx,hxs];rfl,λb hb=>by
   rcases aN.mp hb with rfl | hb
   ·exact hn
   ·exact hns b hb⟩
theorem qTx{b:Blk}(h:b.ns.length<=2):nsD (blkD b)=b.ns:=by
 unfold blkD;rw [qUc h];show (b.ns.map PyData.int).map intD=b.ns;rw [List.map_map];exact List.map_id' b.ns
theorem qHt{wk:List Blk}(h:∀b∈wk,b.ns.length<=2):nxD (wk.map blkD)=nxt wk:=by
 funext i
 unfold nxD nxt;split
 ·rw [aX];cases e:wk[i.toNat]? with
  | none=>rfl
  | some b=>simp [qTx (h b (aP e))]
 ·rfl
def bare(wk:List Blk):List Blk:=wk.map λb=>⟨[],b.ns⟩
theorem qDr(wk:List Blk):nxt (bare wk)=nxt wk:=by
 funext i
 unfold nxt bare;split
 ·rw [aX];cases wk[i.toNat]? <;> rfl
 ·rfl
theorem qQ4{wk:List Blk}{works:Int}(h:∀b∈wk,NsOk (wk.length:Int) b.ns):WorkOk (wk.length:Int) works (bare wk):=by
 refine⟨by unfold bare;rw [aC],λb hb=>?_⟩;obtain⟨b',hb',rfl⟩:=bZ.mp hb;exact⟨h b' hb',by simp,by simp⟩
theorem qFv{m works:Int}{w:List Blk}{ks:List Int}(h:WorkOk m works w)(hm:1<=m)(hn:ks.Nodup)(hk:∀x,x∈ks↔Reach (nxt w) 0 x):ks.length=w.length ↔ ∀j:Nat,j<w.length->Reach (nxt w) 0 (j:Int):=by
 have e:=h.len;have hsub:∀x∈ks,x∈(List.range w.length).map λ(i:Nat)=>(i:Int):=λx hx=>by
  have:=Reach.range h ⟨by lia,by lia⟩ ((hk x).mp hx);exact bZ.mpr ⟨x.toNat,dH.mpr (by lia),by lia⟩
 have hrn:((List.range w.length).map λ(i:Nat)=>(i:Int)).Nodup:=by rw [List.nodup_iff_pairwise_ne,List.pairwise_map];exact List.nodup_range.imp λ{a b} z y=>z (by lia)
 constructor
 ·intro hl j hj;refine (hk _).mp (Classical.byContradiction λhnot=>?_);have hmem:(j:Int)∈(List.range w.length).map λ(i:Nat)=>(i:Int):=bZ.mpr ⟨j,dH.mpr hj,rfl⟩;have h1:=qLk hn (l2:=((List.range w.length).map λ(i:Nat)=>(i:Int)).erase (j:Int)) λx hx=>(List.mem_erase_of_ne (show x≠(j:Int) from λz=>hnot (z▸hx))).mpr (hsub x hx);rw [List.length_erase_of_mem hmem,aC,List.length_range] at h1;lia
 ·intro ha;have hp:ks.Perm ((List.range w.length).map λ(i:Nat)=>(i:Int)):=by
   rw [List.perm_ext_iff_of_nodup hn hrn]
   exact λx=>⟨λhx=>hsub x hx,λhx=>by
    obtain⟨i,hi,rfl⟩:=bZ.mp hx
    exact (hk _).mpr (ha i (dH.mp hi))⟩
  rw [hp.length_eq,aC,List.length_range]
mutual
theorem DenX.den{K:PySem.W.Frag}{G:Hp}:∀ {d:PyData} {v:V},d.hasDict=false->DenX K G d v->Den K G d v
 | .none,_,_,e=>by simp only [DenX] at e;simp only [Den];exact e
 | .bool _,_,_,e=>by simp only [DenX] at e;simp only [Den];exact e
 | .int _,_,_,e=>by simp only [DenX] at e;simp only [Den];exact e
 | .str _,_,_,e=>by simp only [DenX] at e;simp only [Den];exact e
 | .list ds,_,h,e=>by
  simp only [DenX] at e;obtain⟨a,vs,e1,e2,e3⟩:=e;simp only [Den];exact⟨a,vs,e1,e2,DenXs.den (by simpa only [PyData.hasDict] using h) e3⟩
 | .tuple ds,_,h,e=>by
  simp only [DenX] at e;obtain⟨a,vs,e1,e2,e3⟩:=e;simp only [Den];exact⟨a,vs,e1,e2,DenXs.den (by simpa only [PyData.hasDict] using h) e3⟩
 | .dict kvs,_,h,_=>by simp [PyData.hasDict] at h
theorem DenXs.den{K:PySem.W.Frag}{G:Hp}:∀ {ds:List PyData} {vs:List V},PyData.hasDictAll ds=false->DenXs K G ds vs->DenL K G ds vs
 | [],_,_,e=>by simp only [DenXs] at e;simp only [DenL];exact e
 | d::ds,_,h,e=>by
  simp only [DenXs] at e;obtain⟨v,r,e1,e2,e3⟩:=e;simp only [DenL];have h:(d.hasDict||PyData.hasDictAll ds)=false:=by simpa only [PyData.hasDictAll] using h
  rw [Bool.or_eq_false_iff] at h;exact⟨v,r,e1,DenX.den h.1 e2,DenXs.den h.2 e3⟩
end
theorem qF0{α : Type}{f : α -> PyData}(h:∀a,(f a).hasDict=false):∀l:List α,PyData.hasDictAll (l.map f)=false
 | []=>rfl
 | a::l=>by
  simp only [bR,PyData.hasDictAll,h a,qF0 h l,Bool.or_self]
theorem qKp(d:Deed):(deedD d).hasDict=false:=by cases d <;> rfl
theorem qMh(ns:List Int):(endD ns).hasDict=false:=by
 match ns with
 | []=>rfl
 | [x]=>rfl
 | x::y::r=>rfl
theorem qJz(wk:List Blk):(workD wk).hasDict=false:=by
 unfold workD;simp only [PyData.hasDict];refine qF0 (λb=>?_) wk;unfold blkD;simp only [PyData.hasDict,PyData.hasDictAll,qF0 qKp,qMh,Bool.or_self]
open Classical in
theorem qH8{works:Int}{bs:List PyData}{c:Prop} [Decidable c] (h1:(!bs.isEmpty)=true)(h2:bs.all (qBh bs.length works)=true)(h:c ↔ ∀j:Nat,j<bs.length->Reach (nxD bs) 0 (j:Int)):workB works (.list bs)=decide c:=by
 unfold workB;simp only [h1,h2,bF];rw [cI,decide_eq_true_iff,decide_eq_true_iff];exact h.symm
section
variable{X:Cx}
def rEqE(K:PySem.W.Frag):R2:=λx y H Q => ∃a b xs,x = .ref a/\y = .ref b/\((SqL K H a xs/\SqL K H b [])\/(SqT K H a xs/\SqT K H b []))/\Q (.bl xs.isEmpty) H
theorem qOh(hu:X.A.units<cLine):OpR X (compareOp .Eq) (rEqE X.K):=by
 intro pins s σ H x y v u Q I rx ry h;obtain⟨a,b,xs,rfl,rfl,hs,q⟩:=h;cases rx;cases ry;rcases hs with ⟨h1,h2⟩ | ⟨h1,h2⟩
 ·obtain⟨its,r,p,_⟩:=I.list h1;obtain⟨its2,r2,p2,_⟩:=I.list h2;cases r2;have hl:=r.length;cases xs with
  | nil =>
   cases r;exact SeqAt.eq_listAt p.isList p2.isList rfl hu (e:=λ_=>true) (λj h1=>absurd h1 (by simp)) ⟨.bl true,H,I,rfl,q⟩
  | cons z zs =>
   exact SeqAt.eq_list_lengthsAt p.isList p2.isList (by rw [aH,<-hl];rfl) hu ⟨.bl false,H,I,rfl,q⟩
 ·obtain⟨its,r,p,_⟩:=I.tuple h1;obtain⟨its2,r2,p2,_⟩:=I.tuple h2;cases r2;have hl:=r.length;refine SeqAt.eq_tupleAt (e:=λ_=>true) p p2 hu (λj _ h2=>absurd h2 (by simp)) ?_;have e:((List.range (min its.toArray.size ([]:List Value).toArray.size)).all (λ_=>true)&&its.toArray.size == ([]:List Value).toArray.size)=xs.isEmpty:=by
   rw [aH,<-hl];cases xs <;> rfl
  rw [e];exact⟨.bl _,H,I,rfl,q⟩
def rNeE(K:PySem.W.Frag):R2:=λx y H Q => ∃a b xs,x = .ref a/\y = .ref b/\SqL K H a xs/\SqL K H b []/\Q (.bl (!xs.isEmpty)) H
theorem qVi(hu:X.A.units<cLine):OpR X (compareOp .NotEq) (rNeE X.K):=by
 intro pins s σ H x y v u Q I rx ry h;obtain⟨a,b,xs,rfl,rfl,h1,h2,q⟩:=h;cases rx;cases ry;obtain⟨its,r,p,_⟩:=I.list h1;obtain⟨its2,r2,p2,_⟩:=I.list h2;cases r2;have hl:=r.length;cases xs with
 | nil =>
  cases r;exact SeqAt.RcNeAt.lists (e:=λ_=>true) p.isList p2.isList rfl hu (λj h1=>absurd h1 (by simp)) _ _ _ _ ⟨.bl false,H,I,rfl,q⟩
 | cons z zs =>
  exact SeqAt.RcNeAt.lists_lengths p.isList p2.isList (by rw [aH,<-hl];rfl) hu _ _ _ _ ⟨.bl true,H,I,rfl,q⟩
end
def qFf(K:PySem.W.Frag):Sp:=λvs H Q _ => ∃(x:V) (d:PyData) (lo hi:Int),vs = [x,.int lo,.int hi]/\DenX K H d x/\Q (.bl (fromD lo (hi+1) d)) H
def tupB(kvs:List (Key×V))(d:PyData):Bool:=match wordD d with
 | none=>false
 | some (s,r)=>decide (((valV kvs (Sum.inr s)).getD (.int 0)) = .int ((r.length:Int)+1))
def qFg(K:PySem.W.Frag):Sp:=λvs H Q _ => ∃(x:V) (d:PyData) (sd:Addr) (kvs:List (Key×V)),vs = [x,.ref sd]/\DenX K H d x/\H sd=some (.dK kvs)/\(∀s v,valV kvs (Sum.inr s)=some v -> ∃n:Int,v = .int n) /\ ∀H',Ext [] H H'->Q (.bl (tupB kvs d)) H'
theorem qR1{X:Cx}{k0 k1 k2:Str}{n0 n1 n2:Int}{j0 l0 j1 l1 j2 l2:Nat}{p0 q0 p1 q1 p2 q2 pos:Pos}:PE X (.Dict [some (.Constant (.str k0) j0 p0),some (.Constant (.str k1) j1 p1),some (.Constant (.str k2) j2 p2)] [.Constant (.int n0) l0 q0,.Constant (.int n1) l1 q1,.Constant (.int n2) l2 q2] pos) (tDisp [(tC (.str k0),tC (.int n0)),(tC (.str k1),tC (.int n1)),(tC (.str k2),tC (.int n2))]):=qKd (qC4 pe_str pe_int (qC4 pe_str pe_int (qC4 pe_str pe_int qKb))) rfl rfl (List.cons_ne_nil _ _) (aG rfl)
theorem qR0{X:Cx}{k0 k1 k2 k3 k4 k5:Str}{n0 n1 n2 n3 n4 n5:Int}{j0 l0 j1 l1 j2 l2 j3 l3 j4 l4 j5 l5:Nat}{p0 q0 p1 q1 p2 q2 p3 q3 p4 q4 p5 q5 pos:Pos}:PE X (.Dict [some (.Constant (.str k0) j0 p0),some (.Constant (.str k1) j1 p1),some (.Constant (.str k2) j2 p2),some (.Constant (.str k3) j3 p3),some (.Constant (.str k4) j4 p4),some (.Constant (.str k5) j5 p5)] [.Constant (.int n0) l0 q0,.Constant (.int n1) l1 q1,.Constant (.int n2) l2 q2,.Constant (.int n3) l3 q3,.Constant (.int n4) l4 q4,.Constant (.int n5) l5 q5] pos) (tDisp [(tC (.str k0),tC (.int n0)),(tC (.str k1),tC (.int n1)),(tC (.str k2),tC (.int n2)),(tC (.str k3),tC (.int n3)),(tC (.str k4),tC (.int n4)),(tC (.str k5),tC (.int n5))]):=qKd (qC4 pe_str pe_int (qC4 pe_str pe_int (qC4 pe_str pe_int (qC4 pe_str pe_int (qC4 pe_str pe_int (qC4 pe_str pe_int qKb)))))) rfl rfl (List.cons_ne_nil _ _) (aG rfl)
theorem qSe{X:Cx}{x n:Str}{k j:Nat}{ps:List Str}{sp:Sp}{keys:List (Option Expr)}{values:List Expr}{ta td:TE}{p pn pd pos:Pos}(h:Has X.prog X.w X.K X.mg X.base x k ps sp)(hr:Room j X.A)(hj:k<=j)(ha:PE X (.Name n pn) ta)(hd:PE X (.Dict keys values pd) td)(hg:Gl X x:=by rfl)
  (hdb:(x == ("__debug__" : Str))=false:=by decide):PE X (.Call (.Name x p) [.Name n pn,.Dict keys values pd] [] pos) (tCall sp [] E0 (tCons ta (tCons td tNil))) :=
 qAd h hr hj (qA0 ha (qA0 hd pa_nil)) hg hdb rfl rfl
def qBx:List (Key×V) :=[(.inr "set",.int 3),(.inr "add",.int 3),(.inr "tell",.int 2),(.inr "call",.int 2),(.inr "save",.int 2),(.inr "back",.int 2)]
def qCs:List (Key×V) :=[(.inr "out",.int 1),(.inr "go",.int 2),(.inr "fork",.int 3)]
theorem qMc:qDb [] qBx=qBx:=by decide
theorem qP5:qDb [] qCs=qCs:=by decide
theorem qHa(s:Str):valV qBx (Sum.inr s)=(qCe s).map λks=>V.int ((ks.length:Int)+1):=by
 unfold qCe;by_cases c1:s = "set"
 ·subst c1;rfl
 by_cases c2:s = "add"
 ·subst c2;rfl
 by_cases c3:s = "tell"
 ·subst c3;rfl
 by_cases c4:s = "call"
 ·subst c4;rfl
 by_cases c5:s = "save"
 ·subst c5;rfl
 by_cases c6:s = "back"
 ·subst c6;rfl
 rw [if_neg c1,if_neg c2,if_neg c3,if_neg c4,if_neg c5,if_neg c6];simp [valV,qBx,cV c1,cV c2,cV c3,cV c4,cV c5,cV c6]
theorem qK0(s:Str):valV qCs (Sum.inr s)=(endN s).map λn=>V.int ((n:Int)+1):=by
 unfold endN;by_cases c1:s = "out"
 ·subst c1;rfl
 by_cases c2:s = "go"
 ·subst c2;rfl
 by_cases c3:s = "fork"
 ·subst c3;rfl
 rw [if_neg c1,if_neg c2,if_neg c3];simp [valV,qCs,cV c1,cV c2,cV c3]
theorem qMi{works:Int}{d:PyData}(h:tupB qBx d=false):deedB works d=false:=by
 unfold tupB at h;unfold deedB;cases hW:wordD d with
 | none=>rfl
 | some pr =>
  obtain⟨s,ps⟩:=pr;rw [hW] at h;simp only at h;rw [qHa] at h;cases hK:qCe s with
  | none=>simp only [hK]
  | some ks =>
   simp only [hK];rw [hK] at h;have h:=of_decide_eq_false h;rw [decide_eq_false (λz=>h (by rw [z];rfl)),bP]
theorem qMj{d:PyData}(h:tupB qBx d=true):∃wd ps,d = .tuple (.str wd::ps)/\((wd = "call" /\ ∃p,ps = [p] /\ ∀works,deedB works d=fromD 0 works p)\/(wd = "set" /\ ∃p q,ps = [p,q] /\ ∀works,deedB works d=(fromD 0 8 p&&qEd q))\/(wd ≠ "call" /\ wd ≠ "set" /\ ps.length<=2 /\ ∀works,deedB works d=ps.all (fromD 0 8))):=by
 unfold tupB at h;cases hW:wordD d with
 | none=>rw [hW] at h;cases h
 | some pr =>
  obtain⟨s,ps⟩:=pr;rw [hW] at h;simp only at h;rw [qHa] at h;refine⟨s,ps,qCx hW,?_⟩;have hB:∀works,deedB works d=match qCe s with
   | none=>false
   | some ks=>decide (ps.length=ks.length)&&(ps.zip ks).all λp=>partD works p.2 p.1:=λworks=>by unfold deedB;rw [hW];first | done | rfl
  cases hK:qCe s with
  | none =>
   rw [hK] at h;have h:=of_decide_eq_true h;exact absurd (V.int.inj h) (by lia)
  | some ks =>
   rw [hK] at h hB;have h:=of_decide_eq_true h;have h:(ks.length:Int)+1=(ps.length:Int)+1:=V.int.inj h;have hl:ps.length=ks.length:=by lia
   have hB:∀works,deedB works d=(ps.zip ks).all λp=>partD works p.2 p.1:=λworks=>by rw [hB works];simp only;rw [decide_eq_true hl,bF]
   unfold qCe at hK;split at hK
   ·cases hK
    match ps,hl with
    | [p,q],_=>exact .inr (.inl ⟨‹_›,p,q,rfl,λworks=>by rw [hB works];exact congrArg (fromD 0 8 p && ·) (eB _)⟩)
   ·rename_i c1;split at hK
    ·cases hK
     match ps,hl with
     | [p,q],_=>exact .inr (.inr ⟨by rw [‹s=_›];decide,c1,by simp,λworks=>by rw [hB works];rfl⟩)
    ·split at hK
     ·cases hK
      match ps,hl with
      | [p],_=>exact .inr (.inr ⟨by rw [‹s=_›];decide,c1,by simp,λworks=>by rw [hB works];rfl⟩)
     ·split at hK
      ·cases hK
       match ps,hl with
       | [p],_=>exact .inl ⟨‹_›,p,rfl,λworks=>by rw [hB works];exact eB _⟩
      ·rename_i c4;split at hK
       ·cases hK
        match ps,hl with
        | [p],_=>exact .inr (.inr ⟨c4,c1,by simp,λworks=>by rw [hB works];rfl⟩)
       ·split at hK
        ·cases hK
         match ps,hl with
         | [p],_=>exact .inr (.inr ⟨c4,c1,by simp,λworks=>by rw [hB works];rfl⟩)
        ·cases hK
theorem qPi{m:Int}{d:PyData}(h:tupB qCs d=false):endB m d=false:=by
 unfold tupB at h;unfold endB;cases hW:wordD d with
 | none=>rfl
 | some pr =>
  obtain⟨s,ps⟩:=pr;rw [hW] at h;simp only at h;rw [qK0] at h;cases hK:endN s with
  | none=>simp only [hK]
  | some n =>
   simp only [hK];rw [hK] at h;have h:=of_decide_eq_false h;rw [decide_eq_false (λz=>h (by rw [z];rfl)),bP,bP]
theorem qUa{s:Str}{n:Nat}(h:endN s=some n):n<=2:=by
 unfold endN at h;split at h
 ·cases h;lia
 ·split at h
  ·cases h;lia
  ·split at h
   ·cases h;lia
   ·cases h
theorem qPj{d:PyData}(h:tupB qCs d=true):∃wd ps,d = .tuple (.str wd::ps)/\ps.length<=2 /\ ∀m,endB m d=(ps.all (fromD 1 m)&&decide ((qBd (ps.map intD)).length=ps.length)):=by
 unfold tupB at h;cases hW:wordD d with
 | none=>rw [hW] at h;cases h
 | some pr =>
  obtain⟨s,ps⟩:=pr;rw [hW] at h;simp only at h;rw [qK0] at h;refine⟨s,ps,qCx hW,?_⟩;cases hK:endN s with
  | none =>
   rw [hK] at h;have h:=of_decide_eq_true h;exact absurd (V.int.inj h) (by lia)
  | some n =>
   rw [hK] at h;have h:=of_decide_eq_true h;have h:(n:Int)+1=(ps.length:Int)+1:=V.int.inj h;have hl:ps.length=n:=by lia
   exact⟨by rw [hl];exact qUa hK,λm=>by unfold endB;rw [hW];simp only [hK];rw [decide_eq_true hl,bF]⟩
theorem qRn(s:Str)(v:V)(h:valV qBx (Sum.inr s)=some v):∃n:Int,v = .int n:=by
 rw [qHa] at h;cases hK:qCe s with
 | none=>rw [hK] at h;cases h
 | some ks=>rw [hK] at h;cases h;exact⟨_,rfl⟩
theorem qU5(s:Str)(v:V)(h:valV qCs (Sum.inr s)=some v):∃n:Int,v = .int n:=by
 rw [qK0] at h;cases hK:endN s with
 | none=>rw [hK] at h;cases h
 | some ks=>rw [hK] at h;cases h;exact⟨_,rfl⟩
theorem qQ6(a b:Int):decide ((qBd [a,b]).length=2) = !decide (a=b):=by
 unfold qBd;by_cases c:a=b
 ·subst c;simp [addN]
 ·simp [addN,c,cV c]
theorem upto2{α : Type _}{xs:List α}(h:xs.length<=2):xs = []\/(∃a,xs = [a]) \/ ∃a b,xs = [a,b]:=by
 match xs,h with
 | [],_=>exact .inl rfl
 | [a],_=>exact .inr (.inl ⟨a,rfl⟩)
 | [a,b],_=>exact .inr (.inr ⟨a,b,rfl⟩)
theorem qW2{K:PySem.W.Frag}{G:Hp}{ns:List Int}{v:V}(h:DenX K G (endD ns) v)(hl:ns.length<=2):∃e wd,v = .ref e/\SqT K G e (.str wd::ns.map V.int):=by
 rcases upto2 hl with rfl | ⟨x,rfl⟩ | ⟨x,y,rfl⟩
 ·obtain⟨e,vs,rfl,hT,hVs⟩:=DenX.ofTuple (show DenX K G (.tuple [.str "out"]) v from h);obtain⟨v0,r,rfl,h0,h1⟩:=hVs.ofCons;have h0:=h0.ofStr;have h1:=h1.ofNil;subst h0 h1;exact⟨e,_,rfl,hT⟩
 ·obtain⟨e,vs,rfl,hT,hVs⟩:=DenX.ofTuple (show DenX K G (.tuple [.str "go",.int x]) v from h);obtain⟨v0,r,rfl,h0,h1⟩:=hVs.ofCons;obtain⟨v1,r1,rfl,h1,h2⟩:=h1.ofCons;have h0:=h0.ofStr;have h1:=h1.ofInt;have h2:=h2.ofNil;subst h0 h1 h2;exact⟨e,_,rfl,hT⟩
 ·obtain⟨e,vs,rfl,hT,hVs⟩:=DenX.ofTuple (show DenX K G (.tuple [.str "fork",.int x,.int y]) v from h);obtain⟨v0,r,rfl,g0,g1⟩:=hVs.ofCons;obtain⟨v1,r1,rfl,g2,g3⟩:=g1.ofCons;obtain⟨v2,r2,rfl,g4,g5⟩:=g3.ofCons;have h0:=g0.ofStr;have h1:=g2.ofInt;have h2:=g4.ofInt;have h3:=g5.ofNil;subst h0 h1 h2 h3;exact⟨e,_,rfl,hT⟩
theorem qW6{K:PySem.W.Frag}{G:Hp}{wk:List Blk}{vs:List V}(h:DenXs K G (wk.map blkD) vs)(hf:∀b∈wk,b.ns.length<=2){y:Int}(y0:0<=y)(y1:y<(wk.length:Int)):∃b v1 e wd,atI vs y=some (.ref b)/\SqT K G b [v1,.ref e]/\SqT K G e (.str wd::(nxt wk y).map V.int):=by
 obtain⟨k,rfl⟩:∃k:Nat,y=(k:Int):=⟨y.toNat,by lia⟩;have hk:k<wk.length:=by lia
 have hlen:=h.len;rw [aC] at hlen;have hv:vs[k]? = some vs[k]:=aJ (by lia);obtain⟨d,hd,hDv⟩:=h.get hv;rw [aX,aJ hk] at hd;cases hd;obtain⟨b,us,e1,hT,hU⟩:=DenX.ofTuple (show DenX K G (.tuple [.list ((wk[k]).ds.map deedD),endD (wk[k]).ns]) vs[k] from hDv);obtain⟨v1,r,rfl,_,h1⟩:=hU.ofCons;obtain⟨v2,r1,rfl,h2,h3⟩:=h1.ofCons;have h3:=h3.ofNil;subst h3;obtain⟨e,wd,rfl,hE⟩:=qW2 h2 (hf _ (cU hk));refine⟨b,v1,e,wd,qAw (by rw [hv,e1]),hT,?_⟩;rw [show nxt wk (k:Int)=(wk[k]).ns by unfold nxt;rw [if_pos (by lia),cG,aJ hk];rfl];exact hE
theorem qGh{α : Type _}{p : α -> Bool}{xs:List α}{x : α}(h:x∈xs)(hx:p x=false):xs.all p=false:=by
 rw [List.all_eq_false];exact⟨x,h,by simp [hx]⟩
theorem qMt{works:Int}{bs:List PyData}{b:PyData}(h:b∈bs)(hb:qBh bs.length works b=false):workB works (.list bs)=false:=by
 unfold workB;simp only [qGh h hb,Bool.and_false,bP]
end L2
namespace L2
open PySem PySem.Spec PyProof.Rows PyProof
section
variable{X:Cx}
def qV5(K:PySem.W.Frag):List V->Hp->VK->Prop:=λxs H Q => ∃(x:V) (d:PyData),xs = [x]/\DenX K H d x/\(d.hasDict=false\/(∃ds,d = .list ds)\/d = .dict [])/\d.showable=true/\d.depth<=100/\d.shown.length<=sizeLine/\Q (.str d.shown) H
theorem qH6{k:Nat}(hr:Room k X.A):CallR X (.builtin "repr") (qV5 X.K):=by
 intro pins s σ H xs us Q I r h;obtain⟨x,d,rfl,hd,hk,h1,h2,h3,q⟩:=h;have hu:=hr.un;cases d with
 | list ds =>
  obtain⟨a,vs,rfl,_,_⟩:=hd.ofList;exact qMk hr _ _ _ _ _ _ _ I r ⟨a,ds,rfl,hd,h1,h2,h3,q⟩
 | tuple ds =>
  obtain⟨a,vs,rfl,_,_⟩:=hd.ofTuple;obtain⟨u,rfl,ru⟩:=vals1 r;cases ru;have hn:(PyData.tuple ds).hasDict=false:=by
   rcases hk with z | ⟨_,z⟩ | z
   ·exact z
   ·cases z
   ·cases z
  obtain⟨⟨as,ra⟩,_⟩:=DenX.reads I hd (show RelV (.ref a) (Value.ref a) from rfl);exact repr_of_reads' ra h1 (λz=>by rw [hn] at z;cases z) hr.gd (by lia) (λ_ _ e=>e) (λh' u tk kk=>⟨.str _,H,I.kept (t':=tk) kk,⟨_,rfl⟩,q⟩) h3
 | none =>
  have hx:=hd.ofNone;subst hx;obtain⟨u,rfl,ru⟩:=vals1 r;cases ru;exact P.repr_of_none ⟨.str _,H,I.kept (t':=_) λ_ _ e=>e,⟨_,rfl⟩,by simpa only [PyData.shown] using q⟩
 | bool b =>
  have hx:=hd.ofBool;subst hx;obtain⟨u,rfl,ru⟩:=vals1 r;cases ru;exact P.repr_of_bool ⟨.str _,H,I.kept (t':=_) λ_ _ e=>e,⟨_,rfl⟩,by simpa only [PyData.shown] using q⟩
 | int i =>
  have hx:=hd.ofInt;subst hx;obtain⟨u,rfl,ru⟩:=vals1 r;obtain⟨t,rfl⟩:=ru;exact P.repr_of_int (by simpa [PyData.showable] using h1) ⟨.str _,H,I.kept (t':=_) λ_ _ e=>e,⟨_,rfl⟩,by simpa only [PyData.shown] using q⟩
 | str y =>
  have hx:=hd.ofStr;subst hx;obtain⟨u,rfl,ru⟩:=vals1 r;obtain⟨t,rfl⟩:=ru;exact P.repr_of_str ⟨.str _,H,I.kept (t':=_) λ_ _ e=>e,⟨_,rfl⟩,by simpa only [PyData.shown] using q⟩ (by simpa only [PyData.shown] using h3)
 | dict kvs =>
  have hn:kvs = []:=by
   rcases hk with z | ⟨_,z⟩ | z
   ·simp [PyData.hasDict] at z
   ·cases z
   ·cases z;rfl
  subst hn;obtain⟨a,ps,rfl,e2,e3⟩:=hd.ofDict;obtain⟨u,rfl,ru⟩:=vals1 r;cases ru;simp only [DenXk] at e3;subst e3;obtain⟨z,hs,vs,rel,o,es,ep,ho,h2',h3',h4,h5,h6⟩:=qI1 I.hok e2;have rel:vs = []:=by
   unfold KV at rel;cases rel;rfl
  subst rel;have he:es.toList = []:=by
   generalize es.toList=l at h5;cases h5;rfl
  refine call_repr_slot (by lia) ⟨o,ho,h2'.1⟩ F.slot_dict_repr ?_;refine call_dict_reprK (as :=[]) (d:=0) (ps :=[]) ho h2'.1 h3' hs (by simp) (by rw [he];exact .nil) hr.gd (λb _=>Clear.nil b) (show X.A.units+1+(0+1)<cLine by lia) (λ_ _ e=>e) (λh' u tk kk=>⟨_,_,rfl,?_⟩) ?_
  ·exact⟨.str _,H,I.kept (t':=tk) kk,⟨_,rfl⟩,by simpa only [PyData.shown,PyData.shownKv] using q⟩
  ·simpa only [PyData.shown,PyData.shownKv] using h3
end
mutual
def wide(n:Nat):PyData->Bool
 | .list ds=>decide (ds.length<=n)&&qC8 n ds
 | .tuple ds=>decide (ds.length<=n)&&qC8 n ds
 | .none=>true
 | .bool _=>true
 | .int _=>true
 | .str _=>true
 | .dict _=>true
def qC8(n:Nat):List PyData->Bool
 | []=>true
 | d::ds=>wide n d&&qC8 n ds
end
theorem qDz{n:Nat}:∀ {ds:List PyData},qC8 n ds=true ↔ ∀d∈ds,wide n d=true
 | []=>by simp [qC8]
 | x::ds=>by simp only [qC8,aI,qDz (ds:=ds),aN,forall_eq_or_imp]
theorem wide_list{n:Nat}{ds:List PyData}:wide n (.list ds)=true↔ds.length<=n /\ ∀d∈ds,wide n d=true:=by
 simp only [wide,aI,decide_eq_true_eq,qDz]
theorem wide_tuple{n:Nat}{ds:List PyData}:wide n (.tuple ds)=true↔ds.length<=n /\ ∀d∈ds,wide n d=true:=by
 simp only [wide,aI,decide_eq_true_eq,qDz]
mutual
theorem qD3{n:Nat}(hn:n<=900):∀ {d:PyData},wide n d=true->qBl d=true
 | .list ds,h=>by
  simp only [wide,aI,decide_eq_true_eq] at h;simp only [qBl,aI,decide_eq_true_eq];exact⟨by lia,qCt hn h.2⟩
 | .tuple ds,h=>by
  simp only [wide,aI,decide_eq_true_eq] at h;simp only [qBl,aI,decide_eq_true_eq];exact⟨by lia,qCt hn h.2⟩
 | .none,_=>by simp only [qBl]
 | .bool _,_=>by simp only [qBl]
 | .int _,_=>by simp only [qBl]
 | .str _,_=>by simp only [qBl]
 | .dict _,_=>by simp only [qBl]
theorem qCt{n:Nat}(hn:n<=900):∀ {ds:List PyData},qC8 n ds=true->qBg ds=true
 | [],_=>by simp only [qBg]
 | d::ds,h=>by
  simp only [qC8,aI] at h;simp only [qBg,aI];exact⟨qD3 hn h.1,qCt hn h.2⟩
end
mutual
theorem qAu{n m:Nat}(hn:n<=m):∀ {d:PyData},wide n d=true->wide m d=true
 | .list ds,h=>by
  simp only [wide,aI,decide_eq_true_eq] at h ⊢;exact⟨by lia,qDd hn h.2⟩
 | .tuple ds,h=>by
  simp only [wide,aI,decide_eq_true_eq] at h ⊢;exact⟨by lia,qDd hn h.2⟩
 | .none,_=>by simp only [wide]
 | .bool _,_=>by simp only [wide]
 | .int _,_=>by simp only [wide]
 | .str _,_=>by simp only [wide]
 | .dict _,_=>by simp only [wide]
theorem qDd{n m:Nat}(hn:n<=m):∀ {ds:List PyData},qC8 n ds=true->qC8 m ds=true
 | [],_=>by simp only [qC8]
 | d::ds,h=>by
  simp only [qC8,aI] at h ⊢;exact⟨qAu hn h.1,qDd hn h.2⟩
end
structure LookD(d:PyData):Prop where
 wi:wide 20 d=true
 kd:d.hasDict=false\/(∃ds,d = .list ds)\/d = .dict []
 sh:d.showable=true
 de:d.depth<=100
 le:d.shown.length<=sizeLine
theorem LookD.few{d:PyData}(h:LookD d)(ws:List PyData)(w:PyData)(bs:List PyData)(e:d = .list ws)(hw:w∈ws)(eb:w = .list bs):bs.length<=20:=by
 subst e eb;exact (wide_list.mp ((wide_list.mp h.wi).2 _ hw)).1
theorem qQf{d:PyData}(h:wide 20 d=true)(bs:List PyData)(e:d = .list bs):bs.length<=20:=by
 subst e;exact (wide_list.mp h).1
def qHi(K:PySem.W.Frag):Sp:=λvs H Q _ => ∃(x:V) (d:PyData),vs = [x]/\DenX K H d x/\LookD d /\ ∀H',Ext [] H H'->Q (.bl true) H'
theorem DenX.bool{K:PySem.W.Frag}{H:Hp}{b:Bool}:DenX K H (.bool b) (.bl b):=by simp only [DenX]
theorem qUx{a b:Bool}{H:Hp}{Q:VK}(q:Q (.bl (!decide (a=b))) H):rNe (.bl a) (.bl b) H Q:=⟨rfl,by
 rw [show decide (V.bl a=V.bl b)=decide (a=b) from decide_eq_decide.mpr ⟨λz=>V.bl.inj z,λz=>by rw [z]⟩];exact q⟩
theorem qI0{K:PySem.W.Frag}{a:Addr}{xs:List V}{g:TG}{tb:TS}{D:Ends}{σ : St}{H:Hp}(Pv:Nat->St->Hp->Prop)(h0:Pv 0 σ H)(hl:∀i σ H,i<=xs.length->Pv i σ H->SqT K H a xs)(hs:∀i x σ H,xs[i]? = some x->Pv i σ H -> ∀(N B C:St->Hp->Prop) (R:VK),Nx N (Pv (i+1))->Nx C (Pv (i+1))->NxV R D.rt->g x σ H λσ2 H2=>tb ⟨N,R,B,C⟩ σ2 H2)(hd:∀ σ H,Pv xs.length σ H->D.nx σ H):∃W:Nat->Nat->St->Hp->Prop,(∃m,W 0 m σ H) /\ ∀i m σ H,W i m σ H ->
   ((Itt K a).stop i H/\D.nx σ H)\/((Itt K a).go i H /\ ∃N:St->Hp->Prop,(∀ σ' H',N σ' H' -> ∃m',m'<m/\W (i+1) m' σ' H') /\ ∀x H',(Itt K a).yld i H x H'->g x σ H' λσ2 H2=>tb { D with nx:=N,ct:=N,bk:=D.nx } σ2 H2) :=
 qU8 Pv h0 hl (λi x σ H hx hp=>hs i x σ H hx hp _ _ _ _ (λ_ _ h=>h) (λ_ _ h=>h) (λ_ _ h=>h)) hd
section
variable{X:Cx}
def gCut(to tl th:TE):TG:=λv σ H Q=>to σ H λo H1=>tl σ H1 λx H2=>th σ H2 λy H3 => ∃l b xs ys a c,o = .ref l/\v = .ref b/\x = .int a/\y = .int c/\H3 l=some (.lst xs)/\H3 b=some (.lst ys)/\l≠b/\0<=a/\a<=c/\c<=(xs.length:Int)/\xs.length+ys.length<=sizeLine/\Q σ (upd H3 l (.lst (xs.take a.toNat++ys++xs.drop c.toNat)))
theorem qVb{o lo hi:Expr}{to tl th:TE}{p2 pos:Pos}(ho:PE X o to)(hl:PE X lo tl)(hh:PE X hi th):PG X (.Subscript o (.Slice (some lo) (some hi) none p2) pos) (gCut to tl th):=by
 intro pins s σ H v u Q I r h;rw [assign_Subscript];refine aA (bK (thn (ho pins s σ H _ I h) λov s1 hq_=>?_));obtain⟨x,H1,I1,r1,q1⟩:=hq_;refine aA (bK ?_);refine wpAny_Slice ?_;rw [evalPart_some];refine thn (hl pins s1 σ H1 _ I1 q1) λvl s2 hq_=>?_;obtain⟨y,H2,I2,r2,q2⟩:=hq_;rw [evalPart_some];refine thn (hh pins s2 σ H2 _ I2 q2) λvu s3 hq_=>?_;obtain⟨z,H3,I3,r3,q3⟩:=hq_;obtain⟨l,b,xs,ys,a,c,rfl,rfl,rfl,rfl,hL,hB,hne,h0,hac,hc,hz,q⟩:=q3;cases r1;cases r;rw [evalPart_none];refine aB ?_;have I4:Inv X pins σ H3 { s3 with heap:=s3.heap.push { cls :=.type "slice",data :=.fields #[vl,vu,.none] } }:=I3.kept (t':=s3.toks) λb ob q=>aF _ q
 refine aA (dE (aA (bK ?_)));exact qNa I4 hL hB hne (Heap.IsSliceOf.new ..) r2 r3 h0 hac hc hz λs' I5=>wpAny_release ⟨σ,_,I5,q⟩
theorem qWk{to tl th:TE}{v:V}{σ : St}{H:Hp}{Q:St->Hp->Prop}(h:to σ H λo H1=>tl σ H1 λx H2=>th σ H2 λy H3 => ∃l b xs ys a c,o = .ref l/\v = .ref b/\x = .int a/\y = .int c/\H3 l=some (.lst xs)/\H3 b=some (.lst ys)/\l≠b/\0<=a/\a<=c/\c<=(xs.length:Int)/\xs.length+ys.length<=sizeLine/\Q σ (upd H3 l (.lst (xs.take a.toNat++ys++xs.drop c.toNat)))):gCut to tl th v σ H Q:=h
def rIxA(K:PySem.W.Frag):R2:=λx y H Q => ∃p xs i v,x = .ref p/\y = .int i/\(SqL K H p xs\/SqT K H p xs)/\atI xs i=some v/\Q v H
theorem qLo:IxR X (rIxA X.K):=by
 intro value slice pins s σ H x y v u Q I rx ry h hs;obtain⟨p,xs,i,z,rfl,rfl,hq | hq,he,q⟩:=h
 ·exact qAi value slice pins s σ H _ _ v u Q I rx ry ⟨p,xs,i,z,rfl,rfl,hq,he,q⟩ hs
 ·exact qB1 value slice pins s σ H _ _ v u Q I rx ry ⟨p,xs,i,z,rfl,rfl,hq,he,q⟩ hs
end
end L2
namespace L2
open PySem PySem.Spec PyProof.Rows
section
variable{X:Cx}{elts:List Expr}{k:Nat}{tpos:Pos}
variable{X:Cx}{elt tg iter tg2 iter2:Expr}{ifs ifs2:List Expr}{scope:Scope}{own:List Str}{cap:List Nat}{wi wi2:TI}{g g2:TG}{tts tts2:List TT}{te:TE}{pos:Pos}
end
end L2
namespace Miss
open PySem PySem.Spec PyProof.Rows
end Miss
namespace L2
open PySem PySem.Spec PyProof.Rows
end L2
namespace L2
open PySem PySem.W PyProof.Rows
end L2
namespace L2
open PySem PySem.Spec PyProof.Rows
section
variable{X:Cx}
def rTupL(K:PySem.W.Frag):List V->Hp->VK->Prop:=λxs H Q => ∃(a:Addr) (ys:List V),xs = [.ref a]/\SqL K H a ys /\ ∀p,H p=none->Q (.ref p) (upd H p (.tup ys))
theorem qJl:CallR X (.type "tuple") (rTupL X.K):=by
 intro pins s σ H xs us Q I r h;obtain⟨a,ys,rfl,ha,q⟩:=h;obtain⟨u,rfl,ru⟩:=vals1 r;cases ru;obtain⟨its,rv,pl,hz⟩:=I.list ha;have hl:=rv.length;refine call_tuple_list pl.isList (λh' k=>?_) (by rw [aH];lia);have hD:s.heap.get? h'.objs.size=none:=by
  cases e:s.heap.get? h'.objs.size with
  | none=>rfl
  | some o=>exact absurd (aM (k _ o e)) (eQ _)
 exact⟨.ref h'.objs.size,_,I.laidN (t':=s.toks) (o :=.tup ys) (λb o e=>aF _ (k b o e)) hD ⟨by lia,its,rv,IsTup.new _ _⟩,rfl,q _ (I.hok.gone hD)⟩
end
end L2
namespace L2
open PySem PySem.Spec PyProof.Rows PyProof
theorem qIt{α : Type}(xs:List α)(f:Nat->Nat)(hf:∀k,k<xs.length->f k=xs.length - 1 - k):(List.range xs.length).filterMap (λk=>xs[f k]?)=xs.reverse:=by
 have e:(List.range xs.length).map (λk=>xs[f k]?)=xs.reverse.map some:=by
  refine List.ext_getElem (by simp) λi h1 h2=>?_;have hi:i<xs.length:=by simpa using h1
  rw [List.getElem_map,List.getElem_map,List.getElem_range,List.getElem_reverse,hf i hi];exact aJ _
 have e2:(List.range xs.length).filterMap (λk=>xs[f k]?)=((List.range xs.length).map (λk=>xs[f k]?)).filterMap id:=by rw [List.filterMap_map];rfl
 rw [e2,e,List.filterMap_map];exact List.filterMap_some
theorem qQp(its:List Value):slicePick its.toArray none none (some (-1))=its.reverse.toArray:=by
 have h1 : ¬((-1:Int)>0):=by lia
 unfold slicePick sliceBounds;simp only [Option.getD_some,h1,if_false,aH];unfold sliceRange;simp only [h1,if_false];have hc:(if ((its.length:Int) - 1 > -1) then ((its.length:Int) - 1 - -1 - -1 - 1) / (- -1) else 0).toNat=its.length:=by
  split
  ·rw [show (- -1:Int)=1 from rfl,Int.ediv_one];lia
  ·lia
 rw [hc,List.filterMap_map]
 congr 1
 have e:((λx=>its.toArray[x]?)∘λk:Nat=>((its.length:Int) - 1 + -1*(k:Int)).toNat)=λk:Nat=>its[((its.length:Int) - 1 + -1*(k:Int)).toNat]? :=by
  funext k
  simp only [Function.comp,eO]
 rw [e];exact qIt its (λk=>((its.length:Int) - 1 + -1*(k:Int)).toNat) λk hk=>by show ((its.length:Int) - 1 + -1*(k:Int)).toNat=_;lia
section
variable{X:Cx}
def rRev(K:PySem.W.Frag)(x:V)(H:Hp)(Q:VK):Prop := ∃a xs,x = .ref a/\((SqL K H a xs /\ ∀p,H p=none->Q (.ref p) (upd H p (.lst xs.reverse)))\/(SqT K H a xs /\ ∀p,H p=none->Q (.ref p) (upd H p (.tup xs.reverse))))
def tRev(K:PySem.W.Frag)(te tt:TE):TE:=λσ H Q=>te σ H λx H1=>tt σ H1 λy H2=>y = .int (-1)/\rRev K x H2 Q
theorem qKv{P:Program}{w:World}{A:Around}{E:Value->Shared->Prop}{s:Shared}{sl:Addr}{vs:Value}{n:Nat}{Q:Int×Int×Nat->Shared->Prop}(hs:s.heap.IsSliceOf sl .none .none vs)(ps:IsPart vs (some (-1)))(h:Q ((n:Int) - 1,-1,n) s):wpAny (model P w) A (Builtin.Slice.sliceApplied (.ref sl) (pure (n:Int))) Q E s:=by
 obtain⟨os,hos,hcs,hds⟩:=id hs;unfold Builtin.Slice.sliceApplied Builtin.Slice.sliceFields;refine aA (aA (bV hos hds (x :=.none) rfl (aA (bV hos hds (x :=.none) rfl (aA (bV hos hds (x:=vs) rfl (aB ?_)))))));refine aA (HT.slicePart_ ps ?_);show wpAny _ _ (if ((-1:Int) == 0)=true then _ else _) _ _ s;rw [if_neg (by decide)];refine aA (HT.slicePart_ .none (aA (HT.slicePart_ .none (aA (aB ?_)))));show wpAny _ _ (match Builtin.Slice.sliceAdjust none none (-1) (n:Int) with | (lo,hi)=>pure (lo,(-1:Int),Builtin.Slice.slicePlaces lo hi (-1))) _ _ s;rw [show Builtin.Slice.sliceAdjust none none (-1) (n:Int)=((n:Int) - 1,-1) from rfl]
 show wpAny _ _ (pure ((n:Int) - 1,(-1:Int),Builtin.Slice.slicePlaces ((n:Int) - 1) (-1) (-1))) _ _ s;have e:Builtin.Slice.slicePlaces ((n:Int) - 1) (-1) (-1)=n:=by
  unfold Builtin.Slice.slicePlaces;have h1 : ¬((-1:Int)>0):=by lia
  simp only [h1,if_false];split
  ·rw [show (- -1:Int)=1 from rfl,Int.ediv_one];lia
  ·lia
 rw [e];exact aB h
theorem qN2{P:Program}{w:World}{A:Around}{E:Value->Shared->Prop}{s:Shared}{t sl:Addr}{its:List Value}{vs:Value}{Q:Value->Shared->Prop}(ht:IsTup s.heap t its.toArray)(hs:s.heap.IsSliceOf sl .none .none vs)(ps:IsPart vs (some (-1)))
  (h:Q (.ref s.heap.objs.size) { s with heap:=s.heap.push { cls :=.type "tuple",data :=.seq its.reverse.toArray } })
  (hsz:its.length<=sizeLine):wpAny (model P w) A (getItem (.ref t) (.ref sl)) Q E s:=by
 have htake:sizeOk (.seq its.reverse.toArray):=by
  show its.reverse.toArray.size<=sizeLine;rw [aH,List.length_reverse];exact hsz
 obtain⟨os,hos,hcs,hds⟩:=id hs;have hTs:s.TypeIs (.ref sl) "slice" :=⟨os,hos,hcs⟩;unfold getItem
 try with_reducible refine bK ?_
 first | refine aA (aB ?_) | skip
 refine aA (wpAny_sequenceKey ht.typeIs (by decide) ?_)
 refine aA (cA (name:=Str.ofString "__getitem__") ht.typeIs bW
  (cO bW ht.typeIs PyProof.Rows.entry_tuple_getitem ?_ (PyProof.Rows.args_tuple_getitem _ _)))
 show wpAny _ _ (Builtin.Tuple.tupleItemsOf (.ref t) >>= _) _ _ s;refine aA (PyProof.Rows.tupleItemsOf_ ht ?_);refine aA (wpAny_typeOf hTs ?_);rw [if_pos (by decide)];refine aA (qKv hs ps ?_);show wpAny _ _ (if (((its.toArray.size:Int) - 1) == 0&&(-1:Int) == 1&&its.toArray.size == its.toArray.size)=true then _ else _) _ _ s;have hno : ¬((((its.toArray.size:Int) - 1) == 0&&(-1:Int) == 1&&its.toArray.size == its.toArray.size)=true):=by
  intro q;rw [aI,aI] at q;exact absurd q.1.2 (by decide)
 rw [if_neg hno];have e:((List.range its.toArray.size).filterMap λ(m:Nat)=>its.toArray[((its.toArray.size:Int) - 1+(m:Int)*(-1)).toNat]?).toArray=its.reverse.toArray:=by
  congr 1
  simp only [aH,eO];exact qIt its (λk=>((its.length:Int) - 1+(k:Int)*(-1)).toNat) λk hk=>by show ((its.length:Int) - 1+(k:Int)*(-1)).toNat=_;lia
 rw [e]
 first
  | exact aA (m:=Builtin.Tuple.tupleExact _) (bU (aB ⟨_,rfl,aB h⟩) htake)
  | exact aA (m:=Builtin.Tuple.tupleExact _) (bU (aA (aB (aB ⟨_,rfl,aB h⟩))) htake)
  | exact aA (aA (m:=Builtin.Tuple.tupleExact _) (bU (aB (aB ⟨_,rfl,aB h⟩)) htake))
  | exact aA (aA (m:=Builtin.Tuple.tupleExact _) (bU (aB ⟨_,rfl,aB h⟩) htake))
theorem qVd{e st:Expr}{te tt:TE}{p2 pos:Pos}(he:PE X e te)(ht:PE X st tt):PE X (.Subscript e (.Slice none none (some st) p2) pos) (tRev X.K te tt):=by
 intro pins s σ H Q I h;refine Subscript_ (thn (he pins s σ H _ I h) λv s1 hq_=>?_);obtain⟨x,H1,I1,r1,q1⟩:=hq_;refine wpAny_Slice ?_;show wpAny _ _ (pure Value.none) _ _ _;refine aB ?_;show wpAny _ _ (pure Value.none) _ _ _;refine aB ?_;rw [evalPart_some];refine thn (ht pins s1 σ H1 _ I1 q1) λvs s3 hq_=>?_;obtain⟨y,H3,I3,r3,q3⟩:=hq_;obtain⟨rfl,a,xs,rfl,q3⟩:=q3;obtain⟨tk,rfl⟩:=r3;cases r1;have I4:Inv X pins σ H3 { s3 with heap:=s3.heap.push { cls :=.type "slice",data :=.fields #[.none,.none,.int (-1) tk] } }:=I3.kept (t':=s3.toks) λb ob q=>aF _ q;have hs:(s3.heap.push { cls :=.type "slice",data :=.fields #[.none,.none,.int (-1) tk] }).IsSliceOf s3.heap.objs.size .none .none (.int (-1) tk):=Heap.IsSliceOf.new ..
 show wpAny (model X.prog X.w) X.A (subscriptTail e (.Slice none none (some st) p2) (.ref a) (.ref s3.heap.objs.size)) (EP X pins σ Q) X.xe { s3 with heap:=s3.heap.push { cls :=.type "slice",data :=.fields #[.none,.none,.int (-1) tk] } };generalize hh:({ s3 with heap:=s3.heap.push { cls :=.type "slice",data :=.fields #[.none,.none,.int (-1) tk] } }:Shared)=s4 at I4 ⊢;have hs4:s4.heap.IsSliceOf s3.heap.objs.size .none .none (.int (-1) tk):=by rw [<-hh];exact hs
 rcases q3 with ⟨hx,q⟩ | ⟨hx,q⟩
 ·obtain⟨its,r,hl,hz⟩:=I4.list hx;have hlen:=r.length;refine tail_any (ops :=[.ref a,.ref s3.heap.objs.size]) hl.isList.typeIs slot_list_getitem.lookup ?_ (by with_unfolding_all rfl);refine wpAny_getItem_list_slice hl.isList hs4 .none .none (.int _ _) (by simp) ?_ (by rw [aH] <;> lia);rw [qQp];refine⟨.ref s4.heap.objs.size,_,I4.laid (t':=s4.toks) (o :=.lst xs.reverse) (λb ob q=>aF _ q) (aD _) ?_,rfl,q _ (I4.hok.fresh (aD _))⟩;exact⟨by rw [List.length_reverse];exact hz,_,0,r.reverse,aR _ rfl⟩
 ·obtain⟨its,r,hl,hz⟩:=I4.tuple hx;have hlen:=r.length;refine tail_any (ops :=[.ref a,.ref s3.heap.objs.size]) hl.typeIs bW.lookup ?_ (by with_unfolding_all rfl);refine qN2 hl hs4 (.int _ _) ?_ (by lia);refine⟨.ref s4.heap.objs.size,_,I4.laid (t':=s4.toks) (o :=.tup xs.reverse) (λb ob q=>aF _ q) (aD _) ?_,rfl,q _ (I4.hok.fresh (aD _))⟩;exact⟨by rw [List.length_reverse];exact hz,_,r.reverse,IsTup.new _ _⟩
def rTupA(K:PySem.W.Frag):List V->Hp->VK->Prop:=λxs H Q => ∃(a:Addr) (ys:List V),xs = [.ref a]/\((SqL K H a ys /\ ∀p,H p=none->Q (.ref p) (upd H p (.tup ys)))\/(SqT K H a ys/\Q (.ref a) H))
theorem qPw:CallR X (.type "tuple") (rTupA X.K):=by
 intro pins s σ H xs us Q I r h;obtain⟨a,ys,rfl,⟨ha,q⟩ | ⟨ha,q⟩⟩:=h
 ·exact qJl pins s σ H _ us Q I r ⟨a,ys,rfl,ha,q⟩
 ·exact qKr pins s σ H _ us Q I r ⟨a,ys,rfl,ha,q⟩
theorem qS7:SlR X (λx lo hi H Q=>rSlL X.K x lo hi H Q\/rSlT X.K x lo hi H Q):=sl_list.or qE7
end
def qB3:PyData->Option (List PyData)
 | .list ds=>some ds
 | .tuple ds=>some ds
 | _=>none
def qCo:PyData->List PyData->PyData
 | .list _,ds =>.list ds
 | _,ds =>.tuple ds
def subD:PyData->List Nat->Option PyData
 | d,[]=>some d
 | d,k::p=>match qB3 d with
  | none=>none
  | some ds=>match ds[k]? with
   | none=>none
   | some e=>subD e p
def withD:PyData->List Nat->List PyData->PyData
 | d,[],_=>d
 | d,k::p,made=>match qB3 d with
  | none=>d
  | some ds=>match ds[k]? with
   | none=>d
   | some e=>qCo d (ds.take k++(if p = [] then made else [withD e p made])++ds.drop (k+1))
theorem qC0{d:PyData}{ds:List PyData}(h:qB3 d=some ds):d = .list ds\/d = .tuple ds:=by
 cases d <;> first | (cases h;exact .inl rfl) | (cases h;exact .inr rfl) | cases h
theorem qB7{d:PyData}{k:Nat}{p:List Nat}{e:PyData}(h:subD d (k::p)=some e):∃ds x,qB3 d=some ds/\ds[k]? = some x/\subD x p=some e:=by
 simp only [subD] at h;cases h1:qB3 d with
 | none=>rw [h1] at h;cases h
 | some ds =>
  rw [h1] at h;simp only at h;cases h2:ds[k]? with
  | none=>rw [h2] at h;cases h
  | some x=>rw [h2] at h;exact⟨ds,x,rfl,h2,h⟩
theorem qL5{d:PyData}{k:Nat}{p:List Nat}{e x:PyData}{ds:List PyData}(h1:qB3 d=some ds)(h2:ds[k]? = some x)(h:subD x p=some e):subD d (k::p)=some e:=by
 simp only [subD,h1,h2,h]
theorem qDk:∀ {p:List Nat} {d e x:PyData} {k:Nat} {ds:List PyData},subD d p=some e->qB3 e=some ds->ds[k]? = some x->subD d (p ++ [k])=some x
 | [],d,e,x,k,ds,h,h1,h2=>by
  cases h;exact qL5 h1 h2 rfl
 | j::p,d,e,x,k,ds,h,h1,h2=>by
  obtain⟨es,y,g1,g2,g3⟩:=qB7 h;exact qL5 g1 g2 (qDk g3 h1 h2)
theorem qIk:∀ {p:List Nat} {d x:PyData} {k:Nat},subD d (p ++ [k])=some x -> ∃e ds,subD d p=some e/\qB3 e=some ds/\ds[k]? = some x
 | [],d,x,k,h=>by
  obtain⟨ds,y,g1,g2,g3⟩:=qB7 (p :=[]) h;cases g3;exact⟨d,ds,rfl,g1,g2⟩
 | j::p,d,x,k,h=>by
  obtain⟨es,y,g1,g2,g3⟩:=qB7 (p:=p ++ [k]) h;obtain⟨e,ds,f1,f2,f3⟩:=qIk g3;exact⟨e,ds,qL5 g1 g2 f1,f2,f3⟩
theorem qEi{d:PyData}{k:Nat}{p:List Nat}{made:List PyData}{ds:List PyData}{e:PyData}(h1:qB3 d=some ds)(h2:ds[k]? = some e):withD d (k::p) made=qCo d (ds.take k++(if p = [] then made else [withD e p made])++ds.drop (k+1)):=by
 simp only [withD,h1,h2]
theorem qL6{α : Type}{ds:List α}{k:Nat}{e : α}(h:ds[k]? = some e):ds=ds.take k++e::ds.drop (k+1):=by
 obtain⟨hk,rfl⟩:=aE.mp h;rw [List.getElem_cons_drop,List.take_append_drop]
theorem qD4:∀a b:List PyData,PyData.weightAll (a++b)=PyData.weightAll a+PyData.weightAll b
 | [],b=>by simp [PyData.weightAll]
 | x::a,b=>by simp only [eI,PyData.weightAll,qD4 a b];lia
theorem qDh:∀a b:List PyData,PyData.depthAll (a++b)=max (PyData.depthAll a) (PyData.depthAll b)
 | [],b=>by simp [PyData.depthAll]
 | x::a,b=>by simp only [eI,PyData.depthAll,qDh a b];lia
theorem qCh:∀a b:List PyData,PyData.showableAll (a++b)=(PyData.showableAll a&&PyData.showableAll b)
 | [],b=>by simp [PyData.showableAll]
 | x::a,b=>by simp only [eI,PyData.showableAll,qCh a b,Bool.and_assoc]
theorem qDa:∀a b:List PyData,PyData.leavesShortAll 14 (a++b)=(PyData.leavesShortAll 14 a&&PyData.leavesShortAll 14 b)
 | [],b=>by simp [PyData.leavesShortAll]
 | x::a,b=>by simp only [eI,PyData.leavesShortAll,qDa a b,Bool.and_assoc]
theorem FitS.app{a b:List PyData}{V W D:Nat}(h1:FitS a V D)(h2:FitS b W D):FitS (a++b) (V+W) D:=by
 obtain⟨a1,a2,a3,a4⟩:=h1;obtain⟨b1,b2,b3,b4⟩:=h2;exact⟨by rw [qCh,a1,b1];rfl,by rw [qDa,a2,b2];rfl,by rw [qD4];lia,by rw [qDh];lia⟩
theorem FitS.mono{a:List PyData}{V W D D':Nat}(h:FitS a V D)(h1:V<=W)(h2:D<=D'):FitS a W D':=by
 obtain⟨a1,a2,a3,a4⟩:=h;exact⟨a1,a2,by lia,by lia⟩
theorem FitS.tuple{ds:List PyData}{W D:Nat}(t:FitS ds W D):Fit (.tuple ds) W (D+1):=by
 obtain⟨t1,t2,t3,t4⟩:=t;refine⟨?_,?_,?_,?_⟩
 ·simpa only [PyData.showable] using t1
 ·simpa only [PyData.leavesShort] using t2
 ·simpa only [PyData.weight] using t3
 ·simp only [PyData.depth];lia
theorem Fit.parts{d:PyData}{ds:List PyData}{W D:Nat}(h:Fit d W D)(hp:qB3 d=some ds):∃D',D=D'+1/\FitS ds W D':=by
 obtain⟨h1,h2,h3,h4⟩:=h;rcases qC0 hp with rfl | rfl
 ·simp only [PyData.showable,PyData.leavesShort,PyData.weight,PyData.depth] at h1 h2 h3 h4;exact⟨D - 1,by lia,h1,h2,h3,by lia⟩
 ·simp only [PyData.showable,PyData.leavesShort,PyData.weight,PyData.depth] at h1 h2 h3 h4;exact⟨D - 1,by lia,h1,h2,h3,by lia⟩
theorem FitS.split{a b:List PyData}{W D:Nat}(h:FitS (a++b) W D):∃V U,FitS a V D/\FitS b U D/\V+U<=W:=by
 obtain⟨h1,h2,h3,h4⟩:=h;rw [qCh,aI] at h1;rw [qDa,aI] at h2;rw [qD4] at h3;rw [qDh] at h4;exact⟨_,_,⟨h1.1,h2.1,aD _,by lia⟩,⟨h1.2,h2.2,aD _,by lia⟩,h3⟩
theorem FitS.ofCons{d:PyData}{ds:List PyData}{W D:Nat}(h:FitS (d::ds) W D):∃V U,Fit d V D/\FitS ds U D/\V+1+U<=W:=by
 obtain⟨h1,h2,h3,h4⟩:=h;simp only [PyData.showableAll,PyData.leavesShortAll,PyData.weightAll,PyData.depthAll,aI] at h1 h2 h3 h4;exact⟨_,_,⟨h1.1,h2.1,aD _,by lia⟩,⟨h1.2,h2.2,aD _,by lia⟩,by lia⟩
theorem Fit.rebuild{d:PyData}{ds:List PyData}{W D:Nat}(t:FitS ds W D):Fit (qCo d ds) W (D+1):=by
 unfold qCo;split
 ·exact t.list
 ·exact t.tuple
theorem qFn:∀ {p:List Nat} {d e:PyData} {made:List PyData} {W D V D':Nat},subD d p=some e->Fit d W D->FitS made V D'->Fit (withD d p made) (W+V) (D+D')
 | [],d,e,made,W,D,V,D',_,h,hm=>h.mono (by lia) (by lia)
 | k::p,d,e,made,W,D,V,D',hs,h,hm=>by
  obtain⟨ds,x,g1,g2,g3⟩:=qB7 hs;rw [qEi g1 g2];obtain⟨D1,rfl,hS⟩:=h.parts g1;rw [qL6 g2] at hS;obtain⟨V1,U1,hl,hr,e1⟩:=hS.split;obtain⟨V2,U2,hx,hr2,e2⟩:=hr.ofCons;have hmid:FitS (if p = [] then made else [withD x p made]) (V2+1+V) (D1+D'):=by
   split
   ·exact hm.mono (by lia) (by lia)
   ·have:=qFn g3 hx hm;exact (FitS.cons this (FitS.nil _)).mono (by lia) (aD _)
  exact (Fit.rebuild ((hl.mono (aD _) (by lia:D1<=D1+D')).app hmid |>.app (hr2.mono (aD _) (by lia:D1<=D1+D')))).mono (by lia) (by lia)
theorem Fit.sub:∀ {p:List Nat} {d e:PyData} {W D:Nat},subD d p=some e->Fit d W D->Fit e W D
 | [],d,e,W,D,h,hf=>by cases h;exact hf
 | k::p,d,e,W,D,h,hf=>by
  obtain⟨ds,x,g1,g2,g3⟩:=qB7 h;obtain⟨D1,rfl,hS⟩:=hf.parts g1;rw [qL6 g2] at hS;obtain⟨V1,U1,hl,hr,e1⟩:=hS.split;obtain⟨V2,U2,hx,hr2,e2⟩:=hr.ofCons;exact (Fit.sub g3 hx).mono (by lia) (by lia)
theorem qCy{n:Nat}{d:PyData}{ds:List PyData}(h:wide n d=true)(hp:qB3 d=some ds):ds.length<=n /\ ∀x∈ds,wide n x=true:=by
 rcases qC0 hp with rfl | rfl
 ·exact wide_list.mp h
 ·exact wide_tuple.mp h
theorem qIh{n:Nat}{d:PyData}{ds:List PyData}(h:ds.length<=n)(h2:∀x∈ds,wide n x=true):wide n (qCo d ds)=true:=by
 unfold qCo;split
 ·exact wide_list.mpr ⟨h,h2⟩
 ·exact wide_tuple.mpr ⟨h,h2⟩
theorem qH9:∀ {p:List Nat} {d e:PyData} {n:Nat},subD d p=some e->wide n d=true->wide n e=true
 | [],d,e,n,h,hw=>by cases h;exact hw
 | k::p,d,e,n,h,hw=>by
  obtain⟨ds,x,g1,g2,g3⟩:=qB7 h;exact qH9 g3 ((qCy hw g1).2 _ (aP g2))
theorem qE3:∀ {p:List Nat} {d e:PyData} {made:List PyData} {n m:Nat},subD d p=some e->wide n d=true->made.length<=2->(∀x∈made,wide m x=true)->n+1<=m->wide m (withD d p made)=true
 | [],d,e,made,n,m,_,h,_,_,hnm=>qAu (by lia) h
 | k::p,d,e,made,n,m,hs,h,hl,hm,hnm=>by
  obtain⟨ds,x,g1,g2,g3⟩:=qB7 hs;rw [qEi g1 g2];obtain⟨w1,w2⟩:=qCy h g1;have hk:=(aE.mp g2).1;have hmid:(if p = [] then made else [withD x p made]).length<=2 /\ ∀y∈(if p = [] then made else [withD x p made]),wide m y=true:=by
   split
   ·exact⟨hl,hm⟩
   ·refine⟨by simp,λy hy=>?_⟩;rw [aL.mp hy];exact qE3 g3 (w2 _ (aP g2)) hl hm hnm
  refine qIh ?_ λy hy=>?_
  ·rw [aK,aK,bD,cJ];have:=hmid.1;lia
  ·rcases aS.mp hy with hy | hy
   ·rcases aS.mp hy with hy | hy
    ·exact qAu (by lia) (w2 _ (List.mem_of_mem_take hy))
    ·exact hmid.2 y hy
   ·exact qAu (by lia) (w2 _ (List.mem_of_mem_drop hy))
theorem qE8{d:PyData}{ds:List PyData}:qB3 (qCo d ds)=some ds:=by
 unfold qCo;split <;> rfl
theorem qKy:∀ {p:List Nat} {d e x y:PyData} {k:Nat} {ds:List PyData},subD d p=some e->qB3 e=some ds->ds[k]? = some x -> ∃e' ds',subD (withD d (p ++ [k]) [y]) p=some e'/\qB3 e'=some ds'/\ds'.length=ds.length
 | [],d,e,x,y,k,ds,h,h1,h2=>by
  cases h;refine⟨_,ds.take k ++ [y]++ds.drop (k+1),rfl,?_,?_⟩
  ·show qB3 (withD d (k :: []) [y])=_;rw [qEi h1 h2,if_pos rfl,qE8]
  ·have hk:=(aE.mp h2).1;simp only [aK,bD,cJ,bX];lia
 | j::p,d,e,x,y,k,ds,h,h1,h2=>by
  obtain⟨es,z,g1,g2,g3⟩:=qB7 h;obtain⟨e',ds',f1,f2,f3⟩:=qKy (y:=y) g3 h1 h2;refine⟨e',ds',?_,f2,f3⟩;rw [eI,qEi g1 g2,if_neg (by simp)];have hj:=(aE.mp g2).1;refine qL5 qE8 (x:=withD z (p ++ [k]) [y]) ?_ f1;rw [List.append_assoc,dC (by rw [bD];lia),bD];rw [show j - min j es.length=0 by lia];rfl
def pathV(p:List Nat):List V:=p.map λk:Nat=>V.int (k:Int)
def qGn(n:Nat)(K:PySem.W.Frag):Sp:=λvs H Q _ => ∃(x:V) (d:PyData) (pp mm:Addr) (p:List Nat) (made:List PyData) (ms:List V) (e:PyData) (H0:Hp),vs = [x,.ref pp,.ref mm]/\Same H0 H/\DenX K H0 d x/\SqT K H pp (pathV p)/\p ≠ []/\p.length<=n/\subD d p=some e/\H mm=some (.lst ms)/\DenXs K H0 made ms/\made.length<=2/\wide 100 d=true /\
 ∀(r:V) (H' H0':Hp),Ext [] H H'->Same H0 H0'->Same H0' H'->(∀b o,H0' b=some o->H0 b=some o\/H b=none)->DenX K H0' (withD d p made) r->Q r H'
theorem Same.upd1{A:Hp}{l:Addr}{o:HO}(h:A l=none):Same A (upd A l o):=λb x e=>by
 by_cases c:b=l
 ·subst c;rw [h] at e;cases e
 ·rw [qA7 c];exact e
theorem Same.upd2{A G:Hp}{l:Addr}{o:HO}(h:Same A G)(e:G l=some o):Same (upd A l o) G:=λb x z=>by
 by_cases c:b=l
 ·subst c;rw [qA1] at z;cases z;exact e
 ·rw [qA7 c] at z;exact h _ _ z
theorem DenXs.app{K:PySem.W.Frag}{H:Hp}:∀ {a b:List PyData} {us vs:List V},DenXs K H a us->DenXs K H b vs->DenXs K H (a++b) (us++vs)
 | [],b,us,vs,h,t=>by rw [h.ofNil];exact t
 | d::a,b,us,vs,h,t=>by
  obtain⟨v,r,rfl,h1,h2⟩:=h.ofCons;exact .cons h1 (DenXs.app h2 t)
theorem DenXs.take{K:PySem.W.Frag}{H:Hp}:∀ {a:List PyData} {us:List V} (k:Nat),DenXs K H a us->DenXs K H (a.take k) (us.take k)
 | _,_,0,h=>by rw [eK,eK];exact .nil
 | [],us,k+1,h=>by rw [h.ofNil];exact .nil
 | d::a,us,k+1,h=>by
  obtain⟨v,r,rfl,h1,h2⟩:=h.ofCons;rw [List.take_succ_cons,List.take_succ_cons];exact .cons h1 (DenXs.take k h2)
theorem DenXs.drop{K:PySem.W.Frag}{H:Hp}:∀ {a:List PyData} {us:List V} (k:Nat),DenXs K H a us->DenXs K H (a.drop k) (us.drop k)
 | _,_,0,h=>by rw [List.drop_zero,List.drop_zero];exact h
 | [],us,k+1,h=>by rw [h.ofNil];exact .nil
 | d::a,us,k+1,h=>by
  obtain⟨v,r,rfl,h1,h2⟩:=h.ofCons;rw [List.drop_succ_cons,List.drop_succ_cons];exact DenXs.drop k h2
theorem DenXs.at{K:PySem.W.Frag}{H:Hp}{a:List PyData}{us:List V}{k:Nat}{d:PyData}(h:DenXs K H a us)(e:a[k]? = some d):∃v,us[k]? = some v/\DenX K H d v:=by
 have hk:=(aE.mp e).1;have hl:=h.len;have hv:us[k]? = some us[k]:=aJ (by lia);obtain⟨d',e',h'⟩:=h.get hv;rw [e] at e';cases e';exact⟨_,hv,h'⟩
theorem DenX.parts{K:PySem.W.Frag}{H:Hp}{d:PyData}{x:V}{ds:List PyData}(h:DenX K H d x)(hp:qB3 d=some ds):∃a vs,x = .ref a/\(SqL K H a vs\/SqT K H a vs)/\DenXs K H ds vs:=by
 rcases qC0 hp with rfl | rfl
 ·obtain⟨a,vs,rfl,h1,h2⟩:=h.ofList;exact⟨a,vs,rfl,.inl h1,h2⟩
 ·obtain⟨a,vs,rfl,h1,h2⟩:=h.ofTuple;exact⟨a,vs,rfl,.inr h1,h2⟩
theorem qVw{n j:Nat}(h:j<n):ixN n (j:Int)=some j:=by
 unfold ixN;rw [if_pos (by lia),if_pos (by lia)];simp
theorem qLz(k:Nat)(p:List Nat):atI (pathV (k::p)) 0=some (.int (k:Int)):=qAw (j:=0) rfl
section
variable{X:Cx}
def rCatA(K:PySem.W.Frag):R2:=λx y H Q => ∃a b xs ys,x = .ref a/\y = .ref b/\SqT K H a xs/\H b=some (.tup ys)/\ys ≠ []/\xs.length+ys.length<=sizeLine /\ ∀p G,Ext [] H G->G p=some (.tup (xs++ys))->Q (.ref p) G
theorem qTo:OpR X (binaryOp .Add) (rCatA X.K):=by
 intro pins s σ H x y v u Q I rx ry h;obtain⟨a,b,xs,ys,rfl,rfl,ha,hb,hy,hz,q⟩:=h;by_cases hx:xs = []
 ·subst hx;cases rx;cases ry;obtain⟨its,r1,p1,_⟩:=I.tuple ha;obtain⟨its2,r2,p2,_⟩:=I.tuple (SqT.of hb);have hv:its = []:=r1.nil_iff.mpr rfl;obtain⟨⟨cls,dd,data,sl⟩,ho,hc,n,hd⟩:=id p1;obtain⟨⟨cls2,dd2,data2,sl2⟩,ho2,hc2,n2,hd2⟩:=id p2;simp only at hc hd hc2 hd2;subst hc hd hc2 hd2;exact PySem.concat_meets ⟨_,ho,rfl⟩ ⟨_,ho2,rfl⟩ PySem.noFill_tuple_add PySem.seq_tuple_add PySem.F.slot_tuple_add PySem.F.entry_tuple_add (eY _ _)
   (PyProof.Rows.tuple_addW0 a b its.toArray its2.toArray n n2 dd dd2 sl sl2 (by simp [hv])) ⟨ho,ho2,⟨.ref b,H,I,rfl,q b H (.refl _ _) hb⟩⟩
 ·exact qTn pins s σ H _ _ v u Q I rx ry ⟨a,b,xs,ys,rfl,rfl,ha,SqT.of hb,hx,hz,λz=>absurd z hy,λ_ p hp=>q p _ (.laid hp) qA1⟩
theorem catAK(K:PySem.W.Frag)(hK:X.K=K):OpR X (binaryOp .Add) (rCatA K):=hK▸qTo
end
def PathsIn(H:Hp)(d:PyData)(n:Nat)(us:List V):Prop := ∀v∈us,∃(a:Addr) (p:List Nat) (e:PyData),v = .ref a/\H a=some (.tup (pathV p))/\p.length=n/\subD d p=some e
theorem PathsIn.mono{H G:Hp}{d:PyData}{n:Nat}{us:List V}(h:PathsIn H d n us)(s:Same H G):PathsIn G d n us:=λv hv=>by
 obtain⟨a,p,e,h1,h2,h3,h4⟩:=h v hv;exact⟨a,p,e,h1,s _ _ h2,h3,h4⟩
theorem PathsIn.app{H:Hp}{d:PyData}{n:Nat}{us vs:List V}(h:PathsIn H d n us)(t:PathsIn H d n vs):PathsIn H d n (us++vs):=λv hv=>(aS.mp hv).elim (h v) (t v)
def PathsTo(H:Hp)(d:PyData)(n:Nat)(us:List V):Prop := ∀v∈us,∃(a:Addr) (p:List Nat) (e:PyData),v = .ref a/\H a=some (.tup (pathV p))/\p ≠ []/\p.length<=n/\subD d p=some e
theorem PathsTo.mono{H G:Hp}{d:PyData}{n m:Nat}{us:List V}(h:PathsTo H d n us)(s:Same H G)(hm:n<=m):PathsTo G d m us:=λv hv=>by
 obtain⟨a,p,e,h1,h2,h3,h4,h5⟩:=h v hv;exact⟨a,p,e,h1,s _ _ h2,h3,by lia,h5⟩
theorem PathsIn.to{H:Hp}{d:PyData}{n:Nat}{us:List V}(h:PathsIn H d (n+1) us):PathsTo H d (n+1) us:=λv hv=>by
 obtain⟨a,p,e,h1,h2,h3,h4⟩:=h v hv;exact⟨a,p,e,h1,h2,λz=>by rw [z] at h3;simp at h3,by lia,h4⟩
theorem PathsTo.app{H:Hp}{d:PyData}{n:Nat}{us vs:List V}(h:PathsTo H d n us)(t:PathsTo H d n vs):PathsTo H d n (us++vs):=λv hv=>(aS.mp hv).elim (h v) (t v)
def qHf(K:PySem.W.Frag):Sp:=λvs H Q _ => ∃(x:V) (d:PyData) (ds:List PyData),vs = [x]/\DenX K H d x/\wide 12 d=true/\qB3 d=some ds/\ds ≠ [] /\ ∀(l:Addr) (us:List V) (H':Hp),Ext [] H H'->H' l=some (.lst us)->us ≠ []->us.length<2^24->PathsTo H' d 6 us->Q (.ref l) H'
def pow12:Nat->Nat
 | 0=>1
 | n+1=>12*pow12 n
def sum12:Nat->Nat
 | 0=>0
 | n+1=>sum12 n+pow12 (n+1)
theorem PathsIn.beside{H:Hp}{d:PyData}{n:Nat}{us xs:List V}{l:Addr}{o:HO}(h:PathsIn H d n us)(hl:H l=some (.lst xs)):PathsIn (upd H l o) d n us:=λv hv=>by
 obtain⟨a,p,e,h1,h2,h3,h4⟩:=h v hv;have c:a≠l:=λc=>by rw [c,hl] at h2;cases h2
 exact⟨a,p,e,h1,by rw [qA7 c];exact h2,h3,h4⟩
theorem qLj{e:PyData}(h:qB3 e=none):(qAr e "list" || qAr e "tuple")=false:=by cases e <;> first | rfl | cases h
theorem qIx{e:PyData}{es:List PyData}(h:qB3 e=some es):(qAr e "list" || qAr e "tuple")=true:=by rcases qC0 h with rfl | rfl <;> rfl
theorem qIv(p:List Nat)(k:Nat):pathV p ++ [.int (k:Int)]=pathV (p ++ [k]):=by unfold pathV;rw [aO];rfl
theorem qIw{p:List Nat}{j:Nat}{v:V}(h:(pathV p)[j]? = some v):∃k:Nat,p[j]? = some k/\v = .int (k:Int):=by
 unfold pathV at h;rw [aX] at h;cases z:p[j]? with
 | none=>rw [z] at h;cases h
 | some k=>rw [z] at h;cases h;exact⟨k,rfl,rfl⟩
theorem qLq{α : Type}{p:List α}{j:Nat}{k : α}(h:p[j]? = some k):p.drop j=k::p.drop (j+1):=by
 obtain⟨hj,rfl⟩:=aE.mp h;exact (List.getElem_cons_drop hj).symm
theorem qLd{t:Nat}(h:t<=6):pow12 t<=2985984:=by
 have:∀t,t<=6->pow12 t<=2985984:=by decide
 exact this t h
theorem qL4{t:Nat}(h:t<=6):sum12 t<=3257436:=by
 have:∀t,t<=6->sum12 t<=3257436:=by decide
 exact this t h
theorem lenS{n:Nat}(h:n<=16000000):n<=sizeLine:=bC h (by decide)
def oddD:List PyData :=[.none,.bool true,.int 0,.int 3,.str "a",.list [],.tuple [],.dict [],.dict [(.int 0,.int 1)],.list [.list [.int 0]],.tuple [.str "set"],.list [.list [.str "set"]]]
def deepD:List PyData :=[.list [.list [.list [.list [.int 0]]]],.tuple [.tuple [.tuple [.tuple [.int 0]]]]]
def qMu:List PyData :=[.str "set",.str "add",.str "tell",.str "call",.str "save",.str "back",.str "go",.str "fork",.str "out",.str ""]
def lastD:List PyData :=[.bool true,.none,.str "x",.int 8,.int 99]
def Plain(d:PyData):Prop:=(∃ds,d = .list ds)\/(∃ds,d = .tuple ds/\ds ≠ [])\/(∃s,d = .str s) \/ ∃n:Int,d = .int n /\ -(10^12)<=n/\n<=10^12
structure BentOk(n W D:Nat)(d:PyData):Prop where
 wi:wide n d=true
 ft:Fit d W D
theorem BentOk.mono{n W D n' W' D':Nat}{d:PyData}(h:BentOk n W D d)(h1:n<=n')(h2:W<=W')(h3:D<=D'):BentOk n' W' D' d:=⟨qAu h1 h.wi,h.ft.mono h2 h3⟩
def qN9(K:PySem.W.Frag):Sp:=λvs H Q _ => ∃(t:Addr) (k:Nat) (x:V) (d:PyData) (n W D:Nat),vs = [.ref t,x]/\Tape H t k/\k+3<=2^40/\DenX K (wo [t] H) d x/\Plain d/\BentOk n W D d/\5<=n/\n<=100/\1000<=W/\8<=D /\ ∀(r:V) (d':PyData) (H':Hp),Tape H' t (k+3)->Ext [t] H H'->DenX K (wo [t] H') d' r->BentOk n W D d'->Q r H'
theorem qFj{ds:List PyData}(h:∀d∈ds,wide 5 d=true/\d.showable=true/\d.leavesShort 14=true/\d.weight<=1000/\d.depth<=8):∀d∈ds,BentOk 5 1000 8 d:=λd hd=>by
 obtain⟨h1,h2,h3,h4,h5⟩:=h d hd;exact⟨h1,h2,h3,h4,h5⟩
theorem qVm:∀d∈oddD,BentOk 5 1000 8 d:=qFj (by decide +kernel)
theorem qUf:∀d∈deepD,BentOk 5 1000 8 d:=qFj (by decide +kernel)
theorem qQe:∀d∈qMu,BentOk 5 1000 8 d:=qFj (by decide +kernel)
theorem qU3:∀d∈lastD,BentOk 5 1000 8 d:=qFj (by decide +kernel)
theorem DenX.none'{K:PySem.W.Frag}{H:Hp}:DenX K H .none .non:=by simp only [DenX]
theorem DenX.int'{K:PySem.W.Frag}{H:Hp}{i:Int}:DenX K H (.int i) (.int i):=by simp only [DenX]
theorem DenX.str'{K:PySem.W.Frag}{H:Hp}{i:Str}:DenX K H (.str i) (.str i):=by simp only [DenX]
theorem DenX.dict0{K:PySem.W.Frag}{H:Hp}{a:Addr}(h:H a=some (.dK [])):DenX K H (.dict []) (.ref a):=by
 simp only [DenX];exact⟨a,[],rfl,.inl h,by simp only [DenXk]⟩
theorem DenX.dict1{K:PySem.W.Frag}{H:Hp}{a:Addr}{i j:Int}(h:H a=some (.dK [(Sum.inl i,.int j)])):DenX K H (.dict [(.int i,.int j)]) (.ref a):=by
 simp only [DenX];refine⟨a,_,rfl,.inl h,?_⟩;simp only [DenXk,DenX];exact⟨Sum.inl i,.int j,[],rfl,rfl,rfl,rfl⟩
section
variable{X:Cx}{es:List Expr}{te:TE}{t:TA}
theorem paK{c:Const}{j:Nat}{p:Pos}(h:PE X (.Constant c j p) te)(hr:PA X es t):PA X (.Constant c j p::es) (tCons te t):=qA0 h hr
theorem paL{xs:List Expr}{p:Pos}(h:PE X (.List xs p) te)(hr:PA X es t):PA X (.List xs p::es) (tCons te t):=qA0 h hr
theorem paT{xs:List Expr}{j:Nat}{p:Pos}(h:PE X (.Tuple xs j p) te)(hr:PA X es t):PA X (.Tuple xs j p::es) (tCons te t):=qA0 h hr
theorem paD{ks:List (Option Expr)}{xs:List Expr}{p:Pos}(h:PE X (.Dict ks xs p) te)(hr:PA X es t):PA X (.Dict ks xs p::es) (tCons te t):=qA0 h hr
theorem paN{x:Str}{p:Pos}(h:PE X (.Name x p) te)(hr:PA X es t):PA X (.Name x p::es) (tCons te t):=qA0 h hr
theorem paS{a b:Expr}{p:Pos}(h:PE X (.Subscript a b p) te)(hr:PA X es t):PA X (.Subscript a b p::es) (tCons te t):=qA0 h hr
theorem paC{a:Expr}{bs:List Expr}{k:List Keyword}{p:Pos}(h:PE X (.Call a bs k p) te)(hr:PA X es t):PA X (.Call a bs k p::es) (tCons te t):=qA0 h hr
theorem paB{a b:Expr}{o:Operator}{p:Pos}(h:PE X (.BinOp a o b p) te)(hr:PA X es t):PA X (.BinOp a o b p::es) (tCons te t):=qA0 h hr
end
theorem pe_disp1{X:Cx}{i j:Int}{a b:Nat}{p q pos:Pos}:PE X (.Dict [some (.Constant (.int i) a p)] [.Constant (.int j) b q] pos) (tDisp [(tC (.int i),tC (.int j))]):=qKd (qC4 pe_int pe_int qKb) rfl rfl (List.cons_ne_nil _ _) (aG rfl)
theorem Tape.same{H H':Hp}{t:Addr}{k:Nat}(h:Tape H t k)(e:Same H H'):Tape H' t k:=by
 obtain⟨a,b,c,h1,h2⟩:=h;exact⟨a,b,c,e _ _ h1,h2⟩
theorem DenXs.rev{K:PySem.W.Frag}{H:Hp}:∀ {a:List PyData} {us:List V},DenXs K H a us->DenXs K H a.reverse us.reverse
 | [],us,h=>by rw [h.ofNil];exact .nil
 | d::a,us,h=>by
  obtain⟨v,r,rfl,h1,h2⟩:=h.ofCons;rw [eR,eR];exact DenXs.app (DenXs.rev h2) (.cons h1 .nil)
def cutD(xs:List PyData)(lo hi:Option Int):List PyData:=(xs.drop (HT.sIx xs.length 0 lo)).take (HT.sIx xs.length xs.length hi - HT.sIx xs.length 0 lo)
theorem DenXs.cut{K:PySem.W.Frag}{H:Hp}{a:List PyData}{us:List V}(lo hi:Option Int)(h:DenXs K H a us):DenXs K H (cutD a lo hi) (cutV us lo hi):=by
 unfold cutD cutV;rw [h.len];exact DenXs.take _ (DenXs.drop _ h)
theorem FitS.sub{a b:List PyData}{W D:Nat}(h:a.Sublist b):FitS b W D->FitS a W D:=by
 induction h generalizing W with
 | slnil=>exact id
 | cons x _ ih =>
  intro t;obtain⟨V,U,h1,h2,h3⟩:=t.ofCons;exact (ih h2).mono (by lia) (aD _)
 | cons_cons x _ ih =>
  intro t;obtain⟨V,U,h1,h2,h3⟩:=t.ofCons;exact (FitS.cons h1 (ih h2)).mono (by lia) (aD _)
theorem FitS.rev{W D:Nat}:∀ {a:List PyData},FitS a W D->FitS a.reverse W D:=by
 intro a
 induction a generalizing W with
 | nil=>exact id
 | cons x a ih =>
  intro t;obtain⟨V,U,h1,h2,h3⟩:=t.ofCons;rw [eR];exact ((ih h2).app (FitS.cons h1 (FitS.nil _))).mono (by lia) (aD _)
theorem BentOk.re{n W D:Nat}{d:PyData}{ds es:List PyData}(h:BentOk n W D d)(hp:qB3 d=some ds)(hf:∀W D,FitS ds W D->FitS es W D)(hl:es.length<=ds.length)(hm:∀x∈es,x∈ds):BentOk n W D (.list es)/\BentOk n W D (.tuple es):=by
 obtain⟨D',rfl,hS⟩:=h.ft.parts hp;obtain⟨w1,w2⟩:=qCy h.wi hp;exact⟨⟨wide_list.mpr ⟨by lia,λx hx=>w2 x (hm x hx)⟩,(hf _ _ hS).list⟩,⟨wide_tuple.mpr ⟨by lia,λx hx=>w2 x (hm x hx)⟩,(hf _ _ hS).tuple⟩⟩
theorem BentOk.all{n W D:Nat}{d:PyData}{ds:List PyData}(h:BentOk n W D d)(hp:qB3 d=some ds):BentOk n W D (.list ds)/\BentOk n W D (.tuple ds):=h.re hp (λ_ _ t=>t) (aD _) λ_ z=>z
theorem BentOk.rev{n W D:Nat}{d:PyData}{ds:List PyData}(h:BentOk n W D d)(hp:qB3 d=some ds):BentOk n W D (.list ds.reverse)/\BentOk n W D (.tuple ds.reverse):=h.re hp (λ_ _ t=>t.rev) (by simp) λ_ z=>List.mem_reverse.mp z
theorem BentOk.cut{n W D:Nat}{d:PyData}{ds:List PyData}(lo hi:Option Int)(h:BentOk n W D d)(hp:qB3 d=some ds):BentOk n W D (.list (cutD ds lo hi))/\BentOk n W D (.tuple (cutD ds lo hi)):=by
 have hs:(cutD ds lo hi).Sublist ds:=(List.take_sublist _ _).trans (List.drop_sublist _ _);exact h.re hp (λ_ _ t=>t.sub hs) hs.length_le λ_ z=>hs.subset z
theorem Tape.some{H:Hp}{t:Addr}{k:Nat}(h:Tape H t k){p:Addr}(hp:H p=none):p ∉ [t]:=λz=>by
 obtain⟨a,b,c,h1,_⟩:=h;rw [aL.mp z,h1] at hp;cases hp
theorem qKh{K:PySem.W.Frag}{H:Hp}{t p:Addr}{k:Nat}{es:List PyData}{vs:List V}(hT:Tape H t k)(hp:H p=none)(h:DenXs K (wo [t] H) es vs):DenX K (wo [t] (upd H p (.lst vs))) (.list es) (.ref p):=.list (SqL.of (by rw [qDv (hT.some hp)];exact qA1)) (h.mono (Ext.laid hp).same)
theorem qKg{K:PySem.W.Frag}{H:Hp}{t p:Addr}{k:Nat}{es:List PyData}{vs:List V}(hT:Tape H t k)(hp:H p=none)(h:DenXs K (wo [t] H) es vs):DenX K (wo [t] (upd H p (.tup vs))) (.tuple es) (.ref p):=.tuple (SqT.of (by rw [qDv (hT.some hp)];exact qA1)) (h.mono (Ext.laid hp).same)
def tDat(K:PySem.W.Frag)(d:PyData):TE:=λ_ H Q => ∀(r:V) (G:Hp),Ext [] H G->DenX K (yo H [] G) d r->Q r G
def tDats(K:PySem.W.Frag)(ds:List PyData):TA:=λ_ H Q => ∀(rs:List V) (G:Hp),Ext [] H G->DenXs K (yo H [] G) ds rs->Q rs G
theorem PE.imp{X:Cx}{e:Expr}{t t':TE}(h:PE X e t)(i:∀ σ H Q,t' σ H Q->t σ H Q):PE X e t':=λpins s σ H Q I hw=>h pins s σ H Q I (i σ H Q hw)
theorem PA.imp{X:Cx}{e:List Expr}{t t':TA}(h:PA X e t)(i:∀ σ H Q,t' σ H Q->t σ H Q):PA X e t':=λpins as s σ H Q I hw=>h pins as s σ H Q I (i σ H Q hw)
theorem qMr{H G:Hp}{b:Addr}{o:HO}(h0:H b=none)(h:G b=some o):yo H [] G b=some o:=by
 unfold yo;rw [h0];exact h
theorem qUl{H G G2:Hp}(a:Ext [] H G):Same (yo G [] G2) (yo H [] G2):=λb o h=>by
 obtain⟨h1,_,h3⟩:=qCg h;refine qMr ?_ h3;cases z:H b with
 | none=>rfl
 | some u=>rw [a b u (by simp) z] at h1;cases h1
section
variable{X:Cx}{K:PySem.W.Frag}{es:List Expr}{e:Expr}{d:PyData}{ds:List PyData}
theorem qEc{i:Int}{j:Nat}{p:Pos}:PE X (.Constant (.int i) j p) (tDat K (.int i)):=pe_int.imp λ_ H _ h=>h _ H (.refl _ _) DenX.int'
theorem qTh{i:Bool}{j:Nat}{p:Pos}:PE X (.Constant (.bool i) j p) (tDat K (.bool i)):=pe_bl.imp λ_ H _ h=>h _ H (.refl _ _) DenX.bool
theorem qOb{j:Nat}{p:Pos}:PE X (.Constant .none j p) (tDat K .none):=pe_non.imp λ_ H _ h=>h _ H (.refl _ _) DenX.none'
theorem qBz{i:Str}{j:Nat}{p:Pos}:PE X (.Constant (.str i) j p) (tDat K (.str i)):=pe_str.imp λ_ H _ h=>h _ H (.refl _ _) DenX.str'
theorem qAb:PA X [] (tDats K []):=pa_nil.imp λ_ H _ h=>h _ H (.refl _ _) .nil
theorem qUe{H G G2:Hp}{r:V}{rs:List V}(a:Ext [] H G)(b:Ext [] G G2)(h:DenX K (yo H [] G) d r)(t:DenXs K (yo G [] G2) ds rs):DenXs K (yo H [] G2) (d::ds) (r::rs) :=.cons (h.mono b.young) (t.mono (qUl a))
theorem qDj(σ : St)(H:Hp)(Q:List V->Hp->Prop)(h:tDats K (d::ds) σ H Q):tCons (tDat K d) (tDats K ds) σ H Q:=λr G a hr rs G2 b ht=>h (r::rs) G2 (a.trans b) (qUe a b hr ht)
theorem pdK{c:Const}{j:Nat}{p:Pos}(h:PE X (.Constant c j p) (tDat K d))(hr:PA X es (tDats K ds)):PA X (.Constant c j p::es) (tDats K (d::ds)):=(paK h hr).imp qDj
theorem pdL{xs:List Expr}{p:Pos}(h:PE X (.List xs p) (tDat K d))(hr:PA X es (tDats K ds)):PA X (.List xs p::es) (tDats K (d::ds)):=(paL h hr).imp qDj
theorem pdT{xs:List Expr}{j:Nat}{p:Pos}(h:PE X (.Tuple xs j p) (tDat K d))(hr:PA X es (tDats K ds)):PA X (.Tuple xs j p::es) (tDats K (d::ds)):=(paT h hr).imp qDj
theorem pdD{ks:List (Option Expr)}{xs:List Expr}{p:Pos}(h:PE X (.Dict ks xs p) (tDat K d))(hr:PA X es (tDats K ds)):PA X (.Dict ks xs p::es) (tDats K (d::ds)):=(paD h hr).imp qDj
theorem qCw{H G:Hp}{p:Addr}(a:Ext [] H G)(h:G p=none):H p=none:=by
 cases z:H p with
 | none=>rfl
 | some o=>rw [a p o (by simp) z] at h;cases h
theorem qBk{p:Pos}(hl:ds.length<=1000)(h:PA X es (tDats K ds)):PE X (.List es p) (tDat K (.list ds)):=(qAk h).imp λ_ H Q q rs G a hr =>
 ⟨len2 (by rw [hr.len];exact hl),λp hp=>q (.ref p) _ (a.trans (.laid hp)) (.list (SqL.of (qMr (qCw a hp) qA1)) (hr.mono (Ext.laid hp).young))⟩
theorem qD2{j:Nat}{p:Pos}(hl:ds.length<=1000)(h:PA X es (tDats K ds)):PE X (.Tuple es j p) (tDat K (.tuple ds)):=(qBw h).imp λ_ H Q q rs G a hr =>
 ⟨len2 (by rw [hr.len];exact hl),λp hp=>q (.ref p) _ (a.trans (.laid hp)) (.tuple (SqT.of (qMr (qCw a hp) qA1)) (hr.mono (Ext.laid hp).young))⟩
theorem qLi{p:Pos}:PE X (.Dict [] [] p) (tDat K (.dict [])):=pe_dnewK.imp λ_ H Q q p hp=>q (.ref p) _ (.laid hp) (DenX.dict0 (qMr hp qA1))
theorem Ext.over{H:Hp}{p:Addr}{o u:HO}(h:H p=Option.none):Ext [] H (upd (upd H p o) p u):=λb x _ z=>by
 have c:b≠p:=λc=>by rw [c,h] at z;cases z
 rw [qA7 c,qA7 c];exact z
theorem qR2{i j:Int}{a b:Nat}{p q pos:Pos}:PE X (.Dict [some (.Constant (.int i) a p)] [.Constant (.int j) b q] pos) (tDat K (.dict [(.int i,.int j)])):=pe_disp1.imp λ_ H Q q p hp =>
 ⟨qA1,[(Sum.inl i,.int j)],rfl,by show 1<=15;lia,q (.ref p) _ (Ext.over hp) (DenX.dict1 (qMr hp qA1))⟩
end
section
variable{X:Cx}
structure PEx(X:Cx)(e:Expr)(t:TE):Prop where
 h:PE X e t
structure PSx(X:Cx)(st:Stmt)(t:TS):Prop where
 h:PS X st t
structure PSsx(X:Cx)(ss:List Stmt)(t:TS):Prop where
 h:PSs X ss t
theorem pex{e:Expr}{t:TE}(h:PE X e t):PEx X e t:=⟨h⟩
theorem psx{st:Stmt}{t:TS}(h:PS X st t):PSx X st t:=⟨h⟩
theorem qBa{st:Stmt}{rest:List Stmt}{t u:TS}(h1:PSx X st t)(h2:PSsx X rest u):PSsx X (st::rest) (tSeq t u):=⟨qA3 h1.h h2.h⟩
theorem qBu{st:Stmt}{t:TS}(h1:PSx X st t):PSsx X [st] t:=⟨qA6 h1.h⟩
theorem qFy{c:Expr}{a b:List Stmt}{tc:TT}{t u:TS}{pos:Pos}(hc:PT X c tc)(ha:PSsx X a t)(hb:PSs X b u):PSx X (.If c a b pos) (tIfS tc t u):=⟨qBe hc ha.h hb⟩
theorem qKa{e:Expr}{t:TE}{pos:Pos}(he:PEx X e t):PSx X (.Return (some e) pos) (tRet t):=⟨qA9 he.h⟩
theorem qOa{c a b:Expr}{tc:TT}{ta tb:TE}{pos:Pos}(hc:PT X c tc)(ha:PEx X a ta)(hb:PEx X b tb):PEx X (.IfExp c a b pos) (tIf tc ta tb):=⟨qCf hc ha.h hb.h⟩
theorem qLc{es:List Expr}{i:Nat}{x:Str}{te:TE}{pos' p pos:Pos}(hN:X.N.Nodup)(hi:X.N[i]? = some x)(hx:Loc X.env.scope x)(he:PEx X (.List es p) te)(hf:X.fn x=true\/X.env.scope.names.lookup x=some .local:=by first | exact .inl rfl | exact .inr rfl | assumption):PSx X (.Assign [.Name x pos'] (.List es p) pos) (tAsg te (gName i)):=⟨qAo hN hi hx he.h rfl hf⟩
theorem qO9{a b:Expr}{ta tb:TE}{r:R2}{pos:Pos}(hr:IxR X r)(ha:PEx X a ta)(hb:PE X b tb)(hs:qQ7 b):PEx X (.Subscript a b pos) (tOp r ta tb):=⟨qAm hr ha.h hb hs⟩
theorem paLx{xs es:List Expr}{p:Pos}{te:TE}{t:TA}(h:PEx X (.List xs p) te)(hr:PA X es t):PA X (.List xs p::es) (tCons te t):=paL h.h hr
theorem paSx{a b:Expr}{es:List Expr}{p:Pos}{te:TE}{t:TA}(h:PEx X (.Subscript a b p) te)(hr:PA X es t):PA X (.Subscript a b p::es) (tCons te t):=paS h.h hr
end
theorem qTf{X:Cx}{K:PySem.W.Frag}{j1 j3 j5 j7 j9 j13 j16 j18 j20 j24 j27 j28:Nat}{p2 p4 p6 p8 p10 p11 p12 p14 p15 p17 p19 p21 p22 p23 p25 p26 p29 p30 p31 p32:Pos}:PEx X (.List [.Constant .none j1 p2,.Constant (.bool true) j3 p4,.Constant (.int 0) j5 p6,.Constant (.int 3) j7 p8,.Constant (.str (Str.ofString "a")) j9 p10,.List [] p11,.Tuple [] j13 p12,.Dict [] [] p14,.Dict [some (.Constant (.int 0) j16 p17)] [.Constant (.int 1) j18 p19] p15,.List [.List [.Constant (.int 0) j20 p21] p22] p23,.Tuple [.Constant (.str (Str.ofString "set")) j24 p25] j27 p26,.List [.List [.Constant (.str (Str.ofString "set")) j28 p29] p30] p31] p32) (tLst (tDats K oddD)):=by
 constructor
 with_reducible refine qAk ?_
 unfold oddD
 with_reducible refine pdK qOb ?_
 with_reducible refine pdK qTh ?_
 with_reducible refine pdK qEc ?_
 with_reducible refine pdK qEc ?_
 with_reducible refine pdK qBz ?_
 with_reducible refine pdL (qBk (aG rfl) qAb) ?_
 with_reducible refine pdT (qD2 (aG rfl) qAb) ?_
 with_reducible refine pdD qLi ?_
 with_reducible refine pdD qR2 ?_
 with_reducible refine pdL (qBk (aG rfl) (pdL (qBk (aG rfl) (pdK qEc qAb)) qAb)) ?_
 with_reducible refine pdT (qD2 (aG rfl) (pdK qBz qAb)) ?_
 with_reducible refine pdL (qBk (aG rfl) (pdL (qBk (aG rfl) (pdK qBz qAb)) qAb)) ?_
 with_reducible exact qAb
theorem qQz{X:Cx}{K:PySem.W.Frag}{j1 j7 j10 j12 j14 j16:Nat}{p2 p3 p4 p5 p6 p8 p9 p11 p13 p15 p17:Pos}:PEx X (.List [.List [.List [.List [.List [.Constant (.int 0) j1 p2] p3] p4] p5] p6,.Tuple [.Tuple [.Tuple [.Tuple [.Constant (.int 0) j7 p8] j10 p9] j12 p11] j14 p13] j16 p15] p17) (tLst (tDats K deepD)):=by
 constructor
 with_reducible refine qAk ?_
 unfold deepD
 with_reducible refine pdL (qBk (aG rfl) (pdL (qBk (aG rfl) (pdL (qBk (aG rfl) (pdL (qBk (aG rfl) (pdK qEc qAb)) qAb)) qAb)) qAb)) ?_
 with_reducible refine pdT (qD2 (aG rfl) (pdT (qD2 (aG rfl) (pdT (qD2 (aG rfl) (pdT (qD2 (aG rfl) (pdK qEc qAb)) qAb)) qAb)) qAb)) ?_
 with_reducible exact qAb
theorem qO7{X:Cx}{K:PySem.W.Frag}{j1 j3 j5 j7 j9 j11 j13 j15 j17 j19:Nat}{p2 p4 p6 p8 p10 p12 p14 p16 p18 p20 p21:Pos}:PEx X (.List [.Constant (.str (Str.ofString "set")) j1 p2,.Constant (.str (Str.ofString "add")) j3 p4,.Constant (.str (Str.ofString "tell")) j5 p6,.Constant (.str (Str.ofString "call")) j7 p8,.Constant (.str (Str.ofString "save")) j9 p10,.Constant (.str (Str.ofString "back")) j11 p12,.Constant (.str (Str.ofString "go")) j13 p14,.Constant (.str (Str.ofString "fork")) j15 p16,.Constant (.str (Str.ofString "out")) j17 p18,.Constant (.str (Str.ofString "")) j19 p20] p21) (tLst (tDats K qMu)):=by
 constructor
 with_reducible refine qAk ?_
 unfold qMu
 with_reducible refine pdK qBz ?_
 with_reducible refine pdK qBz ?_
 with_reducible refine pdK qBz ?_
 with_reducible refine pdK qBz ?_
 with_reducible refine pdK qBz ?_
 with_reducible refine pdK qBz ?_
 with_reducible refine pdK qBz ?_
 with_reducible refine pdK qBz ?_
 with_reducible refine pdK qBz ?_
 with_reducible refine pdK qBz ?_
 with_reducible exact qAb
theorem qQy{X:Cx}{K:PySem.W.Frag}{j1 j3 j5 j7 j9:Nat}{p2 p4 p6 p8 p10 p11:Pos}:PEx X (.List [.Constant (.bool true) j1 p2,.Constant .none j3 p4,.Constant (.str (Str.ofString "x")) j5 p6,.Constant (.int 8) j7 p8,.Constant (.int 99) j9 p10] p11) (tLst (tDats K lastD)):=by
 constructor
 with_reducible refine qAk ?_
 unfold lastD
 with_reducible refine pdK qTh ?_
 with_reducible refine pdK qOb ?_
 with_reducible refine pdK qBz ?_
 with_reducible refine pdK qEc ?_
 with_reducible refine pdK qEc ?_
 with_reducible exact qAb
def qE0:List PyData :=[.none,.bool true,.int 0,.str "",.tuple [],.list [],.dict [],.list [.list []],.list [.tuple []],.list [.list [.tuple [.list [],.tuple [.str "out"]]]],.list [.list [.tuple [.list [],.list [.str "out"]]]]]
theorem qM7{X:Cx}{K:PySem.W.Frag}{j1 j3 j5 j7 j10 j16 j19 j22 j24 j28 j32:Nat}{p2 p4 p6 p8 p9 p11 p12 p13 p14 p15 p17 p18 p20 p21 p23 p25 p26 p27 p29 p30 p31 p33 p34 p35:Pos}:PEx X (.List [.Constant .none j1 p2,.Constant (.bool true) j3 p4,.Constant (.int 0) j5 p6,.Constant (.str (Str.ofString "")) j7 p8,.Tuple [] j10 p9,.List [] p11,.Dict [] [] p12,.List [.List [] p13] p14,.List [.Tuple [] j16 p15] p17,.List [.List [.Tuple [.List [] p18,.Tuple [.Constant (.str (Str.ofString "out")) j19 p20] j22 p21] j24 p23] p25] p26,.List [.List [.Tuple [.List [] p27,.List [.Constant (.str (Str.ofString "out")) j28 p29] p30] j32 p31] p33] p34] p35) (tLst (tDats K qE0)):=by
 constructor
 with_reducible refine qAk ?_
 unfold qE0
 with_reducible refine pdK qOb ?_
 with_reducible refine pdK qTh ?_
 with_reducible refine pdK qEc ?_
 with_reducible refine pdK qBz ?_
 with_reducible refine pdT (qD2 (aG rfl) qAb) ?_
 with_reducible refine pdL (qBk (aG rfl) qAb) ?_
 with_reducible refine pdD qLi ?_
 with_reducible refine pdL (qBk (aG rfl) (pdL (qBk (aG rfl) qAb) qAb)) ?_
 with_reducible refine pdL (qBk (aG rfl) (pdT (qD2 (aG rfl) qAb) qAb)) ?_
 with_reducible refine pdL (qBk (aG rfl) (pdL (qBk (aG rfl) (pdT (qD2 (aG rfl) (pdL (qBk (aG rfl) qAb) (pdT (qD2 (aG rfl) (pdK qBz qAb)) qAb))) qAb)) qAb)) ?_
 with_reducible refine pdL (qBk (aG rfl) (pdL (qBk (aG rfl) (pdT (qD2 (aG rfl) (pdL (qBk (aG rfl) qAb) (pdL (qBk (aG rfl) (pdK qBz qAb)) qAb))) qAb)) qAb)) ?_
 with_reducible exact qAb
def qGj:List PyData :=[.list [.tuple [.list [],.tuple [.str "out"],.int 0]]]
theorem qO8{X:Cx}{K:PySem.W.Frag}{j2 j5 j6 j9:Nat}{p1 p3 p4 p7 p8 p10 p11:Pos}:PEx X (.List [.List [.Tuple [.List [] p1,.Tuple [.Constant (.str (Str.ofString "out")) j2 p3] j5 p4,.Constant (.int 0) j6 p7] j9 p8] p10] p11) (tLst (tDats K qGj)):=by
 constructor
 with_reducible refine qAk ?_
 unfold qGj
 with_reducible refine pdL (qBk (aG rfl) (pdT (qD2 (aG rfl) (pdL (qBk (aG rfl) qAb) (pdT (qD2 (aG rfl) (pdK qBz qAb)) (pdK qEc qAb)))) qAb)) ?_
 with_reducible exact qAb
theorem qFd{H G G':Hp}{t:Addr}{k:Nat}(hT:Tape H t k)(e:Ext [] G G'):Same (yo H [] G) (wo [t] G'):=λb o h=>by
 obtain⟨h1,_,h3⟩:=qCg h;rw [qDv (hT.some h1)];exact e b o (by simp) h3
theorem DenXs.pick{K:PySem.W.Frag}{G:Hp}{ds:List PyData}{vs:List V}(h:DenXs K G ds vs){i:Int}(h0:0<=i)(h1:i<ds.length):∃d v,d∈ds/\atI vs i=some v/\DenX K G d v:=by
 obtain⟨k,rfl⟩:∃k:Nat,i=(k:Int):=⟨i.toNat,by lia⟩;have hk:k<ds.length:=by lia
 obtain⟨v,hv,hd⟩:=h.at (aJ hk);exact⟨_,v,cU hk,qAw hv,hd⟩
theorem qVy{m:Int}(h:m.natAbs<10^13):BentOk 5 1000 8 (.int m):=by
 refine⟨by simp only [wide],(Fit.of (n:=0) (D:=0) ?_ ?_ ?_).mono (by lia) (by lia)⟩
 ·simp only [tame,decide_eq_true_eq];exact h
 ·simp only [cells];lia
 ·simp only [PyData.depth];lia
section
variable{K:PySem.W.Frag}{G:Hp}{t a:Addr}{k:Nat}{d:PyData}{ds:List PyData}{Q:VK}{n W D:Nat}
theorem qWt{vs:List V}(hT:Tape G t k)(hS:SqL K (wo [t] G) a vs\/SqT K (wo [t] G) a vs)(hV:DenXs K (wo [t] G) ds vs)(q:∀r G',Ext [] G G'->DenX K (wo [t] G') (.tuple ds) r->Q r G'):rTupA K [.ref a] G Q:=by
 refine⟨a,vs,rfl,?_⟩;rcases hS with h | h
 ·exact .inl ⟨(qAs _ _).seq h,λp hp=>q _ _ (.laid hp) (qKg hT hp hV)⟩
 ·exact .inr ⟨(qAs _ _).seqT h,q _ _ (.refl _ _) (.tuple h hV)⟩
theorem qVz{vs:List V}{lo hi:Option Int}(hT:Tape G t k)(hS:(SqL K (wo [t] G) a vs/\True)\/(SqT K (wo [t] G) a vs/\vs ≠ []))(hV:DenXs K (wo [t] G) ds vs)(hB:BentOk n W D d)(hp:qB3 d=some ds)(hw:vs ≠ [] -> ¬(HT.sIx vs.length 0 lo=0/\HT.sIx vs.length vs.length hi=vs.length))(q:∀r d' G',Ext [] G G'->DenX K (wo [t] G') d' r->BentOk n W D d'->Q r G'):rSlL K (.ref a) lo hi G Q\/rSlT K (.ref a) lo hi G Q:=by
 rcases hS with ⟨h,_⟩ | ⟨h,hn⟩
 ·exact .inl ⟨a,vs,rfl,(qAs _ _).seq h,λp hp'=>q _ _ _ (.laid hp') (qKh hT hp' (hV.cut lo hi)) (hB.cut lo hi hp).1⟩
 ·exact .inr ⟨a,vs,rfl,(qAs _ _).seqT h,hw hn,λp hp'=>q _ _ _ (.laid hp') (qKg hT hp' (hV.cut lo hi)) (hB.cut lo hi hp).2⟩
theorem qWu{vs:List V}(hT:Tape G t k)(hS:SqL K (wo [t] G) a vs\/SqT K (wo [t] G) a vs)(hV:DenXs K (wo [t] G) ds vs)(hB:BentOk n W D d)(hp:qB3 d=some ds)(q:∀r d' G',Ext [] G G'->DenX K (wo [t] G') d' r->BentOk n W D d'->Q r G'):rRev K (.ref a) G Q:=by
 refine⟨a,vs,rfl,?_⟩;rcases hS with h | h
 ·exact .inl ⟨(qAs _ _).seq h,λp hp'=>q _ _ _ (.laid hp') (qKh hT hp' hV.rev) (hB.rev hp).1⟩
 ·exact .inr ⟨(qAs _ _).seqT h,λp hp'=>q _ _ _ (.laid hp') (qKg hT hp' hV.rev) (hB.rev hp).2⟩
theorem qLt{vs:List V}(h:vs ≠ []) : ¬(HT.sIx vs.length 0 none=0/\HT.sIx vs.length vs.length (some (-1))=vs.length):=by
 cases vs with
 | nil=>exact absurd rfl h
 | cons v xs =>
  unfold HT.sIx;intro z;have:=z.2;simp at this;lia
theorem qPs{vs:List V}(h:vs ≠ []) : ¬(HT.sIx vs.length 0 (some 1)=0/\HT.sIx vs.length vs.length none=vs.length):=by
 cases vs with
 | nil=>exact absurd rfl h
 | cons v xs=>exact qGw v xs
theorem qWd{te tt:TE}{σ : St}{H:Hp}(h:te σ H λx H1=>tt σ H1 λy H2=>y = .int (-1)/\rRev K x H2 Q):tRev K te tt σ H Q:=h
end
structure SoundD(d:PyData):Prop where
 wi:wide 12 d=true
 ft:Fit d 300000 20
 pl:∀p e,p ≠ []->subD d p=some e->Plain e
def qHd(K:PySem.W.Frag):Sp:=λvs H Q _ => ∃(t:Addr) (k:Nat) (x:V) (ds:List PyData),vs = [.ref t,x]/\Tape H t k/\k+5<=2^40/\DenX K (wo [t] H) (.list ds) x/\ds ≠ []/\SoundD (.list ds) /\
 ∀(r:V) (d':PyData) (H':Hp),Tape H' t (k+5)->Ext [t] H H'->DenX K (wo [t] H') d' r->LookD d'->Q r H'
theorem PathsTo.pick{H:Hp}{d:PyData}{n:Nat}{us:List V}(h:PathsTo H d n us){i:Int}(h0:0<=i)(h1:i<us.length):∃(a:Addr) (q:List Nat) (k:Nat) (e ed:PyData) (es:List PyData),atI us i=some (.ref a)/\H a=some (.tup (pathV (q ++ [k])))/\(q ++ [k]).length<=n/\subD d (q ++ [k])=some e/\subD d q=some ed/\qB3 ed=some es/\es[k]? = some e:=by
 obtain⟨j,rfl⟩:∃j:Nat,i=(j:Int):=⟨i.toNat,by lia⟩;have hj:j<us.length:=by lia
 obtain⟨a,p,e,g1,g2,g3,g4,g5⟩:=h us[j] (cU hj);rcases List.eq_nil_or_concat p with rfl | ⟨q,k,rfl⟩
 ·exact absurd rfl g3
 ·simp only [List.concat_eq_append] at g2 g4 g5;obtain⟨ed,es,f1,f2,f3⟩:=qIk g5;exact⟨a,q,k,e,ed,es,qAw (by rw [aJ hj,g1]),g2,g4,g5,f1,f2,f3⟩
theorem PathsTo.apart{H:Hp}{d:PyData}{n k:Nat}{us:List V}{l t:Addr}(h:PathsTo H d n us)(hl:H l=some (.lst us))(hn:us ≠ [])(T:Tape H t k):l ∉ [t]:=λz=>by
 obtain⟨a,b,c,h1,_⟩:=T;rw [<-aL.mp z,hl] at h1;cases h1;obtain⟨_,_,_,g,_⟩:=h (.int a) (by simp);cases g
theorem qN3{H:Hp}{k:Nat}{xs:List V}{l t:Addr}(hl:H l=some (.tup xs))(T:Tape H t k):l ∉ [t]:=λz=>by
 obtain⟨a,b,c,h1,_⟩:=T;rw [<-aL.mp z,hl] at h1;cases h1
theorem qFo{t:Addr}{k:Nat}{G H' H0':Hp}(T:Tape G t k)(s:Same H0' H')(c:∀b o,H0' b=some o->wo [t] G b=some o\/G b=none):Same H0' (wo [t] H'):=λb o z=>by
 have hb:b ∉ [t]:=by
  rcases c b o z with h | h
  ·intro y;rw [show wo [t] G b=none from if_pos y] at h;cases h
  ·exact T.some h
 rw [qDv hb];exact s b o z
theorem qFs{d:PyData}{ds:List PyData}{p:List Nat}{made:List PyData}{e:PyData}(hd:d = .list ds)(h:subD d p=some e)(hp:p ≠ []):∃es,withD d p made = .list es:=by
 subst hd;cases p with
 | nil=>exact absurd rfl hp
 | cons k p =>
  obtain⟨ds',x,g1,g2,g3⟩:=qB7 h;rw [qEi g1 g2];exact⟨_,rfl⟩
theorem qKk{d:PyData}{W D:Nat}(hl:∃es,d = .list es)(hw:wide 20 d=true)(hf:Fit d W D)(hW:W<=1000000)(hD:D<=100):LookD d:=by
 obtain⟨s1,s2,s3⟩:=hf.shown hW hD;exact⟨hw,.inr (.inl hl),s1,s2,s3⟩
section
variable{ds made:List PyData}{p:List Nat}{e:PyData}
theorem qG4(h:SoundD (.list ds))(hs:subD (.list ds) p=some e)(hp:p ≠ [])(hl:made.length<=2)(hm:∀x∈made,BentOk 12 300000 20 x):LookD (withD (.list ds) p made):=by
 refine qKk (qFs rfl hs hp) (qAu (by lia) (qE3 (m:=13) hs h.wi hl (λx hx=>qAu (by lia) (hm x hx).wi) (by lia))) (qFn (V:=600002) (D':=20) hs h.ft ?_) (by lia) (by lia)
 match made,hl,hm with
 | [],_,_=>exact (FitS.nil 20).mono (by lia) (by lia)
 | [a],_,hm=>exact ((FitS.cons (hm a (by simp)).ft (FitS.nil _))).mono (by lia) (by lia)
 | [a,b],_,hm=>exact ((FitS.cons (hm a (by simp)).ft (FitS.cons (hm b (by simp)).ft (FitS.nil _)))).mono (by lia) (by lia)
theorem qI7(h:SoundD (.list ds))(hs:subD (.list ds) p=some e):BentOk 12 300000 20 e:=⟨qH9 hs h.wi,h.ft.sub hs⟩
end
theorem qRi{ds es:List PyData}{q:List Nat}{k:Nat}{e ed y:PyData}(h:SoundD (.list ds))(hs:subD (.list ds) (q ++ [k])=some e)(hq:subD (.list ds) q=some ed)(hp:qB3 ed=some es)(hk:es[k]? = some e)(hy:es[k+1]? = some y):wide 100 (withD (.list ds) (q ++ [k]) [y])=true/\(∃z,subD (withD (.list ds) (q ++ [k]) [y]) (q ++ [k+1])=some z)/\LookD (withD (withD (.list ds) (q ++ [k]) [y]) (q ++ [k+1]) [e]):=by
 have hy':subD (.list ds) (q ++ [k+1])=some y:=qDk hq hp hy;have bY:=qI7 h hy';have bE:=qI7 h hs;have w1:wide 13 (withD (.list ds) (q ++ [k]) [y])=true:=qE3 hs h.wi (by simp) (λx hx=>by rw [aL.mp hx];exact qAu (by lia) bY.wi) (by lia);have f1:Fit (withD (.list ds) (q ++ [k]) [y]) (300000+300001) (20+20):=qFn hs h.ft ((FitS.cons bY.ft (FitS.nil _)).mono (by lia) (by lia));obtain⟨e',ds',g1,g2,g3⟩:=qKy (y:=y) hq hp hk;have hlt:k+1<ds'.length:=by
  have:=(aE.mp hy).1;lia
 have hz:=qDk g1 g2 (aJ hlt);obtain⟨es1,hes1⟩:=qFs (made :=[y]) rfl hs (by simp);refine⟨qAu (by lia) w1,⟨_,hz⟩,qKk (qFs hes1 hz (by simp)) (qAu (n:=14) (by lia) (qE3 hz w1 (by simp) (λx hx=>by rw [aL.mp hx];exact qAu (by lia) bE.wi) (by lia))) (qFn hz f1 ((FitS.cons bE.ft (FitS.nil _)).mono (show _<=300001 by lia) (aD _))) (by lia) (by lia)⟩
theorem qKu{q:List Nat}{k:Nat}:atI (pathV (q ++ [k])) (-1)=some (.int (k:Int)):=by
 unfold atI;have hl:(pathV (q ++ [k])).length=q.length+1:=by unfold pathV;simp
 rw [hl];have:ixN (q.length+1) (-1)=some q.length:=by
  unfold ixN;rw [if_neg (by lia)];simp;lia
 rw [this];show (pathV (q ++ [k]))[q.length]? = _;unfold pathV;simp
theorem qRt{q:List Nat}{k:Nat}:cutV (pathV (q ++ [k])) none (some (-1))=pathV q:=by
 have hl:(pathV (q ++ [k])).length=q.length+1:=by unfold pathV;simp
 unfold cutV HT.sIx;rw [hl];simp [pathV];rw [show (-1+((q.length:Int)+1)).toNat=q.length by lia,List.take_append_of_le_length (by simp),aT (by simp)]
theorem qTk{q:List Nat}{k:Nat}:pathV (q ++ [k]) ≠ []:=by unfold pathV;simp
section
variable{X:Cx}
theorem qSg:OpR X (compareOp .Is) (λx y H Q => ∃b c,x = .bl b/\y = .bl c/\Q (.bl (decide (b=c))) H):=by
 intro pins s σ H x y v u Q I rx ry h;obtain⟨b,c,rfl,rfl,q⟩:=h;cases rx;cases ry;cases b <;> cases c
 ·exact aA (m:=isSame (Value.bool false) (Value.bool false)) (aB (aB ⟨.bl true,H,I,rfl,q⟩))
 ·exact aA (m:=isSame (Value.bool false) (Value.bool true)) (aB (aB ⟨.bl false,H,I,rfl,q⟩))
 ·exact aA (m:=isSame (Value.bool true) (Value.bool false)) (aB (aB ⟨.bl false,H,I,rfl,q⟩))
 ·exact aA (m:=isSame (Value.bool true) (Value.bool true)) (aB (aB ⟨.bl true,H,I,rfl,q⟩))
theorem qOe:OpR X (compareOp .IsNot) (λx y H Q => ∃b c,x = .bl b/\y = .bl c/\Q (.bl (!decide (b=c))) H):=by
 intro pins s σ H x y v u Q I rx ry h;obtain⟨b,c,rfl,rfl,q⟩:=h;cases rx;cases ry;cases b <;> cases c
 ·exact aA (m:=isSame (Value.bool false) (Value.bool false)) (aB (aB ⟨.bl false,H,I,rfl,q⟩))
 ·exact aA (m:=isSame (Value.bool false) (Value.bool true)) (aB (aB ⟨.bl true,H,I,rfl,q⟩))
 ·exact aA (m:=isSame (Value.bool true) (Value.bool false)) (aB (aB ⟨.bl true,H,I,rfl,q⟩))
 ·exact aA (m:=isSame (Value.bool true) (Value.bool true)) (aB (aB ⟨.bl false,H,I,rfl,q⟩))
end
def laysB:Deed->Bool
 | .save _=>true
 | .back _=>true
 | _=>false
def qSn(K:PySem.W.Frag)(ly:Addr):Prop:=TupK K ly [.str "save",.str "back"]
theorem qU1(d:Deed):inV (.str (qMv d)) [.str "save",.str "back"]=laysB d:=by
 have h:∀s∈([("set",false),("add",false),("tell",false),("call",false),("save",true),("back",true)]:List (Str×Bool)),inV (.str s.1) [.str "save",.str "back"]=s.2:=by decide +kernel
 cases d
 ·exact h ("set",false) (by simp)
 ·exact h ("add",false) (by simp)
 ·exact h ("tell",false) (by simp)
 ·exact h ("call",false) (by simp)
 ·exact h ("save",true) (by simp)
 ·exact h ("back",true) (by simp)
theorem qPm{K:PySem.W.Frag}{H:Hp}{d:Deed}{dv:V}(h:Den K H (deedD d) dv):∃da r,dv = .ref da/\SqT K H da (.str (qMv d)::r):=by
 rw [qLs] at h;obtain⟨a,vs,rfl,h1,h2⟩:=h.ofTuple;obtain⟨v,r,rfl,h3,h4⟩:=h2.ofCons;have h3:=h3.ofStr;subst h3;exact⟨a,r,rfl,h1⟩
def layBs(wk:List Blk):List Bool:=wk.flatMap λb=>b.ds.map laysB
def qFt(K:PySem.W.Frag):Sp:=λvs H Q _ => ∃(x:V) (wk:List Blk),vs = [x]/\Den K H (workD wk) x/\wk.length<=12/\(∀b∈wk,b.ds.length<=20) /\ ∀H',Ext [] H H'->Q (.bl (!(layBs wk).any id)) H'
theorem qG5:∀ {wk:List Blk},(∀b∈wk,b.ds.length<=20)->(layBs wk).length<=20*wk.length
 | [],_=>by simp [layBs]
 | b::wk,h=>by
  have h1:=h b (by simp);have h2:=qG5 (wk:=wk) λc hc=>h c (by simp [hc]);unfold layBs at h2 ⊢;rw [List.flatMap_cons,aK,aC,bI];lia
theorem qW4(xs:List V)(n:Nat):cutV xs none (some (n:Int))=xs.take n:=by
 unfold cutV;rw [HT.sIx_none,HT.sIx_nat,List.drop_zero,Nat.sub_zero];by_cases h:n<=xs.length
 ·rw [Nat.min_eq_left h]
 ·rw [Nat.min_eq_right (by lia),aT (aD _),aT (by lia)]
theorem qRu(xs:List V)(n:Nat):cutV xs (some (n:Int)) none=xs.drop n:=by
 unfold cutV;rw [HT.sIx_none,HT.sIx_nat];by_cases h:n<=xs.length
 ·rw [Nat.min_eq_left h,aT (by simp)]
 ·rw [Nat.min_eq_right (by lia),Nat.sub_self,eK,List.drop_of_length_le (by lia)]
theorem DenL.take2{K:PySem.W.Frag}{G:Hp}{ds:List PyData}{vs:List V}(n:Nat)(h:DenL K G ds vs):DenL K G (ds.take n) (vs.take n):=by
 induction ds generalizing vs n with
 | nil =>
  have:=h.ofNil;subst this;simpa using DenL.nil
 | cons d ds ih =>
  obtain⟨v,r,rfl,h1,h2⟩:=h.ofCons;cases n with
  | zero=>simpa using DenL.nil
  | succ n=>exact .cons h1 (ih n h2)
theorem DenL.drop2{K:PySem.W.Frag}{G:Hp}{ds:List PyData}{vs:List V}(n:Nat)(h:DenL K G ds vs):DenL K G (ds.drop n) (vs.drop n):=by
 induction ds generalizing vs n with
 | nil =>
  have:=h.ofNil;subst this;simpa using DenL.nil
 | cons d ds ih =>
  obtain⟨v,r,rfl,h1,h2⟩:=h.ofCons;cases n with
  | zero=>exact h
  | succ n=>exact ih n h2
def qHe(K:PySem.W.Frag):Sp:=λvs H Q _ => ∃(t:Addr) (k:Nat) (x:V) (wk:List Blk),vs = [.ref t,x]/\Tape H t k/\k+4<=2^40/\Den K (wo [t] H) (workD wk) x/\1<=wk.length/\wk.length<=12/\(∀b∈wk,b.ds.length<=12 /\ ∀d∈b.ds,laysB d=false) /\
 ∀H',Tape H' t (k+4)->Ext [t] H H'->Q (.bl true) H'
theorem qRl{wk:List Blk}(h:∀b∈wk,∀d∈b.ds,laysB d=false):(layBs wk).any id=false:=by
 rw [List.any_eq_false];intro z hz;unfold layBs at hz;obtain⟨b,hb,hz⟩:=List.mem_flatMap.mp hz;obtain⟨d,hd,rfl⟩:=bZ.mp hz;simp [h b hb d hd]
theorem qRk{wk:List Blk}{b:Blk}{d:Deed}(hb:b∈wk)(hd:d∈b.ds)(h:laysB d=true):(layBs wk).any id=true:=by
 rw [List.any_eq_true];exact⟨true,List.mem_flatMap.mpr ⟨b,hb,bZ.mpr ⟨d,hd,h⟩⟩,rfl⟩
theorem qG7{lo hi n:Int}(h1:lo<=n)(h2:n<hi):fromD lo hi (.int n)=true:=by simp only [fromD,decide_eq_true h1,decide_eq_true h2,cW]
theorem qJh{works:Int}{s k1 k2:Str}{a b:Int}(hk:qCe s=some [k1,k2])(h1:partD works k1 (.int a)=true)(h2:partD works k2 (.int b)=true):deedB works (.tuple [.str s,.int a,.int b])=true:=by
 unfold deedB;simp only [wordD,hk,bI,cY,decide_true,List.zip_cons_cons,List.zip_nil_right,dF,List.all_nil,h1,h2,cW]
theorem qEf{works:Int}{s k1:Str}{a:Int}(hk:qCe s=some [k1])(h1:partD works k1 (.int a)=true):deedB works (.tuple [.str s,.int a])=true:=by
 unfold deedB;simp only [wordD,hk,bI,cY,decide_true,List.zip_cons_cons,List.zip_nil_right,dF,List.all_nil,h1,cW]
theorem qDq{works n:Int}(h1:0<=n)(h2:n<8):partD works "box" (.int n)=true:=by
 unfold partD;rw [if_pos rfl];exact qG7 h1 h2
theorem qOd{works n:Int}(h1:0<=n)(h2:n<works):partD works "work" (.int n)=true:=by
 unfold partD;rw [if_neg (by decide),if_pos rfl];exact qG7 h1 h2
theorem qR4{works n:Int}:partD works "number" (.int n)=true:=by
 unfold partD;rw [if_neg (by decide),if_neg (by decide)];rfl
theorem qRr{works:Int}{d:Deed}(h:qJx works d):deedB works (deedD d)=true:=by
 cases d with
 | set b n=>exact qJh (s := "set") (by decide) (qDq h.1 h.2.1) qR4
 | add b n=>exact qJh (s := "add") (by decide) (qDq h.1 h.2.1) (qDq h.2.2.1 h.2.2.2)
 | tell b=>exact qEf (s := "tell") (by decide) (qDq h.1 h.2)
 | call b=>exact qEf (s := "call") (by decide) (qOd h.1 h.2)
 | save b=>exact qEf (s := "save") (by decide) (qDq h.1 h.2)
 | back b=>exact qEf (s := "back") (by decide) (qDq h.1 h.2)
theorem qUd{m:Int}{ns:List Int}(h:NsOk m ns):endB m (endD ns)=true:=by
 have k0:endN "out" = some 0:=by decide
 have k1:endN "go" = some 1:=by decide
 have k2:endN "fork" = some 2:=by decide
 rcases h with rfl | ⟨x,rfl,h1,h2⟩ | ⟨x,y,rfl,hne,h1,h2,h3,h4⟩
 ·unfold endB;simp only [endD,wordD,k0];rfl
 ·unfold endB;simp only [endD,wordD,k1,bI,cY,decide_true,dF,List.all_nil,qG7 h1 h2,cW,bF,bR,eZ,intD];rfl
 ·unfold endB;simp only [endD,wordD,k2,bI,cY,decide_true,dF,List.all_nil,qG7 h1 h2,qG7 h3 h4,cW,bF,bR,eZ,intD];exact (qQ6 x y).trans (by rw [decide_eq_false hne];rfl)
theorem qQ2{m works:Int}{b:Blk}(h:BlkOk m works b):qBh m works (blkD b)=true:=by
 unfold qBh blkD;simp only [qUd h.ns,bF];rw [cT];intro x hx;obtain⟨d,hd,rfl⟩:=bZ.mp hx;exact qRr (h.ds d hd)
theorem qQd{m works:Int}{w:List Blk}(h:WorkOk m works w)(hm:1<=m)(hl:Led w):workB works (workD w)=true:=by
 have hw:=h.len;have e:(w.map blkD).all (qBh (w.map blkD).length works)=true:=by
  rw [cT,aC,hw];intro x hx;obtain⟨b,hb,rfl⟩:=bZ.mp hx;exact qQ2 (h.blk b hb)
 have hne:(!(w.map blkD).isEmpty)=true:=by
  cases w with
  | nil=>simp at hw;lia
  | cons _ _=>rfl
 refine (qH8 (c:=True) hne e ?_).trans (by simp);rw [qHt λb hb=>(h.blk b hb).ns.few,aC];exact⟨λ_ j hj=>hl.reach j hj,λ_=>trivial⟩
theorem qMs{ws:List (List Blk)}(h:AllOk (ws.length:Int) ws)(hl:∀w∈ws,Led w):worksB (qDc ws)=true:=by
 unfold worksB;have hone:=h.one;have hne:(!(ws.map workD).isEmpty)=true:=by
  cases ws with
  | nil=>simp at hone
  | cons _ _=>rfl
 simp only [hne,bF];rw [cT,aC];intro x hx;obtain⟨w,hw,rfl⟩:=bZ.mp hx;obtain⟨m,h1,h2,h3⟩:=h.all w hw;exact qQd h3 h1 (hl w hw)
def qCd(d:PyData):Prop := ∀p e,subD d p=some e->Plain e
theorem qKc{ds:List PyData}(h:∀x∈ds,qCd x):qCd (.list ds):=λp e hs=>by
 cases p with
 | nil=>cases hs;exact .inl ⟨ds,rfl⟩
 | cons k p =>
  obtain⟨ds',x,g1,g2,g3⟩:=qB7 hs;cases g1;exact h x (aP g2) p e g3
theorem qLe{ds:List PyData}(hn:ds ≠ [])(h:∀x∈ds,qCd x):qCd (.tuple ds):=λp e hs=>by
 cases p with
 | nil=>cases hs;exact .inr (.inl ⟨ds,rfl,hn⟩)
 | cons k p =>
  obtain⟨ds',x,g1,g2,g3⟩:=qB7 hs;cases g1;exact h x (aP g2) p e g3
theorem qO5{n:Int}(h1 : -(10^12)<=n)(h2:n<=10^12):qCd (.int n):=λp e hs=>by
 cases p with
 | nil=>cases hs;exact .inr (.inr (.inr ⟨n,rfl,h1,h2⟩))
 | cons k p =>
  obtain⟨ds',x,g1,g2,g3⟩:=qB7 hs;cases g1
theorem qO4{s:Str}:qCd (.str s):=λp e hs=>by
 cases p with
 | nil=>cases hs;exact .inr (.inr (.inl ⟨s,rfl⟩))
 | cons k p =>
  obtain⟨ds',x,g1,g2,g3⟩:=qB7 hs;cases g1
theorem qO3{s:Str}{a b:Int}(h1 : -(10^12)<=a)(h2:a<=10^12)(h3 : -(10^12)<=b)(h4:b<=10^12):qCd (.tuple [.str s,.int a,.int b]):=qLe (by simp) λx hx=>by
 simp only [aN,bH,or_false] at hx;rcases hx with rfl | rfl | rfl
 ·exact qO4
 ·exact qO5 h1 h2
 ·exact qO5 h3 h4
theorem qIr{s:Str}{a:Int}(h1 : -(10^12)<=a)(h2:a<=10^12):qCd (.tuple [.str s,.int a]):=qLe (by simp) λx hx=>by
 simp only [aN,bH,or_false] at hx;rcases hx with rfl | rfl
 ·exact qO4
 ·exact qO5 h1 h2
theorem qTc{works:Int}{d:Deed}(hw:works<=100)(h:qJx works d):qCd (deedD d):=by
 cases d with
 | set b n=>obtain⟨h1,h2,h3,h4⟩:=h;exact qO3 (by lia) (by lia) h3 h4
 | add b n=>obtain⟨h1,h2,h3,h4⟩:=h;exact qO3 (by lia) (by lia) (by lia) (by lia)
 | tell b=>obtain⟨h1,h2⟩:=h;exact qIr (by lia) (by lia)
 | call b=>obtain⟨h1,h2⟩:=h;exact qIr (by lia) (by lia)
 | save b=>obtain⟨h1,h2⟩:=h;exact qIr (by lia) (by lia)
 | back b=>obtain⟨h1,h2⟩:=h;exact qIr (by lia) (by lia)
theorem qVa{m:Int}{ns:List Int}(hm:m<=12)(h:NsOk m ns):qCd (endD ns):=by
 rcases h with rfl | ⟨x,rfl,h1,h2⟩ | ⟨x,y,rfl,hne,h1,h2,h3,h4⟩
 ·refine qLe (by simp) λx hx=>?_;rw [aL.mp hx];exact qO4
 ·exact qIr (by lia) (by lia)
 ·exact qO3 (by lia) (by lia) (by lia) (by lia)
theorem qE4{n:Nat}{s:Str}{ns:List Int}(h:ns.length+1<=n):wide n (.tuple (.str s::ns.map .int))=true:=by
 refine wide_tuple.mpr ⟨by simpa using h,λd hd=>?_⟩;rcases aN.mp hd with rfl | hd
 ·simp only [wide]
 ·obtain⟨i,_,rfl⟩:=bZ.mp hd;simp only [wide]
theorem qMw(d:Deed):wide 12 (deedD d)=true:=by
 rw [qLs];exact qE4 (by cases d <;> simp [qSf])
theorem qQg{m:Int}{ns:List Int}(h:NsOk m ns):wide 12 (endD ns)=true:=by
 rcases h with rfl | ⟨x,rfl,h1,h2⟩ | ⟨x,y,rfl,hne,h1,h2,h3,h4⟩
 ·exact qE4 (ns :=[]) (by decide)
 ·exact qE4 (ns :=[x]) (by show 2<=12;lia)
 ·exact qE4 (ns :=[x,y]) (by show 3<=12;lia)
theorem qQ3{m works:Int}{b:Blk}(hm:m<=12)(hw:works<=100)(h:BlkOk m works b)(h12:b.ds.length<=12):wide 12 (blkD b)=true/\Fit (blkD b) 2400 3/\qCd (blkD b):=by
 obtain⟨e1,e2,e3⟩:=qRq hm h.ns;have fE:Fit (endD b.ns) 183 2:=(Fit.of e1 e2 e3).mono (by lia) (by lia);have fD:FitS (b.ds.map deedD) (184*b.ds.length) 1:=FitS.map λd hd=>by
  obtain⟨t1,t2,t3⟩:=qPn hw (h.ds d hd);exact (Fit.of t1 t2 t3).mono (by lia) (by lia)
 refine⟨?_,?_,?_⟩
 ·refine wide_tuple.mpr ⟨by simp,λx hx=>?_⟩;simp only [aN,bH,or_false] at hx;rcases hx with rfl | rfl
  ·refine wide_list.mpr ⟨by simpa using h12,λx hx=>?_⟩;obtain⟨d,_,rfl⟩:=bZ.mp hx;exact qMw d
  ·exact qQg h.ns
 ·exact (FitS.tuple (FitS.cons fD.list (FitS.cons fE (FitS.nil 2)))).mono (by lia) (by lia)
 ·refine qLe (by simp) λx hx=>?_;simp only [aN,bH,or_false] at hx;rcases hx with rfl | rfl
  ·refine qKc λx hx=>?_;obtain⟨d,hd,rfl⟩:=bZ.mp hx;exact qTc hw (h.ds d hd)
  ·exact qVa hm h.ns
theorem qJy{ws:List (List Blk)}(h:AllOk (ws.length:Int) ws)(h12:∀w∈ws,∀b∈w,b.ds.length<=12):SoundD (qDc ws):=by
 have hone:=h.one;have hfew:=h.few;have hw:∀w∈ws,wide 12 (workD w)=true/\Fit (workD w) 28812 4/\qCd (workD w):=λw hm=>by
  obtain⟨m,h1,h2,h3⟩:=h.all w hm;have hl:=h3.len;have hb:=λb hb=>qQ3 h2 (by lia) (h3.blk b hb) (h12 w hm b hb);refine⟨wide_list.mpr ⟨by rw [aC];lia,λx hx=>?_⟩,((FitS.map λb hb'=>(hb b hb').2.1).list).mono (by lia) (by lia),qKc λx hx=>?_⟩
  ·obtain⟨b,hb',rfl⟩:=bZ.mp hx;exact (hb b hb').1
  ·obtain⟨b,hb',rfl⟩:=bZ.mp hx;exact (hb b hb').2.2
 refine⟨wide_list.mpr ⟨by rw [aC];lia,λx hx=>?_⟩,((FitS.map λw hm=>(hw w hm).2.1).list).mono (by lia) (by lia),λp e _ hs=>?_⟩
 ·obtain⟨w,hm,rfl⟩:=bZ.mp hx;exact (hw w hm).1
 ·refine (qKc λx hx=>?_) p e hs;obtain⟨w,hm,rfl⟩:=bZ.mp hx;exact (hw w hm).2.2
theorem qM2{ds:List PyData}(h:SoundD (.list ds)):LookD (.list ds):=qKk ⟨ds,rfl⟩ (qAu (by lia) h.wi) h.ft (by lia) (by lia)
theorem qK2:∀d∈qE0 ++ [.list qGj],LookD d:=by
 have h:∀d∈qE0 ++ [.list qGj],wide 5 d=true/\d.showable=true/\d.leavesShort 14=true/\d.weight<=1000/\d.depth<=8:=by decide +kernel
 have k:∀d∈qE0 ++ [.list qGj],d.hasDict=false\/d = .dict []:=by
  intro d hd;unfold qE0 at hd;simp only [aS,aN,bH,or_false] at hd;rcases hd with (rfl | rfl | rfl | rfl | rfl | rfl | rfl | rfl | rfl | rfl | rfl) | rfl <;> first | exact .inl rfl | exact .inr rfl
 intro d hd;obtain⟨h1,h2,h3,h4,h5⟩:=h d hd;have h6:=k d hd;obtain⟨s1,s2,s3⟩:=Fit.shown (d:=d) (W:=1000) (D:=8) ⟨h2,h3,h4,h5⟩ (by lia) (by lia);exact⟨qAu (by lia) h1,h6.imp id .inr,s1,s2,s3⟩
theorem qVq{works:Int}{d:Deed}(h:DeedP works d):laysB d=false:=by
 cases d with
 | save _=>exact h.elim
 | back _=>exact h.elim
 | _=>rfl
theorem qUi{xs:List V}{v:V}:atI (xs ++ [v]) (-1)=some v:=by
 unfold atI;rw [aK,bX];have:ixN (xs.length+1) (-1)=some xs.length:=by
  unfold ixN;rw [if_neg (by lia)];simp;lia
 rw [this];show (xs ++ [v])[xs.length]? = _;simp
theorem qPa{K:PySem.W.Frag}{G:Hp}{ws:List (List Blk)}{v:V}(h:Den K G (qDc ws) v)(hn:1<=ws.length):∃(l:Addr) (us:List V) (u:V) (wk:List Blk),v = .ref l/\SqL K G l (us ++ [u])/\wk∈ws/\Den K G (workD wk) u:=by
 obtain⟨l,vs,rfl,h1,h2⟩:=h.ofList;rcases List.eq_nil_or_concat vs with rfl | ⟨us,u,rfl⟩
 ·have:=h2.len;rw [aC,cY] at this;lia
 ·simp only [List.concat_eq_append] at h1 h2;obtain⟨d,hd,hD⟩:=h2.get (i:=us.length) (v:=u) (by simp);rw [aX] at hd;obtain⟨wk,hw,rfl⟩:=Option.map_eq_some_iff.mp hd;exact⟨l,us,u,wk,rfl,h1,aP hw,hD⟩
theorem qS3{K:PySem.W.Frag}{a:Addr}{D:List (Str×V)}{o:Obj}{es:Array DictEntry}{ep:Nat}(h1:(a == sysModules)=false)(h2:K.lookup a=some o)(h3:o.ExactDict)(h4:o.data = .dict es ep)(h5:KTD.Rows RelV es.toList D):TabK K a D:=⟨h1,o,es,ep,h2,h3,h4,h5⟩
theorem qR3{K:PySem.W.Frag}{dp b1 b2 b3 b4 b5 b6:Addr}(T:TabK K dp [("set",.ref b1),("add",.ref b2),("tell",.ref b3),("call",.ref b4),("save",.ref b5),("back",.ref b6)])
  (t1:TupK K b1 [.str "box",.str "number"]) (t2:TupK K b2 [.str "box",.str "box"]) (t3:TupK K b3 [.str "box"]) (t4:TupK K b4 [.str "work"]) (t5:TupK K b5 [.str "box"]) (t6:TupK K b6 [.str "box"]):Parts K dp:=⟨b1,b2,b3,b4,b5,b6,T,t1,t2,t3,t4,t5,t6⟩
end L2
local macro_rules | `(tactic| walk_at "qa") => `(tactic| first | refine L2.qWg ?_ | refine L2.qV1 ?_ | refine L2.qId ?_ | refine L2.qUu ?_ | refine L2.qL9 ?_ | refine L2.qIn ?_)
local macro_rules | `(tactic| walk_at "qb") => `(tactic| first | refine L2.qNi ?_ | refine L2.qWb ?_ | refine L2.qUk ?_ | refine L2.qNq ?_ | refine L2.qNn ?_ | refine L2.qIo ?_ | refine L2.qSw ?_ | refine L2.qT0 ?_ | refine L2.qNw ?_ | refine L2.qWl ?_ | refine L2.qT2 ?_ | refine L2.qW9 ?_ | refine L2.r_u ?_ | refine L2.qT7 ?_ | refine L2.qWf ?_ | refine L2.qSy ?_ | refine L2.qSx ?_ | refine L2.r_c ?_ | refine L2.qWj ?_ | refine L2.qV0 ?_ | refine L2.qT6 ?_ | refine L2.qLa ?_ | refine L2.qHn ?_ | refine L2.qK6 ?_ | refine L2.qK7 ?_ | refine L2.qNp ?_ | refine L2.qNk ?_ | refine L2.qT4 ?_ | refine L2.qT5 ?_ | refine L2.qHo ?_ | refine L2.qNv ?_ | refine L2.qK9 ?_ | refine L2.qNt ?_ | refine L2.qNx ?_ | refine L2.qNl ?_ | refine L2.qNz ?_ | refine L2.qNy ?_ | refine L2.qK8 ?_ | refine L2.qNr ?_ | refine L2.qWc ?_ | refine L2.qSz ?_ | refine L2.qNm ?_ | refine L2.qFw (by with_unfolding_all rfl) ?_ | refine L2.qB6 (by assumption) (by with_unfolding_all rfl) ?_ | refine L2.qGf (by assumption) (by with_unfolding_all rfl) ?_)
local macro_rules | `(tactic| walk_at "rd") => `(tactic| repeat (with_reducible first | refine L2.qQr ?_ | walk_at "qa" | refine L2.qWi ?_ | walk_at "qb"))
namespace Fs
open PySem L2
def top(i:Nat):Stmt:=PySem.Challenge.pw_fewsaves_k01_works_or_not.main.body.getD i (.Pass ⟨0,0,0,0⟩)
abbrev sDraw:Stmt:=top 20
section
variable{P:Program}{w:World}{K:PySem.W.Frag}{mg:Str->Option Value}{base:Heap}
theorem scDraw:FnScope ["_law_tape_here","_law_many_here","_law_found","_law_once","_law_twice"] ["_law_tape_here","_law_many_here"] (qA4 sDraw):=⟨rfl,rfl,rfl,by decide +kernel,rfl,by decide +kernel,by decide +kernel⟩
theorem qTt{f:Addr}{fd:FuncData}(F:Fun K "_law_draw" "_law_draw" sDraw f fd):FnOk P w K mg base CX0 1 f fd ["_law_tape_here","_law_many_here"] qD0:=by
 refine F.ok scDraw (λvs H Q E h=>?_) (λcdv A outer s H vs Q E hr h=>?_)
 ·refine hide λG_ hG_=>?_;obtain⟨t,k,n,rfl,_⟩:=h;refine hG_ ?_;rfl
 ·refine hide λG_ hG_=>?_;obtain⟨t,k,n,rfl,⟨a,b,c,ht,ha,hb,hb2,hc,hc2⟩,hk,hn,hn2,q⟩:=h;refine hG_ ?_
  refine⟨_,qA3 (qBe (qAe qTm (qAm qAi (pv 0) pe_int (λ_ _=>rfl)) pe_int (qAh _))
    (qA3 (qAo (i:=2) scDraw.nd rfl (Or.inl rfl) (qAl qDg (qAm qAi (pv 0) pe_int (λ_ _=>rfl)) (pv 1)))
    (qA3 (qIq (qAl qOg (qAm qAi (pv 0) pe_int (λ_ _=>rfl)) (pv 1)) (qO6 (pv 0) pe_int qHk))
    (qA6 (qA9 (pv 2))))) qAf)
   (qA3 (qIq (qAl qAz (qAm qAi (pv 0) pe_int (λ_ _=>rfl)) pe_int) (qO6 (pv 0) pe_int qHk))
   (qA3 (qAo (i:=3) scDraw.nd rfl (Or.inl rfl) (qAl qDg (qAl qIy (qAl qAz (qAm qAi (pv 0) pe_int (λ_ _=>rfl)) (qAl qJ1 pe_int (qAm qAi (pv 0) pe_int (λ_ _=>rfl)))) pe_int) pe_int))
   (qA3 (qAo (i:=4) scDraw.nd rfl (Or.inl rfl) (qAl qDg (qAl qJ1 (qAl qAz (pv 3) (qAm qAi (pv 0) pe_int (λ_ _=>rfl))) (qAl qAz (qAl qAz (qAl qDg (pv 3) pe_int) pe_int) (qAm qAi (pv 0) pe_int (λ_ _=>rfl)))) pe_int))
   (qA6 (qA9 (qAl qDg (qAl qOg (qAl qDg (qAl qAz (qAl qJ1 (pv 4) pe_int) (pv 3)) pe_int) pe_int) (pv 1))))))),?_⟩
  dsimp only [qBm];have hS:SqL K H t [.int a,.int b,.int c]:=SqL.of ht;walk_at "rd";refine ite2 (λg=>?_) (λg=>?_)
  ·walk_at "rd";refine qEy hn ?_;walk_at "rd";refine qUz hn (by lia) ?_;walk_at "rd";refine qS9 (n:=0) ht rfl ?_;walk_at "rd";exact q _ _ (eP _ (by lia)) (dG _ hn) ⟨a / n,b,c,qA1,Int.ediv_nonneg ha (by lia),hb,hb2,hc,by lia⟩ (.put (by simp)) (λb hb=>qA7 hb)
  ·walk_at "rd";refine qS9 (n:=2) ht rfl ?_;have hS':SqL K (upd H t (.lst ([V.int a,V.int b,V.int c].set 2 (.int (c+1))))) t [.int a,.int b,.int (c+1)]:=SqL.of qA1;walk_at "rd";refine qK5 (.inl ⟨by decide,by decide⟩) ?_;walk_at "rd";refine qM5 (by decide) (by decide) (by lia) ?_;walk_at "rd";refine qEy (by decide) ?_;generalize ho:(b+39373*(c+1))^(5:Int).toNat%2147483647=o;have ho1:0<=o:=by rw [<-ho];exact eP _ (by decide)
   have ho2:o<2147483647:=by rw [<-ho];exact dG _ (by decide)
   walk_at "rd";refine qEy (by decide) ?_;have hm1:0<=o%40009:=eP _ (by decide);have hm2:o%40009<40009:=dG _ (by decide);walk_at "rd";refine qK5 (.inl ⟨by lia,by lia⟩) ?_;walk_at "rd";refine qEy (by decide) ?_;generalize hp:(o+(c+1))*(o%40009+7+(c+1))%2147483629=p2;have hp1:0<=p2:=by rw [<-hp];exact eP _ (by decide)
   have hp2:p2<2147483629:=by rw [<-hp];exact dG _ (by decide)
   walk_at "rd";refine qK5 (.inl ⟨by lia,by lia⟩) ?_;walk_at "rd";refine qEy (by decide) ?_;walk_at "rd";refine qUz (by decide) (by decide) ?_;walk_at "rd";refine qEy hn ?_;exact q _ _ (eP _ (by lia)) (dG _ hn) ⟨a,b,c+1,qA1,ha,hb,hb2,by lia,by lia⟩ (.put (by simp)) (λb hb=>qA7 hb)
end
end Fs
local macro_rules | `(tactic| walk_at "re") => `(tactic| repeat (with_reducible first | refine L2.qQr ?_ | walk_at "qa" | refine L2.qBq (by assumption) ?_ | refine L2.qU7 (by assumption) ?_ | refine L2.qWi ?_ | walk_at "qb"))
namespace Fs
open PySem L2
section
variable{P:Program}{w:World}{K:PySem.W.Frag}{mg:Str->Option Value}{base:Heap}
theorem qBb{D:Ends}{σ : St}{H5:Hp}{l d p:Addr}{vs:List V}{kvs:List (Key×V)}{ns:List Int}(h2 : σ[2]? = some (some (.ref l)))(h3 : σ[3]? = some (some (.ref d)))(h7 : σ[7]? = some (some (.ref p)))(hl:H5 l=some (.lst vs))(hd:H5 d=some (.dK kvs))(hp:H5 p=some (.lst (ns.map V.int)))(hz:vs.length<1000)(hz2:kvs.length<=900)(hn:ns.length<=2)(npl:p≠l)(q:∀H6 kvs',H6 l=some (.lst (vs ++ [.ref p]))->H6 d=some (.dK kvs')->kvs'.length<=kvs.length+2->(∀n:Int,valV kvs' (Sum.inl n)≠none->valV kvs (Sum.inl n)≠none\/n∈ns)->Ext [l,d] H5 H6->D.nx σ H6):tSeq (tDrop (tBM K "list" qHp (tVar 2) (tCons (tVar 7) tNil))) (tDrop (tBM K "dict" qO0 (tVar 3) (tCons (tComp ["_law_one"] [] (.lst []) (iList K (tVar 7)) (gName 0) [] (eApp (tTup (tCons (tVar 0) (tCons (tC (.bl true)) tNil))))) tNil))) D σ H5:=by
 have nld:l≠d:=qMb hl hd (by intro z;cases z);have npd:p≠d:=qMb hp hd (by intro z;cases z);refine qQr (qL9 (qV0 (qFw h2 (qFa hl (qIo (qFw h7 (qNn (qFb hl (qAn (by lia)) ?_))))))));generalize hH6:upd H5 l (.lst (vs ++ [.ref p]))=H6;have l6:H6 l=some (.lst (vs ++ [.ref p])):=by rw [<-hH6,qA1]
 have d6:H6 d=some (.dK kvs):=by rw [<-hH6,qA7 nld.symm];exact hd
 have p6:H6 p=some (.lst (ns.map V.int)):=by rw [<-hH6,qA7 npl];exact hp
 have e6:Ext [l,d] H5 H6:=by rw [<-hH6];exact .put (by simp)
 refine qL9 (qV0 (qFw h3 (qWa d6 (qIo (qLa (qHn (qFw h7 ⟨p,rfl,⟨_,SqL.of p6⟩,λl2 hl2=>?_⟩)))))));have n2p:p≠l2:=qA2 p6 hl2;refine qC7 (xs:=ns.map V.int) (λj σ' H'=>(∃o,σ' = [o])/\Ext [l2] H6 H' /\ ∃items,H' l2=some (.lst items)/\PairsAt H' items ((ns.take j).map λn=>((Sum.inl n:Key),V.bl true)))
  ⟨⟨none,rfl⟩,.laid hl2,[],qA1,.nil⟩ (λj σ' H' _ ⟨_,e,_⟩=>SqL.of (e _ _ (by simpa using n2p) p6)) ?_ ?_
 ·rintro j x σ' H' R hx ⟨⟨o,rfl⟩,e,items,hi,pr⟩ hR;obtain⟨n,hnj,rfl⟩:∃n,ns[j]? = some n/\x=V.int n:=by
   rw [aX] at hx;cases z:ns[j]? with
   | none=>rw [z] at hx;cases hx
   | some n=>rw [z] at hx;exact⟨n,rfl,(bG hx).symm⟩
  walk_at "re";refine iteT ?_;walk_at "re";refine⟨len2 (by show 2<=1000;decide),λp2 hp2=>?_⟩;have n22:l2≠p2:=qA2 hi hp2;have hlen:items.length<=2:=by
   have:=dY pr;rw [aC,bD] at this;lia
  refine⟨items,by rw [qA7 n22];exact hi,qAn (by lia),hR _ _ ⟨⟨_,rfl⟩,?_,items ++ [.ref p2],qA1,?_⟩⟩
  ·exact e.trans ((Ext.laid hp2).trans (.put (by simp)))
  ·have hj:(ns.take (j+1))=ns.take j ++ [n]:=by rw [bQ,hnj];rfl
   rw [hj,aO];refine Paired.snoc (PairsAt.mono (λb ys e=>?_) pr) ⟨p2,rfl,?_⟩
   ·rw [qA7 (qMb e hi (by intro z;cases z)),qA7 (qA2 e hp2)];exact e
   ·rw [qA7 n22.symm,qA1];rfl
 ·rintro σ' H' ⟨_,e,items,hi,pr⟩;rw [aC,eJ] at pr;have n2d:d≠l2:=qA2 d6 hl2;have n2l:l≠l2:=qA2 l6 hl2;have hmore:=dY pr;rw [aC] at hmore;refine qNn ⟨d,l2,kvs,items,_,rfl,rfl,e _ _ (by simpa using n2d) d6,hi,pr,len2 (by rw [aC];lia),?_⟩;have hml:=qD9 (ns.map λn=>((Sum.inl n:Key),V.bl true)) kvs;rw [aC] at hml;refine q _ _ (by rw [qA7 nld];exact e _ _ (by simpa using n2l) l6) qA1 (by lia) (qGy ns kvs) ?_;exact e6.trans (((e.drop hl2).mono (by simp)).trans (.put (by simp)))
abbrev qGr:Stmt:=top 21
theorem scNexts:FnScope ["_law_tape_here","_law_many_here","_law_found","_law_led","_law_k","_law_way","_law_other","_law_some"] ["_law_tape_here","_law_many_here"] (qA4 qGr):=⟨rfl,rfl,rfl,by decide +kernel,rfl,by decide +kernel,by decide +kernel⟩
theorem qR8{f:Addr}{fd:FuncData}(F:Fun K "_law_nexts" "_law_nexts" qGr f fd)(nrange:mg "range" = none)(nmax:mg "max" = none)(hD:Has P w K mg base "_law_draw" 1 ["_law_tape_here","_law_many_here"] qD0):FnOk P w K mg base CX0 2 f fd ["_law_tape_here","_law_many_here"] (qHh K):=by
 refine F.ok scNexts (λvs H Q E h=>?_) (λcdv A outer s H vs Q E hr h=>?_)
 ·refine hide λG_ hG_=>?_;obtain⟨t,k,m,rfl,_⟩:=h;refine hG_ ?_;rfl
 ·refine hide λG_ hG_=>?_;obtain⟨t,k,m,rfl,hT,hk,hm1,hm2,q⟩:=h;refine hG_ ?_;have hu:=qCc hr
  refine⟨_,qA3 (qEb (i:=2) (j:=3) rfl scNexts.nd rfl rfl (by decide) rfl rfl (qA0 (qAk pa_nil) (qA0 pe_dnewK pa_nil)) rfl)
   (qA3 (qCq bT rfl (qBv rfl nrange (qA0 (pv 1) pa_nil)) (qAj (i:=4) scNexts.nd rfl (Or.inl rfl))
    (qA3 (qAo (i:=5) scNexts.nd rfl (Or.inl rfl) (qAd hD hr (aD _) (qA0 (pv 0) (qA0 pe_int pa_nil))))
    (qA3 (qAo (i:=6) scNexts.nd rfl (Or.inl rfl) (qAl qAz pe_int (qAd hD hr (aD _) (qA0 (pv 0) (qA0 (qA5 (qJm rfl) (by rfl) nmax PyProof.Rows.boot_max (qA0 pe_int (qA0 (qAl qF6 (pv 1) pe_int) pa_nil))) pa_nil)))))
    (qA3 (qAo (i:=7) scNexts.nd rfl (Or.inl rfl) (qAm qAi (qAk (qA0 (qAk (qA0 (qAl qAz (pv 4) pe_int) (qA0 (pv 6) pa_nil))) (qA0 (qAk (qA0 (pv 6) (qA0 (qAl qAz (pv 4) pe_int) pa_nil))) pa_nil))) (qAl qDg (pv 5) pe_int) (λ_ _=>rfl)))
    (qA3 (qBe (qAe qCi (qAl qAz (pv 4) pe_int) (pv 1) (qAh _))
      (qA6 (qAo (i:=7) scNexts.nd rfl (Or.inl rfl) (qCf (qIp (qAe qCi (pv 5) pe_int (qAh _)) (qFx (qAe qTm (pv 1) pe_int (qAh _)))).pt (qAk (qA0 (pv 6) pa_nil)) (qAk pa_nil))))
      (qA6 (qBe (qIp (qSc (qVh hu (qAl qAz (pv 4) pe_int) (pv 3))) (qFx (qAe qHs (pv 5) pe_int (qAh _)))).pt
       (qA6 (qAo (i:=7) scNexts.nd rfl (Or.inl rfl) (qCf (qAe qCi (pv 5) pe_int (qAh _)) (qAk (qA0 (pv 6) pa_nil)) (qAk pa_nil))))
       (qA6 (qBe (qE2 (qAe qHs (pv 5) pe_int (qAh _)) (qCp (qAe qCi (pv 6) (qAl qAz (pv 4) pe_int) (qAh _)))).pt
        (qA6 (qAo (i:=7) scNexts.nd rfl (Or.inl rfl) (qAk (qA0 (qAl qAz (pv 4) pe_int) pa_nil)))) qAf)))))
    (qA3 (qD7 (qGg bL cL cM qCk (pv 2) (qA0 (pv 7) pa_nil)))
    (qA6 (qD7 (qGg PySem.F.plainAttrs_dict fB PySem.F.type_dict_update (qP1 rfl) (pv 3)
     (qA0 (qFc ["_law_one"] [] rfl (.of rfl) (qCb (pv 7)) (λ_ _ _ _=>qAj (i:=0) (by show ((["_law_one"]:List Str)).Nodup;decide) rfl (Or.inl rfl)) (λ_ _ _ _ =>.nil) (λ_ _ _ _=>qBw (qA0 (pv 0) (qA0 pe_bl pa_nil)))) pa_nil))))))))))
   (qA6 (qA9 (pv 2)))),?_⟩
  dsimp only [qBm,qB5];walk_at "re";refine⟨len2 (aW _),λl hl=>?_⟩;have nlt:l≠t:=hT.ne hl;walk_at "re";refine qNu λd hd=>?_;have nld:l≠d:=λz=>by rw [<-z,qA1] at hd;cases hd
  rw [qA7 nld.symm] at hd;have ndt:d≠t:=hT.ne hd;walk_at "re";refine⟨_,_,rfl,?_⟩;walk_at "re"
  refine⟨m,rfl,by lia,by lia,qC3 (lo:=0) (n:=m.toNat) (λi σ' H' => ∃(nx:List (List Int)) (vs:List V) (kvs:List (Key×V)) (o4 o5 o6 o7:Option V),σ' = [some (.ref t),some (.int m),some (.ref l),some (.ref d),o4,o5,o6,o7]/\nx.length=i/\(∀ns∈nx,NsOk m ns) /\
   Tape H' t (k+2*i)/\Ext [t] H H'/\H' l=some (.lst vs)/\DenL K (yo H [t,l,d] H') (nx.map intsD) vs/\H' d=some (.dK kvs)/\kvs.length<=2*i/\Lp m nx/\Kp nx kvs) ?_ ?_ ?_⟩
  ·refine⟨[],[],[],none,none,none,none,rfl,rfl,(λ_ h=>absurd h (by simp)),?_,?_,?_,.nil,qA1,aD _,Lp.nil,Kp.nil⟩
   ·exact (hT.ext (ts :=[]) ((Ext.laid hl).trans (.laid (by rw [qA7 nld.symm];exact hd))) (by simp)).mono (by lia)
   ·exact (Ext.laid hl).trans (.laid (by rw [qA7 nld.symm];exact hd))
   ·rw [qA7 nld,qA1]
  ·intro i σ' H' hi hq_ N_ B_ C_ R_ hN_ hC_ hR_;refine hide λG_ hG_=>?_;obtain⟨nx,vs,kvs,o4,o5,o6,o7,rfl,hnl,hnx,hT',e',hl',hden,hd',hkl,hLp,hKp⟩:=hq_;refine hG_ ?_;have hvl:vs.length=i:=by rw [hden.len,aC,hnl]
   walk_at "re";refine qAx hT' (by lia) (by decide) (by decide) λr1 H1 a1 b1 T1 e1 k1=>?_;walk_at "re";refine⟨_,_,rfl,?_⟩;walk_at "re";refine qAx T1 (by lia) (by split <;> lia) (by split <;> lia) λr2 H2 a2 b2 T2 e2 k2=>?_;have l2:H2 l=some (.lst vs):=by rw [k2 l nlt,k1 l nlt];exact hl'
   have d2:H2 d=some (.dK kvs):=by rw [k2 d ndt,k1 d ndt];exact hd'
   have den2:DenL K (yo H [t,l,d] H2) (nx.map intsD) vs:=hden.mono ((e1.trans e2).mono (by simp)).young;walk_at "re";refine⟨len2 (by show 2<=1000;decide),λp1 hp1=>?_⟩;walk_at "re";refine⟨len2 (by show 2<=1000;decide),λp2 hp2=>?_⟩;walk_at "re";refine⟨len2 (by show 2<=1000;decide),λp3 hp3=>?_⟩;have n12:p1≠p2:=qA2 qA1 hp2;have n23:p2≠p3:=qA2 qA1 hp3;have n13:p1≠p3:=qA2 (by rw [qA7 n12,qA1]) hp3;generalize hH5:upd (upd (upd H2 p1 (HO.lst [V.int (0 + ↑i+1),V.int (1+r2)])) p2 (HO.lst [V.int (1+r2),V.int (0 + ↑i+1)])) p3 (HO.lst [V.ref p1,V.ref p2])=H5;have hp2':H2 p2=none:=by rw [qA7 n12.symm] at hp2;exact hp2
   have e5:Ext [] H2 H5:=by
    rw [<-hH5];exact (Ext.laid hp1).trans ((Ext.laid hp2).trans (.laid hp3))
   have q1:H5 p1=some (.lst ([0+(i:Int)+1,1+r2].map V.int)):=by rw [<-hH5,qA7 n13,qA7 n12,qA1];rfl
   have q2:H5 p2=some (.lst ([1+r2,0+(i:Int)+1].map V.int)):=by rw [<-hH5,qA7 n23,qA1];rfl
   have q3:SqL K H5 p3 [V.ref p1,V.ref p2]:=SqL.of (by rw [<-hH5,qA1]);refine hide λG_ hG_=>?_;have fr:∀p,H2 p=none->p≠t/\p≠l/\p≠d:=λp hp=>⟨T2.ne hp,(qA2 l2 hp).symm,(qA2 d2 hp).symm⟩;have fin:∀(p:Addr) (ns:List Int) (H6:Hp),Ext [] H5 H6->H6 p=some (.lst (ns.map V.int))->H2 p=none->NsOk m ns->(0+(i:Int)+1<m->0+(i:Int)+1∈ns\/valV kvs (Sum.inl (0+(i:Int)+1))≠none) -> ∀(H7:Hp) (kvs':List (Key×V)),H7 l=some (.lst (vs ++ [.ref p]))->H7 d=some (.dK kvs')->kvs'.length<=kvs.length+2->(∀n:Int,valV kvs' (Sum.inl n)≠none->valV kvs (Sum.inl n)≠none\/n∈ns)->Ext [l,d] H6 H7 -> ∀o4 o5 o6 o7:Option V,
     ∃(nx:List (List Int)) (vs:List V) (kvs:List (Key×V)) (p4 p5 p6 p7:Option V),[some (V.ref t),some (.int m),some (.ref l),some (.ref d),o4,o5,o6,o7] = [some (.ref t),some (.int m),some (.ref l),some (.ref d),p4,p5,p6,p7]/\nx.length=i+1/\(∀ns∈nx,NsOk m ns) /\
      Tape H7 t (k+2*(i+1))/\Ext [t] H H7/\H7 l=some (.lst vs)/\DenL K (yo H [t,l,d] H7) (nx.map intsD) vs/\H7 d=some (.dK kvs)/\kvs.length<=2*(i+1)/\Lp m nx/\Kp nx kvs:=by
    intro p ns H6 e6 hp hn hns hled H7 kvs' l7 d7 hk7 hv7 e7 o4 o5 o6 o7;obtain⟨npt,npl,npd⟩:=fr p hn;have e27:Ext [l,d] H2 H7:=((e5.trans e6).mono (by simp)).trans e7;refine⟨nx ++ [ns],vs ++ [.ref p],kvs',o4,o5,o6,o7,rfl,by rw [aK,hnl];rfl,λz hz=>?_,?_,?_,l7,?_,d7,by lia,Lp.snoc (by rw [hnl]) hLp hKp hled,hKp.snoc hv7⟩
    ·rcases aS.mp hz with y | y
     ·exact hnx z y
     ·rw [aL.mp y];exact hns
    ·exact (T2.ext e27 (by simp [nlt.symm,ndt.symm])).mono (by lia)
    ·have E7:Ext [l,d,t] H H7:=(e'.mono (by simp)).trans (((e1.trans e2).mono (by simp)).trans (e27.mono (by simp)));exact (E7.drop hl).drop hd
    ·rw [aO];refine DenL.append (den2.mono (e27.mono (by simp)).young) (.cons (.list (SqL.of ?_) (DenL.ofInts ns)) .nil);rw [qBr ((e'.trans (e1.trans e2)).none (by simpa using npt) hn) (by simp [npt,npl,npd])];exact e7 _ _ (by simp [npl,npd]) hp
   have hr2:1+r2<=1\/1+r2<=m - 1:=by
    by_cases c:m - 1>1
    ·rw [if_pos c] at b2;lia
    ·rw [if_neg c] at b2;lia
   have l5:=e5 _ _ (by simp) l2;have d5:=e5 _ _ (by simp) d2;obtain⟨p0,ns0,h0,hp0,hn0,hat⟩:∃p0 ns0,H5 p0=some (.lst (ns0.map V.int))/\H2 p0=none/\(ns0 = [0+(i:Int)+1,1+r2]\/ns0 = [1+r2,0+(i:Int)+1])/\atI [V.ref p1,V.ref p2] (r1%2)=some (.ref p0):=by
    have hm:=Int.emod_two_eq r1;rcases hm with c | c
    ·exact⟨p1,_,q1,hp1,.inl rfl,by rw [c];rfl⟩
    ·exact⟨p2,_,q2,hp2',.inr rfl,by rw [c];rfl⟩
   refine hG_ ?_;walk_at "re";refine qEy (by decide) (qB6 q3 hat ?_);walk_at "re";refine qCv ?_;walk_at "re";have nsl:∀ {ns},NsOk m ns->ns.length<=2:=by
    rintro ns (h | ⟨x,h,_⟩ | ⟨x,y,h,_⟩) <;> subst h <;> simp
   refine ite2 (λg=>?_) (λg=>?_)
   ·have g:=of_decide_eq_true g;walk_at "re";refine qCv ?_;walk_at "re";refine ite2 (λg2=>?_) (λg2=>?_)
    ·walk_at "re";refine ite2 (λg3=>?_) (λg3=>?_)
     ·have g3:=of_decide_eq_true g3;walk_at "re";refine⟨len2 (by first | exact aW _ | (show 1<=1000;decide)),λp hp=>?_⟩;have hf:H2 p=none:=by
       cases z:H2 p with
       | none=>rfl
       | some o=>rw [e5 _ _ (by simp) z] at hp;cases hp
      have e6:Ext [] H5 (upd H5 p (.lst (([1+r2]:List Int).map V.int))) :=.laid hp;have hns:NsOk m [1+r2]:=(.inr (.inl ⟨_,rfl,by lia,by lia⟩));obtain⟨_,npl,_⟩:=fr p hf;refine qId ?_;refine qBb (l:=l) (d:=d) (p:=p) (ns :=[1+r2]) rfl rfl rfl (e6 _ _ (by simp) l5) (e6 _ _ (by simp) d5) qA1 (by lia) (by lia) (nsl hns) npl ?_;exact λH7 kvs' l7 d7 hk7 hv7 e7=>qBq hN_ (fin p [1+r2] _ e6 qA1 hf hns (by first | (intro z;exfalso;lia) | (intro _;right;intro z;rw [z] at g2;cases g2;done) | (intro _;left;simp;done) | (intro _;left;rcases hn0 with h | h <;> rw [h] <;> simp <;> done)) H7 kvs' l7 d7 hk7 hv7 e7 _ _ _ _)
     ·walk_at "re";refine⟨len2 (by first | exact aW _ | (show 1<=1000;decide)),λp hp=>?_⟩;have hf:H2 p=none:=by
       cases z:H2 p with
       | none=>rfl
       | some o=>rw [e5 _ _ (by simp) z] at hp;cases hp
      have e6:Ext [] H5 (upd H5 p (.lst (([]:List Int).map V.int))) :=.laid hp;have hns:NsOk m []:=(.inl rfl);obtain⟨_,npl,_⟩:=fr p hf;refine qId ?_;refine qBb (l:=l) (d:=d) (p:=p) (ns :=[]) rfl rfl rfl (e6 _ _ (by simp) l5) (e6 _ _ (by simp) d5) qA1 (by lia) (by lia) (nsl hns) npl ?_;exact λH7 kvs' l7 d7 hk7 hv7 e7=>qBq hN_ (fin p [] _ e6 qA1 hf hns (by first | (intro z;exfalso;lia) | (intro _;right;intro z;rw [z] at g2;cases g2;done) | (intro _;left;simp;done) | (intro _;left;rcases hn0 with h | h <;> rw [h] <;> simp <;> done)) H7 kvs' l7 d7 hk7 hv7 e7 _ _ _ _)
    ·refine iteF ?_;walk_at "re";refine⟨len2 (by first | exact aW _ | (show 1<=1000;decide)),λp hp=>?_⟩;have hf:H2 p=none:=by
      cases z:H2 p with
      | none=>rfl
      | some o=>rw [e5 _ _ (by simp) z] at hp;cases hp
     have e6:Ext [] H5 (upd H5 p (.lst (([]:List Int).map V.int))) :=.laid hp;have hns:NsOk m []:=(.inl rfl);obtain⟨_,npl,_⟩:=fr p hf;refine qId ?_;refine qBb (l:=l) (d:=d) (p:=p) (ns :=[]) rfl rfl rfl (e6 _ _ (by simp) l5) (e6 _ _ (by simp) d5) qA1 (by lia) (by lia) (nsl hns) npl ?_;exact λH7 kvs' l7 d7 hk7 hv7 e7=>qBq hN_ (fin p [] _ e6 qA1 hf hns (by first | (intro z;exfalso;lia) | (intro _;right;intro z;rw [z] at g2;cases g2;done) | (intro _;left;simp;done) | (intro _;left;rcases hn0 with h | h <;> rw [h] <;> simp <;> done)) H7 kvs' l7 d7 hk7 hv7 e7 _ _ _ _)
   ·have g : ¬(0+(i:Int)+1=m):=λz=>g (decide_eq_true z);walk_at "re";refine⟨d,_,rfl,DGet.k (k:=Sum.inl _) d5,?_⟩;refine qUk ?_;refine ite2 (λg2=>?_) (λg2=>?_)
    ·walk_at "re";refine ite2 (λg3=>?_) (λg3=>?_)
     ·walk_at "re";refine qCv ?_;walk_at "re";refine ite2 (λg4=>?_) (λg4=>?_)
      ·walk_at "re";refine⟨len2 (by first | exact aW _ | (show 1<=1000;decide)),λp hp=>?_⟩;have hf:H2 p=none:=by
        cases z:H2 p with
        | none=>rfl
        | some o=>rw [e5 _ _ (by simp) z] at hp;cases hp
       have e6:Ext [] H5 (upd H5 p (.lst (([1+r2]:List Int).map V.int))) :=.laid hp;have hns:NsOk m [1+r2]:=(.inr (.inl ⟨_,rfl,by lia,by lia⟩));obtain⟨_,npl,_⟩:=fr p hf;refine qId ?_;refine qBb (l:=l) (d:=d) (p:=p) (ns :=[1+r2]) rfl rfl rfl (e6 _ _ (by simp) l5) (e6 _ _ (by simp) d5) qA1 (by lia) (by lia) (nsl hns) npl ?_;exact λH7 kvs' l7 d7 hk7 hv7 e7=>qBq hN_ (fin p [1+r2] _ e6 qA1 hf hns (by first | (intro z;exfalso;lia) | (intro _;right;intro z;rw [z] at g2;cases g2;done) | (intro _;left;simp;done) | (intro _;left;rcases hn0 with h | h <;> rw [h] <;> simp <;> done)) H7 kvs' l7 d7 hk7 hv7 e7 _ _ _ _)
      ·walk_at "re";refine⟨len2 (by first | exact aW _ | (show 1<=1000;decide)),λp hp=>?_⟩;have hf:H2 p=none:=by
        cases z:H2 p with
        | none=>rfl
        | some o=>rw [e5 _ _ (by simp) z] at hp;cases hp
       have e6:Ext [] H5 (upd H5 p (.lst (([]:List Int).map V.int))) :=.laid hp;have hns:NsOk m []:=(.inl rfl);obtain⟨_,npl,_⟩:=fr p hf;refine qId ?_;refine qBb (l:=l) (d:=d) (p:=p) (ns :=[]) rfl rfl rfl (e6 _ _ (by simp) l5) (e6 _ _ (by simp) d5) qA1 (by lia) (by lia) (nsl hns) npl ?_;exact λH7 kvs' l7 d7 hk7 hv7 e7=>qBq hN_ (fin p [] _ e6 qA1 hf hns (by first | (intro z;exfalso;lia) | (intro _;right;intro z;rw [z] at g2;cases g2;done) | (intro _;left;simp;done) | (intro _;left;rcases hn0 with h | h <;> rw [h] <;> simp <;> done)) H7 kvs' l7 d7 hk7 hv7 e7 _ _ _ _)
     ·walk_at "re";refine ite2 (λg5=>?_) (λg5=>?_)
      ·refine iteT ?_;walk_at "re";refine⟨len2 (by first | exact aW _ | (show 1<=1000;decide)),λp hp=>?_⟩;have hf:H2 p=none:=by
        cases z:H2 p with
        | none=>rfl
        | some o=>rw [e5 _ _ (by simp) z] at hp;cases hp
       have e6:Ext [] H5 (upd H5 p (.lst (([0+(i:Int)+1]:List Int).map V.int))) :=.laid hp;have hns:NsOk m [0+(i:Int)+1]:=(.inr (.inl ⟨_,rfl,by lia,by lia⟩));obtain⟨_,npl,_⟩:=fr p hf;refine qId ?_;refine qBb (l:=l) (d:=d) (p:=p) (ns :=[0+(i:Int)+1]) rfl rfl rfl (e6 _ _ (by simp) l5) (e6 _ _ (by simp) d5) qA1 (by lia) (by lia) (nsl hns) npl ?_;exact λH7 kvs' l7 d7 hk7 hv7 e7=>qBq hN_ (fin p [0+(i:Int)+1] _ e6 qA1 hf hns (by first | (intro z;exfalso;lia) | (intro _;right;intro z;rw [z] at g2;cases g2;done) | (intro _;left;simp;done) | (intro _;left;rcases hn0 with h | h <;> rw [h] <;> simp <;> done)) H7 kvs' l7 d7 hk7 hv7 e7 _ _ _ _)
      ·walk_at "re";refine qCv ?_;walk_at "re";refine ite2 (λg6=>?_) (λg6=>?_)
       ·walk_at "re";refine⟨len2 (by first | exact aW _ | (show 1<=1000;decide)),λp hp=>?_⟩;have hf:H2 p=none:=by
         cases z:H2 p with
         | none=>rfl
         | some o=>rw [e5 _ _ (by simp) z] at hp;cases hp
        have e6:Ext [] H5 (upd H5 p (.lst (([0+(i:Int)+1]:List Int).map V.int))) :=.laid hp;have hns:NsOk m [0+(i:Int)+1]:=(.inr (.inl ⟨_,rfl,by lia,by lia⟩));obtain⟨_,npl,_⟩:=fr p hf;refine qId ?_;refine qBb (l:=l) (d:=d) (p:=p) (ns :=[0+(i:Int)+1]) rfl rfl rfl (e6 _ _ (by simp) l5) (e6 _ _ (by simp) d5) qA1 (by lia) (by lia) (nsl hns) npl ?_;exact λH7 kvs' l7 d7 hk7 hv7 e7=>qBq hN_ (fin p [0+(i:Int)+1] _ e6 qA1 hf hns (by first | (intro z;exfalso;lia) | (intro _;right;intro z;rw [z] at g2;cases g2;done) | (intro _;left;simp;done) | (intro _;left;rcases hn0 with h | h <;> rw [h] <;> simp <;> done)) H7 kvs' l7 d7 hk7 hv7 e7 _ _ _ _)
       ·have g6 : ¬(1+r2=0+(i:Int)+1):=λz=>g6 (decide_eq_true z);obtain⟨_,npl,_⟩:=fr p0 hp0;have hns:NsOk m ns0:=by
         rcases hn0 with h | h
         ·exact .inr (.inr ⟨_,_,h,by lia,by lia,by lia,by lia,by lia⟩)
         ·exact .inr (.inr ⟨_,_,h,by lia,by lia,by lia,by lia,by lia⟩)
        refine qIn ?_;refine qBb (l:=l) (d:=d) (p:=p0) (ns:=ns0) rfl rfl rfl l5 d5 h0 (by lia) (by lia) (nsl hns) npl ?_;exact λH7 kvs' l7 d7 hk7 hv7 e7=>qBq hN_ (fin p0 ns0 _ (λ_ _ _ h=>h) h0 hp0 hns (by first | (intro z;exfalso;lia) | (intro _;right;intro z;rw [z] at g2;cases g2;done) | (intro _;left;simp;done) | (intro _;left;rcases hn0 with h | h <;> rw [h] <;> simp <;> done)) H7 kvs' l7 d7 hk7 hv7 e7 _ _ _ _)
    ·refine iteF ?_;walk_at "re";refine ite2 (λg5=>?_) (λg5=>?_)
     ·refine iteT ?_;walk_at "re";refine⟨len2 (by first | exact aW _ | (show 1<=1000;decide)),λp hp=>?_⟩;have hf:H2 p=none:=by
       cases z:H2 p with
       | none=>rfl
       | some o=>rw [e5 _ _ (by simp) z] at hp;cases hp
      have e6:Ext [] H5 (upd H5 p (.lst (([0+(i:Int)+1]:List Int).map V.int))) :=.laid hp;have hns:NsOk m [0+(i:Int)+1]:=(.inr (.inl ⟨_,rfl,by lia,by lia⟩));obtain⟨_,npl,_⟩:=fr p hf;refine qId ?_;refine qBb (l:=l) (d:=d) (p:=p) (ns :=[0+(i:Int)+1]) rfl rfl rfl (e6 _ _ (by simp) l5) (e6 _ _ (by simp) d5) qA1 (by lia) (by lia) (nsl hns) npl ?_;exact λH7 kvs' l7 d7 hk7 hv7 e7=>qBq hN_ (fin p [0+(i:Int)+1] _ e6 qA1 hf hns (by first | (intro z;exfalso;lia) | (intro _;right;intro z;rw [z] at g2;cases g2;done) | (intro _;left;simp;done) | (intro _;left;rcases hn0 with h | h <;> rw [h] <;> simp <;> done)) H7 kvs' l7 d7 hk7 hv7 e7 _ _ _ _)
     ·walk_at "re";refine qCv ?_;walk_at "re";refine ite2 (λg6=>?_) (λg6=>?_)
      ·walk_at "re";refine⟨len2 (by first | exact aW _ | (show 1<=1000;decide)),λp hp=>?_⟩;have hf:H2 p=none:=by
        cases z:H2 p with
        | none=>rfl
        | some o=>rw [e5 _ _ (by simp) z] at hp;cases hp
       have e6:Ext [] H5 (upd H5 p (.lst (([0+(i:Int)+1]:List Int).map V.int))) :=.laid hp;have hns:NsOk m [0+(i:Int)+1]:=(.inr (.inl ⟨_,rfl,by lia,by lia⟩));obtain⟨_,npl,_⟩:=fr p hf;refine qId ?_;refine qBb (l:=l) (d:=d) (p:=p) (ns :=[0+(i:Int)+1]) rfl rfl rfl (e6 _ _ (by simp) l5) (e6 _ _ (by simp) d5) qA1 (by lia) (by lia) (nsl hns) npl ?_;exact λH7 kvs' l7 d7 hk7 hv7 e7=>qBq hN_ (fin p [0+(i:Int)+1] _ e6 qA1 hf hns (by first | (intro z;exfalso;lia) | (intro _;right;intro z;rw [z] at g2;cases g2;done) | (intro _;left;simp;done) | (intro _;left;rcases hn0 with h | h <;> rw [h] <;> simp <;> done)) H7 kvs' l7 d7 hk7 hv7 e7 _ _ _ _)
      ·have g6 : ¬(1+r2=0+(i:Int)+1):=λz=>g6 (decide_eq_true z);obtain⟨_,npl,_⟩:=fr p0 hp0;have hns:NsOk m ns0:=by
        rcases hn0 with h | h
        ·exact .inr (.inr ⟨_,_,h,by lia,by lia,by lia,by lia,by lia⟩)
        ·exact .inr (.inr ⟨_,_,h,by lia,by lia,by lia,by lia,by lia⟩)
       refine qIn ?_;refine qBb (l:=l) (d:=d) (p:=p0) (ns:=ns0) rfl rfl rfl l5 d5 h0 (by lia) (by lia) (nsl hns) npl ?_;exact λH7 kvs' l7 d7 hk7 hv7 e7=>qBq hN_ (fin p0 ns0 _ (λ_ _ _ h=>h) h0 hp0 hns (by first | (intro z;exfalso;lia) | (intro _;right;intro z;rw [z] at g2;cases g2;done) | (intro _;left;simp;done) | (intro _;left;rcases hn0 with h | h <;> rw [h] <;> simp <;> done)) H7 kvs' l7 d7 hk7 hv7 e7 _ _ _ _)
  ·intro σ' H' hq_;refine hide λG_ hG_=>?_;obtain⟨nx,vs,kvs,o4,o5,o6,o7,rfl,hnl,hnx,hT',e',hl',hden,hd',hkl,hLp,hKp⟩:=hq_;refine hG_ ?_;walk_at "re";refine q l nx H' hl (hT'.mono (by lia)) e' ⟨⟨by lia,hnx⟩,hLp.led (by lia)⟩ (.list (SqL.of ?_) (hden.mono (qMq (by simp))));rw [qBr hl (by simpa using nlt)];exact hl'
end
section
variable{P:Program}{w:World}{K:PySem.W.Frag}{mg:Str->Option Value}{base:Heap}
abbrev sWork:Stmt:=top 24
theorem scWork:FnScope ["_law_tape_here","_law_many_here","_law_most","_law_first","_law_works_here","_law_left","_law_size","_law_boxes","_law_found","_law_there","_law_end"] ["_law_tape_here","_law_many_here","_law_most","_law_first","_law_works_here"] (qA4 sWork):=⟨rfl,rfl,rfl,by decide +kernel,rfl,by decide +kernel,by decide +kernel⟩
theorem qTp{f:Addr}{fd:FuncData}(F:Fun K "_law_work" "_law_work" sWork f fd)(nrange:mg "range" = none)(nlist:mg "list" = none)(nlen:mg "len" = none)(hD:Has P w K mg base "_law_draw" 1 ["_law_tape_here","_law_many_here"] qD0)
  (hX:Has P w K mg base "_law_nexts" 2 ["_law_tape_here","_law_many_here"] (qHh K)) (hE:Has P w K mg base "_law_deeds" 3 ["_law_tape_here","_law_most","_law_boxes","_law_first","_law_works_here"] (qFi K)) :
  FnOk P w K mg base CX0 4 f fd ["_law_tape_here","_law_many_here","_law_most","_law_first","_law_works_here"] (qK3 K):=by
 refine F.ok scWork (λvs H Q E h=>?_) (λcdv A outer s H vs Q E hr h=>?_)
 ·refine hide λG_ hG_=>?_;obtain⟨t,k,m,most,first,works,rfl,_⟩:=h;refine hG_ ?_;rfl
 ·refine hide λG_ hG_=>?_;obtain⟨t,k,m,most,first,works,rfl,hT,hk,m1,m2,hm1,hm2,hf1,hf2,hw1,hw2,q⟩:=h;refine hG_ ?_
  refine⟨_,qA3 (qAo (i:=5) scWork.nd rfl (Or.inr rfl) (qAv (qI6 hr.hd) (by rfl) nlist aV (qA0 (qAv qKs (by rfl) nrange PyProof.Rows.boot_range (qA0 pe_int pa_nil)) pa_nil)))
   (qA3 (qAo (i:=6) scWork.nd rfl (Or.inl rfl) (qAl qAz pe_int (qAd hD hr (by decide) (qA0 (pv 0) (qA0 (qAm qAi (qAk (qA0 pe_int (qA0 pe_int (qA0 pe_int pa_nil)))) (qAd hD hr (by decide) (qA0 (pv 0) (qA0 pe_int pa_nil))) (λ_ _=>rfl)) pa_nil)))))
   (qA3 (qWm (i:=7) ["_law_k"] [5,0] rfl (.of rfl) scWork.nd rfl (Or.inl rfl) (qBv rfl nrange (qA0 (pv 6) pa_nil)) (λ_ _ _ _=>qAj (i:=0) (by show ((["_law_k","_law_left","_law_tape_here"]:List Str)).Nodup;decide) rfl (Or.inl rfl)) (λ_ _ _ _ =>.nil)
     (λ_ _ _ _=>qVf K rfl bL PySem.F.slot_list_pop PySem.F.type_list_pop qRg (pv 1) (qA0 (qAd hD hr (by decide) (qA0 (pv 2) (qA0 (qA5 (qHw K rfl) (by rfl) nlen aU (qA0 (pv 1) pa_nil)) pa_nil))) pa_nil)))
   (qA3 (qAo (i:=8) scWork.nd rfl (Or.inl rfl) (qAk pa_nil))
   (qA3 (qCq bT rfl (qCb (qAd hX hr (by decide) (qA0 (pv 0) (qA0 (pv 1) pa_nil)))) (qAj (i:=9) scWork.nd rfl (Or.inl rfl))
    (qA3 (qAo (i:=10) scWork.nd rfl (Or.inl rfl) (qCf (qAe (qVj hr) (pv 9) (qAk pa_nil) (qAh _)) (qBw (qA0 pe_str pa_nil)) (qCf (qAe qCi (qA5 qA8 (by rfl) nlen aU (qA0 (pv 9) pa_nil)) pe_int (qAh _))
      (qBw (qA0 pe_str (qA0 (qAm qAi (pv 9) pe_int (λ_ _=>rfl)) pa_nil))) (qBw (qA0 pe_str (qA0 (qAm qAi (pv 9) pe_int (λ_ _=>rfl)) (qA0 (qAm qAi (pv 9) pe_int (λ_ _=>rfl)) pa_nil)))))))
    (qA6 (qD7 (qGg bL cL cM qCk (pv 8) (qA0 (qBw (qA0 (qAd hE hr (by decide) (qA0 (pv 0) (qA0 (pv 2) (qA0 (pv 7) (qA0 (pv 3) (qA0 (pv 4) pa_nil)))))) (qA0 (pv 10) pa_nil))) pa_nil))))))
   (qA6 (qA9 (pv 8))))))),?_⟩
  dsimp only [qBm,qB5];walk_at "re";refine⟨8,rfl,λpr hpr=>?_⟩;walk_at "re";refine⟨pr,8,rfl,qA1,by decide,λlf hlf=>?_⟩;have nrl:pr≠lf:=qA2 qA1 hlf;have hlf0:H lf=none:=by rw [qA7 nrl.symm] at hlf;exact hlf
  have nlt:lf≠t:=hT.ne hlf0;have EG:=(Ext.laid (ts :=[]) (o :=.rng 0 8) hpr).trans (.laid (o :=.lst (([0,1,2,3,4,5,6,7]:List Int).map V.int)) hlf);generalize hG:upd (upd H pr (.rng 0 8)) lf (.lst (([0,1,2,3,4,5,6,7]:List Int).map V.int))=G at EG;have hG':upd (upd H pr (.rng 0 8)) lf (.lst ((List.range 8).map λ(i:Nat)=>V.int (i:Int)))=G:=hG;have lG:G lf=some (.lst (([0,1,2,3,4,5,6,7]:List Int).map V.int)):=by rw [<-hG,qA1]
  have TG:=hT.ext EG (by simp)
  first | rw [hG'] | erw [hG']
  clear hG hG';walk_at "re";refine⟨len2 (by show 3<=1000;decide),λp hp=>?_⟩;have npt:p≠t:=TG.ne hp;have npl:p≠lf:=(qA2 lG hp).symm;walk_at "re";refine qAx (TG.ext (ts :=[]) (.laid hp) (by simp)) (by lia) (by decide) (by decide) λr1 H1 a1 b1 T1 e1 k1=>?_;have hpL:SqL K H1 p (([3,3,8]:List Int).map V.int):=SqL.of (by rw [k1 p npt,qA1];rfl);obtain⟨n8,hn8,en8⟩:=qIa (ns :=[3,3,8]) a1 b1;have hn8':3<=n8/\n8<=8:=by
   simp only [aN,bH,or_false] at hn8;lia
  refine qB6 hpL en8 ?_;walk_at "re";refine qAx T1 (by lia) (by lia) (by lia) λr2 H2 a2 b2 T2 e2 k2=>?_;have l2:H2 lf=some (.lst (([0,1,2,3,4,5,6,7]:List Int).map V.int)):=by rw [k2 lf nlt,k1 lf nlt,qA7 npl.symm];exact lG
  have E2:Ext [t] H H2:=(EG.mono (by simp)).trans ((Ext.laid hp).trans (e1.trans e2));walk_at "re";refine⟨1+r2,rfl,by lia,by lia,λbx hbx=>?_⟩;have nbt:bx≠t:=T2.ne hbx;have nbl:bx≠lf:=(qA2 l2 hbx).symm;refine qGz (lo:=0) (n:=(1+r2).toNat) (λi σ' H' => ∃(o:Option V) (left bs:List Int),σ' = [o,some (.ref lf),some (.ref t)]/\left.length+i=8/\bs.length=i/\(∀b∈left,0<=b/\b<8)/\(∀b∈bs,0<=b/\b<8)/\H' lf=some (.lst (left.map V.int))/\H' bx=some (.lst (bs.map V.int))/\Tape H' t (k+2+i)/\Ext [t] H H') ?_ ?_ ?_
  ·refine⟨none,[0,1,2,3,4,5,6,7],[],rfl,rfl,rfl,by decide,(λ_ h=>absurd h (by simp)),?_,qA1,?_,E2.trans (.laid hbx)⟩
   ·rw [qA7 nbl.symm];exact l2
   ·exact T2.ext (ts :=[]) (.laid hbx) (by simp)
  ·intro i σ' H' R hi hq_ hR;refine hide λG_ hG_=>?_;obtain⟨o,left,bs,rfl,hll,hbl,hleft,hbs,hL,hBx,T',E'⟩:=hq_;refine hG_ ?_;walk_at "re";refine iteT ?_;walk_at "re";refine qFa hL ?_;walk_at "re";refine qL7 (SqL.of hL) ?_;rw [aC];walk_at "re";refine qAx T' (by lia) (by lia) (by lia) λr3 H3 a3 b3 T3 e3 k3=>?_;have l3:H3 lf=some (.lst (left.map V.int)):=by rw [k3 lf nlt];exact hL
   have b3x:H3 bx=some (.lst (bs.map V.int)):=by rw [k3 bx nbt];exact hBx
   obtain⟨j,rfl⟩:=dZ a3;have hj:j<left.length:=by lia
   walk_at "re";refine⟨lf,left.map V.int,(j:Int),j,V.int left[j],rfl,rfl,l3,by lia,by lia,?_,by rw [aX,aJ hj];rfl,?_⟩
   ·rw [aC];exact qUo hj
   ·refine⟨bs.map V.int,by rw [qA7 nbl];exact b3x,qAn (by rw [aC];lia),hR _ _ ?_⟩;have hmem:left[j]∈left:=cU hj;refine⟨_,left.eraseIdx j,bs ++ [left[j]],rfl,?_,?_,λb hb=>hleft b (List.mem_of_mem_eraseIdx hb),λb hb=>?_,?_,?_,?_,?_⟩
    ·rw [List.length_eraseIdx,if_pos hj];lia
    ·rw [aK,hbl];rfl
    ·rcases aS.mp hb with y | y
     ·exact hbs b y
     ·rw [aL.mp y];exact hleft _ hmem
    ·rw [qA7 nbl.symm,qA1,qJ4]
    ·rw [qA1,aO];rfl
    ·exact ((T3.ext (ts :=[lf]) (.put (by simp)) (by simpa using nlt.symm)).ext (ts :=[bx]) (.put (by simp)) (by simpa using nbt.symm)).mono (by lia)
    ·have hbx0:H bx=none:=by
      cases z:H bx with
      | none=>rfl
      | some o=>rw [E2 _ _ (by simpa using nbt) z] at hbx;cases hbx
     have E4:Ext [lf,bx,t] H (upd (upd H3 lf (.lst ((left.map V.int).eraseIdx j))) bx (.lst (bs.map V.int ++ [V.int left[j]]))):=(E'.mono (by simp)).trans ((e3.mono (by simp)).trans ((Ext.put (by simp)).trans (.put (by simp))));exact (E4.drop hlf0).drop hbx0
  ·intro σ' H3 hq_;refine hide λG_ hG_=>?_;obtain⟨o,left,bs,rfl,hll,hbl,hleft,hbs,hL,hBx,T3,E3⟩:=hq_;refine hG_ ?_;have hB:BsOk bs:=⟨by lia,by lia,hbs⟩;walk_at "re";refine⟨len2 (aW _),λl hl=>?_⟩;have nlT:l≠t:=T3.ne hl;have nlb:l≠bx:=(qA2 hBx hl).symm;have hlH:H l=none:=E3.none (by simpa using nlT) hl;walk_at "re";refine⟨t,_,m,rfl,T3.ext (ts :=[]) (.laid hl) (by simp),by lia,m1,m2,λnl nx H4 hnl T4 e4 hNx' hDn=>?_⟩;obtain⟨hNx,hLx⟩:=hNx';refine hide λG_ hG_=>?_;obtain⟨a,vs,ea,hSq,hDL⟩:=hDn.ofList;cases ea;refine hG_ ?_;have nnl:nl≠l:=(qA2 qA1 hnl).symm;have hlen:=hDL.len;rw [aC] at hlen;have hnm:(nx.length:Int)=m:=hNx.1;have l4:H4 l=some (.lst []):=e4 _ _ (by simpa using nlT) qA1
   have E4:Ext [t] H H4:=E3.trans ((Ext.laid hl).trans e4);have apart:Same (yo (upd H3 l (.lst [])) [t] H4) (yo (upd H3 l (.lst [])) [l,t] H4):=qKx (H0:=H) (by simp [qA1]);have hSq4:=Same.seq apart hSq;have hDL4:=hDL.mono apart;have bx4:H4 bx=some (.lst (bs.map V.int)):=e4 _ _ (by simpa using nbt) (by rw [qA7 nlb.symm];exact hBx)
   refine⟨nl,rfl,⟨vs,yo_same.seq hSq4⟩,qEe (xs:=vs) (λi σ' H' => ∃(wk:List Blk) (ws:List V) (o9 o10:Option V),σ' = [some (.ref t),some (.int m),some (.int most),some (.int first),some (.int works),some (.ref lf),some (.int (1+r2)),some (.ref bx),some (.ref l),o9,o10]/\wk.length=i /\
    ((∀b∈wk,BlkOk m works b/\Fw works b)/\wk.map (·.ns)=nx.take i)/\Tape H' t (k+45+140*i)/\Ext [l,t] H4 H'/\H' l=some (.lst ws)/\DenL K (yo H [l,t] H') (wk.map blkD) ws) ?_ ?_ ?_ ?_⟩
   ·exact⟨[],[],none,none,rfl,rfl,⟨(λ_ h=>absurd h (by simp)),rfl⟩,T4.mono (by lia),.refl _ _,l4,.nil⟩
   ·intro i σ' H' hi hq_;refine hide λG_ hG_=>?_;obtain⟨wk,ws,o9,o10,rfl,hwl,hwk,T',e',hl',hden⟩:=hq_;refine hG_ ?_;exact yo_same.seq (Same.seq e'.young hSq4)
   ·intro i x σ' H' hx hq_ N_ B_ C_ R_ hN_ hC_ hR_;refine hide λG_ hG_=>?_;obtain⟨wk,ws,o9,o10,rfl,hwl,hwk,T',e',hl',hden⟩:=hq_;refine hG_ ?_;refine hide λG_ hG_=>?_;obtain⟨dd,hdd,hDx⟩:=hDL4.get hx;have hi:i<vs.length:=(aE.mp hx).1;obtain⟨ns,hns,rfl⟩:∃ns,nx[i]? = some ns/\dd=intsD ns:=by
     rw [aX] at hdd;cases z:nx[i]? with
     | none=>rw [z] at hdd;cases hdd
     | some n=>rw [z] at hdd;exact⟨n,rfl,(bG hdd).symm⟩
    have hok:NsOk m ns:=hNx.2 ns (aP hns);obtain⟨c,zs,rfl,hc,hcs⟩:=hDx.ofList;have hzs:=hcs.ints;subst hzs;refine hG_ ?_;have hwl':ws.length=i:=by rw [hden.len,aC,hwl]
    have hc':SqL K H' c (ns.map V.int):=yo_same.seq (Same.seq e'.young hc)
    have tail:∀(en:Addr) (H6:Hp),Ext [] H' H6->H' en=none->Den K (yo H [l,t] H6) (endD ns) (.ref en) -> ∀D:Ends,(∀(H7:Hp) (o9 o10:Option V),(∃(wk:List Blk) (ws:List V) (p9 p10:Option V),[some (V.ref t),some (.int m),some (.int most),some (.int first),some (.int works),some (.ref lf),some (.int (1+r2)),some (.ref bx),some (.ref l),o9,o10] = [some (.ref t),some (.int m),some (.int most),some (.int first),some (.int works),some (.ref lf),some (.int (1+r2)),some (.ref bx),some (.ref l),p9,p10]/\wk.length=i+1 /\
      ((∀b∈wk,BlkOk m works b/\Fw works b)/\wk.map (·.ns)=nx.take (i+1))/\Tape H7 t (k+45+140*(i+1))/\Ext [l,t] H4 H7/\H7 l=some (.lst ws)/\DenL K (yo H [l,t] H7) (wk.map blkD) ws)->D.nx [some (V.ref t),some (.int m),some (.int most),some (.int first),some (.int works),some (.ref lf),some (.int (1+r2)),some (.ref bx),some (.ref l),o9,o10] H7) ->
      tDrop (tBM K "list" qHp (tVar 8) (tCons (tTup (tCons (tCall (qFi K) [] E0 (tCons (tVar 0) (tCons (tVar 2) (tCons (tVar 7) (tCons (tVar 3) (tCons (tVar 4) tNil)))))) (tCons (tVar 10) tNil))) tNil)) D [some (V.ref t),some (.int m),some (.int most),some (.int first),some (.int works),some (.ref lf),some (.int (1+r2)),some (.ref bx),some (.ref l),some (.ref c),some (.ref en)] H6:=by
     intro en H6 e6 hen hDe D hD;have l6:=e6 _ _ (by simp) hl';walk_at "re";refine qFa l6 ?_;walk_at "re";refine⟨t,bx,_,most,first,works,bs,rfl,T'.ext e6 (by simp),by lia,hm1,hm2,hf1,hf2,hw1,hw2,e6 _ _ (by simp) (e' _ _ (by simp [nbt,nlb.symm]) bx4),nbt,hB,λdl ds H7 hdl T7 e7 hds hdf hDd=>?_⟩;have l7:=e7 _ _ (by simpa using nlT) l6;have ndl:dl≠l:=(qA2 l6 hdl).symm;have EH:Ext [l,t] H H6:=(E4.mono (by simp)).trans (e'.trans (e6.mono (by simp)));have hDd':Den K (yo H [l,t] H7) (.list (ds.map deedD)) (.ref dl):=(hDd.mono (qKx (H0:=H) (us :=[l,t]) (by simp [l6]))).mono (qQc EH (by simp));walk_at "re";refine⟨len2 (by show 2<=1000;decide),λp hp=>?_⟩;have npl:p≠l:=(qA2 l7 hp).symm;have npt:p≠t:=T7.ne hp
     walk_at "re";refine qFb (by rw [qA7 npl.symm];exact l7) (qAn (by lia)) ?_;refine hD _ _ _ ⟨wk ++ [⟨ds,ns⟩],ws ++ [.ref p],_,_,rfl,by rw [aK,hwl];rfl,⟨λb hb=>?_,by rw [aO,hwk.2,bQ,hns];rfl⟩,?_,?_,qA1,?_⟩
     ·rcases aS.mp hb with y | y
      ·exact hwk.1 b y
      ·rw [aL.mp y];exact⟨⟨hok,λd hd=>(hds d hd).ok,bC hdf (by decide)⟩,hdf,hds⟩
     ·exact ((T7.ext (ts :=[]) (.laid hp) (by simp)).ext (ts :=[l]) (.put (by simp)) (by simpa using nlT.symm)).mono (by lia)
     ·exact e'.trans ((e6.mono (by simp)).trans ((e7.mono (by simp)).trans ((Ext.laid hp).trans (.put (by simp)))))
     ·have E7:Ext [l,t] H7 (upd (upd H7 p (.tup [.ref dl,.ref en])) l (.lst (ws ++ [.ref p]))):=(Ext.laid hp).trans (.put (by simp));have E67:Ext [l,t] H6 (upd (upd H7 p (.tup [.ref dl,.ref en])) l (.lst (ws ++ [.ref p]))):=(e7.mono (by simp)).trans E7;rw [aO];refine DenL.append (hden.mono ((e6.mono (by simp)).trans E67).young) (.cons (.tuple (SqT.of ?_) (.cons (hDd'.mono E7.young) (.cons (hDe.mono E67.young) .nil))) .nil);rw [qBr ((EH.trans (e7.mono (by simp))).none (by simp [npl,npt]) hp) (by simp [npl,npt]),qA7 npl,qA1]
    have nT:∀ {en:Addr},H' en=none->en≠t/\en≠l/\H en=none:=λ{en} h=>by
     have a1:=T'.ne h;have a2:=(qA2 hl' h).symm;exact⟨a1,a2,((E4.mono (us :=[l,t]) (by simp)).trans e').none (by simp [a1,a2]) h⟩
    walk_at "re";refine⟨len2 (aW _),λe0 he0=>?_⟩;have E0:Ext [] H' (upd H' e0 (.lst [])) :=.laid he0;have hc0:SqL K (upd H' e0 (.lst [])) c (ns.map V.int):=Same.seq (λb o h=>E0 b o (by simp) h) hc';rcases hok with h | ⟨x,h,_⟩ | ⟨x,y,h,_⟩
    ·subst h;refine⟨intsD [],.list [],.list hc0 (DenL.ofInts []),.list (SqL.of qA1) .nil,rfl,rfl,?_⟩;walk_at "re";refine iteT ?_;walk_at "re";refine⟨len2 (by show 1<=1000;decide),λen hen=>?_⟩;have hen':=E0.none (by simp) hen;obtain⟨z1,z2,z3⟩:=nT hen';refine qId (tail en _ (E0.trans (.laid hen)) hen' (.tuple (SqT.of ?_) (.cons .str .nil)) _ λH7 o9 o10 h=>qBq hN_ h);rw [qBr z3 (by simp [z1,z2]),qA1]
    ·subst h;refine⟨intsD [x],.list [],.list hc0 (DenL.ofInts [x]),.list (SqL.of qA1) .nil,rfl,rfl,?_⟩;walk_at "re";refine iteF ?_;walk_at "re";refine qL7 hc0 ?_;walk_at "re";refine qCv ?_;walk_at "re";refine iteT ?_;walk_at "re";refine⟨len2 (by show 2<=1000;decide),λen hen=>?_⟩;have hen':=E0.none (by simp) hen;obtain⟨z1,z2,z3⟩:=nT hen';refine qId (tail en _ (E0.trans (.laid hen)) hen' (.tuple (SqT.of ?_) (.cons .str (.cons .int .nil))) _ λH7 o9 o10 h=>qBq hN_ h);rw [qBr z3 (by simp [z1,z2]),qA1]
    ·subst h;refine⟨intsD [x,y],.list [],.list hc0 (DenL.ofInts [x,y]),.list (SqL.of qA1) .nil,rfl,rfl,?_⟩;walk_at "re";refine iteF ?_;walk_at "re";refine qL7 hc0 ?_;walk_at "re";refine qCv ?_;walk_at "re";refine iteF ?_;walk_at "re";refine⟨len2 (by show 3<=1000;decide),λen hen=>?_⟩;have hen':=E0.none (by simp) hen;obtain⟨z1,z2,z3⟩:=nT hen';refine qId (tail en _ (E0.trans (.laid hen)) hen' (.tuple (SqT.of ?_) (.cons .str (.cons .int (.cons .int .nil)))) _ λH7 o9 o10 h=>qBq hN_ h);rw [qBr z3 (by simp [z1,z2]),qA1]
   ·intro σ' H' hq_;refine hide λG_ hG_=>?_;obtain⟨wk,ws,o9,o10,rfl,hwl,hwk,T',e',hl',hden⟩:=hq_;refine hG_ ?_;walk_at "re";have EH:Ext [l,t] H H':=(E4.mono (by simp)).trans e';exact q l wk ws H' hlH nlT (T'.mono (by lia)) (EH.drop hlH) ⟨by lia,λb hb=>(hwk.1 b hb).1⟩ ⟨λb hb=>(hwk.1 b hb).2,by show Ledx (wk.map (·.ns));rw [hwk.2,aT (by lia)];exact hLx⟩ hl' hden
end
end Fs
local macro_rules | `(tactic| walk_at "rf") => `(tactic| repeat (first | with_reducible refine L2.qWg ?_ | with_reducible refine L2.qQr ?_ | with_reducible refine L2.qV1 ?_ | with_reducible refine L2.qId ?_ | with_reducible refine L2.qUu ?_ | with_reducible refine L2.qL9 ?_ | with_reducible refine L2.qIn ?_ | with_reducible refine L2.qWi ?_ | with_reducible refine L2.qNi ?_ | with_reducible refine L2.qWb ?_ | with_reducible refine L2.qUk ?_ | with_reducible refine L2.qNq ?_ | with_reducible refine L2.qNn ?_ | with_reducible refine L2.qIo ?_ | with_reducible refine L2.qSw ?_ | with_reducible refine L2.qT0 ?_ | with_reducible refine L2.qNw ?_ | with_reducible refine L2.qWl ?_ | with_reducible refine L2.qT2 ?_ | with_reducible refine L2.qW9 ?_ | with_reducible refine L2.r_u ?_ | with_reducible refine L2.qT7 ?_ | with_reducible refine L2.qWf ?_ | with_reducible refine L2.qSy ?_ | with_reducible refine L2.qSx ?_ | with_reducible refine L2.r_c ?_ | with_reducible refine L2.qWj ?_ | with_reducible refine L2.qV0 ?_ | with_reducible refine L2.qT6 ?_ | with_reducible refine L2.qLa ?_ | with_reducible refine L2.qHn ?_ | with_reducible refine L2.qK6 ?_ | with_reducible refine L2.qK7 ?_ | with_reducible refine L2.qNp ?_ | with_reducible refine L2.qNk ?_ | with_reducible refine L2.qT4 ?_ | with_reducible refine L2.qT5 ?_ | with_reducible refine L2.qHo ?_ | with_reducible refine L2.qNv ?_ | with_reducible refine L2.qK9 ?_ | with_reducible refine L2.qNt ?_ | with_reducible refine L2.qNx ?_ | with_reducible refine L2.qNl ?_ | with_reducible refine L2.qNz ?_ | with_reducible refine L2.qNy ?_ | with_reducible refine L2.qK8 ?_ | with_reducible refine L2.qNr ?_ | with_reducible refine L2.qWc ?_ | with_reducible refine L2.qSz ?_ | with_reducible refine L2.qNm ?_ | with_reducible refine L2.qFw (by with_unfolding_all rfl) ?_ | with_reducible refine L2.qB6 (by assumption) (by with_unfolding_all rfl) ?_ | with_reducible refine L2.qGf (by assumption) (by with_unfolding_all rfl) ?_))
namespace Fs
open PySem L2
section
variable{P:Program}{w:World}{K:PySem.W.Frag}{mg:Str->Option Value}{base:Heap}
def Nex(H:Hp)(nd:Addr)(w:List Blk):Prop := ∃kvs:List (Key×V),H nd=some (.dK kvs) /\ ∀k:Int,0<=k->k<w.length -> ∃c,valV kvs (Sum.inl k)=some (.ref c)/\H c=some (.lst ((nxt w k).map V.int))
def qSr(K:PySem.W.Frag):Sp:=λvs H Q _ => ∃(st nd:Addr) (wk:List Blk) (m works a:Int),vs = [.ref st,.ref nd]/\SqL K H st [.int a]/\Nex H nd wk/\WorkOk m works wk/\m<=20/\0<=a/\a<m /\
 ∀(d:Addr) (ks:List Int) (H':Hp),H d=none->Ext [] H H'->H' d=some (.dK (ks.map λk=>((Sum.inl k:Key),V.bl true)))->ks.Nodup->(∀x,x∈ks↔Reach (nxt wk) a x)->Q (.ref d) H'
theorem valV_ks(y:Int):∀ks:List Int,valV (ks.map λk=>((Sum.inl k:Key),V.bl true)) (Sum.inl y)=if y∈ks then some (V.bl true) else none
 | []=>rfl
 | k::r=>by
  have ih:=valV_ks y r;by_cases e:k=y
  ·subst e;rw [bR,qBi rfl,if_pos (bM ..)]
  ·rw [bR,qBj (λz=>e (Sum.inl.inj z)),ih];have:(y∈k::r)↔y∈r:=by simp [cV e]
   simp only [this]
structure LedI(H:Hp)(st nd d du:Addr)(wk:List Blk)(a:Int)(ks due:List Int)(H':Hp):Prop where
 ext:Ext [] H H'
 hd:H' d=some (.dK (ks.map λk=>((Sum.inl k:Key),V.bl true)))
 hdu:H' du=some (.lst (due.map V.int))
 nod:ks.Nodup
 rk:∀x∈ks,Reach (nxt wk) a x
 rd:∀x∈due,Reach (nxt wk) a x
 clo:∀k∈ks,∀c∈nxt wk k,c∈ks\/c∈due
 one:a∈ks\/a∈due
 few:ks.length<=cnt (λx=>decide (x∈ks)) wk.length
 fewd:due.length<=1+2*cnt (λx=>decide (x∈ks)) wk.length
def LedW(H:Hp)(st nd d du:Addr)(wk:List Blk)(a:Int)(μ : Nat)(σ':St)(H':Hp):Prop := ∃(ks due:List Int) (o4:Option V),μ = (wk.length - cnt (λx=>decide (x∈ks)) wk.length)*3+due.length /\ σ' = [some (.ref st),some (.ref nd),some (.ref d),some (.ref du),o4]/\LedI H st nd d du wk a ks due H'
theorem LedI.end_{H H':Hp}{st nd d du:Addr}{wk:List Blk}{a:Int}{ks:List Int}(h:LedI H st nd d du wk a ks [] H')(x:Int):x∈ks↔Reach (nxt wk) a x:=by
 refine⟨h.rk x,λr=>?_⟩
 induction r with
 | refl=>exact h.one.elim id λz=>absurd z (by simp)
 | step _ hc ih=>exact (h.clo _ ih _ hc).elim id λz=>absurd z (by simp)
abbrev sLed:Stmt:=top 1
theorem scLed:FnScope ["starts","nexts","seen","due","place"] ["starts","nexts"] (qA4 sLed):=⟨rfl,rfl,rfl,by decide +kernel,rfl,by decide +kernel,by decide +kernel⟩
theorem qVk{f:Addr}{fd:FuncData}(F:Fun K "led_to" "led_to" sLed f fd)(nlist:mg "list" = none):FnOk P w K mg base CX0 1 f fd ["starts","nexts"] (qSr K):=by
 refine F.ok scLed (λvs H Q E h=>?_) (λcdv A outer s H vs Q E hr h=>?_)
 ·obtain⟨st,nd,wk,m,works,a,rfl,_⟩:=h;rfl
 ·obtain⟨st,nd,wk,m,works,a,rfl,hSt,hNx,hOk,hm,ha0,ha1,q⟩:=h;have hu:=qCc hr
  refine⟨_,qA3 (qAo (i:=2) scLed.nd rfl (Or.inl rfl) pe_dnewK)
   (qA3 (qAo (i:=3) scLed.nd rfl (Or.inl rfl) (qAv qBs (by rfl) nlist aV (qA0 (pv 0) pa_nil)))
   (qA3 (qQv bT (qLb (pv 3) (λ_=>rfl))
    (qA3 (qAo (i:=4) scLed.nd rfl (Or.inl rfl) (qVg bL PySem.F.slot_list_pop PySem.F.type_list_pop qVp (pv 3)))
    (qA6 (qBe (qSc (qOc hu (pv 4) (pv 2)))
     (qA3 (qTb hu (pv 2) (pv 4) pe_bl rfl)
     (qA6 (qD7 (qGg bL PySem.F.slot_list_extend PySem.F.type_list_extend qP3 (pv 3) (qA0 (qLg hu (pv 1) (pv 4) (qAk pa_nil) ⟨rfl,rfl,rfl,rfl⟩) pa_nil)))))
     qAf))))
   (qA6 (qA9 (pv 2))))),?_⟩
  dsimp only [qBm,qB5];walk_at "rf";have hwm:=hOk.len;have few:∀x,(nxt wk x).length<=2:=λx=>(qOw hOk x).few;refine qNu λd hd=>?_;walk_at "rf";have E0:Ext [] H (upd H d (.dK [])) :=.laid hd;refine⟨st,_,rfl,.inl (E0.toSame.seq hSt),λdu hdu=>?_⟩;have nd1:d≠du:=qA2 qA1 hdu;have hdu0:H du=none:=E0.none (by simp) hdu;walk_at "rf";have st0:LedI H st nd d du wk a [] [a] (upd (upd H d (.dK [])) du (.lst [.int a])):=by
   refine⟨E0.trans (.laid hdu),?_,qA1,List.nodup_nil,(λ_ h=>absurd h (by simp)),λx hx=>?_,(λ_ h=>absurd h (by simp)),.inr (aL.mpr rfl),aW _,cC _ _⟩
   ·rw [qA7 nd1,qA1];rfl
   ·rw [aL.mp hx];exact .refl
  refine⟨LedW H st nd d du wk a,⟨_,[],[a],none,rfl,rfl,st0⟩,?_⟩;rintro μ σ' H' ⟨ks,due,o4,rfl,rfl,I⟩;refine qFw (v :=.ref du) rfl ⟨!(due.map V.int).isEmpty,.inl ⟨_,SqL.of I.hdu,rfl⟩,?_⟩;rcases List.eq_nil_or_concat due with h | ⟨init,y,h⟩
  ·subst h;refine iteF ?_;walk_at "rf";exact q d ks H' hd I.ext I.hd I.nod I.end_
  ·have h:due=init ++ [y]:=by rw [h,List.concat_eq_append]
   have he:(!(due.map V.int).isEmpty)=true:=by rw [h];simp
   rw [he];refine iteT ⟨λσ' H' => ∃m',m'<(wk.length - cnt (λx=>decide (x∈ks)) wk.length)*3+due.length/\LedW H st nd d du wk a m' σ' H',λ_ _ h=>h,?_⟩;have hyr:=I.rd y (by rw [h];simp);obtain⟨y0,y1⟩:=hyr.range hOk ⟨ha0,ha1⟩;have hc:=qGb (λx=>decide (x∈ks)) wk.length;have hdl:due.length=init.length+1:=by rw [h];simp
   have hfd:=I.fewd;have hfk:=I.few;walk_at "rf";refine qFa I.hdu ?_;refine⟨du,due.map V.int,.int y,rfl,rfl,I.hdu,by rw [h];simp,?_⟩;have hinit:(due.map V.int).dropLast=init.map V.int:=by rw [h];simp
   rw [hinit];have d1:upd H' du (.lst (init.map V.int)) d=some (.dK (ks.map λk=>((Sum.inl k:Key),V.bl true))):=by rw [qA7 nd1];exact I.hd
   have e1:Ext [] H (upd H' du (.lst (init.map V.int))):=((I.ext.mono (us :=[du]) (by simp)).trans (.put (by simp))).drop hdu0;have u1:upd H' du (.lst (init.map V.int)) du=some (.lst (init.map V.int)):=qA1;generalize upd H' du (.lst (init.map V.int))=H1 at *;walk_at "rf";refine⟨d,_,rfl,DGet.k (k:=Sum.inl y) d1,?_⟩;rw [valV_ks];by_cases hy:y∈ks
   ·rw [if_pos hy];refine qUk (iteF ?_);walk_at "rf";refine⟨_,by rw [hdl];exact Nat.lt_succ_self _,ks,init,_,rfl,rfl,e1,d1,u1,I.nod,I.rk,λx hx=>I.rd x (by rw [h];exact bJ _ hx),λk hk c hc'=>?_,?_,I.few,by lia⟩
    ·rcases I.clo k hk c hc' with z | z
     ·exact .inl z
     ·rw [h] at z;rcases aS.mp z with z | z
      ·exact .inr z
      ·rw [aL.mp z];exact .inl hy
    ·rcases I.one with z | z
     ·exact .inl z
     ·rw [h] at z;rcases aS.mp z with z | z
      ·exact .inr z
      ·rw [aL.mp z];exact .inl hy
   ·rw [if_neg hy];refine qUk (iteT ?_);walk_at "rf";refine⟨d,_,rfl,DPut.k (k:=Sum.inl y) d1 (qAn (by rw [aC];lia)),?_⟩;have hput:putK (ks.map λk=>((Sum.inl k:Key),V.bl true)) (Sum.inl y) (V.bl true)=(ks ++ [y]).map λk=>((Sum.inl k:Key),V.bl true):=by
     rw [qQu _ (by rw [valV_ks,if_neg hy]),aO];rfl
    rw [hput];have d2:upd H1 d (.dK ((ks ++ [y]).map λk=>((Sum.inl k:Key),V.bl true))) d=some (.dK ((ks ++ [y]).map λk=>((Sum.inl k:Key),V.bl true))):=qA1;have e2:Ext [] H (upd H1 d (.dK ((ks ++ [y]).map λk=>((Sum.inl k:Key),V.bl true)))):=((e1.mono (us :=[d]) (by simp)).trans (.put (by simp))).drop hd;have u2:upd H1 d (.dK ((ks ++ [y]).map λk=>((Sum.inl k:Key),V.bl true))) du=some (.lst (init.map V.int)):=by rw [qA7 nd1.symm];exact u1
    generalize upd H1 d (.dK ((ks ++ [y]).map λk=>((Sum.inl k:Key),V.bl true)))=H2 at *;obtain⟨kvs,hk1,hk2⟩:=hNx;obtain⟨c,hc1,hc2⟩:=hk2 y y0 (by lia);walk_at "rf";refine qFa u2 ?_;walk_at "rf";refine⟨nd,rfl,.inl ⟨kvs,.inl (e2 _ _ (by simp) hk1)⟩,?_⟩;walk_at "rf";refine⟨len2 (aW _),λe0 he0=>?_⟩;have e3:Ext [] H2 (upd H2 e0 (.lst [])) :=.laid he0;refine⟨some (.ref c),?_,?_⟩
    ·have:=DGet.k (k:=Sum.inl y) ((e2.trans e3) _ _ (by simp) hk1);rw [hc1] at this;exact this
    walk_at "rf";have hnl:=few y;have hmem:∀x,x∈ks->x∈ks ++ [y]:=λx hx=>bJ _ hx;have hlt:=qLv (p:=λx=>decide (x∈ks)) (q:=λx=>decide (x∈ks ++ [y])) (x:=y) (λi hi=>decide_eq_true (hmem i (of_decide_eq_true hi))) (decide_eq_true (by simp)) (decide_eq_false hy) wk.length y0 (by lia);have hle:=qGb (λx=>decide (x∈ks ++ [y])) wk.length;refine⟨du,c,init.map V.int,(nxt wk y).map V.int,rfl,rfl,e3 _ _ (by simp) u2,(e2.trans e3) _ _ (by simp) hc2,len2 (by rw [aC,aC];lia),?_⟩;refine⟨_,?_,ks ++ [y],init++nxt wk y,_,rfl,rfl,?_,?_,?_,?_,?_,?_,?_,?_,?_,?_⟩
    ·rw [aK];lia
    ·exact (((e2.trans e3).mono (us :=[du]) (by simp)).trans (.put (by simp))).drop hdu0
    ·rw [qA7 nd1];exact e3 _ _ (by simp) d2
    ·rw [qA1,aO]
    ·rw [List.nodup_append];refine⟨I.nod,by simp,λx hx z hz=>?_⟩;rw [aL.mp hz];rintro rfl;exact hy hx
    ·intro x hx;rcases aS.mp hx with z | z
     ·exact I.rk x z
     ·rw [aL.mp z];exact hyr
    ·intro x hx;rcases aS.mp hx with z | z
     ·exact I.rd x (by rw [h];exact bJ _ z)
     ·exact .step hyr z
    ·intro k hk c' hc';rcases aS.mp hk with z | z
     ·rcases I.clo k z c' hc' with t | t
      ·exact .inl (bJ _ t)
      ·rw [h] at t;rcases aS.mp t with t | t
       ·exact .inr (bJ _ t)
       ·exact .inl (aY _ t)
     ·rw [aL.mp z] at hc';exact .inr (aY _ hc')
    ·rcases I.one with t | t
     ·exact .inl (bJ _ t)
     ·rw [h] at t;rcases aS.mp t with t | t
      ·exact .inr (bJ _ t)
      ·exact .inl (aY _ t)
    ·rw [aK,bX];lia
    ·rw [aK];lia
end
section
variable{P:Program}{w:World}{K:PySem.W.Frag}{mg:Str->Option Value}{base:Heap}
def qW8(K:PySem.W.Frag):Sp:=λvs H Q _ => ∃(a:Addr) (wk:List Blk),vs = [.ref a]/\Den K H (workD wk) (.ref a)/\(∀b∈wk,b.ns.length<=2)/\wk.length<=20 /\
 ∀(d:Addr) (H':Hp),H d=none->Ext [] H H'->Nex H' d wk->Q (.ref d) H'
abbrev sNx:Stmt:=top 17
theorem scNx:FnScope ["work"] ["work"] (qA4 sNx):=⟨rfl,rfl,rfl,by decide +kernel,rfl,by decide +kernel,by decide +kernel⟩
theorem qWq{f:Addr}{fd:FuncData}(F:Fun K "nexts_of" "nexts_of" sNx f fd)(nlist:mg "list" = none)(nenum:mg "enumerate" = none):FnOk P w K mg base CX0 1 f fd ["work"] (qW8 K):=by
 refine F.ok scNx (λvs H Q E h=>?_) (λcdv A outer s H vs Q E hr h=>?_)
 ·obtain⟨a,w,rfl,_⟩:=h;rfl
 ·obtain⟨a,wk,rfl,hW,hns,hwl,q⟩:=h;have nd3:((["at","deeds","end"]:List Str)).Nodup:=by decide
  refine⟨_,qA6 (qA9 (qWo ["at","deeds","end"] [] rfl (.of rfl) (qTe rfl nenum (qA0 (pv 0) pa_nil)) (λ_ _ _ _=>qHr (n:=2) K rfl rfl (qC5 (qAj (i:=0) nd3 rfl (Or.inl rfl)) (qC5 (qHr (n:=2) K rfl rfl (qC5 (qAj (i:=1) nd3 rfl (Or.inl rfl)) (qC5 (qAj (i:=2) nd3 rfl (Or.inl rfl)) qG0))) qG0))) (λ_ _ _ _ =>.nil)
   (λ_ _ _ _=>pv 0) (λ_ _ _ _=>qAv (qRj K rfl) (by rfl) nlist aV (qA0 (qBn (qSt K rfl) (pv 2) (qC9 pe_int) qCa) pa_nil)))),?_⟩
  dsimp only [qBm,qB5];obtain⟨a',vs,ea,hSq,hDL⟩:=hW.ofList;cases ea;have hvl:vs.length=wk.length:=by rw [hDL.len,aC]
  walk_at "rf";refine⟨a,rfl,⟨vs,hSq⟩,λd hd=>?_⟩;refine qP7 (xs:=vs) (λi σ' H' => ∃(kvs:List (Key×V)) (o0 o1 o2:Option V),σ' = [o0,o1,o2]/\Ext [d] H H'/\H' d=some (.dK kvs)/\kvs.length<=i /\ ∀k:Int,0<=k->k<i -> ∃c,valV kvs (Sum.inl k)=some (.ref c)/\c≠d/\H' c=some (.lst ((nxt wk k).map V.int))) ?_ ?_ ?_ ?_
  ·exact⟨[],none,none,none,rfl,.laid hd,qA1,aD _,λk h0 h1=>absurd h1 (by lia)⟩
  ·rintro i σ' H' hi ⟨kvs,o0,o1,o2,rfl,e',hd',hkl,hk⟩;exact (e'.drop hd).toSame.seq hSq
  ·rintro i x σ' H' pt R hx ⟨kvs,o0,o1,o2,rfl,e',hd',hkl,hk⟩ hpt hR;obtain⟨dd,hdd,hDx⟩:=hDL.get hx;obtain⟨b,hb,rfl⟩:=qHv hdd;have hi:i<wk.length:=(aE.mp hb).1;have hb2:=hns b (aP hb);obtain⟨c,us,rfl,hc,hcs⟩:=hDx.ofTuple;obtain⟨v1,r1,rfl,hd1,hr1⟩:=hcs.ofCons;obtain⟨v2,r2,rfl,hd2,hr2⟩:=hr1.ofCons;have hr2:=hr2.ofNil;subst hr2;obtain⟨wd,hwd⟩:=qUb hb2;rw [hwd] at hd2;obtain⟨en,es',rfl,hen,hes⟩:=hd2.ofTuple;obtain⟨v3,r3,rfl,hd3,hr3⟩:=hes.ofCons;have e3:=hd3.ofStr;subst e3;have e4:=hr3.ints;subst e4;have npt:pt≠d:=(qA2 hd' hpt).symm;have e1:Ext [d] H (upd H' pt (.tup [.int i,.ref c])):=e'.trans (.laid hpt);have es:Same H (upd H' pt (.tup [.int i,.ref c])):=(e1.drop hd).toSame
   have hd1':upd H' pt (.tup [.int i,.ref c]) d=some (.dK kvs):=by rw [qA7 npt.symm];exact hd'
   have hpt1:SqT K (upd H' pt (.tup [.int i,.ref c])) pt [.int i,.ref c]:=SqT.of qA1;have hk1:Ext [] H' (upd H' pt (.tup [.int i,.ref c])) :=.laid hpt;generalize upd H' pt (.tup [.int i,.ref c])=H1 at *;refine qL8 hpt1 rfl ?_;walk_at "rf";refine qL8 (es.seqT hc) rfl ?_;walk_at "rf";refine iteT ?_;walk_at "rf";refine⟨1,rfl,?_⟩;walk_at "rf";refine⟨en,_,rfl,es.seqT hen,?_,λp hp=>?_⟩
   ·intro h;have:=h.1;revert this;have hn:(V.str wd::b.ns.map V.int).length=b.ns.length+1:=by simp
    rw [hn];unfold HT.sIx;simp
    try lia
   have hcut:cutV (V.str wd::b.ns.map V.int) (some 1) none=b.ns.map V.int:=by
    match hh:b.ns,hb2 with
    | [],_=>rfl
    | [x],_=>rfl
    | [x,y],_=>rfl
   rw [hcut];have npl:p≠d:=(qA2 hd1' hp).symm;walk_at "rf";refine⟨p,_,rfl,.inr (SqT.of qA1),λl2 hl2=>?_⟩;have e2:Ext [] H1 (upd (upd H1 p (.tup (b.ns.map V.int))) l2 (.lst (b.ns.map V.int))):=(Ext.laid hp).trans (.laid hl2);have hl2s:upd (upd H1 p (.tup (b.ns.map V.int))) l2 (.lst (b.ns.map V.int)) l2=some (.lst (b.ns.map V.int)):=qA1;have n2:l2≠d:=(qA2 (Ext.laid (ts :=[]) hp _ _ (by simp) hd1') hl2).symm;generalize upd (upd H1 p (.tup (b.ns.map V.int))) l2 (.lst (b.ns.map V.int))=H2 at *;refine⟨kvs,Sum.inl (i:Int),rfl,e2 _ _ (by simp) hd1',qAn (by lia),hR _ _ ⟨_,_,_,_,rfl,?_,qA1,?_,λk k0 k1=>?_⟩⟩
   ·exact e1.trans ((e2.mono (by simp)).trans (.put (by simp)))
   ·have:=qC2 kvs (Sum.inl (i:Int):Key) (.ref l2);lia
   ·rw [qKz];by_cases z:k=(i:Int)
    ·subst z;rw [if_pos rfl];refine⟨l2,rfl,n2,?_⟩;rw [qA7 n2,hl2s,qOx hb]
    ·rw [if_neg (λy=>z (Sum.inl.inj y))];obtain⟨c',h1,h2,h3⟩:=hk k k0 (by lia);exact⟨c',h1,h2,by rw [qA7 h2];exact (hk1.trans e2) _ _ (by simp) h3⟩
  ·rintro σ' H' ⟨kvs,o0,o1,o2,rfl,e',hd',hkl,hk⟩;rw [hvl] at hk;refine q d H' hd (e'.drop hd) ⟨kvs,hd',λk k0 k1=>?_⟩;obtain⟨c,h1,_,h3⟩:=hk k k0 k1;exact⟨c,h1,h3⟩
end
end Fs
local macro_rules | `(tactic| walk_at "rg") => `(tactic| repeat (with_reducible first | (refine L2.qNj ?_; intro NN_ hNN_) | walk_at "qa" | refine L2.qBq (by assumption) ?_ | (refine L2.qT3 ?_; intro NA_ NB_ hNA_ hNB_) | walk_at "qb"))
namespace Fs
open PySem L2
section
variable{P:Program}{w:World}{K:PySem.W.Frag}{mg:Str->Option Value}{base:Heap}
abbrev sTape:Stmt:=top 19
abbrev qEr:Stmt:=top 22
abbrev sMany:Stmt:=top 25
theorem scTape:FnScope ["_law_script","_law_k","_law_cell"] ["_law_script","_law_k"] (qA4 sTape):=⟨rfl,rfl,rfl,by decide +kernel,rfl,by decide +kernel,by decide +kernel⟩
theorem qTq{f:Addr}{fd:FuncData}(F:Fun K "_law_tape" "_law_tape" sTape f fd)(nlen:mg "len" = none)(nabs:mg "abs" = none)(nint:mg "int" = none):FnOk P w K mg base CX0 1 f fd ["_law_script","_law_k"] (qN7 K):=by
 refine F.ok scTape (λvs H Q E h=>?_) (λcdv A outer s H vs Q E hr h=>?_)
 ·refine hide λG_ hG_=>?_;obtain⟨a,ns,k,rfl,_⟩:=h;refine hG_ ?_;rfl
 ·refine hide λG_ hG_=>?_;obtain⟨a,ns,k,rfl,hS,hk,q⟩:=h;refine hG_ ?_
  refine⟨_,qA3 (qAo (i:=2) scTape.nd rfl (Or.inl rfl) (qCf (qAe qHs (pv 1) (qA5 qA8 (by rfl) nlen aU (qA0 (pv 0) pa_nil)) (qAh _)) (qAm qAi (pv 0) (pv 1) (λ_ _=>rfl)) pe_int))
   (qA6 (qA9 (qAk (qA0 (qAl qJ1 (qA5 qLx (by rfl) nabs PyProof.Rows.boot_abs (qA0 (pv 2) pa_nil)) (qAv qDi (by rfl) nint cF (qA0 (qBp qWp (qA5 qLx (by rfl) nabs PyProof.Rows.boot_abs (qA0 (pv 2) pa_nil)) (qAl qIy pe_int pe_int) (qAh _)) pa_nil)))
    (qA0 (qAl qAz (qAl qAz (qAl qDg (pv 2) pe_int) (qAl qJ1 pe_int (pv 1))) pe_int) (qA0 pe_int pa_nil)))))),?_⟩
  dsimp only [qBm];have key:∀c:Int,0<=(if c<0 then -c else c):=λc=>by split <;> lia
  walk_at "rg";refine qL7 hS ?_;walk_at "rg";by_cases g:(k:Int)<((ns.map V.int).length:Int)
  ·rw [decide_eq_true g];refine iteT ?_;rw [aC] at g;have hg:k<ns.length:=by lia
   have hat:atI (ns.map V.int) (k:Int)=some (.int ns[k]):=by
    have:=qAw (xs:=ns.map V.int) (j:=k) (by rw [aX,aJ hg];rfl);exact this
   walk_at "rg";refine qB6 hS hat ?_;generalize ns[k]=c;walk_at "rg";refine⟨_,rfl,?_⟩;walk_at "rg";refine⟨_,rfl,?_⟩;walk_at "rg";refine qM5 (by decide) (by decide) (by decide) ?_;walk_at "rg";refine .inr ⟨_,rfl,?_⟩;refine qK5 (.inr ⟨by have:=bit01 (decide (10^Int.toNat 18<=if c<0 then -c else c));lia,by have:=bit01 (decide (10^Int.toNat 18<=if c<0 then -c else c));lia⟩) ?_;walk_at "rg";refine qEy (by decide) ?_;walk_at "rg";refine qK5 (.inl ⟨by decide,by decide⟩) ?_;walk_at "rg";refine⟨len2 (by show 3<=1000;decide),λt ht=>q t _ ht ⟨_,_,_,qA1,?_,?_,?_,by decide,by decide⟩ λb o e=>?_⟩
   ·exact Int.mul_nonneg (key c) (bit01 _).1
   ·have:=eP c (show (2305843009213693951:Int)≠0 by decide);lia
   ·have:=dG c (show (0:Int)<2305843009213693951 by decide);lia
   ·rw [qA7 (qA2 e ht)];exact e
  ·rw [decide_eq_false g];refine iteF ?_;walk_at "rg";refine⟨_,rfl,?_⟩;walk_at "rg";refine⟨_,rfl,?_⟩;walk_at "rg";refine qM5 (by decide) (by decide) (by decide) ?_;walk_at "rg";refine .inr ⟨_,rfl,?_⟩;refine qK5 (.inr ⟨by have:=bit01 (decide (10^Int.toNat 18<=if 0<0 then -0 else 0));lia,by have:=bit01 (decide (10^Int.toNat 18<=if 0<0 then -0 else 0));lia⟩) ?_;walk_at "rg";refine qEy (by decide) ?_;walk_at "rg";refine qK5 (.inl ⟨by decide,by decide⟩) ?_;walk_at "rg";refine⟨len2 (by show 3<=1000;decide),λt ht=>q t _ ht ⟨_,_,_,qA1,?_,?_,?_,by decide,by decide⟩ λb o e=>?_⟩
   ·exact Int.mul_nonneg (key 0) (bit01 _).1
   ·have:(0:Int)%2305843009213693951=0:=rfl;lia
   ·have:(0:Int)%2305843009213693951=0:=rfl;lia
   ·rw [qA7 (qA2 e ht)];exact e
theorem qUp:FnScope ["_law_tape_here"] ["_law_tape_here"] (qA4 sMany):=⟨rfl,rfl,rfl,by decide +kernel,rfl,by decide +kernel,by decide +kernel⟩
theorem qTr{f:Addr}{fd:FuncData}(F:Fun K "_law_many" "_law_many" sMany f fd)(nint:mg "int" = none)(hD:Has P w K mg base "_law_draw" 1 ["_law_tape_here","_law_many_here"] qD0):FnOk P w K mg base CX0 2 f fd ["_law_tape_here"] qN8:=by
 refine F.ok qUp (λvs H Q E h=>?_) (λcdv A outer s H vs Q E hr h=>?_)
 ·refine hide λG_ hG_=>?_;obtain⟨t,k,rfl,_⟩:=h;refine hG_ ?_;rfl
 ·refine hide λG_ hG_=>?_;obtain⟨t,k,rfl,hT,hk,q⟩:=h;refine hG_ ?_
  refine⟨_,qA6 (qA9 (qAm qAi (qAk (qA0 (qAl qAz pe_int (qAd hD hr (aD _) (qA0 (pv 0) (qA0 pe_int pa_nil)))) (qA0 (qAl qAz pe_int (qAd hD hr (aD _) (qA0 (pv 0) (qA0 pe_int pa_nil)))) pa_nil)))
   (qAv qDi (by rfl) nint cF (qA0 (qBp qCi (qAd hD hr (aD _) (qA0 (pv 0) (qA0 pe_int pa_nil))) pe_int (qAh _)) pa_nil)) (λ_ _=>rfl))),?_⟩
  dsimp only [qBm];walk_at "rg";refine qAx hT (by lia) (by decide) (by decide) λr1 H1 a1 b1 T1 e1 _=>?_;walk_at "rg";refine qAx T1 (by lia) (by decide) (by decide) λr2 H2 a2 b2 T2 e2 _=>?_;walk_at "rg";refine⟨len2 (by show 2<=1000;decide),λp hp=>?_⟩;have np:p≠t:=T2.ne hp;walk_at "rg";refine qAx (T2.ext (.laid (ts :=[]) hp) (by simp)) (by lia) (by decide) (by decide) λr3 H3 a3 b3 T3 e3 k3=>?_;walk_at "rg";refine qCv ?_;walk_at "rg";refine .inr ⟨_,rfl,?_⟩;have e4:Ext [t] H H3:=(e1.trans e2).trans ((Ext.laid hp).trans e3);have hL:SqL K H3 p [V.int (1+r1),V.int (7+r2)]:=SqL.of (by rw [k3 p np,qA1]);cases c:decide (r3=0) with
  | true=>exact qB6 hL rfl (q _ _ (by lia) (by lia) T3 e4)
  | false=>exact qB6 hL rfl (q _ _ (by lia) (by lia) T3 e4)
theorem qQm:FnScope ["_law_tape_here"] ["_law_tape_here"] (qA4 qEr):=⟨rfl,rfl,rfl,by decide +kernel,rfl,by decide +kernel,by decide +kernel⟩
theorem qOp{f:Addr}{fd:FuncData}(F:Fun K "_law_number" "_law_number" qEr f fd)(hD:Has P w K mg base "_law_draw" 1 ["_law_tape_here","_law_many_here"] qD0):FnOk P w K mg base CX0 2 f fd ["_law_tape_here"] qHg:=by
 refine F.ok qQm (λvs H Q E h=>?_) (λcdv A outer s H vs Q E hr h=>?_)
 ·refine hide λG_ hG_=>?_;obtain⟨t,k,rfl,_⟩:=h;refine hG_ ?_;rfl
 ·refine hide λG_ hG_=>?_;obtain⟨t,k,rfl,hT,hk,q⟩:=h;refine hG_ ?_
  refine⟨_,qA6 (qA9 (qAm qAi (qAk (qA0 pe_int (qA0 pe_int (qA0 (qIu qF4 pe_int) (qA0 pe_int (qA0 (qAl qIy pe_int pe_int) (qA0 (qAl qF6 pe_int (qAl qIy pe_int pe_int))
   (qA0 (qAl qF6 (qAd hD hr (aD _) (qA0 (pv 0) (qA0 pe_int pa_nil))) pe_int) (qA0 (qAd hD hr (aD _) (qA0 (pv 0) (qA0 (qAl qIy pe_int pe_int) pa_nil))) pa_nil)))))))))
   (qAd hD hr (aD _) (qA0 (pv 0) (qA0 pe_int pa_nil))) (λ_ _=>rfl))),?_⟩
  dsimp only [qBm];walk_at "rg";refine qM5 (by decide) (by decide) (by decide) ?_;walk_at "rg";refine qM5 (by decide) (by decide) (by decide) ?_;walk_at "rg";refine qAx hT (by lia) (by decide) (by decide) λr1 H1 a1 b1 T1 e1 _=>?_;walk_at "rg";refine qM5 (by decide) (by decide) (by decide) ?_;walk_at "rg";refine qAx T1 (by lia) (by decide) (by decide) λr2 H2 a2 b2 T2 e2 _=>?_;have b2':r2<1000000:=b2;walk_at "rg";refine⟨len2 (by show 8<=1000;decide),λp hp=>?_⟩;have np:p≠t:=T2.ne hp;walk_at "rg";refine qAx (T2.ext (.laid (ts :=[]) hp) (by simp)) (by lia) (by decide) (by decide) λr3 H3 a3 b3 T3 e3 k3=>?_;have e4:Ext [t] H H3:=(e1.trans e2).trans ((Ext.laid hp).trans e3);have hL:=SqL.of (K:=K) ((k3 p np).trans qA1)
  have e5:(10:Int)^(12:Int).toNat=1000000000000:=by decide
  have e6 : -((10:Int)^12) = -1000000000000:=by decide
  have e7:((10:Int)^12)=1000000000000:=by decide
  rw [e6,e7] at q;obtain h | h | h | h | h | h | h | h:r3=0\/r3=1\/r3=2\/r3=3\/r3=4\/r3=5\/r3=6\/r3=7:=by lia
  all_goals
   subst h;refine qB6 hL rfl (q _ _ ?_ ?_ T3 e4)
  all_goals first | decide | lia
end
end Fs
local macro_rules | `(tactic| walk_at "rh") => `(tactic| repeat (with_reducible first | (refine L2.qNj ?_; intro NN_ hNN_) | walk_at "qa" | refine L2.qBq (by assumption) ?_ | refine L2.qU7 (by assumption) ?_ | (refine L2.qT3 ?_; intro NA_ NB_ hNA_ hNB_) | walk_at "qb"))
namespace Fs
open PySem L2
section
variable{P:Program}{w:World}{K:PySem.W.Frag}{mg:Str->Option Value}{base:Heap}
abbrev qGu:Stmt:=top 23
theorem scDeeds:FnScope ["_law_tape_here","_law_most","_law_boxes","_law_first","_law_works_here","_law_found","_law_turn","_law_way","_law_n","_law_box","_law_other","_law_called"] ["_law_tape_here","_law_most","_law_boxes","_law_first","_law_works_here"] (qA4 qGu):=⟨rfl,rfl,rfl,by decide +kernel,rfl,by decide +kernel,by decide +kernel⟩
theorem qRb{f:Addr}{fd:FuncData}(F:Fun K "_law_deeds" "_law_deeds" qGu f fd)(nrange:mg "range" = none)(nint:mg "int" = none)(nlen:mg "len" = none)(hD:Has P w K mg base "_law_draw" 1 ["_law_tape_here","_law_many_here"] qD0)(hN:Has P w K mg base "_law_number" 2 ["_law_tape_here"] qHg):FnOk P w K mg base CX0 3 f fd ["_law_tape_here","_law_most","_law_boxes","_law_first","_law_works_here"] (qFi K):=by
 refine F.ok scDeeds (λvs H Q E h=>?_) (λcdv A outer s H vs Q E hr h=>?_)
 ·refine hide λG_ hG_=>?_;obtain⟨t,b,k,most,first,works,bs,rfl,_⟩:=h;refine hG_ ?_;rfl
 ·refine hide λG_ hG_=>?_;obtain⟨t,b,k,most,first,works,bs,rfl,hT,hk,hm1,hm2,hf1,hf2,hw1,hw2,hb,nbt,hB,q⟩:=h;refine hG_ ?_
  refine⟨_,qA3 (qAo (i:=5) scDeeds.nd rfl (Or.inl rfl) (qAk pa_nil))
   (qA3 (qCq bT rfl (qBv rfl nrange (qA0 (qAd hD hr (by decide) (qA0 (pv 0) (qA0 (qAl qAz pe_int (qAm qAi (qAk (qA0 (pv 1) (qA0 pe_int pa_nil))) (qAv qDi (by rfl) nint cF (qA0 (qBp qCi (qAd hD hr (by decide) (qA0 (pv 0) (qA0 pe_int pa_nil))) pe_int (qAh _)) pa_nil)) (λ_ _=>rfl))) pa_nil))) pa_nil)) (qAj (i:=6) scDeeds.nd rfl (Or.inl rfl))
    (qA3 (qEb (i:=7) (j:=8) rfl scDeeds.nd rfl rfl (by decide) rfl rfl (qA0 (qAd hD hr (by decide) (qA0 (pv 0) (qA0 pe_int pa_nil))) (qA0 (qAd hN hr (by decide) (qA0 (pv 0) pa_nil)) pa_nil)) rfl)
    (qA3 (qAo (i:=9) scDeeds.nd rfl (Or.inl rfl) (qAm qAi (pv 2) (qAd hD hr (by decide) (qA0 (pv 0) (qA0 (qA5 qA8 (by rfl) nlen aU (qA0 (pv 2) pa_nil)) pa_nil))) (λ_ _=>rfl)))
    (qA3 (qAo (i:=10) scDeeds.nd rfl (Or.inl rfl) (qAm qAi (pv 2) (qAd hD hr (by decide) (qA0 (pv 0) (qA0 (qA5 qA8 (by rfl) nlen aU (qA0 (pv 2) pa_nil)) pa_nil))) (λ_ _=>rfl)))
    (qA3 (qAo (i:=11) scDeeds.nd rfl (Or.inl rfl) (qAm qAi (qAk (qA0 (qAl qAz (qAl qAz (pv 3) pe_int) (qAd hD hr (by decide) (qA0 (pv 0) (qA0 pe_int pa_nil)))) (qA0 (qAd hD hr (by decide) (qA0 (pv 0) (qA0 (pv 4) pa_nil))) pa_nil))) (qAv qDi (by rfl) nint cF (qA0 (qBp qCi (qAd hD hr (by decide) (qA0 (pv 0) (qA0 pe_int pa_nil))) pe_int (qAh _)) pa_nil)) (λ_ _=>rfl)))
    (qA6 (qBe (qIp (qAe qCi (pv 7) pe_int (qAh _)) (qFx (qAe qHs (pv 11) (pv 4) (qAh _)))).pt
     (qA6 (qD7 (qGg bL cL cM qCk (pv 5) (qA0 (qBw (qA0 pe_str (qA0 (pv 11) pa_nil))) pa_nil))))
     (qA6 (qD7 (qGg bL cL cM qCk (pv 5) (qA0 (qAm qAi (qAk (qA0 (qBw (qA0 pe_str (qA0 (pv 9) (qA0 (pv 8) pa_nil)))) (qA0 (qBw (qA0 pe_str (qA0 (pv 9) (qA0 (pv 10) pa_nil)))) (qA0 (qBw (qA0 pe_str (qA0 (pv 9) pa_nil))) pa_nil)))) (qAl qDg (pv 7) pe_int) (λ_ _=>rfl)) pa_nil)))))))))))
   (qA6 (qA9 (pv 5)))),?_⟩
  dsimp only [qBm,qB5];walk_at "rh";refine⟨len2 (aW _),λl hl=>?_⟩;have nlt:l≠t:=hT.ne hl;have nlb:l≠b:=(qA2 hb hl).symm;have T0:Tape (upd H l (.lst [])) t k:=hT.ext (ts :=[]) (.laid hl) (by simp);walk_at "rh";refine⟨len2 (by show 2<=1000;decide),λp hp=>?_⟩;have npt:p≠t:=T0.ne hp;have npl:p≠l:=λz=>by rw [z,qA1] at hp;cases hp
  walk_at "rh";refine qAx (T0.ext (ts :=[]) (.laid hp) (by simp)) (by lia) (by decide) (by decide) λr1 H1 a1 b1 T1 e1 k1=>?_;walk_at "rh";refine qCv ?_;walk_at "rh";refine .inr ⟨_,rfl,?_⟩;refine hide λG_ hG_=>?_;have hpL:SqL K H1 p [V.int most,V.int 12]:=SqL.of (by rw [k1 p npt,qA1]);obtain⟨mo,hmo,mo0,mo1⟩:∃mo:Int,atI [V.int most,V.int 12] (if decide (r1=0)=true then 1 else 0)=some (.int mo)/\0<=mo/\mo<=12:=by
   cases decide (r1=0)
   ·exact⟨most,rfl,hm1,hm2⟩
   ·exact⟨12,rfl,by decide,by decide⟩
  refine hG_ ?_;refine qB6 hpL hmo ?_;walk_at "rh";refine qAx T1 (by lia) (by lia) (by lia) λr2 H2 a2 b2 T2 e2 k2=>?_;have l2:H2 l=some (.lst []):=by rw [k2 l nlt,k1 l nlt,qA7 npl.symm,qA1]
  have E2:Ext [t] H H2:=(Ext.laid hl).trans ((Ext.laid hp).trans (e1.trans e2));walk_at "rh"
  refine⟨r2,rfl,by lia,by lia,qC3 (lo:=0) (n:=r2.toNat) (λi σ' H' => ∃(ds:List Deed) (vs:List V) (o6 o7 o8 o9 o10 o11:Option V),σ' = [some (.ref t),some (.int most),some (.ref b),some (.int first),some (.int works),some (.ref l),o6,o7,o8,o9,o10,o11]/\ds.length=i/\(∀d∈ds,DeedP works d) /\
   Tape H' t (k+2+10*i)/\Ext [t] H H'/\H' l=some (.lst vs)/\DenL K (yo H [t,l] H') (ds.map deedD) vs) ?_ ?_ ?_⟩
  ·exact⟨[],[],none,none,none,none,none,none,rfl,rfl,(λ_ h=>absurd h (by simp)),T2.mono (by lia),E2,l2,.nil⟩
  ·intro i σ' H' hi hq_ N_ B_ C_ R_ hN_ hC_ hR_;refine hide λG_ hG_=>?_;obtain⟨ds,vs,o6,o7,o8,o9,o10,o11,rfl,hdl,hds,hT',e',hl',hden⟩:=hq_;refine hG_ ?_;have hvl:vs.length=i:=by rw [hden.len,aC,hdl]
   walk_at "rh";refine qAx hT' (by lia) (by decide) (by decide) λr3 H3 a3 b3 T3 e3 _=>?_;walk_at "rh";refine qUy T3 (by lia) λn H4 n0 n1 T4 e4=>?_;walk_at "rh";refine⟨_,_,rfl,?_⟩;have E4:Ext [t] H' H4:=e3.trans e4;have hbt:b ∉ [t]:=by simpa using nbt
   have hltn:l ∉ [t]:=by simpa using nlt
   walk_at "rh";refine⟨b,_,rfl,.inl (SqL.of (E4 _ _ hbt (e' _ _ hbt hb))),?_⟩;rw [aC];walk_at "rh";refine qAx T4 (by lia) (by have:=hB.one;lia) (by have:=hB.few;lia) λr5 H5 a5 b5 T5 e5 _=>?_;have E5:Ext [t] H' H5:=E4.trans e5;obtain⟨bx,hbx,ebx⟩:=qIa (ns:=bs) a5 b5;refine qB6 (SqL.of (E5 _ _ hbt (e' _ _ hbt hb))) ebx ?_;walk_at "rh";refine⟨b,_,rfl,.inl (SqL.of (E5 _ _ hbt (e' _ _ hbt hb))),?_⟩;rw [aC];walk_at "rh";refine qAx T5 (by lia) (by have:=hB.one;lia) (by have:=hB.few;lia) λr6 H6 a6 b6 T6 e6 _=>?_;have E6:Ext [t] H' H6:=E5.trans e6;obtain⟨ox,hox,eox⟩:=qIa (ns:=bs) a6 b6;refine qB6 (SqL.of (E6 _ _ hbt (e' _ _ hbt hb))) eox ?_;walk_at "rh";refine qAx T6 (by lia) (by decide) (by decide) λr7 H7 a7 b7 T7 e7 _=>?_
   walk_at "rh";refine qAx T7 (by lia) (by lia) (by lia) λr8 H8 a8 b8 T8 e8 _=>?_;walk_at "rh";refine⟨len2 (by show 2<=1000;decide),λp1 hp1=>?_⟩;have np1:p1≠t:=T8.ne hp1;walk_at "rh";refine qAx (T8.ext (ts :=[]) (.laid hp1) (by simp)) (by lia) (by decide) (by decide) λr9 H9 a9 b9 T9 e9 k9=>?_;walk_at "rh";refine qCv ?_;walk_at "rh";refine .inr ⟨_,rfl,?_⟩;have E9:Ext [t] H' H9:=(E6.trans (e7.trans e8)).trans ((Ext.laid hp1).trans e9);have hL9:SqL K H9 p1 [V.int (first+1+r7),V.int r8]:=SqL.of (by rw [k9 p1 np1,qA1]);obtain⟨ca,hca,ca0⟩:∃ca:Int,atI [V.int (first+1+r7),V.int r8] (if decide (r9=0)=true then 1 else 0)=some (.int ca)/\0<=ca:=by
    cases decide (r9=0)
    ·exact⟨_,rfl,by lia⟩
    ·exact⟨_,rfl,by lia⟩
   refine qB6 hL9 hca ?_;have l9:H9 l=some (.lst vs):=E9 _ _ hltn hl';have fin:∀(d:Deed) (H6:Hp) (p:Addr),DeedP works d->Ext [] H9 H6->p≠t->p≠l->Den K (yo H [t,l] H6) (deedD d) (.ref p) -> ∀o6 o7 o8 o9 o10 o11:Option V,∃(ds:List Deed) (vs':List V) (p6 p7 p8 p9 p10 p11:Option V),[some (V.ref t),some (.int most),some (.ref b),some (.int first),some (.int works),some (.ref l),o6,o7,o8,o9,o10,o11] = [some (V.ref t),some (.int most),some (.ref b),some (.int first),some (.int works),some (.ref l),p6,p7,p8,p9,p10,p11]/\ds.length=i+1/\(∀d∈ds,DeedP works d) /\
     Tape (upd H6 l (.lst (vs ++ [.ref p]))) t (k+2+10*(i+1))/\Ext [t] H (upd H6 l (.lst (vs ++ [.ref p])))/\(upd H6 l (.lst (vs ++ [.ref p]))) l=some (.lst vs')/\DenL K (yo H [t,l] (upd H6 l (.lst (vs ++ [.ref p])))) (ds.map deedD) vs':=by
    intro d H6 p hd e6 npt npl hden6 o6 o7 o8 o9 o10 o11;have E10:Ext [l,t] H9 (upd H6 l (.lst (vs ++ [.ref p]))):=(e6.mono (by simp)).trans (.put (by simp));have E11:Ext [l,t] H' (upd H6 l (.lst (vs ++ [.ref p]))):=(E9.mono (by simp)).trans E10;refine⟨ds ++ [d],vs ++ [.ref p],o6,o7,o8,o9,o10,o11,rfl,by rw [aK,hdl];rfl,λz hz=>?_,?_,?_,qA1,?_⟩
    ·rcases aS.mp hz with y | y
     ·exact hds z y
     ·rw [aL.mp y];exact hd
    ·exact ((T9.ext e6 (by simp)).ext (ts :=[l]) (.put (by simp)) (by simpa using nlt.symm)).mono (by lia)
    ·exact ((e'.mono (by simp)).trans E11).drop hl
    ·rw [aO];exact DenL.append (hden.mono (E11.mono (by simp)).young) (.cons (hden6.mono (Ext.put (by simp)).young) .nil)
   have sz:vs.length<sizeLine:=qAn (by lia);walk_at "rh";refine qCv ?_;walk_at "rh";refine ite2 (λg=>?_) (λg=>?_)
   ·walk_at "rh";refine ite2 (λg2=>?_) (λg2=>?_)
    ·have g2:=of_decide_eq_true g2;walk_at "rh";refine qFa l9 ?_;walk_at "rh";refine⟨len2 (by show 2<=1000;decide),λp hp=>?_⟩;have npt:=T9.ne hp;have hfresh:=hp;have npl:p≠l:=(qA2 l9 hp).symm;walk_at "rh";refine qFb (by rw [qA7 npl.symm];exact l9) sz ?_;refine qBq hN_ (fin (.call ca) _ p ⟨ca0,g2⟩ (.laid hp) npt npl (.tuple (SqT.of ?_) (.cons .str (.cons .int .nil))) _ _ _ _ _ _);rw [qBr ((e'.trans E9).none (by simpa using npt) hfresh) (by simp [npt,npl]),qA1]
    ·walk_at "rh";refine qFa l9 ?_;walk_at "rh";refine⟨len2 (by show 3<=1000;decide),λs1 hs1=>?_⟩;walk_at "rh";refine⟨len2 (by show 3<=1000;decide),λs2 hs2=>?_⟩;walk_at "rh";refine⟨len2 (by show 2<=1000;decide),λs3 hs3=>?_⟩;walk_at "rh";refine⟨len2 (by show 3<=1000;decide),λs4 hs4=>?_⟩;have e12:s1≠s2:=qA2 qA1 hs2;have e13:s1≠s3:=qA2 (by rw [qA7 e12,qA1]) hs3;have e23:s2≠s3:=qA2 qA1 hs3;have e14:s1≠s4:=qA2 (by rw [qA7 e13,qA7 e12,qA1]) hs4;have e24:s2≠s4:=qA2 (by rw [qA7 e23,qA1]) hs4;have e34:s3≠s4:=qA2 qA1 hs4;have f2:H9 s2=none:=by rw [qA7 e12.symm] at hs2;exact hs2
     have f3:H9 s3=none:=by rw [qA7 e23.symm,qA7 e13.symm] at hs3;exact hs3
     have E0:=(Ext.laid (ts :=[]) (o :=.tup [V.str "set",.int bx,.int n]) hs1).trans ((Ext.laid (o :=.tup [V.str "add",.int bx,.int ox]) hs2).trans ((Ext.laid (o :=.tup [V.str "tell",.int bx]) hs3).trans (Ext.laid (o :=.lst [V.ref s1,.ref s2,.ref s3]) hs4)));have l10:=E0 _ _ (by simp) l9;have hbx':=hB.all _ hbx;have hox':=hB.all _ hox;walk_at "rh";refine qEy (by decide) ?_;have h3:r3%3=0\/r3%3=1\/r3%3=2:=by lia
     have q4:SqL K (upd (upd (upd (upd H9 s1 (.tup [V.str "set",.int bx,.int n])) s2 (.tup [V.str "add",.int bx,.int ox])) s3 (.tup [V.str "tell",.int bx])) s4 (.lst [V.ref s1,.ref s2,.ref s3])) s4 [V.ref s1,.ref s2,.ref s3]:=SqL.of qA1;rcases h3 with h | h | h
     ·refine qB6 (v:=V.ref s1) q4 (by rw [h];rfl) ?_;walk_at "rh";have npt:=T9.ne hs1;have hfresh:=hs1;have npl:s1≠l:=(qA2 l9 hs1).symm;refine qFb l10 sz ?_;refine qBq hN_ (fin (.set bx n) _ s1 ⟨hbx'.1,hbx'.2,n0,n1⟩ E0 npt npl (.tuple (SqT.of ?_) (.cons .str (.cons .int (.cons .int .nil)))) _ _ _ _ _ _);rw [qBr ((e'.trans E9).none (by simpa using npt) hfresh) (by simp [npt,npl]),qA7 e14,qA7 e13,qA7 e12,qA1]
     ·refine qB6 (v:=V.ref s2) q4 (by rw [h];rfl) ?_;walk_at "rh";have npt:=T9.ne f2;have hfresh:=f2;have npl:s2≠l:=(qA2 l9 f2).symm;refine qFb l10 sz ?_;refine qBq hN_ (fin (.add bx ox) _ s2 ⟨hbx'.1,hbx'.2,hox'.1,hox'.2⟩ E0 npt npl (.tuple (SqT.of ?_) (.cons .str (.cons .int (.cons .int .nil)))) _ _ _ _ _ _);rw [qBr ((e'.trans E9).none (by simpa using npt) hfresh) (by simp [npt,npl]),qA7 e24,qA7 e23,qA1]
     ·refine qB6 (v:=V.ref s3) q4 (by rw [h];rfl) ?_;walk_at "rh";have npt:=T9.ne f3;have hfresh:=f3;have npl:s3≠l:=(qA2 l9 f3).symm;refine qFb l10 sz ?_;refine qBq hN_ (fin (.tell bx) _ s3 ⟨hbx'.1,hbx'.2⟩ E0 npt npl (.tuple (SqT.of ?_) (.cons .str (.cons .int .nil))) _ _ _ _ _ _);rw [qBr ((e'.trans E9).none (by simpa using npt) hfresh) (by simp [npt,npl]),qA7 e34,qA1]
   ·refine iteF ?_;walk_at "rh";refine qFa l9 ?_;walk_at "rh";refine⟨len2 (by show 3<=1000;decide),λs1 hs1=>?_⟩;walk_at "rh";refine⟨len2 (by show 3<=1000;decide),λs2 hs2=>?_⟩;walk_at "rh";refine⟨len2 (by show 2<=1000;decide),λs3 hs3=>?_⟩;walk_at "rh";refine⟨len2 (by show 3<=1000;decide),λs4 hs4=>?_⟩;have e12:s1≠s2:=qA2 qA1 hs2;have e13:s1≠s3:=qA2 (by rw [qA7 e12,qA1]) hs3;have e23:s2≠s3:=qA2 qA1 hs3;have e14:s1≠s4:=qA2 (by rw [qA7 e13,qA7 e12,qA1]) hs4;have e24:s2≠s4:=qA2 (by rw [qA7 e23,qA1]) hs4;have e34:s3≠s4:=qA2 qA1 hs4;have f2:H9 s2=none:=by rw [qA7 e12.symm] at hs2;exact hs2
    have f3:H9 s3=none:=by rw [qA7 e23.symm,qA7 e13.symm] at hs3;exact hs3
    have E0:=(Ext.laid (ts :=[]) (o :=.tup [V.str "set",.int bx,.int n]) hs1).trans ((Ext.laid (o :=.tup [V.str "add",.int bx,.int ox]) hs2).trans ((Ext.laid (o :=.tup [V.str "tell",.int bx]) hs3).trans (Ext.laid (o :=.lst [V.ref s1,.ref s2,.ref s3]) hs4)));have l10:=E0 _ _ (by simp) l9;have hbx':=hB.all _ hbx;have hox':=hB.all _ hox;walk_at "rh";refine qEy (by decide) ?_;have h3:r3%3=0\/r3%3=1\/r3%3=2:=by lia
    have q4:SqL K (upd (upd (upd (upd H9 s1 (.tup [V.str "set",.int bx,.int n])) s2 (.tup [V.str "add",.int bx,.int ox])) s3 (.tup [V.str "tell",.int bx])) s4 (.lst [V.ref s1,.ref s2,.ref s3])) s4 [V.ref s1,.ref s2,.ref s3]:=SqL.of qA1;rcases h3 with h | h | h
    ·refine qB6 (v:=V.ref s1) q4 (by rw [h];rfl) ?_;walk_at "rh";have npt:=T9.ne hs1;have hfresh:=hs1;have npl:s1≠l:=(qA2 l9 hs1).symm;refine qFb l10 sz ?_;refine qBq hN_ (fin (.set bx n) _ s1 ⟨hbx'.1,hbx'.2,n0,n1⟩ E0 npt npl (.tuple (SqT.of ?_) (.cons .str (.cons .int (.cons .int .nil)))) _ _ _ _ _ _);rw [qBr ((e'.trans E9).none (by simpa using npt) hfresh) (by simp [npt,npl]),qA7 e14,qA7 e13,qA7 e12,qA1]
    ·refine qB6 (v:=V.ref s2) q4 (by rw [h];rfl) ?_;walk_at "rh";have npt:=T9.ne f2;have hfresh:=f2;have npl:s2≠l:=(qA2 l9 f2).symm;refine qFb l10 sz ?_;refine qBq hN_ (fin (.add bx ox) _ s2 ⟨hbx'.1,hbx'.2,hox'.1,hox'.2⟩ E0 npt npl (.tuple (SqT.of ?_) (.cons .str (.cons .int (.cons .int .nil)))) _ _ _ _ _ _);rw [qBr ((e'.trans E9).none (by simpa using npt) hfresh) (by simp [npt,npl]),qA7 e24,qA7 e23,qA1]
    ·refine qB6 (v:=V.ref s3) q4 (by rw [h];rfl) ?_;walk_at "rh";have npt:=T9.ne f3;have hfresh:=f3;have npl:s3≠l:=(qA2 l9 f3).symm;refine qFb l10 sz ?_;refine qBq hN_ (fin (.tell bx) _ s3 ⟨hbx'.1,hbx'.2⟩ E0 npt npl (.tuple (SqT.of ?_) (.cons .str (.cons .int .nil))) _ _ _ _ _ _);rw [qBr ((e'.trans E9).none (by simpa using npt) hfresh) (by simp [npt,npl]),qA7 e34,qA1]
  ·intro σ' H' hq_;refine hide λG_ hG_=>?_;obtain⟨ds,vs,o6,o7,o8,o9,o10,o11,rfl,hdl,hds,hT',e',hl',hden⟩:=hq_;refine hG_ ?_;walk_at "rh";refine q l ds H' hl (hT'.mono (by lia)) e' hds (by lia) (.list (SqL.of ?_) (hden.mono (qMq (by simp))));rw [qBr hl (by simpa using nlt)];exact hl'
end
section
variable{P:Program}{w:World}{K:PySem.W.Frag}{mg:Str->Option Value}{base:Heap}
abbrev qGp:Stmt:=top 26
theorem scWorks:FnScope ["_law_tape_here","_law_most","_law_works_here","_law_found","_law_first","_law_many_here"] ["_law_tape_here","_law_most"] (qA4 qGp):=⟨rfl,rfl,rfl,by decide +kernel,rfl,by decide +kernel,by decide +kernel⟩
theorem qR6{f:Addr}{fd:FuncData}(F:Fun K "_law_works" "_law_works" qGp f fd)(nrange:mg "range" = none)(nint:mg "int" = none)(hD:Has P w K mg base "_law_draw" 1 ["_law_tape_here","_law_many_here"] qD0)
  (hM:Has P w K mg base "_law_many" 2 ["_law_tape_here"] qN8) (hW:Has P w K mg base "_law_work" 4 ["_law_tape_here","_law_many_here","_law_most","_law_first","_law_works_here"] (qK3 K)) :
  FnOk P w K mg base CX0 5 f fd ["_law_tape_here","_law_most"] (qHc K):=by
 refine F.ok scWorks (λvs H Q E h=>?_) (λcdv A outer s H vs Q E hr h=>?_)
 ·refine hide λG_ hG_=>?_;obtain⟨t,k,most,rfl,_⟩:=h;refine hG_ ?_;rfl
 ·refine hide λG_ hG_=>?_;obtain⟨t,k,most,rfl,hT,hk,hm1,hm2,q⟩:=h;refine hG_ ?_
  refine⟨_,qA3 (qAo (i:=2) scWorks.nd rfl (Or.inl rfl) (qAm qAi (qAk (qA0 (qAl qAz pe_int (qAd hD hr (by decide) (qA0 (pv 0) (qA0 pe_int pa_nil)))) (qA0 (qAl qAz pe_int (qAd hD hr (by decide) (qA0 (pv 0) (qA0 pe_int pa_nil)))) pa_nil)))
    (qAv qDi (by rfl) nint cF (qA0 (qBp qCi (qAd hD hr (by decide) (qA0 (pv 0) (qA0 pe_int pa_nil))) pe_int (qAh _)) pa_nil)) (λ_ _=>rfl)))
   (qA3 (qAo (i:=3) scWorks.nd rfl (Or.inl rfl) (qAk pa_nil))
   (qA3 (qCq bT rfl (qBv rfl nrange (qA0 (pv 2) pa_nil)) (qAj (i:=4) scWorks.nd rfl (Or.inl rfl))
    (qA3 (qAo (i:=5) scWorks.nd rfl (Or.inl rfl) (qCf (qAe qHs (pv 2) pe_int (qAh _)) (qAd hM hr (by decide) (qA0 (pv 0) pa_nil)) (qAl qAz pe_int (qAd hD hr (by decide) (qA0 (pv 0) (qA0 pe_int pa_nil))))))
    (qA6 (qD7 (qGg bL cL cM qCk (pv 3) (qA0 (qAd hW hr (by decide) (qA0 (pv 0) (qA0 (pv 5) (qA0 (pv 1) (qA0 (pv 4) (qA0 (pv 2) pa_nil)))))) pa_nil))))))
   (qA6 (qA9 (pv 3))))),?_⟩
  dsimp only [qBm];walk_at "rh";refine qAx hT (by lia) (by decide) (by decide) λr1 H1 a1 b1 T1 e1 _=>?_;walk_at "rh";refine qAx T1 (by lia) (by decide) (by decide) λr2 H2 a2 b2 T2 e2 _=>?_;walk_at "rh";refine⟨len2 (by show 2<=1000;decide),λp hp=>?_⟩;have np:p≠t:=T2.ne hp;walk_at "rh";refine qAx (T2.ext (.laid (ts :=[]) hp) (by simp)) (by lia) (by decide) (by decide) λr3 H3 a3 b3 T3 e3 k3=>?_;walk_at "rh";refine qCv ?_;walk_at "rh";refine .inr ⟨_,rfl,?_⟩;refine hide λG_ hG_=>?_;have e4:Ext [t] H H3:=(e1.trans e2).trans ((Ext.laid hp).trans e3);have hL:SqL K H3 p [V.int (1+r1),V.int (5+r2)]:=SqL.of (by rw [k3 p np,qA1]);obtain⟨n,hn1,hn2,en⟩:∃n:Int,1<=n/\n<=10/\atI [V.int (1+r1),V.int (5+r2)] (if decide (r3=0)=true then (1:Int) else 0)=some (.int n):=by
   cases c:decide (r3=0) with
   | true=>exact⟨5+r2,by lia,by lia,rfl⟩
   | false=>exact⟨1+r1,by lia,by lia,rfl⟩
  refine hG_ ?_;refine qB6 hL en ?_;clear en hL k3 e3 hp np;walk_at "rh";refine⟨len2 (aW _),λl hl=>?_⟩;have nlt:l≠t:=T3.ne hl;have hlH:H l=none:=e4.none (by simpa using nlt) hl;walk_at "rh"
  refine⟨n,rfl,by lia,by lia,qC3 (lo:=0) (n:=n.toNat) (λi σ' H' => ∃(as:List Addr) (ws:List (List Blk)) (o4 o5:Option V),σ' = [some (.ref t),some (.int most),some (.int n),some (.ref l),o4,o5]/\as.length=i/\(∀w∈ws,∃m:Int,1<=m/\m<=12/\WorkOk m n w)/\(∀w∈ws,FwL n w) /\
   l∉as/\(∀a∈as,H a=none/\a≠t)/\as.Nodup/\Tape H' t (k+3+2003*i)/\Ext [l,t] H3 H'/\H' l=some (.lst (as.map V.ref))/\WorksAt K (yo H (l::t::as) H') H' as ws) ?_ ?_ ?_⟩
  ·exact⟨[],[],_,_,rfl,rfl,by simp,by simp,by simp,by simp,.nil,T3.ext (ts :=[]) (.laid hl) (by simp),.laid hl,qA1,.nil⟩
  ·intro i σ' H' hi hq_ N_ B_ C_ R_ hN_ hC_ hR_;refine hide λG_ hG_=>?_;obtain⟨as,ws,o4,o5,rfl,hal,hws,hfew,hla,has,hnd,T',e',hl',hA⟩:=hq_;refine hG_ ?_;have hin:i<10:=by lia
   have EH:Ext [l,t] H H':=(e4.mono (by simp)).trans e';walk_at "rh";have fin:∀(m:Int) (H5 H6:Hp) (a:Addr) (w1:List Blk) (bs:List V),1<=m->m<=12->Ext [t] H' H5->H5 a=none->a≠t->Tape H6 t (k+3+2003*(i+1))->Ext [t] H5 H6->WorkOk m n w1->FwL n w1->H6 a=some (.lst bs)->DenL K (yo H5 [a,t] H6) (w1.map blkD) bs -> ∀o4 o5:Option V,
     H6 l=some (.lst (as.map V.ref)) /\ ∃(as':List Addr) (ws':List (List Blk)) (o4' o5':Option V),[some (V.ref t),some (.int most),some (.int n),some (.ref l),o4,o5] = [some (V.ref t),some (.int most),some (.int n),some (.ref l),o4',o5']/\as'.length=i+1/\(∀w∈ws',∃m:Int,1<=m/\m<=12/\WorkOk m n w)/\(∀w∈ws',FwL n w) /\
     l∉as'/\(∀a∈as',H a=none/\a≠t)/\as'.Nodup/\Tape (upd H6 l (.lst (as.map V.ref ++ [V.ref a]))) t (k+3+2003*(i+1))/\Ext [l,t] H3 (upd H6 l (.lst (as.map V.ref ++ [V.ref a])))/\(upd H6 l (.lst (as.map V.ref ++ [V.ref a]))) l=some (.lst (as'.map V.ref))/\WorksAt K (yo H (l::t::as') (upd H6 l (.lst (as.map V.ref ++ [V.ref a])))) (upd H6 l (.lst (as.map V.ref ++ [V.ref a]))) as' ws':=by
    intro m H5 H6 a w1 bs hm1 hm2 e5 ha nat T6 e6 hw1 hf1 hba hden o4 o5;have l5:H5 l=some (.lst (as.map V.ref)):=e5 _ _ (by simpa using nlt) hl';have l6:H6 l=some (.lst (as.map V.ref)):=e6 _ _ (by simpa using nlt) l5;have nal:a≠l:=(qA2 l5 ha).symm;have haH':H' a=none:=e5.none (by simpa using nat) ha;have haH:H a=none:=EH.none (by simp [nal,nat]) haH';have naas:a∉as:=λhm=>by
     refine hide λG_ hG_=>?_;obtain⟨j,hj,e⟩:=cZ hm;obtain⟨_,bs',_,hb',_⟩:=hA.get (i:=j) (a:=a) (by rw [aJ hj,e]);refine hG_ ?_;rw [haH'] at hb';cases hb'
    have E6:Ext [l,t] H' (upd H6 l (.lst (as.map V.ref ++ [V.ref a]))):=(e5.mono (by simp)).trans ((e6.mono (by simp)).trans (.put (by simp)));refine⟨l6,as ++ [a],ws ++ [w1],o4,o5,rfl,by rw [aK,hal];rfl,?_,?_,by simp [hla,nal.symm],?_,?_,?_,e'.trans E6,by rw [qA1,aO];rfl,?_⟩
    ·intro w hw;rcases aS.mp hw with z | z
     ·exact hws w z
     ·rw [aL.mp z];exact⟨m,hm1,hm2,hw1⟩
    ·intro w hw;rcases aS.mp hw with z | z
     ·exact hfew w z
     ·rw [aL.mp z];exact hf1
    ·intro b hb;rcases aS.mp hb with z | z
     ·exact has b z
     ·rw [aL.mp z];exact⟨haH,nat⟩
    ·exact List.nodup_append.mpr ⟨hnd,by simp,by intro x hx y hy;simp at hy;subst hy;intro e;subst e;exact naas hx⟩
    ·exact T6.ext (ts :=[l]) (.put (by simp)) (by simpa using nlt.symm)
    ·have key:Same (yo H (l::t::as) H') (yo H (l::t::(as ++ [a])) (upd H6 l (.lst (as.map V.ref ++ [V.ref a])))):=λb o e=>by
      obtain⟨h1,h2,h3⟩:=qCg e;have nb:b≠a:=λz=>by rw [z,haH'] at h3;cases h3
      have h2':b ∉ [l,t]:=λz=>h2 (by rcases aN.mp z with z | z <;> simp_all)
      rw [qBr h1 (λz=>h2 (by
       rcases aN.mp z with z | z
       ·simp [z]
       ·rcases aN.mp z with z | z
        ·simp [z]
        ·rcases aS.mp z with z | z
         ·simp [z]
         ·exact absurd (by simpa using z) nb))]
      exact E6 _ _ h2' h3
     refine (hA.mono key λb hb o e=>?_).snoc (bs:=bs) ?_ (hden.mono λb o e=>?_)
     ·have nbl:b≠l:=λz=>hla (z▸hb);exact E6 _ _ (by simp [nbl,(has b hb).2]) e
     ·rw [qA7 nal];exact hba
     ·obtain⟨h1,h2,h3⟩:=qCg e;have nbl:b≠l:=λz=>by rw [z,l5] at h1;cases h1
      have nbt:b≠t:=λz=>h2 (by simp [z]);have nba:b≠a:=λz=>h2 (by simp [z]);have h1':H' b=none:=e5.none (by simpa using nbt) h1
      rw [qBr (EH.none (by simp [nbl,nbt]) h1') (by
       intro z;rcases aN.mp z with z | z
       ·exact nbl z
       ·rcases aN.mp z with z | z
        ·exact nbt z
        ·rcases aS.mp z with z | z
         ·refine hide λG_ hG_=>?_;obtain⟨j,hj,e⟩:=cZ z;obtain⟨_,bs',_,hb',_⟩:=hA.get (i:=j) (a:=b) (by rw [aJ hj,e]);refine hG_ ?_;rw [h1'] at hb';cases hb'
         ·exact nba (by simpa using z)),qA7 nbl]
      exact h3
   refine ite2 (λhn5=>?_) (λhn5=>?_)
   ·walk_at "rh";refine qUy T' (by lia) λm H5 hm1' hm2' T5 e5=>?_;walk_at "rh";refine qFa (e5 _ _ (by simpa using nlt) hl') ?_;walk_at "rh";refine⟨t,_,m,most,_,n,rfl,T5,by lia,hm1',hm2',hm1,hm2,by lia,by lia,by lia,by lia,λa w1 bs H6 ha nat T6 e6 hw1 hf1 hba hden=>?_⟩;obtain⟨l6,post⟩:=fin m H5 H6 a w1 bs hm1' hm2' e5 ha nat (T6.mono (by lia)) e6 hw1 hf1 hba hden _ _;walk_at "rh";exact qFb l6 (qAn (by rw [aC];lia)) (qBq hN_ post)
   ·walk_at "rh";refine qAx T' (by lia) (by decide) (by decide) λr H5 hm1' hm2' T5 e5 _=>?_;walk_at "rh";refine qFa (e5 _ _ (by simpa using nlt) hl') ?_;walk_at "rh";refine⟨t,_,1+r,most,_,n,rfl,T5,by lia,by lia,by lia,hm1,hm2,by lia,by lia,by lia,by lia,λa w1 bs H6 ha nat T6 e6 hw1 hf1 hba hden=>?_⟩;obtain⟨l6,post⟩:=fin (1+r) H5 H6 a w1 bs (by lia) (by lia) e5 ha nat (T6.mono (by lia)) e6 hw1 hf1 hba hden _ _;walk_at "rh";exact qFb l6 (qAn (by rw [aC];lia)) (qBq hN_ post)
  ·intro σ' H' hq_;refine hide λG_ hG_=>?_;obtain⟨as,ws,o4,o5,rfl,hal,hws,hfew,hla,has,hnd,T',e',hl',hA⟩:=hq_;refine hG_ ?_;walk_at "rh";have hwl:=hA.len;exact q l as ws H' hlH nlt hla has hnd (T'.mono (by lia)) ((e4.mono (by simp)).trans e' |>.drop hlH) hl' hA ⟨by rw [show ((ws.length:Nat):Int)=n by lia];exact hws,by lia,by lia⟩ (by rw [show ((ws.length:Nat):Int)=n by lia];exact hfew)
end
end Fs
local macro_rules | `(tactic| walk_at "qc") => `(tactic| first | refine L2.qNi ?_ | refine L2.qWb ?_ | refine L2.qUk ?_ | refine L2.qNq ?_ | refine L2.qNn ?_ | refine L2.qIo ?_ | refine L2.qSw ?_ | refine L2.qT0 ?_ | refine L2.qNw ?_ | refine L2.qWl ?_ | refine L2.qT2 ?_ | refine L2.qW9 ?_ | refine L2.r_u ?_ | refine L2.qT7 ?_ | refine L2.qWf ?_ | refine L2.qSy ?_ | refine L2.qSx ?_ | refine L2.r_c ?_ | refine L2.qWj ?_ | refine L2.qV0 ?_ | refine L2.qT6 ?_ | refine L2.qLa ?_ | refine L2.qHn ?_ | refine L2.qK6 ?_ | refine L2.qK7 ?_ | refine L2.qNp ?_ | refine L2.qT1 ?_ | refine L2.qQs ?_ | refine L2.qV2 ?_ | refine L2.qWe ?_ | refine L2.qUv ?_ | refine L2.qNk ?_ | refine L2.qT4 ?_ | refine L2.qT5 ?_ | refine L2.qHo ?_ | refine L2.qNv ?_ | refine L2.qK9 ?_ | refine L2.qNt ?_ | refine L2.qNx ?_ | refine L2.qNl ?_ | refine L2.qNz ?_ | refine L2.qNy ?_ | refine L2.qK8 ?_ | refine L2.qNr ?_ | refine L2.qWc ?_ | refine L2.qSz ?_ | refine L2.qNm ?_ | refine L2.qFw (by with_unfolding_all rfl) ?_ | refine L2.qB6 (by assumption) (by with_unfolding_all rfl) ?_ | refine L2.qGf (by assumption) (by with_unfolding_all rfl) ?_)
local macro_rules | `(tactic| walk_at "ri") => `(tactic| repeat (with_reducible first | (refine L2.qNj ?_; intro NN_ hNN_) | walk_at "qa" | refine L2.qBq (by assumption) ?_ | refine L2.qU7 (by assumption) ?_ | (refine L2.qT3 ?_; intro NA_ NB_ hNA_ hNB_) | walk_at "qc"))
namespace Fs
open PySem L2
section
variable{P:Program}{w:World}{K:PySem.W.Frag}{mg:Str->Option Value}{base:Heap}
abbrev qGs:Stmt:=top 7
theorem qSu:FnScope ["thing"] ["thing"] (qA4 qGs):=⟨rfl,rfl,rfl,by decide +kernel,rfl,by decide +kernel,by decide +kernel⟩
theorem qR9{f:Addr}{fd:FuncData}(F:Fun K "is_number" "is_number" qGs f fd)(nisi:mg "isinstance" = none)(nint:mg "int" = none)(nbool:mg "bool" = none):FnOk P w K mg base CX0 1 f fd ["thing"] (qFh K):=by
 refine F.ok qSu (λvs H Q E h=>?_) (λcdv A outer s H vs Q E hr h=>?_)
 ·obtain⟨x,d,rfl,_⟩:=h;rfl
 ·obtain⟨x,d,rfl,hD,q⟩:=h;have hu:=qCc hr;refine⟨_,(qA6 (qA9 (qDw (qA5 qAq (by rfl) nisi (by decide +kernel) (qA0 (pv 0) (qA0 (qAt (v :=.ty "int") rfl nint cF rfl) pa_nil))) (qF5 (qLf (qA5 qAq (by rfl) nisi (by decide +kernel) (qA0 (pv 0) (qA0 (qAt (v :=.ty "bool") rfl nbool dA rfl) pa_nil)))))))),?_⟩
  try dsimp only [qBm,qB5,qB0,qCj,qG9]
  have e:=qF1 d;walk_at "ri";refine⟨x,d,"int",rfl,hD,by decide,_,rfl,?_⟩;cases h:qAr d "int" with
  | false =>
   rw [h,bP] at e;rw [e] at q;exact iteF q
  | true =>
   rw [h,bF] at e;rw [e] at q;refine iteT ?_;walk_at "ri";exact⟨x,d,"bool",rfl,hD,by decide,_,rfl,q⟩
end
section
variable{P:Program}{w:World}{K:PySem.W.Frag}{mg:Str->Option Value}{base:Heap}
abbrev qEv:Stmt:=top 8
theorem qQo:FnScope ["thing","low","beyond"] ["thing","low","beyond"] (qA4 qEv):=⟨rfl,rfl,rfl,by decide +kernel,rfl,by decide +kernel,by decide +kernel⟩
theorem qOt{f:Addr}{fd:FuncData}(F:Fun K "is_number_from" "is_number_from" qEv f fd)(hN:Has P w K mg base "is_number" 1 ["thing"] (qFh K)):FnOk P w K mg base CX0 2 f fd ["thing","low","beyond"] (qE6 K):=by
 refine F.ok qQo (λvs H Q E h=>?_) (λcdv A outer s H vs Q E hr h=>?_)
 ·obtain⟨x,d,lo,hi,rfl,_⟩:=h;rfl
 ·obtain⟨x,d,lo,hi,rfl,hD,q⟩:=h;have hu:=qCc hr;refine⟨_,(qA6 (qA9 (qDw (qAd hN hr (by decide) (qA0 (pv 0) pa_nil)) (qF5 (qLh qTl qHs (pv 1) (pv 0) (pv 2)))))),?_⟩
  try dsimp only [qBm,qB5,qB0,qCj,qG9]
  walk_at "ri";refine⟨x,d,rfl,hD,_,rfl,?_⟩;cases h:qEd d with
  | false =>
   rw [qHy h] at q;exact iteF q
  | true =>
   refine iteT ?_;obtain⟨n,rfl⟩:=qJd h;have hx:=hD.ofInt;subst hx;walk_at "ri";refine ite2 (λg=>?_) (λg=>?_)
   ·walk_at "ri";have e:fromD lo hi (.int n)=decide (n<hi):=by show (decide (lo<=n)&&decide (n<hi))=_;rw [g,bF]
    rw [e] at q;exact q
   ·have e:fromD lo hi (.int n)=false:=by show (decide (lo<=n)&&decide (n<hi))=_;rw [Bool.eq_false_iff.mpr g,bP]
    rw [e] at q;exact q
end
section
variable{P:Program}{w:World}{K:PySem.W.Frag}{mg:Str->Option Value}{base:Heap}
abbrev qDp:Stmt:=top 9
theorem qNe:FnScope ["thing"] ["thing"] (qA4 qDp):=⟨rfl,rfl,rfl,by decide +kernel,rfl,by decide +kernel,by decide +kernel⟩
theorem qMa{f:Addr}{fd:FuncData}(F:Fun K "has_word" "has_word" qDp f fd)(nisi:mg "isinstance" = none)(ntuple:mg "tuple" = none)(nstr:mg "str" = none)(nlen:mg "len" = none):FnOk P w K mg base CX0 1 f fd ["thing"] (qDm K):=by
 refine F.ok qNe (λvs H Q E h=>?_) (λcdv A outer s H vs Q E hr h=>?_)
 ·obtain⟨x,d,rfl,_⟩:=h;rfl
 ·obtain⟨x,d,rfl,hD,q⟩:=h;have hu:=qCc hr;refine⟨_,(qA6 (qA9 (qDw (qA5 qAq (by rfl) nisi (by decide +kernel) (qA0 (pv 0) (qA0 (qAt (v :=.ty "tuple") rfl ntuple cB rfl) pa_nil))) (qDw (qBp qTm (qA5 qA8 (by rfl) nlen aU (qA0 (pv 0) pa_nil)) pe_int (qAh _)) (qF5 (qA5 qAq (by rfl) nisi (by decide +kernel) (qA0 (qAm qB1 (pv 0) pe_int (λ_ _=>rfl)) (qA0 (qAt (v :=.ty "str") rfl nstr PyProof.Rows.boot_str rfl) pa_nil)))))))),?_⟩
  try dsimp only [qBm,qB5,qB0,qCj,qG9]
  walk_at "ri";refine⟨x,d,"tuple",rfl,hD,by decide,_,rfl,?_⟩;cases h:qAr d "tuple" with
  | false =>
   rw [qIe h] at q;exact iteF q
  | true =>
   refine iteT ?_;obtain⟨ds,rfl⟩:=qDt h;obtain⟨a,vs,rfl,hT,hVs⟩:=hD.ofTuple;walk_at "ri";refine⟨a,_,rfl,.inr hT,?_⟩;walk_at "ri";cases ds with
   | nil =>
    have hv:=hVs.ofNil;subst hv;exact iteF q
   | cons e r =>
    obtain⟨v,r',rfl,hv,_⟩:=hVs.ofCons;refine ite2 (λg=>?_) (λg=>absurd (decide_eq_true (by simp)) g);walk_at "ri";refine qDf hT ?_;walk_at "ri";refine⟨v,e,"str",rfl,hv,by decide,?_⟩;rw [<-qIf e r];exact q
end
section
variable{P:Program}{w:World}{K:PySem.W.Frag}{mg:Str->Option Value}{base:Heap}
abbrev qEu:Stmt:=top 10
theorem qQn:FnScope ["thing","kind","works"] ["thing","kind","works"] (qA4 qEu):=⟨rfl,rfl,rfl,by decide +kernel,rfl,by decide +kernel,by decide +kernel⟩
theorem qOs{f:Addr}{fd:FuncData}{tb:Tok}(F:Fun K "is_part" "is_part" qEu f fd)(hBx:mg "BOXES" = some (.int 8 tb))(hN:Has P w K mg base "is_number" 1 ["thing"] (qFh K))(hF:Has P w K mg base "is_number_from" 2 ["thing","low","beyond"] (qE6 K)):FnOk P w K mg base CX0 3 f fd ["thing","kind","works"] (qFu K):=by
 refine F.ok qQn (λvs H Q E h=>?_) (λcdv A outer s H vs Q E hr h=>?_)
 ·obtain⟨x,d,k,works,rfl,_⟩:=h;rfl
 ·obtain⟨x,d,k,works,rfl,hD,q⟩:=h;have hu:=qCc hr
  refine⟨_,(qA3 (qBe (qAe qCi (pv 1) pe_str (qAh _)) (qA6 (qA9 (qAd hF hr (by decide) (qA0 (pv 0) (qA0 pe_int (qA0 (qEz (v :=.int 8) rfl hBx ⟨_,rfl⟩) pa_nil)))))) qAf)
   (qA3 (qBe (qAe qCi (pv 1) pe_str (qAh _)) (qA6 (qA9 (qAd hF hr (by decide) (qA0 (pv 0) (qA0 pe_int (qA0 (pv 2) pa_nil)))))) qAf)
   (qA6 (qA9 (qAd hN hr (by decide) (qA0 (pv 0) pa_nil)))))),?_⟩
  try dsimp only [qBm,qB5,qB0,qCj,qG9]
  walk_at "ri";refine qNs ?_;walk_at "ri";refine ite2 (λg=>?_) (λg=>?_)
  ·have g:=of_decide_eq_true g;rw [show partD works k d=fromD 0 8 d from if_pos g] at q;walk_at "ri";exact⟨x,d,0,8,rfl,hD,q⟩
  ·have g1 : ¬k = "box" :=λz=>g (decide_eq_true z);walk_at "ri";refine qNs ?_;walk_at "ri";refine ite2 (λg=>?_) (λg=>?_)
   ·have g:=of_decide_eq_true g;rw [show partD works k d=fromD 0 works d from (if_neg g1).trans (if_pos g)] at q;walk_at "ri";exact⟨x,d,0,works,rfl,hD,q⟩
   ·have g2 : ¬k = "work" :=λz=>g (decide_eq_true z);rw [show partD works k d=qEd d from (if_neg g1).trans (if_neg g2)] at q;walk_at "ri";exact⟨x,d,rfl,hD,q⟩
end
section
variable{P:Program}{w:World}{K:PySem.W.Frag}{mg:Str->Option Value}{base:Heap}
abbrev qEw:Stmt:=top 11
theorem scIsDeed:FnScope ["thing","works","kinds","parts"] ["thing","works"] (qA4 qEw):=⟨rfl,rfl,rfl,by decide +kernel,rfl,by decide +kernel,by decide +kernel⟩
theorem qOu{f dp:Addr}{fd:FuncData}(F:Fun K "is_deed" "is_deed" qEw f fd)(nlen:mg "len" = none)(nall:mg "all" = none)(nzip:mg "zip" = none)(hDp:mg "DEED_PARTS" = some (.ref dp))(hParts:Parts K dp)(hHw:Has P w K mg base "has_word" 1 ["thing"] (qDm K))
  (hIp:Has P w K mg base "is_part" 3 ["thing","kind","works"] (qFu K)):FnOk P w K mg base CX0 4 f fd ["thing","works"] (qCz K):=by
 refine F.ok scIsDeed (λvs H Q E h=>?_) (λcdv A outer s H vs Q E hr h=>?_)
 ·obtain⟨x,d,works,rfl,_⟩:=h;rfl
 ·obtain⟨x,d,works,rfl,hD,hNar,q⟩:=h;have hu:=qCc hr
  refine⟨_,(qA3 (qBe (PW.pt (qE2 (qB9 (qAa K rfl (qAd hHw hr (by decide) (qA0 (pv 0) pa_nil)) (λ_=>rfl))) (qCp (qAe qG1 (qAm qB1 (pv 0) pe_int (λ_ _=>rfl)) (qEz (v :=.ref dp) rfl hDp rfl) rfl)))) (qA6 (qA9 pe_bl)) qAf)
   (qA3 (qAo (i:=2) scIsDeed.nd rfl (Or.inl rfl) (qAm qSj (qEz (v :=.ref dp) rfl hDp rfl) (qAm qB1 (pv 0) pe_int (λ_ _=>rfl)) (λ_ _=>rfl)))
   (qA3 (qAo (i:=3) scIsDeed.nd rfl (Or.inl rfl) (qBn qE7 (pv 0) (qC9 pe_int) qCa))
   (qA3 (qBe (qAe qJ0 (qA5 qA8 (by rfl) nlen aU (qA0 (pv 3) pa_nil)) (qA5 qA8 (by rfl) nlen aU (qA0 (pv 2) pa_nil)) (qAh _)) (qA6 (qA9 pe_bl)) qAf)
   (qA6 (qA9 (qA5 (qBy hr.hd) (by rfl) nall (by decide +kernel) (qA0 (qFc ["part","kind"] [1] rfl (.of rfl) (qTd true true rfl nzip (qA0 (pv 3) (qA0 (pv 2) pa_nil))) (λ_ _ _ _=>(qHr (n:=2) K rfl rfl (qC5 (qAj (i:=0) (by show (((["part","kind","works"]:List Str))).Nodup;decide) rfl (Or.inl rfl)) (qC5 (qAj (i:=1) (by show (((["part","kind","works"]:List Str))).Nodup;decide) rfl (Or.inl rfl)) qG0)))) (λ_ _ _ _ =>.nil) (λ_ _ _ _=>(qAd hIp hr (by decide) (qA0 (pv 0) (qA0 (pv 1) (qA0 (pv 2) pa_nil)))))) pa_nil)))))))),?_⟩
  try dsimp only [qBm,qB5,qB0,qCj,qG9]
  cases hW:wordD d with
  | none =>
   have hq:deedB works d=false:=by unfold deedB;rw [hW]
   walk_at "ri";refine⟨x,d,rfl,hD,?_⟩;rw [hW];refine⟨false,rfl,iteT (iteT ?_)⟩;walk_at "ri";rw [<-hq];exact q _ (.refl _ _)
  | some pr =>
   obtain⟨wd,ps⟩:=pr;have hd:=qCx hW;subst hd;obtain⟨a,vs,rfl,hT,hVs⟩:=hD.ofTuple;obtain⟨v0,r1,rfl,h0,h1⟩:=hVs.ofCons;have h0:=h0.ofStr;subst h0;have hlen:=h1.len;obtain⟨hNl,hNm⟩:=qCr hNar;rw [bI] at hNl;obtain⟨D,hTab,hhas,hat⟩:=hParts.atW wd;walk_at "ri";refine⟨_,_,rfl,hD,true,rfl,iteF ?_⟩;walk_at "ri";refine qDf hT ?_;walk_at "ri";refine⟨wd,dp,D,rfl,rfl,hTab,?_⟩;rw [if_pos rfl,hhas];cases hK:qCe wd with
   | none =>
    have hq:deedB works (.tuple (.str wd::ps))=false:=by unfold deedB;rw [hW];simp only [hK]
    walk_at "ri";refine iteT ?_;walk_at "ri";rw [<-hq];exact q _ (.refl _ _)
   | some ks =>
    obtain⟨b,hat,hTk⟩:=hat ks hK;walk_at "ri";refine iteF ?_;walk_at "ri";refine qDf hT ?_;refine⟨wd,dp,D,_,rfl,rfl,hTab,hat,?_⟩;walk_at "ri";refine⟨1,rfl,?_⟩;walk_at "ri";refine qEx hT λp hp=>?_;walk_at "ri";refine qE9 (SqT.of qA1) ?_;walk_at "ri";refine qE9 hTk.sq ?_;refine qNo ?_;rw [aC,hlen];by_cases hl:ps.length=ks.length
    ·have hq:deedB works (.tuple (.str wd::ps))=(ps.zip ks).all λp=>partD works p.2 p.1:=by unfold deedB;rw [hW];simp only [hK];rw [decide_eq_true hl,bF]
     rw [decide_eq_true (by rw [hl])];walk_at "ri";refine iteF ?_;walk_at "ri";refine⟨p,b,rfl,⟨_,SqT.of qA1⟩,⟨_,hTk.sq⟩,λlc hlc=>?_⟩;have e1:Ext [] H (upd H p (.tup r1)) :=.laid hp;have hp1:(upd H p (.tup r1)) p=some (.tup r1):=qA1;generalize upd H p (.tup r1)=H1 at e1 hp1 hlc ⊢;have npl:p≠lc:=qA2 hp1 hlc;refine qP6 (xs:=r1) (ys:=ks.map V.str) (by rw [aC,hlen,hl]) (λj σ' G => ∃o0 o1,σ' = [o0,o1,some (.int works)]/\Ext [lc] H1 G/\G lc=some (.lst ((((ps.zip ks).take j).map λp=>partD works p.2 p.1).map V.bl))) ?_ ?_ ?_ ?_
     ·exact⟨none,none,rfl,.laid hlc,qA1⟩
     ·rintro j σ' G hj ⟨o0,o1,rfl,e3,hlc3⟩;exact⟨SqT.of (e3 _ _ (by simpa using npl) hp1),hTk.sq⟩
     ·rintro j v y σ' G pp R hv hy ⟨o0,o1,rfl,e3,hlc3⟩ hpp hR;obtain⟨d,hd,hDv⟩:=h1.get hv;obtain⟨k,hk,rfl⟩:=qHv hy;have hjl:j<ps.length:=(aE.mp hd).1;have npp:lc≠pp:=qA2 hlc3 hpp;have hz:(ps.zip ks)[j]? = some (d,k):=by rw [List.getElem?_zip_eq_some];exact⟨hd,hk⟩
      refine qL8 (SqT.of qA1) rfl ?_;walk_at "ri";refine iteT ?_;walk_at "ri";refine⟨v,d,k,works,rfl,hDv.mono ((e1.trans (e3.drop hlc)).trans (.laid hpp)).toSame,?_⟩;refine⟨_,by rw [qA7 npp];exact hlc3,qAn (by simp;lia),hR _ _ ⟨_,_,rfl,(e3.trans (.laid hpp)).trans (.put (by simp)),?_⟩⟩;rw [qA1,bQ,hz,aO,aO];rfl
     ·rintro σ' G ⟨o0,o1,rfl,e3,hlc3⟩;rw [aT (by rw [List.length_zip];lia)] at hlc3;walk_at "ri";refine qEa hlc3 ?_;rw [dS];rw [show ((ps.zip ks).all (id∘λp=>partD works p.2 p.1))=deedB works (.tuple (.str wd::ps)) from hq.symm];exact q _ (e1.trans (e3.drop hlc))
    ·have hq:deedB works (.tuple (.str wd::ps))=false:=by unfold deedB;rw [hW];simp only [hK];rw [decide_eq_false hl,bP]
     rw [decide_eq_false (show ¬((ps.length:Int)=(ks.length:Int)) from λz=>hl (by lia))];walk_at "ri";refine iteT ?_;walk_at "ri";rw [<-hq];exact q _ (.laid hp)
end
section
variable{P:Program}{w:World}{K:PySem.W.Frag}{mg:Str->Option Value}{base:Heap}
abbrev qGt:Stmt:=top 12
theorem scIsEnd:FnScope ["thing","many","named"] ["thing","many"] (qA4 qGt):=⟨rfl,rfl,rfl,by decide +kernel,rfl,by decide +kernel,by decide +kernel⟩
theorem qRa{f eb:Addr}{fd:FuncData}(F:Fun K "is_end" "is_end" qGt f fd)(nlen:mg "len" = none)(nall:mg "all" = none)(nset:mg "set" = none)(hEb:mg "END_BLOCKS" = some (.ref eb))(hBlocks:Blocks K eb)(hHw:Has P w K mg base "has_word" 1 ["thing"] (qDm K))
  (hF:Has P w K mg base "is_number_from" 2 ["thing","low","beyond"] (qE6 K)):FnOk P w K mg base CX0 3 f fd ["thing","many"] (qDl K):=by
 refine F.ok scIsEnd (λvs H Q E h=>?_) (λcdv A outer s H vs Q E hr h=>?_)
 ·obtain⟨x,d,m,rfl,_⟩:=h;rfl
 ·obtain⟨x,d,m,rfl,hD,hNar,q⟩:=h;have hu:=qCc hr
  refine⟨_,(qA3 (qBe (PW.pt (qE2 (qB9 (qAa K rfl (qAd hHw hr (by decide) (qA0 (pv 0) pa_nil)) (λ_=>rfl))) (qCp (qAe qG1 (qAm qB1 (pv 0) pe_int (λ_ _=>rfl)) (qEz (v :=.ref eb) rfl hEb rfl) rfl)))) (qA6 (qA9 pe_bl)) qAf)
   (qA3 (qAo (i:=2) scIsEnd.nd rfl (Or.inl rfl) (qBn qE7 (pv 0) (qC9 pe_int) qCa))
   (qA3 (qBe (qAe qJ0 (qA5 qA8 (by rfl) nlen aU (qA0 (pv 2) pa_nil)) (qAm qSj (qEz (v :=.ref eb) rfl hEb rfl) (qAm qB1 (pv 0) pe_int (λ_ _=>rfl)) (λ_ _=>rfl)) (qAh _)) (qA6 (qA9 pe_bl)) qAf)
   (qA3 (qBe (qB9 (qAa K rfl (qA5 (qBy hr.hd) (by rfl) nall (by decide +kernel) (qA0 (qFc ["to"] [1] rfl (.of rfl) (qFz (pv 2)) (λ_ _ _ _=>(qAj (i:=0) (by show (((["to","many"]:List Str))).Nodup;decide) rfl (Or.inl rfl))) (λ_ _ _ _ =>.nil) (λ_ _ _ _=>(qAd hF hr (by decide) (qA0 (pv 0) (qA0 pe_int (qA0 (pv 1) pa_nil)))))) pa_nil)) (λ_=>rfl))) (qA6 (qA9 pe_bl)) qAf)
   (qA6 (qA9 (qBp qCi (qA5 qJn (by rfl) nlen aU (qA0 (qAv (qPx hr.hd) (by rfl) nset PyProof.Rows.boot_set (qA0 (pv 2) pa_nil)) pa_nil)) (qA5 qA8 (by rfl) nlen aU (qA0 (pv 2) pa_nil)) (qAh _)))))))),?_⟩
  try dsimp only [qBm,qB5,qB0,qCj,qG9]
  cases hW:wordD d with
  | none =>
   have hq:endB m d=false:=by unfold endB;rw [hW]
   walk_at "ri";refine⟨x,d,rfl,hD,?_⟩;rw [hW];refine⟨false,rfl,iteT (iteT ?_)⟩;walk_at "ri";rw [<-hq];exact q _ (.refl _ _)
  | some pr =>
   obtain⟨wd,ps⟩:=pr;have hd:=qCx hW;subst hd;obtain⟨a,vs,rfl,hT,hVs⟩:=hD.ofTuple;obtain⟨v0,r1,rfl,h0,h1⟩:=hVs.ofCons;have h0:=h0.ofStr;subst h0;have hlen:=h1.len;obtain⟨hNl,hNm⟩:=qCr hNar;rw [bI] at hNl;obtain⟨D,hTab,hhas,hat⟩:=hBlocks.atW wd;walk_at "ri";refine⟨_,_,rfl,hD,true,rfl,iteF ?_⟩;walk_at "ri";refine qDf hT ?_;walk_at "ri";refine⟨wd,eb,D,rfl,rfl,hTab,?_⟩;rw [if_pos rfl,hhas];cases hK:endN wd with
   | none =>
    have hq:endB m (.tuple (.str wd::ps))=false:=by unfold endB;rw [hW];simp only [hK]
    walk_at "ri";refine iteT ?_;walk_at "ri";rw [<-hq];exact q _ (.refl _ _)
   | some n =>
    have hat:=hat n hK;walk_at "ri";refine iteF ?_;walk_at "ri";refine⟨1,rfl,?_⟩;walk_at "ri";refine qEx hT λp hp=>?_;walk_at "ri";refine qE9 (SqT.of qA1) ?_;walk_at "ri";refine qDf ((Ext.laid (ts :=[]) hp).toSame.seqT hT) ?_;refine⟨wd,eb,D,_,rfl,rfl,hTab,hat,?_⟩;refine qNo ?_;rw [hlen];by_cases hl:ps.length=n
    ·have hq:endB m (.tuple (.str wd::ps))=(ps.all (fromD 1 m)&&decide ((qBd (ps.map intD)).length=ps.length)):=by unfold endB;rw [hW];simp only [hK];rw [decide_eq_true hl,bF]
     rw [decide_eq_true (by rw [hl])];walk_at "ri";refine iteF ?_;walk_at "ri";refine⟨p,rfl,⟨_,SqT.of qA1⟩,λlc hlc=>?_⟩;have e1:Ext [] H (upd H p (.tup r1)) :=.laid hp;have hp1:(upd H p (.tup r1)) p=some (.tup r1):=qA1;generalize upd H p (.tup r1)=H1 at e1 hp1 hlc ⊢;have npl:p≠lc:=qA2 hp1 hlc;refine qFm (xs:=r1) (λj σ' G => ∃o0,σ' = [o0,some (.int m)]/\Ext [lc] H1 G/\G lc=some (.lst (((ps.take j).map (fromD 1 m)).map V.bl))) ?_ ?_ ?_ ?_
     ·exact⟨none,rfl,.laid hlc,qA1⟩
     ·rintro j σ' G hj ⟨o0,rfl,e3,hlc3⟩;exact SqT.of (e3 _ _ (by simpa using npl) hp1)
     ·rintro j v σ' G R hv ⟨o0,rfl,e3,hlc3⟩ hR;obtain⟨d,hd,hDv⟩:=h1.get hv;have hjl:j<ps.length:=(aE.mp hd).1;walk_at "ri";refine iteT ?_;walk_at "ri";refine⟨v,d,1,m,rfl,hDv.mono (e1.trans (e3.drop hlc)).toSame,?_⟩;refine⟨_,hlc3,qAn (by simp;lia),hR _ _ ⟨_,rfl,e3.trans (.put (by simp)),?_⟩⟩;rw [qA1,bQ,hd,aO,aO];rfl
     ·rintro σ' G ⟨o0,rfl,e3,hlc3⟩;rw [aT (by lia)] at hlc3;have eG:=e1.trans (e3.drop hlc);have hpG:=(e3.drop hlc) _ _ (by simp) hp1;walk_at "ri";refine qEa hlc3 ?_;rw [dS];rw [show (ps.all (id∘fromD 1 m))=ps.all (fromD 1 m) from rfl];cases hA:ps.all (fromD 1 m) with
      | false =>
       rw [hA,bP] at hq;refine⟨false,rfl,iteT ?_⟩;walk_at "ri";rw [<-hq];exact q _ eG
      | true =>
       rw [hA,bF] at hq;refine⟨true,rfl,iteF ?_⟩;have hints:r1=(ps.map intD).map V.int:=qKn h1 hA;subst hints;walk_at "ri";refine⟨p,_,rfl,SqT.of hpG,by rw [aC];lia,λls hls=>?_⟩;walk_at "ri";refine⟨ls,_,rfl,qA1,?_⟩;walk_at "ri";refine qE9 (SqT.of ((Ext.laid (ts :=[]) hls) _ _ (by simp) hpG)) ?_;refine qCv ?_;rw [aC,aC];have hz:decide (((qBd (ps.map intD)).length:Int)=(ps.length:Int))=endB m (.tuple (.str wd::ps)):=by
        rw [hq];by_cases c:(qBd (ps.map intD)).length=ps.length
        ·rw [decide_eq_true c,decide_eq_true (by rw [c])]
        ·rw [decide_eq_false c,decide_eq_false (λz=>c (by lia))]
       rw [hz];exact q _ (eG.trans (.laid hls))
    ·have hq:endB m (.tuple (.str wd::ps))=false:=by unfold endB;rw [hW];simp only [hK];rw [decide_eq_false hl];rfl
     rw [decide_eq_false (show ¬((ps.length:Int)=(n:Int)) from λz=>hl (by lia))];walk_at "ri";refine iteT ?_;walk_at "ri";rw [<-hq];exact q _ (.laid hp)
end
section
variable{P:Program}{w:World}{K:PySem.W.Frag}{mg:Str->Option Value}{base:Heap}
abbrev qDo:Stmt:=top 13
theorem scIsBlock:FnScope ["thing","many","works","deeds","end"] ["thing","many","works"] (qA4 qDo):=⟨rfl,rfl,rfl,by decide +kernel,rfl,by decide +kernel,by decide +kernel⟩
theorem qM9{f:Addr}{fd:FuncData}(F:Fun K "is_block" "is_block" qDo f fd)(nisi:mg "isinstance" = none)(ntuple:mg "tuple" = none)(nlist:mg "list" = none)(nlen:mg "len" = none)(nall:mg "all" = none)(hIe:Has P w K mg base "is_end" 3 ["thing","many"] (qDl K))
  (hId:Has P w K mg base "is_deed" 4 ["thing","works"] (qCz K)):FnOk P w K mg base CX0 5 f fd ["thing","many","works"] (qEk K):=by
 refine F.ok scIsBlock (λvs H Q E h=>?_) (λcdv A outer s H vs Q E hr h=>?_)
 ·obtain⟨x,d,m,works,rfl,_⟩:=h;rfl
 ·obtain⟨x,d,m,works,rfl,hD,hNar,q⟩:=h;have hu:=qCc hr
  refine⟨_,(qA3 (qBe (PW.pt (qE2 (qB9 (qAa K rfl (qA5 qAq (by rfl) nisi (by decide +kernel) (qA0 (pv 0) (qA0 (qAt (v :=.ty "tuple") rfl ntuple cB rfl) pa_nil))) (λ_=>rfl))) (qCp (qAe qJ0 (qA5 qA8 (by rfl) nlen aU (qA0 (pv 0) pa_nil)) pe_int (qAh _))))) (qA6 (qA9 pe_bl)) qAf)
   (qA3 (qIq (pv 0) (qSd (n:=2) rfl (qC5 (qAj (i:=3) scIsBlock.nd rfl (Or.inl rfl)) (qC5 (qAj (i:=4) scIsBlock.nd rfl (Or.inl rfl)) qG0))))
   (qA3 (qBe (PW.pt (qE2 (qB9 (qAa K rfl (qA5 qAq (by rfl) nisi (by decide +kernel) (qA0 (pv 3) (qA0 (qAt (v :=.ty "list") rfl nlist aV rfl) pa_nil))) (λ_=>rfl))) (qCp (qB9 (qAa K rfl (qAd hIe hr (by decide) (qA0 (pv 4) (qA0 (pv 1) pa_nil))) (λ_=>rfl)))))) (qA6 (qA9 pe_bl)) qAf)
   (qA6 (qA9 (qA5 (qBy hr.hd) (by rfl) nall (by decide +kernel) (qA0 (qFc ["deed"] [2] rfl (.of rfl) (qCb (pv 3)) (λ_ _ _ _=>(qAj (i:=0) (by show (((["deed","works"]:List Str))).Nodup;decide) rfl (Or.inl rfl))) (λ_ _ _ _ =>.nil) (λ_ _ _ _=>(qAd hId hr (by decide) (qA0 (pv 0) (qA0 (pv 1) pa_nil))))) pa_nil))))))),?_⟩
  try dsimp only [qBm,qB5,qB0,qCj,qG9]
  walk_at "ri";refine⟨x,d,"tuple",rfl,hD,by decide,_,rfl,?_⟩;cases hk:qAr d "tuple" with
  | false =>
   refine iteT (iteT ?_);walk_at "ri";rw [<-qEg (m:=m) (works:=works) hk];exact q _ (.refl _ _)
  | true =>
   obtain⟨ds,rfl⟩:=qDt hk;obtain⟨a,vs,rfl,hT,hVs⟩:=hD.ofTuple;have hlen:=hVs.len;obtain⟨hNl,hNm⟩:=qCr hNar;refine iteF ?_;walk_at "ri";refine qE9 hT ?_;walk_at "ri";refine qNo ?_;rw [hlen];by_cases h2:ds.length=2
   ·match ds,h2 with
    | [p,e],_ =>
     obtain⟨v0,r1,rfl,h0,hr1⟩:=hVs.ofCons;obtain⟨v1,r2,rfl,h1,hr2⟩:=hr1.ofCons;have hr3:=hr2.ofNil;subst hr3;have np:=hNm p (by simp);have ne:=hNm e (by simp);walk_at "ri";refine iteF ?_;walk_at "ri";refine qL8 hT rfl ?_;walk_at "ri";refine⟨v0,p,"list",rfl,h0,by decide,_,rfl,?_⟩;cases hl:qAr p "list" with
     | false =>
      refine iteT (iteT ?_);walk_at "ri";rw [<-qF8 (m:=m) (works:=works) (e:=e) hl];exact q _ (.refl _ _)
     | true =>
      obtain⟨l,rfl⟩:=qCm hl;obtain⟨dl,dvs,rfl,hdl,hdvs⟩:=h0.ofList;have hdlen:=hdvs.len;obtain⟨hLl,hLm⟩:=qC1 np;have hq:qBh m works (.tuple [.list l,e])=(endB m e&&l.all (deedB works)):=rfl;refine iteF ?_;walk_at "ri";refine⟨v1,e,m,rfl,h1,ne,λH1 e1=>?_⟩;cases hE:endB m e with
      | false =>
       rw [hE,bP] at hq;refine⟨false,rfl,iteT ?_⟩;walk_at "ri";rw [<-hq];exact q _ e1
      | true =>
       rw [hE,bF] at hq;refine⟨true,rfl,iteF ?_⟩;have hdl1:=e1.toSame.seq hdl;walk_at "ri";refine⟨dl,rfl,⟨_,hdl1⟩,λlc hlc=>?_⟩;refine qC7 (xs:=dvs) (λj σ' G => ∃o0,σ' = [o0,some (.int works)]/\Ext [lc] H1 G/\G lc=some (.lst (((l.take j).map (deedB works)).map V.bl))) ?_ ?_ ?_ ?_
       ·exact⟨none,rfl,.laid hlc,qA1⟩
       ·rintro j σ' G hj ⟨o0,rfl,e3,hlc3⟩;exact (e3.drop hlc).toSame.seq hdl1
       ·rintro j v σ' G R hv ⟨o0,rfl,e3,hlc3⟩ hR;obtain⟨d,hd,hDv⟩:=hdvs.get hv;have hjl:j<l.length:=(aE.mp hd).1;walk_at "ri";refine iteT ?_;walk_at "ri";refine⟨v,d,works,rfl,hDv.mono (e1.trans (e3.drop hlc)).toSame,hLm d (aP hd),λH4 e4=>?_⟩;refine⟨_,e4 _ _ (by simp) hlc3,qAn (by simp;lia),hR _ _ ⟨_,rfl,(e3.trans (e4.mono (by simp))).trans (.put (by simp)),?_⟩⟩;rw [qA1,bQ,hd,aO,aO];rfl
       ·rintro σ' G ⟨o0,rfl,e3,hlc3⟩;rw [aT (by lia)] at hlc3;walk_at "ri";refine qEa hlc3 ?_;rw [dS];rw [show (l.all (id∘deedB works))=qBh m works (.tuple [.list l,e]) from hq.symm];exact q _ (e1.trans (e3.drop hlc))
   ·rw [decide_eq_false (show ¬((ds.length:Int)=2) from λz=>h2 (by lia))];walk_at "ri";refine iteT ?_;walk_at "ri";rw [<-qJp (m:=m) (works:=works) h2];exact q _ (.refl _ _)
end
section
variable{P:Program}{w:World}{K:PySem.W.Frag}{mg:Str->Option Value}{base:Heap}
abbrev qEt:Stmt:=top 14
theorem scIsWork:FnScope ["thing","works","many"] ["thing","works"] (qA4 qEt):=⟨rfl,rfl,rfl,by decide +kernel,rfl,by decide +kernel,by decide +kernel⟩
theorem qOr{f:Addr}{fd:FuncData}(F:Fun K "is_work" "is_work" qEt f fd)(nisi:mg "isinstance" = none)(nlist:mg "list" = none)(nlen:mg "len" = none)(nall:mg "all" = none)(hIb:Has P w K mg base "is_block" 5 ["thing","many","works"] (qEk K))
  (hLd:Has P w K mg base "led_to" 1 ["starts","nexts"] (qSr K)) (hNx:Has P w K mg base "nexts_of" 1 ["work"] (qW8 K)):FnOk P w K mg base CX0 6 f fd ["thing","works"] (qC6 K):=by
 refine F.ok scIsWork (λvs H Q E h=>?_) (λcdv A outer s H vs Q E hr h=>?_)
 ·obtain⟨x,d,works,rfl,_⟩:=h;rfl
 ·obtain⟨x,d,works,rfl,hD,hNar,hFew,q⟩:=h;have hu:=qCc hr
  refine⟨_,(qA3 (qBe (PW.pt (qE2 (qB9 (qAa K rfl (qA5 qAq (by rfl) nisi (by decide +kernel) (qA0 (pv 0) (qA0 (qAt (v :=.ty "list") rfl nlist aV rfl) pa_nil))) (λ_=>rfl))) (qCp (qB9 (qAa K rfl (pv 0) (λ_=>rfl)))))) (qA6 (qA9 pe_bl)) qAf)
   (qA3 (qAo (i:=2) scIsWork.nd rfl (Or.inr rfl) (qA5 qA8 (by rfl) nlen aU (qA0 (pv 0) pa_nil)))
   (qA3 (qBe (qB9 (qAa K rfl (qA5 (qBy hr.hd) (by rfl) nall (by decide +kernel) (qA0 (qFc ["block"] [1,2] rfl (.of rfl) (qCb (pv 0)) (λ_ _ _ _=>(qAj (i:=0) (by show (((["block","works","many"]:List Str))).Nodup;decide) rfl (Or.inl rfl))) (λ_ _ _ _ =>.nil) (λ_ _ _ _=>(qAd hIb hr (by decide) (qA0 (pv 0) (qA0 (pv 2) (qA0 (pv 1) pa_nil)))))) pa_nil)) (λ_=>rfl))) (qA6 (qA9 pe_bl)) qAf)
   (qA6 (qA9 (qBp qCi (qA5 qQ0 (by rfl) nlen aU (qA0 (qAd hLd hr (by decide) (qA0 (qAk (qA0 pe_int pa_nil)) (qA0 (qAd hNx hr (by decide) (qA0 (pv 0) pa_nil)) pa_nil))) pa_nil)) (pv 2) (qAh _))))))),?_⟩
  try dsimp only [qBm,qB5,qB0,qCj,qG9]
  walk_at "ri";refine⟨x,d,"list",rfl,hD,by decide,_,rfl,?_⟩;cases hk:qAr d "list" with
  | false =>
   have hq:workB works d=false:=by cases d <;> first | rfl | cases hk
   refine iteT (iteT ?_);walk_at "ri";rw [<-hq];exact q _ (.refl _ _)
  | true =>
   obtain⟨bs,rfl⟩:=qCm hk;obtain⟨a,vs,rfl,hL,hVs⟩:=hD.ofList;have hlen:=hVs.len;have hfew:=hFew bs rfl;obtain⟨hNl,hNm⟩:=qC1 hNar;refine iteF ?_;walk_at "ri";refine⟨!vs.isEmpty,.inl ⟨vs,hL,rfl⟩,?_⟩;cases hbs:bs with
   | nil =>
    subst hbs;have hv:=hVs.ofNil;subst hv;refine iteT ?_;walk_at "ri";exact q _ (.refl _ _)
   | cons b0 br =>
    have hne:(!vs.isEmpty)=true:=by
     cases vs with
     | nil=>rw [hbs] at hlen;simp at hlen
     | cons _ _=>rfl
    have hpos:1<=bs.length:=by rw [hbs];simp
    have hemp:(!bs.isEmpty)=true:=by rw [hbs];rfl
    rw [hne];refine iteF ?_;walk_at "ri";refine⟨a,_,rfl,.inl hL,?_⟩;rw [hlen];walk_at "ri";refine⟨a,rfl,⟨_,hL⟩,λlc hlc=>?_⟩;refine qC7 (xs:=vs) (λj σ' G => ∃o0,σ' = [o0,some (.int works),some (.int bs.length)]/\Ext [lc] H G/\G lc=some (.lst (((bs.take j).map (qBh bs.length works)).map V.bl))) ?_ ?_ ?_ ?_
    ·exact⟨none,rfl,.laid hlc,qA1⟩
    ·rintro j σ' G hj ⟨o0,rfl,e3,hlc3⟩;exact (e3.drop hlc).toSame.seq hL
    ·rintro j v σ' G R hv ⟨o0,rfl,e3,hlc3⟩ hR;obtain⟨d,hd,hDv⟩:=hVs.get hv;have hjl:j<bs.length:=(aE.mp hd).1;have hmem:=aP hd;walk_at "ri";refine iteT ?_;walk_at "ri";refine⟨v,d,bs.length,works,rfl,hDv.mono (e3.drop hlc).toSame,hNm d hmem,λH4 e4=>?_⟩;refine⟨_,e4 _ _ (by simp) hlc3,qAn (by simp;lia),hR _ _ ⟨_,rfl,(e3.trans (e4.mono (by simp))).trans (.put (by simp)),?_⟩⟩;rw [qA1,bQ,hd,aO,aO];rfl
    ·rintro σ' G ⟨o0,rfl,e3,hlc3⟩;rw [aT (by lia)] at hlc3;have eG:=e3.drop hlc;walk_at "ri";refine qEa hlc3 ?_;rw [dS];rw [show (bs.all (id∘qBh bs.length works))=bs.all (qBh bs.length works) from rfl];cases hA:bs.all (qBh bs.length works) with
     | false =>
      have hq:workB works (.list bs)=false:=by
       unfold workB;simp only [hA,Bool.and_false,bP]
      refine⟨false,rfl,iteT ?_⟩;walk_at "ri";rw [<-hq];exact q _ eG
     | true =>
      obtain⟨wk,hwk,hns⟩:=qF3 hA;have hwl:wk.length=bs.length:=by rw [hwk,aC]
      have hns2:∀b∈wk,b.ns.length<=2:=λb hb=>(hns b hb).few;have hd:(PyData.list bs)=workD wk:=by rw [hwk];rfl
      have hB:=qQ4 (works:=works) (wk:=wk) (by rw [hwl];exact hns);have hDen:Den K H (workD wk) (.ref a):=(hd▸hD).den (qJz wk);refine⟨true,rfl,iteF ?_⟩;walk_at "ri";refine⟨len2 (by show 1<=1000;decide),λp hp=>?_⟩;have e4:Ext [] H (upd G p (.lst [.int 0])):=eG.trans (.laid hp);have hp4:(upd G p (.lst [V.int 0])) p=some (.lst [.int 0]):=qA1;generalize upd G p (.lst [V.int 0])=H4 at e4 hp4 ⊢;walk_at "ri";refine⟨a,wk,rfl,hDen.mono e4.toSame,hns2,by lia,λd5 H5 hd5 e5 hNex=>?_⟩;have hNex':Nex H5 d5 (bare wk):=by
       obtain⟨kvs,n1,n2⟩:=hNex;refine⟨kvs,n1,λk k0 k1=>?_⟩;rw [qDr];exact n2 k k0 (by unfold bare at k1;rw [aC] at k1;exact k1)
      walk_at "ri";refine⟨p,d5,bare wk,wk.length,works,0,rfl,SqL.of (e5 _ _ (by simp) hp4),hNex',hB,by lia,by lia,by lia,λd2 ks H6 hd2 e6 hd6 hnd hks=>?_⟩;have hcount:=qFv hB (by lia) hnd hks;rw [qDr] at hcount;have hbl:(bare wk).length=bs.length:=by unfold bare;rw [aC,hwl]
      rw [hbl] at hcount;have hq:workB works (.list bs)=decide ((ks.length:Int)=(bs.length:Int)):=by
       refine qH8 hemp hA ?_;rw [show nxD bs=nxt wk by rw [hwk];exact qHt hns2,<-hcount];exact⟨λz=>by lia,λz=>by lia⟩
      walk_at "ri";refine⟨d2,_,rfl,hd6,?_⟩;walk_at "ri";refine qCv ?_;rw [aC,<-hq];exact q _ ((e4.trans e5).trans e6)
end
section
variable{P:Program}{w:World}{K:PySem.W.Frag}{mg:Str->Option Value}{base:Heap}
abbrev qD1:Stmt:=top 15
theorem qM4:FnScope ["thing"] ["thing"] (qA4 qD1):=⟨rfl,rfl,rfl,by decide +kernel,rfl,by decide +kernel,by decide +kernel⟩
theorem qKf{f:Addr}{fd:FuncData}(F:Fun K "are_works" "are_works" qD1 f fd)(nisi:mg "isinstance" = none)(nlist:mg "list" = none)(nlen:mg "len" = none)(nall:mg "all" = none)(hIw:Has P w K mg base "is_work" 6 ["thing","works"] (qC6 K)):FnOk P w K mg base CX0 7 f fd ["thing"] (qBo K):=by
 refine F.ok qM4 (λvs H Q E h=>?_) (λcdv A outer s H vs Q E hr h=>?_)
 ·obtain⟨x,d,rfl,_⟩:=h;rfl
 ·obtain⟨x,d,rfl,hD,hNar,hFew,q⟩:=h;have hu:=qCc hr
  refine⟨_,(qA3 (qBe (PW.pt (qE2 (qB9 (qAa K rfl (qA5 qAq (by rfl) nisi (by decide +kernel) (qA0 (pv 0) (qA0 (qAt (v :=.ty "list") rfl nlist aV rfl) pa_nil))) (λ_=>rfl))) (qCp (qB9 (qAa K rfl (pv 0) (λ_=>rfl)))))) (qA6 (qA9 pe_bl)) qAf)
   (qA6 (qA9 (qA5 (qBy hr.hd) (by rfl) nall (by decide +kernel) (qA0 (qFc ["work"] [0] rfl (.of rfl) (qCb (pv 0)) (λ_ _ _ _=>(qAj (i:=0) (by show (((["work","thing"]:List Str))).Nodup;decide) rfl (Or.inl rfl))) (λ_ _ _ _ =>.nil) (λ_ _ _ _=>(qAd hIw hr (by decide) (qA0 (pv 0) (qA0 (qA5 (qHw K rfl) (by rfl) nlen aU (qA0 (pv 1) pa_nil)) pa_nil))))) pa_nil))))),?_⟩
  try dsimp only [qBm,qB5,qB0,qCj,qG9]
  walk_at "ri";refine⟨x,d,"list",rfl,hD,by decide,_,rfl,?_⟩;cases hk:qAr d "list" with
  | false =>
   have hq:worksB d=false:=by cases d <;> first | rfl | cases hk
   refine iteT (iteT ?_);walk_at "ri";rw [<-hq];exact q _ (.refl _ _)
  | true =>
   obtain⟨ws,rfl⟩:=qCm hk;obtain⟨a,vs,rfl,hL,hVs⟩:=hD.ofList;have hlen:=hVs.len;obtain⟨hNl,hNm⟩:=qC1 hNar;have hq:worksB (.list ws)=(!ws.isEmpty&&ws.all (workB ws.length)):=rfl;refine iteF ?_;walk_at "ri";refine⟨!vs.isEmpty,.inl ⟨vs,hL,rfl⟩,?_⟩;cases ws with
   | nil =>
    have hv:=hVs.ofNil;subst hv;refine iteT ?_;walk_at "ri";exact q _ (.refl _ _)
   | cons w0 wr =>
    obtain⟨v0,vr,rfl,_,_⟩:=hVs.ofCons;have hq:worksB (.list (w0::wr))=(w0::wr).all (workB ((w0::wr).length:Int)):=hq;generalize hws:w0::wr=ws at *;refine iteF ?_;walk_at "ri";refine⟨a,rfl,⟨_,hL⟩,λlc hlc=>?_⟩;refine qC7 (xs:=v0::vr) (λj σ' G => ∃o0,σ' = [o0,some (.ref a)]/\Ext [lc] H G/\G lc=some (.lst (((ws.take j).map (workB ws.length)).map V.bl))) ?_ ?_ ?_ ?_
    ·exact⟨none,rfl,.laid hlc,qA1⟩
    ·rintro j σ' G hj ⟨o0,rfl,e3,hlc3⟩;exact (e3.drop hlc).toSame.seq hL
    ·rintro j v σ' G R hv ⟨o0,rfl,e3,hlc3⟩ hR;obtain⟨d,hd,hDv⟩:=hVs.get hv;have hjl:j<ws.length:=(aE.mp hd).1;have hmem:=aP hd;walk_at "ri";refine iteT ?_;walk_at "ri";refine⟨a,_,rfl,.inl ((e3.drop hlc).toSame.seq hL),?_⟩;rw [hlen];walk_at "ri";refine⟨v,d,ws.length,rfl,hDv.mono (e3.drop hlc).toSame,hNm d hmem,λbs hb=>hFew ws d bs rfl hmem hb,λH4 e4=>?_⟩;refine⟨_,e4 _ _ (by simp) hlc3,qAn (by simp;lia),hR _ _ ⟨_,rfl,(e3.trans (e4.mono (by simp))).trans (.put (by simp)),?_⟩⟩;rw [qA1,bQ,hd,aO,aO];rfl
    ·rintro σ' G ⟨o0,rfl,e3,hlc3⟩;rw [aT (by lia)] at hlc3;walk_at "ri";refine qEa hlc3 ?_;rw [dS];rw [show (ws.all (id∘workB ws.length))=worksB (.list ws) from hq.symm];exact q _ (e3.drop hlc)
end
section
variable{P:Program}{w:World}{K:PySem.W.Frag}{mg:Str->Option Value}{base:Heap}
abbrev qEm:Stmt:=top 27
theorem qQk:FnScope ["_law_thing","_law_least","_law_most"] ["_law_thing","_law_least","_law_most"] (qA4 qEm):=⟨rfl,rfl,rfl,by decide +kernel,rfl,by decide +kernel,by decide +kernel⟩
theorem qOj{f:Addr}{fd:FuncData}(F:Fun K "_law_within" "_law_within" qEm f fd)(nisi:mg "isinstance" = none)(nint:mg "int" = none)(nbool:mg "bool" = none):FnOk P w K mg base CX0 1 f fd ["_law_thing","_law_least","_law_most"] (qFf K):=by
 refine F.ok qQk (λvs H Q E h=>?_) (λcdv A outer s H vs Q E hr h=>?_)
 ·obtain⟨x,d,lo,hi,rfl,_⟩:=h;rfl
 ·obtain⟨x,d,lo,hi,rfl,hD,q⟩:=h;have hu:=qCc hr;refine⟨_,(qA6 (qA9 (qDw (qA5 qAq (by rfl) nisi (by decide +kernel) (qA0 (pv 0) (qA0 (qAt (v :=.ty "int") rfl nint cF rfl) pa_nil))) (qDw (qLf (qA5 qAq (by rfl) nisi (by decide +kernel) (qA0 (pv 0) (qA0 (qAt (v :=.ty "bool") rfl nbool dA rfl) pa_nil)))) (qF5 (qLh qTl qTl (pv 1) (pv 0) (pv 2))))))),?_⟩
  try dsimp only [qBm,qB5,qB0,qCj,qG9]
  have e:=qF1 d;walk_at "ri";refine⟨x,d,"int",rfl,hD,by decide,_,rfl,?_⟩;cases h:qAr d "int" with
  | false =>
   rw [h,bP] at e;rw [qHy e] at q;exact iteF q
  | true =>
   rw [h,bF] at e;refine iteT ?_;walk_at "ri";refine⟨x,d,"bool",rfl,hD,by decide,_,rfl,_,rfl,?_⟩;cases h2:qAr d "bool" with
   | true =>
    rw [h2] at e;rw [qHy e] at q;exact iteF q
   | false =>
    rw [h2] at e;obtain⟨n,rfl⟩:=qJd e;have hx:=hD.ofInt;subst hx;refine iteT ?_;walk_at "ri";refine ite2 (λg=>?_) (λg=>?_)
    ·walk_at "ri";have e:fromD lo (hi+1) (.int n)=decide (n<=hi):=by
      show (decide (lo<=n)&&decide (n<hi+1))=_;rw [g,bF];exact decide_eq_decide.mpr ⟨λz=>by lia,λz=>by lia⟩
     rw [e] at q;exact q
    ·have e:fromD lo (hi+1) (.int n)=false:=by show (decide (lo<=n)&&decide (n<hi+1))=_;rw [Bool.eq_false_iff.mpr g,bP]
     rw [e] at q;exact q
end
section
variable{P:Program}{w:World}{K:PySem.W.Frag}{mg:Str->Option Value}{base:Heap}
abbrev qEn:Stmt:=top 28
theorem qQl:FnScope ["_law_thing","_law_sizes"] ["_law_thing","_law_sizes"] (qA4 qEn):=⟨rfl,rfl,rfl,by decide +kernel,rfl,by decide +kernel,by decide +kernel⟩
theorem qOl{f:Addr}{fd:FuncData}(F:Fun K "_law_tupled" "_law_tupled" qEn f fd)(nisi:mg "isinstance" = none)(ntuple:mg "tuple" = none)(nstr:mg "str" = none)(nlen:mg "len" = none):FnOk P w K mg base CX0 1 f fd ["_law_thing","_law_sizes"] (qFg K):=by
 refine F.ok qQl (λvs H Q E h=>?_) (λcdv A outer s H vs Q E hr h=>?_)
 ·obtain⟨x,d,sd,kvs,rfl,_⟩:=h;rfl
 ·obtain⟨x,d,sd,kvs,rfl,hD,hSd,hInt,q⟩:=h;have hu:=qCc hr
  refine⟨_,(qA3 (qBe (PW.pt (qE2 (qB9 (qAa K rfl (qA5 qAq (by rfl) nisi (by decide +kernel) (qA0 (pv 0) (qA0 (qAt (v :=.ty "tuple") rfl ntuple cB rfl) pa_nil))) (λ_=>rfl))) (qE2 (qAe (qOh (cS (cC _ 64) hr.units)) (pv 0) (qBw pa_nil) (qAh _)) (qCp (qB9 (qAa K rfl (qA5 qAq (by rfl) nisi (by decide +kernel) (qA0 (qAm qB1 (pv 0) pe_int (λ_ _=>rfl)) (qA0 (qAt (v :=.ty "str") rfl nstr PyProof.Rows.boot_str rfl) pa_nil))) (λ_=>rfl))))))) (qA6 (qA9 pe_bl)) qAf)
   (qA6 (qA9 (qBp qCi (qLg hu (pv 1) (qAm qB1 (pv 0) pe_int (λ_ _=>rfl)) pe_int ⟨rfl,rfl,rfl,rfl⟩) (qA5 qA8 (by rfl) nlen aU (qA0 (pv 0) pa_nil)) (qAh _))))),?_⟩
  try dsimp only [qBm,qB5,qB0,qCj,qG9]
  walk_at "ri";refine⟨x,d,"tuple",rfl,hD,by decide,_,rfl,?_⟩;cases hk:qAr d "tuple" with
  | false =>
   have hq:tupB kvs d=false:=by unfold tupB;rw [qIe hk]
   refine iteT (iteT ?_);walk_at "ri";rw [<-hq];exact q _ (.refl _ _)
  | true =>
   obtain⟨ds,rfl⟩:=qDt hk;obtain⟨a,vs,rfl,hT,hVs⟩:=hD.ofTuple;have hlen:=hVs.len;refine iteF ?_;walk_at "ri";refine⟨len2 (aW _),λp hp=>?_⟩;have e1:Ext [] H (upd H p (.tup [])) :=.laid hp;have hp1:(upd H p (.tup [])) p=some (.tup []):=qA1;generalize upd H p (.tup [])=H1 at e1 hp1 ⊢;have hT1:=e1.toSame.seqT hT;refine⟨a,p,vs,rfl,rfl,.inr ⟨hT1,SqT.of hp1⟩,?_⟩;cases ds with
   | nil =>
    have hv:=hVs.ofNil;subst hv;walk_at "ri";refine iteT (iteT ?_);walk_at "ri";exact q _ e1
   | cons e r =>
    obtain⟨v,r',rfl,hv,hr'⟩:=hVs.ofCons;walk_at "ri";refine iteF ?_;walk_at "ri";refine qDf hT1 ?_;walk_at "ri";refine⟨v,e,"str",rfl,hv.mono e1.toSame,by decide,_,rfl,?_⟩;cases hs:qAr e "str" with
    | false =>
     have hq:tupB kvs (.tuple (e::r))=false:=by
      unfold tupB;have:=qIf e r;rw [hs] at this;cases z:wordD (.tuple (e::r)) with
      | none=>rfl
      | some _=>rw [z] at this;cases this
     refine iteT ?_;walk_at "ri";rw [<-hq];exact q _ e1
    | true =>
     obtain⟨wd,rfl⟩:∃wd,e = .str wd:=by cases e <;> first | exact⟨_,rfl⟩ | (revert hs;decide) | cases hs
     have hv:=hv.ofStr;subst hv;have hsd1:=e1 _ _ (by simp) hSd;refine iteF ?_;walk_at "ri";refine⟨sd,rfl,.inl ⟨_,.inl hsd1⟩,?_⟩;walk_at "ri";refine qDf hT1 ?_;walk_at "ri";refine⟨_,DGet.k (k:=Sum.inr wd) hsd1,?_⟩;walk_at "ri";refine qE9 hT1 ?_;rw [hlen,bI];obtain⟨n,hn⟩:∃n:Int,(valV kvs (Sum.inr wd)).getD (.int 0) = .int n:=by
      cases z:valV kvs (Sum.inr wd) with
      | none=>exact⟨0,rfl⟩
      | some v=>obtain⟨n,rfl⟩:=hInt wd v z;exact⟨n,rfl⟩
     rw [hn];refine qCv ?_;have hq:tupB kvs (.tuple (.str wd::r))=decide (n=((r.length+1:Nat):Int)):=by
      show decide (((valV kvs (Sum.inr wd)).getD (.int 0))=V.int ((r.length:Int)+1))=_;rw [hn];exact decide_eq_decide.mpr ⟨λz=>by cases z;lia,λz=>by rw [z];congr 1⟩
     rw [<-hq];exact q _ e1
end
section
variable{P:Program}{w:World}{K:PySem.W.Frag}{mg:Str->Option Value}{base:Heap}
abbrev qGv:Stmt:=top 29
theorem qSv:FnScope ["_law_thing","_law_works_here"] ["_law_thing","_law_works_here"] (qA4 qGv):=⟨rfl,rfl,rfl,by decide +kernel,rfl,by decide +kernel,by decide +kernel⟩
theorem qRc{f:Addr}{fd:FuncData}(F:Fun K "_law_deed_right" "_law_deed_right" qGv f fd)(nisi:mg "isinstance" = none)(nint:mg "int" = none)(nbool:mg "bool" = none)(nall:mg "all" = none)(hWi:Has P w K mg base "_law_within" 1 ["_law_thing","_law_least","_law_most"] (qFf K))(hTu:Has P w K mg base "_law_tupled" 1 ["_law_thing","_law_sizes"] (qFg K)):FnOk P w K mg base CX0 2 f fd ["_law_thing","_law_works_here"] (qCz K):=by
 refine F.ok qSv (λvs H Q E h=>?_) (λcdv A outer s H vs Q E hr h=>?_)
 ·obtain⟨x,d,works,rfl,_⟩:=h;rfl
 ·obtain⟨x,d,works,rfl,hD,hNar,q⟩:=h;have hu:=qCc hr
  refine⟨_,(qA3 (qBe (qB9 (qAa K rfl (qSe hTu hr (by decide) (pv 0) qR0) (λ_=>rfl))) (qA6 (qA9 pe_bl)) qAf)
   (qA3 (qBe (qAe qCi (qAm qB1 (pv 0) pe_int (λ_ _=>rfl)) pe_str (qAh _)) (qA6 (qA9 (qAd hWi hr (by decide) (qA0 (qAm qB1 (pv 0) pe_int (λ_ _=>rfl)) (qA0 pe_int (qA0 (qAl qF6 (pv 1) pe_int) pa_nil)))))) qAf)
   (qA3 (qBe (qAe qCi (qAm qB1 (pv 0) pe_int (λ_ _=>rfl)) pe_str (qAh _)) (qA6 (qA9 (qDw (qAd hWi hr (by decide) (qA0 (qAm qB1 (pv 0) pe_int (λ_ _=>rfl)) (qA0 pe_int (qA0 pe_int pa_nil)))) (qDw (qA5 qAq (by rfl) nisi (by decide +kernel) (qA0 (qAm qB1 (pv 0) pe_int (λ_ _=>rfl)) (qA0 (qAt (v :=.ty "int") rfl nint cF rfl) pa_nil))) (qF5 (qLf (qA5 qAq (by rfl) nisi (by decide +kernel) (qA0 (qAm qB1 (pv 0) pe_int (λ_ _=>rfl)) (qA0 (qAt (v :=.ty "bool") rfl nbool dA rfl) pa_nil))))))))) qAf)
   (qA6 (qA9 (qA5 (qBy hr.hd) (by rfl) nall (by decide +kernel) (qA0 (qFc ["_law_box"] [] rfl (.of rfl) (qFz (qBn qE7 (pv 0) (qC9 pe_int) qCa)) (λ_ _ _ _=>(qAj (i:=0) (by show (((["_law_box"]:List Str))).Nodup;decide) rfl (Or.inl rfl))) (λ_ _ _ _ =>.nil) (λ_ _ _ _=>(qAd hWi hr (by decide) (qA0 (pv 0) (qA0 pe_int (qA0 pe_int pa_nil)))))) pa_nil))))))),?_⟩
  try dsimp only [qBm,qB5,qB0,qCj,qG9]
  walk_at "ri";refine qSb λsd hsd=>?_
  repeat (refine qWy ?_;walk_at "ri")
  refine qWx ?_;refine⟨qA1,qBx,rfl,by decide,?_⟩;rw [qMc,qK1];have e1:Ext [] H (upd H sd (.dK qBx)) :=.laid hsd;have hs1:(upd H sd (.dK qBx)) sd=some (.dK qBx):=qA1;generalize upd H sd (.dK qBx)=H1 at e1 hs1 ⊢;walk_at "ri";refine⟨x,d,sd,qBx,rfl,hD.mono e1.toSame,hs1,qRn,λH2 e2=>?_⟩;have e2:=e1.trans e2;cases hB:tupB qBx d with
  | false =>
   refine⟨false,rfl,iteT ?_⟩;walk_at "ri";rw [<-qMi (works:=works) hB];exact q _ e2
  | true =>
   obtain⟨wd,ps,rfl,hc⟩:=qMj hB;have hD2:=hD.mono e2.toSame;obtain⟨a,vs,rfl,hT,hVs⟩:=hD2.ofTuple;obtain⟨v0,r1,rfl,h0,h1⟩:=hVs.ofCons;have h0:=h0.ofStr;subst h0;refine⟨true,rfl,iteF ?_⟩;walk_at "ri";refine qDf hT ?_;walk_at "ri";refine qNs ?_;have hlen:=h1.len;rcases hc with ⟨rfl,p,rfl,hq⟩ | ⟨rfl,p,p2,rfl,hq⟩ | ⟨c1,c2,hl,hq⟩
   ·obtain⟨v,r,rfl,hv,hr1⟩:=h1.ofCons;have hr1:=hr1.ofNil;subst hr1;refine⟨_,rfl,iteT ?_⟩;walk_at "ri";refine⟨v,p,0,works - 1,rfl,hv,?_⟩;rw [show works - 1+1=works by lia,<-hq works];exact q _ e2
   ·obtain⟨v,r,rfl,hv,hr1⟩:=h1.ofCons;obtain⟨v2,r2,rfl,hv2,hr2⟩:=hr1.ofCons;have hr2:=hr2.ofNil;subst hr2;have hq:=hq works;refine⟨_,rfl,iteF ?_⟩;walk_at "ri";refine qNs ⟨_,rfl,iteT ?_⟩;walk_at "ri";refine⟨v,p,0,7,rfl,hv,?_⟩;rw [show (7:Int)+1=8 from rfl];have e:=qF1 p2;cases hA:fromD 0 8 p with
    | false =>
     rw [hA,bP] at hq;refine⟨false,rfl,iteF ?_⟩;rw [<-hq];exact q _ e2
    | true =>
     rw [hA,bF,e] at hq;refine⟨true,rfl,iteT ?_⟩;walk_at "ri";refine⟨v2,p2,"int",rfl,hv2,by decide,?_⟩;cases h:qAr p2 "int" with
     | false =>
      rw [h,bP] at hq;refine⟨false,rfl,iteF ?_⟩;rw [<-hq];exact q _ e2
     | true =>
      rw [h,bF] at hq;refine⟨true,rfl,iteT ?_⟩;walk_at "ri";refine⟨v2,p2,"bool",rfl,hv2,by decide,_,rfl,?_⟩;rw [<-hq];exact q _ e2
   ·have hq:=hq works;refine⟨_,rfl,?_⟩;rw [decide_eq_false c1];refine iteF ?_;walk_at "ri";refine qDf hT ?_;walk_at "ri";refine qNs ⟨_,rfl,?_⟩;rw [decide_eq_false c2];refine iteF ?_;walk_at "ri";refine⟨1,rfl,?_⟩;walk_at "ri";refine qEx hT λp hp=>?_;walk_at "ri";refine⟨p,rfl,⟨_,SqT.of qA1⟩,λlc hlc=>?_⟩;have e3:Ext [] H2 (upd H2 p (.tup r1)) :=.laid hp;have hp1:(upd H2 p (.tup r1)) p=some (.tup r1):=qA1;generalize upd H2 p (.tup r1)=H3 at e3 hp1 hlc ⊢;have npl:p≠lc:=qA2 hp1 hlc;refine qFm (xs:=r1) (λj σ' G => ∃o0,σ' = [o0]/\Ext [lc] H3 G/\G lc=some (.lst (((ps.take j).map (fromD 0 8)).map V.bl))) ?_ ?_ ?_ ?_
    ·exact⟨none,rfl,.laid hlc,qA1⟩
    ·rintro j σ' G hj ⟨o0,rfl,e4,hlc3⟩;exact SqT.of (e4 _ _ (by simpa using npl) hp1)
    ·rintro j v σ' G R hv ⟨o0,rfl,e4,hlc3⟩ hR;obtain⟨d,hd,hDv⟩:=h1.get hv;have hjl:j<ps.length:=(aE.mp hd).1;walk_at "ri";refine iteT ?_;walk_at "ri";refine⟨v,d,0,7,rfl,hDv.mono (e3.trans (e4.drop hlc)).toSame,?_⟩;rw [show (7:Int)+1=8 from rfl];refine⟨_,hlc3,qAn (by simp;lia),hR _ _ ⟨_,rfl,e4.trans (.put (by simp)),?_⟩⟩;rw [qA1,bQ,hd,aO,aO];rfl
    ·rintro σ' G ⟨o0,rfl,e4,hlc3⟩;rw [aT (by lia)] at hlc3;walk_at "ri";refine qEa hlc3 ?_;rw [dS];rw [show (ps.all (id∘fromD 0 8))=deedB works (.tuple (.str wd::ps)) from hq.symm];exact q _ (e2.trans (e3.trans (e4.drop hlc)))
end
section
variable{P:Program}{w:World}{K:PySem.W.Frag}{mg:Str->Option Value}{base:Heap}
abbrev sEndR:Stmt:=top 30
theorem qUq:FnScope ["_law_thing","_law_many_here"] ["_law_thing","_law_many_here"] (qA4 sEndR):=⟨rfl,rfl,rfl,by decide +kernel,rfl,by decide +kernel,by decide +kernel⟩
theorem qTs{f:Addr}{fd:FuncData}(F:Fun K "_law_end_right" "_law_end_right" sEndR f fd)(nlen:mg "len" = none)(nall:mg "all" = none)(hWi:Has P w K mg base "_law_within" 1 ["_law_thing","_law_least","_law_most"] (qFf K))(hTu:Has P w K mg base "_law_tupled" 1 ["_law_thing","_law_sizes"] (qFg K)):FnOk P w K mg base CX0 2 f fd ["_law_thing","_law_many_here"] (qDl K):=by
 refine F.ok qUq (λvs H Q E h=>?_) (λcdv A outer s H vs Q E hr h=>?_)
 ·obtain⟨x,d,m,rfl,_⟩:=h;rfl
 ·obtain⟨x,d,m,rfl,hD,hNar,q⟩:=h;have hu:=qCc hr
  refine⟨_,(qA3 (qBe (qB9 (qAa K rfl (qSe hTu hr (by decide) (pv 0) qR1) (λ_=>rfl))) (qA6 (qA9 pe_bl)) qAf)
   (qA6 (qA9 (qDw (qA5 (qBy hr.hd) (by rfl) nall (by decide +kernel) (qA0 (qFc ["_law_to"] [1] rfl (.of rfl) (qFz (qBn qE7 (pv 0) (qC9 pe_int) qCa)) (λ_ _ _ _=>(qAj (i:=0) (by show (((["_law_to","_law_many_here"]:List Str))).Nodup;decide) rfl (Or.inl rfl))) (λ_ _ _ _ =>.nil) (λ_ _ _ _=>(qAd hWi hr (by decide) (qA0 (pv 0) (qA0 pe_int (qA0 (qAl qF6 (pv 1) pe_int) pa_nil)))))) pa_nil)) (qF5 (qWn (qBp qHs (qA5 qA8 (by rfl) nlen aU (qA0 (pv 0) pa_nil)) pe_int (qAh _)) (qF5 (qBp qJ0 (qAm qB1 (pv 0) pe_int (λ_ _=>rfl)) (qAm qB1 (pv 0) pe_int (λ_ _=>rfl)) (qAh _))))))))),?_⟩
  try dsimp only [qBm,qB5,qB0,qCj,qG9]
  walk_at "ri";refine qSb λsd hsd=>?_
  repeat (refine qWy ?_;walk_at "ri")
  refine qWx ?_;refine⟨qA1,qCs,rfl,by decide,?_⟩;rw [qP5,qK1];have e1:Ext [] H (upd H sd (.dK qCs)) :=.laid hsd;have hs1:(upd H sd (.dK qCs)) sd=some (.dK qCs):=qA1;generalize upd H sd (.dK qCs)=H1 at e1 hs1 ⊢;walk_at "ri";refine⟨x,d,sd,qCs,rfl,hD.mono e1.toSame,hs1,qU5,λH2 e2=>?_⟩;have e2:=e1.trans e2;cases hB:tupB qCs d with
  | false =>
   refine⟨false,rfl,iteT ?_⟩;walk_at "ri";rw [<-qPi (m:=m) hB];exact q _ e2
  | true =>
   obtain⟨wd,ps,rfl,hl,hq⟩:=qPj hB;have hq:=hq m;have hD2:=hD.mono e2.toSame;obtain⟨a,vs,rfl,hT,hVs⟩:=hD2.ofTuple;obtain⟨v0,r1,rfl,h0,h1⟩:=hVs.ofCons;have h0:=h0.ofStr;subst h0;have hlen:=h1.len;refine⟨true,rfl,iteF ?_⟩;walk_at "ri";refine⟨1,rfl,?_⟩;walk_at "ri";refine qEx hT λp hp=>?_;walk_at "ri";refine⟨p,rfl,⟨_,SqT.of qA1⟩,λlc hlc=>?_⟩;have e3:Ext [] H2 (upd H2 p (.tup r1)) :=.laid hp;have hp1:(upd H2 p (.tup r1)) p=some (.tup r1):=qA1;generalize upd H2 p (.tup r1)=H3 at e3 hp1 hlc ⊢;have npl:p≠lc:=qA2 hp1 hlc;refine qFm (xs:=r1) (λj σ' G => ∃o0,σ' = [o0,some (.int m)]/\Ext [lc] H3 G/\G lc=some (.lst (((ps.take j).map (fromD 1 m)).map V.bl))) ?_ ?_ ?_ ?_
   ·exact⟨none,rfl,.laid hlc,qA1⟩
   ·rintro j σ' G hj ⟨o0,rfl,e4,hlc3⟩;exact SqT.of (e4 _ _ (by simpa using npl) hp1)
   ·rintro j v σ' G R hv ⟨o0,rfl,e4,hlc3⟩ hR;obtain⟨d,hd,hDv⟩:=h1.get hv;have hjl:j<ps.length:=(aE.mp hd).1;walk_at "ri";refine iteT ?_;walk_at "ri";refine⟨v,d,1,m - 1,rfl,hDv.mono (e3.trans (e4.drop hlc)).toSame,?_⟩;rw [show m - 1+1=m by lia];refine⟨_,hlc3,qAn (by simp;lia),hR _ _ ⟨_,rfl,e4.trans (.put (by simp)),?_⟩⟩;rw [qA1,bQ,hd,aO,aO];rfl
   ·rintro σ' G ⟨o0,rfl,e4,hlc3⟩;rw [aT (by lia)] at hlc3;have e5:=e3.trans (e4.drop hlc);have eG:=e2.trans e5;have hTG:=e5.toSame.seqT hT;walk_at "ri";refine qEa hlc3 ?_;rw [dS];rw [show (ps.all (id∘fromD 1 m))=ps.all (fromD 1 m) from rfl];cases hA:ps.all (fromD 1 m) with
    | false =>
     rw [hA,bP] at hq;refine⟨false,rfl,iteF ?_⟩;rw [<-hq];exact q _ eG
    | true =>
     rw [hA,bF] at hq;refine⟨true,rfl,iteT ?_⟩;have hints:r1=(ps.map intD).map V.int:=qKn h1 hA;subst hints;walk_at "ri";refine qE9 hTG ?_;walk_at "ri";rw [bI,aC,aC];rcases upto2 hl with rfl | ⟨p1,rfl⟩ | ⟨p1,p2,rfl⟩
     ·have z:=q _ eG;rw [show endB m (.tuple [.str wd])=true from hq] at z;exact z
     ·have z:=q _ eG;rw [show endB m (.tuple [.str wd,p1])=true from hq] at z;exact z
     ·rw [show decide ((([p1,p2].length+1:Nat):Int)<3)=false from rfl];refine iteF ?_;walk_at "ri";refine qNo ?_;rw [<-qQ6,show decide ((qBd [intD p1,intD p2]).length=2)=endB m (.tuple [.str wd,p1,p2]) from hq.symm];exact q _ eG
end
section
variable{P:Program}{w:World}{K:PySem.W.Frag}{mg:Str->Option Value}{base:Heap}
abbrev qGq:Stmt:=top 31
theorem scWorkR:FnScope ["_law_thing","_law_works_here","_law_block","_law_found","_law_turn"] ["_law_thing","_law_works_here"] (qA4 qGq):=⟨rfl,rfl,rfl,by decide +kernel,rfl,by decide +kernel,by decide +kernel⟩
theorem qR7{f:Addr}{fd:FuncData}(F:Fun K "_law_work_right" "_law_work_right" qGq f fd)(nisi:mg "isinstance" = none)(nlist:mg "list" = none)(ntuple:mg "tuple" = none)(nlen:mg "len" = none)(nall:mg "all" = none)(nrange:mg "range" = none)(nset:mg "set" = none)(hDr:Has P w K mg base "_law_deed_right" 2 ["_law_thing","_law_works_here"] (qCz K))(hEr:Has P w K mg base "_law_end_right" 2 ["_law_thing","_law_many_here"] (qDl K)):FnOk P w K mg base CX0 3 f fd ["_law_thing","_law_works_here"] (qC6 K):=by
 refine F.ok scWorkR (λvs H Q E h=>?_) (λcdv A outer s H vs Q E hr h=>?_)
 ·obtain⟨x,d,works,rfl,_⟩:=h;rfl
 ·obtain⟨x,d,works,rfl,hD,hNar,hFew,q⟩:=h;have hu:=qCc hr
  refine⟨_,(qA3 (qBe (PW.pt (qE2 (qB9 (qAa K rfl (qA5 qAq (by rfl) nisi (by decide +kernel) (qA0 (pv 0) (qA0 (qAt (v :=.ty "list") rfl nlist aV rfl) pa_nil))) (λ_=>rfl))) (qCp (qAe (qOh (cS (cC _ 64) hr.units)) (pv 0) (qAk pa_nil) (qAh _))))) (qA6 (qA9 pe_bl)) qAf)
   (qA3 (qCq bT rfl (qCb (pv 0)) (qAj (i:=2) scWorkR.nd rfl (Or.inl rfl))
   (qA3 (qBe (PW.pt (qE2 (qB9 (qAa K rfl (qA5 qAq (by rfl) nisi (by decide +kernel) (qA0 (pv 2) (qA0 (qAt (v :=.ty "tuple") rfl ntuple cB rfl) pa_nil))) (λ_=>rfl))) (qCp (qAe qJ0 (qA5 qA8 (by rfl) nlen aU (qA0 (pv 2) pa_nil)) pe_int (qAh _))))) (qA6 (qA9 pe_bl)) qAf)
   (qA3 (qBe (qB9 (qAa K rfl (qA5 qAq (by rfl) nisi (by decide +kernel) (qA0 (qAm qB1 (pv 2) pe_int (λ_ _=>rfl)) (qA0 (qAt (v :=.ty "list") rfl nlist aV rfl) pa_nil))) (λ_=>rfl))) (qA6 (qA9 pe_bl)) qAf)
   (qA3 (qBe (qB9 (qAa K rfl (qA5 (qBy hr.hd) (by rfl) nall (by decide +kernel) (qA0 (qFc ["_law_deed"] [1] rfl (.of rfl) (qCb (qAm qB1 (pv 2) pe_int (λ_ _=>rfl))) (λ_ _ _ _=>(qAj (i:=0) (by show (((["_law_deed","_law_works_here"]:List Str))).Nodup;decide) rfl (Or.inl rfl))) (λ_ _ _ _ =>.nil) (λ_ _ _ _=>(qAd hDr hr (by decide) (qA0 (pv 0) (qA0 (pv 1) pa_nil))))) pa_nil)) (λ_=>rfl))) (qA6 (qA9 pe_bl)) qAf)
   (qA6 (qBe (qB9 (qAa K rfl (qAd hEr hr (by decide) (qA0 (qAm qB1 (pv 2) pe_int (λ_ _=>rfl)) (qA0 (qA5 qA8 (by rfl) nlen aU (qA0 (pv 0) pa_nil)) pa_nil))) (λ_=>rfl))) (qA6 (qA9 pe_bl)) qAf))))))
   (qA3 (qAo (i:=3) scWorkR.nd rfl (Or.inr rfl) (qAk (qA0 pe_int pa_nil)))
   (qA3 (qCq bT rfl (qBv rfl nrange (qA0 (qA5 qA8 (by rfl) nlen aU (qA0 (pv 0) pa_nil)) pa_nil)) (qAj (i:=4) scWorkR.nd rfl (Or.inl rfl))
   (qA6 (qCq bT rfl (qCb (qAv qBs (by rfl) nlist aV (qA0 (pv 3) pa_nil))) (qAj (i:=2) scWorkR.nd rfl (Or.inl rfl))
   (qA6 (qAo (i:=3) scWorkR.nd rfl (Or.inr rfl) (qAl qJ2 (pv 3) (qFc ["_law_to"] [3] rfl (.of rfl) (qFz (qBn qE7 (qAm qB1 (qAm qAi (pv 0) (pv 2) (λ_ _=>rfl)) pe_int (λ_ _=>rfl)) (qC9 pe_int) qCa)) (λ_ _ _ _=>(qAj (i:=0) (by show (((["_law_to","_law_found"]:List Str))).Nodup;decide) rfl (Or.inl rfl))) (λ_ _ _ _ =>.cons (qAe (qVo K rfl) (pv 0) (pv 1) rfl) .nil) (λ_ _ _ _=>(pv 0)))))))))
   (qA6 (qA9 (qBp qCi (qA5 qJn (by rfl) nlen aU (qA0 (qAv (qPy hr.hd) (by rfl) nset PyProof.Rows.boot_set (qA0 (pv 3) pa_nil)) pa_nil)) (qA5 qA8 (by rfl) nlen aU (qA0 (pv 0) pa_nil)) (qAh _)))))))),?_⟩
  try dsimp only [qBm,qB5,qB0,qCj,qG9]
  walk_at "ri";refine⟨x,d,"list",rfl,hD,by decide,_,rfl,?_⟩;cases hk:qAr d "list" with
  | false =>
   have hq:workB works d=false:=by cases d <;> first | rfl | cases hk
   refine iteT (iteT ?_);walk_at "ri";rw [<-hq];exact q _ (.refl _ _)
  | true =>
   obtain⟨bs,rfl⟩:=qCm hk;obtain⟨a,vs,rfl,hL,hVs⟩:=hD.ofList;have hlen:=hVs.len;have hfew:=hFew bs rfl;obtain⟨hNl,hNm⟩:=qC1 hNar;refine iteF ?_;walk_at "ri";refine⟨len2 (aW _),λp hp=>?_⟩;have e1:Ext [] H (upd H p (.lst [])) :=.laid hp;have hp1:(upd H p (.lst [])) p=some (.lst []):=qA1;generalize upd H p (.lst [])=H1 at e1 hp1 ⊢;have hL1:=e1.toSame.seq hL;refine⟨a,p,vs,rfl,rfl,.inl ⟨hL1,SqL.of hp1⟩,?_⟩;by_cases hbs:bs = []
   ·subst hbs;have hv:=hVs.ofNil;subst hv;walk_at "ri";refine iteT ?_;walk_at "ri";exact q _ e1
   ·have hpos:1<=bs.length:=eW.mpr hbs;have hne:vs.isEmpty=false:=by
     cases vs with
     | nil=>simp at hlen;lia
     | cons _ _=>rfl
    have hemp:(!bs.isEmpty)=true:=by
     cases bs with
     | nil=>exact absurd rfl hbs
     | cons _ _=>rfl
    rw [hne];walk_at "ri";refine iteF ?_;walk_at "ri";refine⟨a,rfl,⟨_,hL1⟩,qEe (xs:=vs) (λj σ' G => ∃o2 o3 o4,σ' = [some (.ref a),some (.int works),o2,o3,o4]/\Ext [] H1 G/\(bs.take j).all (qBh bs.length works)=true) ?_ ?_ ?_ ?_⟩
    ·exact⟨_,_,_,rfl,.refl _ _,rfl⟩
    ·rintro j σ' G hj ⟨o2,o3,o4,rfl,e2,hA⟩;exact e2.toSame.seq hL1
    ·rintro j v σ' G hv ⟨o2,o3,o4,rfl,e2,hA⟩ N_ B_ C_ R_ hN_ hC_ hR_;obtain⟨d,hd,hDv⟩:=hVs.get hv;have hjl:j<bs.length:=(aE.mp hd).1;have hmem:=aP hd;have hNd:=hNm d hmem;have eG:=e1.trans e2;have hDv:=hDv.mono eG.toSame;have bad:qBh bs.length works d=false -> ∀G',Ext [] H G'->Q (.bl false) G':=λz G' e'=>by
      have:=q _ e';rw [qMt hmem z] at this;exact this
     walk_at "ri";refine⟨v,d,"tuple",rfl,hDv,by decide,_,rfl,?_⟩;cases hk2:qAr d "tuple" with
     | false =>
      refine iteT (iteT ?_);walk_at "ri";exact bad (qEg hk2) _ eG
     | true =>
      obtain⟨ds,rfl⟩:=qDt hk2;obtain⟨b,us,rfl,hT,hUs⟩:=hDv.ofTuple;have hul:=hUs.len;refine iteF ?_;walk_at "ri";refine qE9 hT ?_;walk_at "ri";refine qNo ?_;rw [hul];by_cases hl:ds.length=2
      ·obtain⟨d0,d1,rfl⟩:∃d0 d1,ds = [d0,d1]:=by
        match ds,hl with
        | [d0,d1],_=>exact⟨d0,d1,rfl⟩
       obtain⟨u0,us1,rfl,hu0,hU1⟩:=hUs.ofCons;obtain⟨u1,us2,rfl,hu1,hU2⟩:=hU1.ofCons;have hU2:=hU2.ofNil;subst hU2;rw [show (!decide ((([d0,d1].length:Nat):Int)=2))=false from rfl];refine⟨false,rfl,iteF ?_⟩;walk_at "ri";refine⟨u0,d0,"list",rfl,hu0,by decide,_,rfl,?_⟩;cases hk3:qAr d0 "list" with
       | false =>
        refine iteT ?_;walk_at "ri";exact bad (qF8 hk3) _ eG
       | true =>
        obtain⟨dl,rfl⟩:=qCm hk3;obtain⟨l,ls,rfl,hLl,hLs⟩:=hu0.ofList;obtain⟨_,hNt⟩:=qCr hNd;obtain⟨hNl1,hNm1⟩:=qC1 (hNt _ (bM ..));have hNe:=hNt d1 (by simp);have hll:=hLs.len;have hB:qBh bs.length works (.tuple [.list dl,d1])=(endB bs.length d1&&dl.all (deedB works)):=rfl;refine iteF ?_;walk_at "ri";refine⟨l,rfl,⟨_,hLl⟩,λlc hlc=>?_⟩;refine qC7 (xs:=ls) (λj σ' G' => ∃o0,σ' = [o0,some (.int works)]/\Ext [lc] G G'/\G' lc=some (.lst (((dl.take j).map (deedB works)).map V.bl))) ?_ ?_ ?_ ?_
        ·exact⟨none,rfl,.laid hlc,qA1⟩
        ·rintro j σ' G' hj ⟨o0,rfl,e3,hlc3⟩;exact (e3.drop hlc).toSame.seq hLl
        ·rintro j v σ' G' R hv ⟨o0,rfl,e3,hlc3⟩ hR;obtain⟨d,hd,hDv⟩:=hLs.get hv;have hjl:j<dl.length:=(aE.mp hd).1;have hmem:=aP hd;walk_at "ri";refine iteT ?_;walk_at "ri";refine⟨v,d,works,rfl,hDv.mono (e3.drop hlc).toSame,hNm1 d hmem,λH4 e4=>?_⟩;refine⟨_,e4 _ _ (by simp) hlc3,qAn (by simp;lia),hR _ _ ⟨_,rfl,(e3.trans (e4.mono (by simp))).trans (.put (by simp)),?_⟩⟩;rw [qA1,bQ,hd,aO,aO];rfl
        ·rintro σ' G' ⟨o0,rfl,e3,hlc3⟩;rw [aT (by lia)] at hlc3;have e4:=e3.drop hlc;walk_at "ri";refine qEa hlc3 ?_;rw [dS];rw [show (dl.all (id∘deedB works))=dl.all (deedB works) from rfl];cases hA2:dl.all (deedB works) with
         | false =>
          refine⟨false,rfl,iteT ?_⟩;walk_at "ri";exact bad (by rw [hB,hA2,Bool.and_false]) _ (eG.trans e4)
         | true =>
          refine⟨true,rfl,iteF ?_⟩;have hT4:=e4.toSame.seqT hT;walk_at "ri";refine⟨a,_,rfl,.inl ((e2.trans e4).toSame.seq hL1),?_⟩;rw [hlen];walk_at "ri";refine⟨u1,d1,bs.length,rfl,hu1.mono e4.toSame,hNe,λG5 e5=>?_⟩;cases hE:endB bs.length d1 with
          | false =>
           refine⟨false,rfl,iteT ?_⟩;walk_at "ri";exact bad (by rw [hB,hE,bP]) _ (eG.trans (e4.trans e5))
          | true =>
           refine⟨true,rfl,iteF ?_⟩;walk_at "ri";refine⟨_,_,_,rfl,e2.trans (e4.trans e5),?_⟩;rw [qCn hd,List.all_append,hA,bF];show (qBh bs.length works (.tuple [.list dl,d1])&&true)=true;rw [hB,hE,hA2];rfl
      ·rw [decide_eq_false (show ¬((ds.length:Int)=2) from λz=>hl (by lia))];refine⟨true,rfl,iteT ?_⟩;walk_at "ri";exact bad (qJp hl) _ eG
    ·rintro σ' G ⟨o2,o3,o4,rfl,e2,hA⟩;rw [aT (by lia)] at hA;obtain⟨wk,hwk,hns⟩:=qF3 hA;have hwl:wk.length=bs.length:=by rw [hwk,aC]
     have hns2:∀b∈wk,b.ns.length<=2:=λb hb=>(hns b hb).few;have hB:=qQ4 (works:=works) (wk:=wk) (by rw [hwl];exact hns);have few:∀y,(nxt wk y).length<=2:=λy=>by rw [<-qDr];exact (qOw hB y).few
     have hrg:∀y,(∃s ∈ [(0:Int)],Reach (nxt wk) s y)->0<=y/\y<(wk.length:Int):=by
      rintro y ⟨s,hs,r⟩;rw [aL.mp hs,<-qDr] at r;have:=r.range hB ⟨by lia,by lia⟩;lia
     rw [hwk] at hVs;have eG:=e1.trans e2;walk_at "ri";refine⟨len2 (by show 1<=1000;decide),λpf0 hpf0=>?_⟩;have e3:Ext [] H (upd G pf0 (.lst [.int 0])):=eG.trans (.laid hpf0);have hpf:(upd G pf0 (.lst [V.int 0])) pf0=some (.lst (([(0:Int)]).map V.int)):=qA1;generalize upd G pf0 (.lst [V.int 0])=G0 at e3 hpf ⊢;walk_at "ri";refine⟨a,vs,rfl,.inl (e3.toSame.seq hL),?_⟩;rw [hlen,<-hwl];walk_at "ri";refine⟨_,rfl,by lia,by lia,qC3 (lo:=0) (n:=(wk.length:Int).toNat) (λt σ' G1 => ∃(pf:Addr) (Fs:List Int) (o2 o4:Option V),σ' = [some (.ref a),some (.int works),o2,some (.ref pf),o4]/\Ext [] G0 G1/\G1 pf=some (.lst (Fs.map V.int))/\BehI (nxt wk) [0] wk.length Fs/\Lays (nxt wk) [0] t Fs) ?_ ?_ ?_⟩
     ·exact⟨pf0,[0],_,_,rfl,.refl _ _,hpf,.start _ _ _,.zero λ_ h=>h⟩
     ·rintro t σ' G1 ht ⟨pf,Fs,o2,o4,rfl,e4,hpf1,hI,hLy⟩ N_ B_ C_ R_ hN_ hC_ hR_;walk_at "ri";refine⟨pf,_,rfl,.inl (SqL.of hpf1),λls hls=>?_⟩;have e5:Ext [] G1 (upd G1 ls (.lst (Fs.map V.int))) :=.laid hls;have hls2:upd G1 ls (.lst (Fs.map V.int)) ls=some (.lst (Fs.map V.int)):=qA1;have hpf2:=e5 _ _ (by simp) hpf1;generalize upd G1 ls (.lst (Fs.map V.int))=G2 at e5 hls2 hpf2 ⊢;refine⟨ls,rfl,⟨_,SqL.of hls2⟩,qEe (xs:=Fs.map V.int) (λi σ' G3 => ∃(pf:Addr) (Fs':List Int) (o2:Option V),σ' = [some (.ref a),some (.int works),o2,some (.ref pf),some (.int (0+t))]/\Ext [] G2 G3/\G3 pf=some (.lst (Fs'.map V.int))/\BehI (nxt wk) [0] wk.length Fs'/\(∀y∈Fs,y∈Fs') /\ ∀b∈Fs.take i,∀c∈nxt wk b,c∈Fs') ?_ ?_ ?_ ?_⟩
      ·exact⟨pf,Fs,_,rfl,.refl _ _,hpf2,hI,λ_ h=>h,λb hb=>absurd hb (by simp)⟩
      ·rintro i σ' G3 hi ⟨pf,Fs',o2,rfl,e6,hpf3,hI3,hsub,hcl⟩;exact SqL.of (e6 _ _ (by simp) hls2)
      ·rintro i v σ' G3 hv ⟨pf,Fs',o2,rfl,e6,hpf3,hI3,hsub,hcl⟩ N_ B_ C_ R_ hN_ hC_ hR_;obtain⟨y,hy,rfl⟩:=qHv hv;have hyF:=aP hy;obtain⟨y0,y1⟩:=hrg y (hI.rk y hyF);have E3:=e3.trans (e4.trans (e5.trans e6));obtain⟨b,v1,e,wd,hat,hb,he⟩:=qW6 (hVs.mono E3.toSame) hns2 y0 y1;have hFl:=hI3.len;have hcn:=qGb (λx=>decide (x∈Fs')) wk.length;have hf:=few y;simp only [bX] at hFl;walk_at "ri";refine qB6 (E3.toSame.seq hL) hat ?_;walk_at "ri";refine⟨1,rfl,?_⟩;walk_at "ri";refine qEx he λpt hpt=>?_;have e7:Ext [] G3 (upd G3 pt (.tup ((nxt wk y).map V.int))) :=.laid hpt;have hpt1:(upd G3 pt (.tup ((nxt wk y).map V.int))) pt=some (.tup ((nxt wk y).map V.int)):=qA1;have hpf4:=e7 _ _ (by simp) hpf3
       generalize upd G3 pt (.tup ((nxt wk y).map V.int))=G4 at e7 hpt1 hpf4 ⊢;refine⟨pt,rfl,⟨_,SqT.of hpt1⟩,λlc hlc=>?_⟩;refine qFm (xs:=(nxt wk y).map V.int) (λk σ' H3 => ∃(o0:Option V),σ' = [o0,some (.ref pf)]/\Ext [lc] G4 H3/\H3 lc=some (.lst ((((nxt wk y).take k).filter λx => !decide (x∈Fs')).map V.int))) ?_ ?_ ?_ ?_
       ·exact⟨none,rfl,.laid hlc,qA1⟩
       ·rintro k σ' H3 hk ⟨o0,rfl,e8,h3⟩;exact SqT.of ((e8.drop hlc) _ _ (by simp) hpt1)
       ·rintro k v σ' H3 R hv ⟨o0,rfl,e8,h3⟩ hR;obtain⟨z,hz,rfl⟩:=qHv hv;have hk:k<(nxt wk y).length:=(aE.mp hz).1;walk_at "ri";refine qUw (SqL.of ((e8.drop hlc) _ _ (by simp) hpf4)) ?_;walk_at "ri";by_cases g2:z∈Fs'
        ·rw [decide_eq_true g2];refine iteF (iteF (hR _ _ ⟨_,rfl,e8,?_⟩));rw [qCn hz,List.filter_append];simpa [g2] using h3
        ·rw [decide_eq_false g2];refine iteT (iteT ?_);walk_at "ri";have hl3:((((nxt wk y).take k).filter λx => !decide (x∈Fs')).map V.int).length<=2:=by
          rw [aC];refine bC (List.length_filter_le _ _) ?_;rw [bD];lia
         refine⟨_,h3,qAn (by lia),hR _ _ ⟨_,rfl,e8.trans (.put (by simp)),?_⟩⟩;rw [qCn hz,List.filter_append,qA1];simp [g2]
       ·rintro σ' H3 ⟨o0,rfl,e8,h3⟩;rw [aC,eJ] at h3;have e8':=e8.drop hlc;have hfl:=List.length_filter_le (λx => !decide (x∈Fs')) (nxt wk y);refine⟨pf,lc,_,_,rfl,rfl,e8' _ _ (by simp) hpf4,h3,len2 (by rw [aC,aC];lia),λf1 hf1=>?_⟩;walk_at "ri";refine⟨f1,grow (nxt wk) Fs' y,_,rfl,e6.trans (e7.trans (e8'.trans (.laid hf1))),?_,hI3.grow (hsub y hyF) few hrg,λz hz=>mem_grow.mpr (.inl (hsub z hz)),λb hb c hc=>?_⟩
        ·rw [qA1];unfold grow;rw [aO]
        ·rw [qCn hy] at hb;rcases aS.mp hb with z | z
         ·exact mem_grow.mpr (.inl (hcl b z c hc))
         ·rw [aL.mp z] at hc;exact mem_grow.mpr (.inr hc)
      ·rintro σ' G3 ⟨pf,Fs',o2,rfl,e6,hpf3,hI3,hsub,hcl⟩;rw [aC,eJ] at hcl;walk_at "ri";exact⟨pf,Fs',_,_,rfl,e4.trans (e5.trans e6),hpf3,hI3,hLy.succ hsub hcl⟩
     ·rintro σ' G1 ⟨pf,Fs,o2,o4,rfl,e4,hpf1,hI,hLy⟩;rw [cG] at hLy;have hFl:=hI.len;have hcn:=qGb (λx=>decide (x∈Fs)) wk.length;have hal:=qH7 Fs;simp only [bX] at hFl;have E1:=e3.trans e4;walk_at "ri";refine⟨pf,Fs,rfl,SqL.of hpf1,by lia,λls hls=>?_⟩;walk_at "ri";refine⟨ls,qBd Fs,rfl,qA1,?_⟩;walk_at "ri";refine⟨a,vs,rfl,.inl ((E1.trans (.laid hls)).toSame.seq hL),?_⟩;refine qCv ?_;rw [hlen];have hbl:(bare wk).length=bs.length:=by unfold bare;rw [aC,hwl]
      have hcount:=qFv hB (by lia) (qJv Fs) (λy=>by rw [qMd,hLy.all hI hrg,qDr];simp);rw [qDr,hbl] at hcount;have hq:workB works (.list bs)=decide (((qBd Fs).length:Int)=(bs.length:Int)):=by
       refine qH8 hemp hA ?_;rw [show nxD bs=nxt wk by rw [hwk];exact qHt hns2,<-hcount];exact⟨λz=>by lia,λz=>by lia⟩
      rw [<-hq];exact q _ (E1.trans (.laid hls))
end
section
variable{P:Program}{w:World}{K:PySem.W.Frag}{mg:Str->Option Value}{base:Heap}
abbrev qEl:Stmt:=top 32
theorem qQj:FnScope ["_law_thing"] ["_law_thing"] (qA4 qEl):=⟨rfl,rfl,rfl,by decide +kernel,rfl,by decide +kernel,by decide +kernel⟩
theorem qOi{f:Addr}{fd:FuncData}(F:Fun K "_law_works_right" "_law_works_right" qEl f fd)(nisi:mg "isinstance" = none)(nlist:mg "list" = none)(nlen:mg "len" = none)(nall:mg "all" = none)(hWr:Has P w K mg base "_law_work_right" 3 ["_law_thing","_law_works_here"] (qC6 K)):FnOk P w K mg base CX0 4 f fd ["_law_thing"] (qBo K):=by
 refine F.ok qQj (λvs H Q E h=>?_) (λcdv A outer s H vs Q E hr h=>?_)
 ·obtain⟨x,d,rfl,_⟩:=h;rfl
 ·obtain⟨x,d,rfl,hD,hNar,hFew,q⟩:=h;have hu:=qCc hr
  refine⟨_,(qA3 (qBe (PW.pt (qE2 (qB9 (qAa K rfl (qA5 qAq (by rfl) nisi (by decide +kernel) (qA0 (pv 0) (qA0 (qAt (v :=.ty "list") rfl nlist aV rfl) pa_nil))) (λ_=>rfl))) (qCp (qAe (qOh (cS (cC _ 64) hr.units)) (pv 0) (qAk pa_nil) (qAh _))))) (qA6 (qA9 pe_bl)) qAf)
   (qA6 (qA9 (qA5 (qBy hr.hd) (by rfl) nall (by decide +kernel) (qA0 (qFc ["_law_work_here"] [0] rfl (.of rfl) (qCb (pv 0)) (λ_ _ _ _=>(qAj (i:=0) (by show (((["_law_work_here","_law_thing"]:List Str))).Nodup;decide) rfl (Or.inl rfl))) (λ_ _ _ _ =>.nil) (λ_ _ _ _=>(qAd hWr hr (by decide) (qA0 (pv 0) (qA0 (qA5 (qHw K rfl) (by rfl) nlen aU (qA0 (pv 1) pa_nil)) pa_nil))))) pa_nil))))),?_⟩
  try dsimp only [qBm,qB5,qB0,qCj,qG9]
  walk_at "ri";refine⟨x,d,"list",rfl,hD,by decide,_,rfl,?_⟩;cases hk:qAr d "list" with
  | false =>
   have hq:worksB d=false:=by cases d <;> first | rfl | cases hk
   refine iteT (iteT ?_);walk_at "ri";rw [<-hq];exact q _ (.refl _ _)
  | true =>
   obtain⟨ws,rfl⟩:=qCm hk;obtain⟨a,vs,rfl,hL,hVs⟩:=hD.ofList;have hlen:=hVs.len;obtain⟨hNl,hNm⟩:=qC1 hNar;have hq:worksB (.list ws)=(!ws.isEmpty&&ws.all (workB ws.length)):=rfl;refine iteF ?_;walk_at "ri";refine⟨len2 (aW _),λp hp=>?_⟩;have e1:Ext [] H (upd H p (.lst [])) :=.laid hp;have hp1:(upd H p (.lst [])) p=some (.lst []):=qA1;generalize upd H p (.lst [])=H1 at e1 hp1 ⊢;have hL1:=e1.toSame.seq hL;refine⟨a,p,vs,rfl,rfl,.inl ⟨hL1,SqL.of hp1⟩,?_⟩;cases ws with
   | nil =>
    have hv:=hVs.ofNil;subst hv;walk_at "ri";refine iteT ?_;walk_at "ri";exact q _ e1
   | cons w0 wr =>
    obtain⟨v0,vr,rfl,_,_⟩:=hVs.ofCons;have hq:worksB (.list (w0::wr))=(w0::wr).all (workB ((w0::wr).length:Int)):=hq;generalize hws:w0::wr=ws at *;walk_at "ri";refine iteF ?_;walk_at "ri";refine⟨a,rfl,⟨_,hL1⟩,λlc hlc=>?_⟩;refine qC7 (xs:=v0::vr) (λj σ' G => ∃o0,σ' = [o0,some (.ref a)]/\Ext [lc] H1 G/\G lc=some (.lst (((ws.take j).map (workB ws.length)).map V.bl))) ?_ ?_ ?_ ?_
    ·exact⟨none,rfl,.laid hlc,qA1⟩
    ·rintro j σ' G hj ⟨o0,rfl,e3,hlc3⟩;exact (e3.drop hlc).toSame.seq hL1
    ·rintro j v σ' G R hv ⟨o0,rfl,e3,hlc3⟩ hR;obtain⟨d,hd,hDv⟩:=hVs.get hv;have hjl:j<ws.length:=(aE.mp hd).1;have hmem:=aP hd;walk_at "ri";refine iteT ?_;walk_at "ri";refine⟨a,_,rfl,.inl ((e3.drop hlc).toSame.seq hL1),?_⟩;rw [hlen];walk_at "ri";refine⟨v,d,ws.length,rfl,hDv.mono (e1.trans (e3.drop hlc)).toSame,hNm d hmem,λbs hb=>hFew ws d bs rfl hmem hb,λH4 e4=>?_⟩;refine⟨_,e4 _ _ (by simp) hlc3,qAn (by simp;lia),hR _ _ ⟨_,rfl,(e3.trans (e4.mono (by simp))).trans (.put (by simp)),?_⟩⟩;rw [qA1,bQ,hd,aO,aO];rfl
    ·rintro σ' G ⟨o0,rfl,e3,hlc3⟩;rw [aT (by lia)] at hlc3;walk_at "ri";refine qEa hlc3 ?_;rw [dS];rw [show (ws.all (id∘workB ws.length))=worksB (.list ws) from hq.symm];exact q _ (e1.trans (e3.drop hlc))
end
section
variable{P:Program}{w:World}{K:PySem.W.Frag}{mg:Str->Option Value}{base:Heap}
abbrev qEs:Stmt:=top 37
theorem scLooked:FnScope ["_law_thing","_law_kept","_law_found","_law_one","_law_many_here"] ["_law_thing"] (qA4 qEs):=⟨rfl,rfl,rfl,by decide +kernel,rfl,by decide +kernel,by decide +kernel⟩
theorem qOq{f:Addr}{fd:FuncData}(F:Fun K "_law_looked_right" "_law_looked_right" qEs f fd)(nisi:mg "isinstance" = none)(nlist:mg "list" = none)(nbool:mg "bool" = none)(nrepr:mg "repr" = none)(hAw:Has P w K mg base "are_works" 7 ["thing"] (qBo K))(hWs:Has P w K mg base "_law_works_right" 4 ["_law_thing"] (qBo K))(hIw:Has P w K mg base "is_work" 6 ["thing","works"] (qC6 K))(hWr:Has P w K mg base "_law_work_right" 3 ["_law_thing","_law_works_here"] (qC6 K)):FnOk P w K mg base CX0 8 f fd ["_law_thing"] (qHi K):=by
 refine F.ok scLooked (λvs H Q E h=>?_) (λcdv A outer s H vs Q E hr h=>?_)
 ·obtain⟨x,d,rfl,_⟩:=h;rfl
 ·obtain⟨x,d,rfl,hD,hLook,q⟩:=h;have hu:=qCc hr
  refine⟨_,(qA3 (qEb (i:=1) (j:=2) rfl scLooked.nd rfl rfl (by decide) rfl rfl (qA0 (qA5 (qH6 hr) (by rfl) nrepr PyProof.Rows.boot_repr (qA0 (pv 0) pa_nil)) (qA0 (qAd hAw hr (by decide) (qA0 (pv 0) pa_nil)) pa_nil)) rfl)
   (qA3 (qBe (PW.pt (qE2 (qB9 (qAa K rfl (qA5 qAq (by rfl) nisi (by decide +kernel) (qA0 (pv 2) (qA0 (qAt (v :=.ty "bool") rfl nbool dA rfl) pa_nil))) (λ_=>rfl))) (qCp (qAe qJ0 (pv 2) (qAd hWs hr (by decide) (qA0 (pv 0) pa_nil)) (qAh _))))) (qA6 (qA9 pe_bl)) qAf)
   (qA3 (qBe (qAe qJ0 (qA5 (qH6 hr) (by rfl) nrepr PyProof.Rows.boot_repr (qA0 (pv 0) pa_nil)) (pv 1) (qAh _)) (qA6 (qA9 pe_bl)) qAf)
   (qA3 (qAo (i:=3) scLooked.nd rfl (Or.inl rfl) (qCf (PW.pt (qIp (qAa K rfl (qA5 qAq (by rfl) nisi (by decide +kernel) (qA0 (pv 0) (qA0 (qAt (v :=.ty "list") rfl nlist aV rfl) pa_nil))) (λ_=>rfl)) (qFx (qAe (qVi (cS (cC _ 64) hr.units)) (pv 0) (qAk pa_nil) (qAh _))))) (qAm qAi (pv 0) pe_int (λ_ _=>rfl)) (pv 0)))
   (qA3 (qCq bT rfl (qFz (qBw (qA0 pe_int (qA0 pe_int (qA0 pe_int (qA0 pe_int pa_nil)))))) (qAj (i:=4) scLooked.nd rfl (Or.inl rfl))
   (qA3 (qAo (i:=2) scLooked.nd rfl (Or.inl rfl) (qAd hIw hr (by decide) (qA0 (pv 3) (qA0 (pv 4) pa_nil))))
   (qA6 (qBe (PW.pt (qE2 (qB9 (qAa K rfl (qA5 qAq (by rfl) nisi (by decide +kernel) (qA0 (pv 2) (qA0 (qAt (v :=.ty "bool") rfl nbool dA rfl) pa_nil))) (λ_=>rfl))) (qCp (qAe qJ0 (pv 2) (qAd hWr hr (by decide) (qA0 (pv 3) (qA0 (pv 4) pa_nil))) (qAh _))))) (qA6 (qA9 pe_bl)) qAf))))
   (qA6 (qA9 pe_bl))))))),?_⟩
  try dsimp only [qBm,qB5,qB0,qCj,qG9]
  have hNar:=qD3 (by decide) hLook.wi;have sameB:∀b:Bool,(!decide (b=b))=false:=λb=>by rw [decide_eq_true rfl];rfl
  walk_at "ri";refine⟨x,d,rfl,hD,hLook.kd,hLook.sh,hLook.de,hLook.le,?_⟩;walk_at "ri";refine⟨x,d,rfl,hD,hNar,hLook.few,λH1 e1=>?_⟩;walk_at "ri";refine⟨_,_,rfl,?_⟩;walk_at "ri";refine⟨.bl (worksB d),.bool (worksB d),"bool",rfl,DenX.bool,by decide,_,rfl,?_⟩;rw [show qAr (.bool (worksB d)) "bool" = true from rfl];refine iteF ?_;walk_at "ri";refine⟨x,d,rfl,hD.mono e1.toSame,hNar,hLook.few,λH2 e2=>?_⟩;have e2:=e1.trans e2;refine qUx ?_;rw [sameB];refine⟨false,rfl,iteF ?_⟩;walk_at "ri";refine⟨x,d,rfl,hD.mono e2.toSame,hLook.kd,hLook.sh,hLook.de,hLook.le,?_⟩;walk_at "ri";refine qWh ?_;rw [decide_eq_true rfl];refine⟨_,rfl,iteF ?_⟩
  repeat (first | with_reducible refine qBq (by assumption) ?_ | with_reducible refine qIn ?_)
  with_reducible refine qSa (λσ' G => ∃(o:V) (d1:PyData) (o1 o2 o4:Option V),σ' = [some x,o1,o2,some o,o4]/\Ext [] H G/\DenX K G d1 o/\wide 20 d1=true) ?_ (λhC=>?_)
  ·rintro σ' G ⟨o,d1,o1,o2,o4,rfl,eG,hD1,hw1⟩;walk_at "ri";refine⟨len2 (by show 4<=1000;decide),λpt hpt=>?_⟩;have e4:Ext [] G (upd G pt (.tup [.int 1,.int 2,.int 3,.int 24])) :=.laid hpt;have hpt1:(upd G pt (.tup [V.int 1,V.int 2,V.int 3,V.int 24])) pt=some (.tup [.int 1,.int 2,.int 3,.int 24]):=qA1;generalize upd G pt (.tup [V.int 1,V.int 2,V.int 3,V.int 24])=G1 at e4 hpt1 ⊢;have hN1:=qD3 (by decide) hw1;have hf1:=qQf hw1;refine⟨pt,rfl,⟨_,SqT.of hpt1⟩,qI0 (xs :=[.int 1,.int 2,.int 3,.int 24]) (λj σ' G' => ∃o1 o2 o4:Option V,σ' = [some x,o1,o2,some o,o4]/\Ext [] G1 G') ?_ ?_ ?_ ?_⟩
   ·exact⟨_,_,_,rfl,.refl _ _⟩
   ·rintro j σ' G' hj ⟨o1,o2,o4,rfl,e5⟩;exact SqT.of (e5 _ _ (by simp) hpt1)
   ·rintro j v σ' G' hv ⟨o1,o2,o4,rfl,e5⟩ N_ B_ C_ R_ hN_ hC_ hR_;obtain⟨m,rfl⟩:∃m:Int,v = .int m:=by
     have:=aP hv;simp only [aN,bH,or_false] at this;rcases this with rfl | rfl | rfl | rfl <;> exact⟨_,rfl⟩
    have hD2:=hD1.mono (e4.trans e5).toSame;walk_at "ri";refine⟨o,d1,m,rfl,hD2,hN1,hf1,λG2 e6=>?_⟩;walk_at "ri";refine⟨.bl (workB m d1),.bool (workB m d1),"bool",rfl,DenX.bool,by decide,_,rfl,?_⟩;rw [show qAr (.bool (workB m d1)) "bool" = true from rfl];refine iteF ?_;walk_at "ri";refine⟨o,d1,m,rfl,hD2.mono e6.toSame,hN1,hf1,λG3 e7=>?_⟩;refine qUx ?_;rw [sameB];refine⟨false,rfl,iteF ?_⟩;walk_at "ri";exact⟨_,_,_,rfl,e5.trans (e6.trans e7)⟩
   ·rintro σ' G' ⟨o1,o2,o4,rfl,e5⟩;walk_at "ri";exact q _ (eG.trans (e4.trans e5))
  ·walk_at "ri";refine⟨x,d,"list",rfl,hD.mono e2.toSame,by decide,_,rfl,?_⟩;cases hk:qAr d "list" with
   | false =>
    refine iteF (iteF ?_)
    with_reducible refine qFw (by with_unfolding_all rfl) ?_
    with_reducible refine qId ?_
    exact hC _ _ ⟨x,d,_,_,_,rfl,e2,hD.mono e2.toSame,hLook.wi⟩
   | true =>
    obtain⟨ds,rfl⟩:=qCm hk;obtain⟨a,vs,rfl,hL,hVs⟩:=(hD.mono e2.toSame).ofList;refine iteT ?_;walk_at "ri";refine⟨len2 (aW _),λp hp=>?_⟩;have e3:Ext [] H2 (upd H2 p (.lst [])) :=.laid hp;have hp1:(upd H2 p (.lst [])) p=some (.lst []):=qA1;generalize upd H2 p (.lst [])=H3 at e3 hp1 ⊢;have hL3:=e3.toSame.seq hL;refine⟨a,p,vs,rfl,rfl,hL3,SqL.of hp1,?_⟩;have e3a:=e3;have e3:=e2.trans e3;cases ds with
    | nil =>
     have hv:=hVs.ofNil;subst hv;refine⟨false,rfl,iteF ?_⟩
     with_reducible refine qFw (by with_unfolding_all rfl) ?_
     with_reducible refine qId ?_
     exact hC _ _ ⟨_,_,_,_,_,rfl,e3,hD.mono e3.toSame,hLook.wi⟩
    | cons w0 wr =>
     obtain⟨v0,vr,rfl,h0,_⟩:=hVs.ofCons;refine⟨true,rfl,iteT ?_⟩
     with_reducible refine qWg ?_
     with_reducible refine qFw (by with_unfolding_all rfl) ?_
     with_reducible refine r_c ?_
     refine qB6 hL3 (qAw (j:=0) rfl) ?_
     with_reducible refine qId ?_
     refine hC _ _ ⟨v0,w0,_,_,_,rfl,e3,?_,(wide_list.mp hLook.wi).2 _ (bM ..)⟩;exact h0.mono e3a.toSame
end
section
variable{P:Program}{w:World}{K:PySem.W.Frag}{mg:Str->Option Value}{base:Heap}
abbrev sWith:Stmt:=top 34
theorem scWith:FnScope ["_law_thing","_law_path","_law_made","_law_parts"] ["_law_thing","_law_path","_law_made"] (qA4 sWith):=⟨rfl,rfl,rfl,by decide +kernel,rfl,by decide +kernel,by decide +kernel⟩
theorem qJ3{f:Addr}{fd:FuncData}(F:Fun K "_law_with" "_law_with" sWith f fd)(nisi:mg "isinstance" = none)(nlist:mg "list" = none)(ntuple:mg "tuple" = none)(nlen:mg "len" = none)(n:Nat)(hW:Has P w K mg base "_law_with" (n+1) ["_law_thing","_law_path","_law_made"] (qGn n K)):FnOk P w K mg base CX0 (n+2) f fd ["_law_thing","_law_path","_law_made"] (qGn (n+1) K):=by
 refine F.ok scWith (λvs H Q E h=>?_) (λcdv A outer s H vs Q E hr h=>?_)
 ·obtain⟨x,d,pp,mm,p,made,ms,e,H0,rfl,_⟩:=h;rfl
 ·obtain⟨x,d,pp,mm,p,made,ms,e,H0,rfl,hIn,hD,hP,hne,hpl,hsub,hmm,hM,hml,hwd,q⟩:=h;have hu:=qCc hr
  refine⟨_,(qA3 (qAo (i:=3) scWith.nd rfl (Or.inl rfl) (qAv qBs (by rfl) nlist aV (qA0 (pv 0) pa_nil)))
   (qA3 (qBe (qAe qCi (qA5 qA8 (by rfl) nlen aU (qA0 (pv 1) pa_nil)) pe_int (qAh _)) (qA6 (qIq (pv 2) (qVb (pv 3) (qAm qB1 (pv 1) pe_int (λ_ _=>rfl)) (qAl qAz (qAm qB1 (pv 1) pe_int (λ_ _=>rfl)) pe_int)))) (qA6 (qIq (qAd hW hr (by lia) (qA0 (qAm qLo (pv 0) (qAm qB1 (pv 1) pe_int (λ_ _=>rfl)) (λ_ _=>rfl)) (qA0 (qBn qE7 (pv 1) (qC9 pe_int) qCa) (qA0 (pv 2) pa_nil)))) (qO6 (pv 3) (qAm qB1 (pv 1) pe_int (λ_ _=>rfl)) qHk))))
   (qA6 (qA9 (qCf (qAa K rfl (qA5 qAq (by rfl) nisi (by decide +kernel) (qA0 (pv 0) (qA0 (qAt (v :=.ty "list") rfl nlist aV rfl) pa_nil))) (λ_=>rfl)) (pv 3) (qAv qJl (by rfl) ntuple cB (qA0 (pv 3) pa_nil))))))),?_⟩
  try dsimp only [qBm,qB5,qB0,qCj,qG9]
  cases p with
  | nil=>exact absurd rfl hne
  | cons k p =>
   obtain⟨ds,x1,g1,g2,g3⟩:=qB7 hsub;obtain⟨a,vs,rfl,hS,hVs⟩:=hD.parts g1;obtain⟨w1,w2⟩:=qCy hwd g1;have hk:=(aE.mp g2).1;have hlen:=hVs.len;have hMl:=hM.len;have hw:=qEi (p:=p) (made:=made) g1 g2;obtain⟨v1,hv1,hD1⟩:=hVs.at g2;walk_at "ri";refine⟨a,vs,rfl,hS.imp hIn.seq hIn.seqT,λl hl=>?_⟩;have h0l:H0 l=none:=by
    cases z:H0 l with
    | none=>rfl
    | some o=>have:=hIn _ _ z;rw [hl] at this;cases this
   have e1:Ext [] H (upd H l (.lst vs)) :=.laid hl;have hl1:(upd H l (.lst vs)) l=some (.lst vs):=qA1;have hnl:l≠mm:=λz=>by rw [z,hmm] at hl;cases hl
   generalize upd H l (.lst vs)=H1 at e1 hl1 ⊢
   with_reducible refine qId ?_
   with_reducible refine qBq (by assumption) ?_
   with_reducible refine qSa (λσ' G => σ' = [some (.ref a),some (.ref pp),some (.ref mm),some (.ref l)]/\Ext [] H G /\ ∃ws H0',Same H0 H0'/\Same H0' G/\(∀b o,H0' b=some o->H0 b=some o\/H b=none)/\H0' l=none/\G l=some (.lst ws)/\DenXs K H0' (ds.take k++(if p = [] then made else [withD x1 p made])++ds.drop (k+1)) ws) ?_ (λhC=>?_)
   ·rintro σ' G ⟨rfl,eG,ws,H0',s1,s2,s3,hl0,hlG,hWs⟩;have s4:Same H0 (upd H0' l (.lst ws)):=λb o z=>Same.upd1 hl0 _ _ (s1 _ _ z);have s5:∀b o,(upd H0' l (.lst ws)) b=some o->H0 b=some o\/H b=none:=λb o z=>by
     by_cases c:b=l
     ·subst c;exact .inr hl
     ·rw [qA7 c] at z;exact s3 _ _ z
    have s6:Same (upd H0' l (.lst ws)) G:=s2.upd2 hlG;have s7:=hWs.mono (Same.upd1 (o :=.lst ws) hl0);walk_at "ri";refine⟨.ref a,d,"list",rfl,hD.mono (λb o z=>eG.toSame _ _ (hIn _ _ z)),by decide,_,rfl,?_⟩;rcases qC0 g1 with rfl | rfl
    ·refine iteT ?_;walk_at "ri";refine q _ _ (upd H0' l (.lst ws)) eG s4 s6 s5 ?_;rw [hw];exact .list (SqL.of qA1) s7
    ·refine iteF ?_;walk_at "ri";refine⟨l,ws,rfl,SqL.of hlG,λt ht=>?_⟩;have h0t:(upd H0' l (.lst ws)) t=none:=by
      cases z:(upd H0' l (.lst ws)) t with
      | none=>rfl
      | some o=>have:=s6 _ _ z;rw [ht] at this;cases this
     refine q _ _ (upd (upd H0' l (.lst ws)) t (.tup ws)) (eG.trans (.laid ht)) (λb o z=>Same.upd1 h0t _ _ (s4 _ _ z)) (Same.upd2 (λb o z=>(Ext.laid (ts :=[]) ht).toSame _ _ (s6 _ _ z)) qA1) (λb o z=>?_) ?_
     ·by_cases c:b=t
      ·subst c;cases y:H b with
       | none=>exact .inr rfl
       | some u=>have:=eG.toSame _ _ y;rw [ht] at this;cases this
      ·rw [qA7 c] at z;exact s5 _ _ z
     rw [hw];exact .tuple (SqT.of qA1) (s7.mono (Same.upd1 h0t))
   ·have hP1:=e1.toSame.seqT hP;walk_at "ri";refine qE9 hP1 ?_;walk_at "ri";refine qCv ?_;rw [show ((pathV (k::p)).length:Int)=(p.length:Int)+1 by unfold pathV;simp];by_cases hp:p = []
    ·subst hp;rw [if_pos rfl] at hC;rw [show decide (((([]:List Nat).length:Int)+1)=1)=true from rfl];refine⟨_,rfl,iteT ?_⟩;walk_at "ri";refine qWk ?_;walk_at "ri";refine⟨l,mm,vs,ms,k,(k:Int)+1,rfl,rfl,rfl,rfl,hl1,e1 _ _ (by simp) hmm,hnl,by lia,by lia,by lia,len2 (by lia),?_⟩;have eG:Ext [] H (upd H1 l (.lst (vs.take (k:Int).toNat++ms++vs.drop ((k:Int)+1).toNat))):=((e1.mono (by simp):Ext [l] H H1).trans (.put (by simp))).drop hl;refine hC _ _ ⟨rfl,eG,_,H0,λ_ _ z=>z,λb o z=>eG.toSame _ _ (hIn _ _ z),λb o z =>.inl z,h0l,qA1,?_⟩;rw [cG,show ((k:Int)+1).toNat=k+1 by lia];exact ((hVs.take k).app hM).app (hVs.drop (k+1))
    ·have hp1:1<=p.length:=eW.mpr hp;rw [if_neg hp] at hC;rw [decide_eq_false (show ¬((p.length:Int)+1=1) from λz=>by lia)];refine⟨_,rfl,iteF ?_⟩;walk_at "ri";refine qGf hP1 (qLz k p) ?_;refine⟨a,vs,k,v1,rfl,rfl,hS.imp (λz=>e1.toSame.seq (hIn.seq z)) (λz=>e1.toSame.seqT (hIn.seqT z)),qAw hv1,?_⟩;walk_at "ri";refine⟨1,rfl,?_⟩;walk_at "ri";refine qEx (v :=.int (k:Int)) (xs:=pathV p) hP1 λp2 hp2=>?_;have e2b:Ext [] H1 (upd H1 p2 (.tup (pathV p))) :=.laid hp2;have hp21:(upd H1 p2 (.tup (pathV p))) p2=some (.tup (pathV p)):=qA1;generalize upd H1 p2 (.tup (pathV p))=H2 at e2b hp21 ⊢;have e2:=e1.trans e2b;have hl2:=e2b _ _ (by simp) hl1;walk_at "ri";refine⟨v1,x1,p2,mm,p,made,ms,e,H0,rfl,λb o z=>e2.toSame _ _ (hIn _ _ z),hD1,SqT.of hp21,hp,by simp only [bI] at hpl;lia,g3,e2 _ _ (by simp) hmm,hM,hml,w2 _ (aP g2),λr H3 H0' e3b s1 s2 s3 hR=>?_⟩
     have hl3:=e3b _ _ (by simp) hl2;have e3:=e2.trans e3b;have h0l':H0' l=none:=by
      cases z:H0' l with
      | none=>rfl
      | some o =>
       rcases s3 _ _ z with y | y
       ·rw [h0l] at y;cases y
       ·rw [hl2] at y;cases y
     walk_at "ri";refine qGf (e3.toSame.seqT hP) (qLz k p) ?_;refine⟨l,vs,k,k,rfl,rfl,hl3,qVw (by lia),?_⟩;have eG:Ext [] H (upd H3 l (.lst (vs.set k r))):=((e3.mono (by simp):Ext [l] H H3).trans (.put (by simp))).drop hl;have hs:vs.set k r=vs.take k ++ [r]++vs.drop (k+1):=by
      rw [List.set_eq_take_append_cons_drop,if_pos (by lia),List.append_assoc];rfl
     refine hC _ _ ⟨rfl,eG,_,H0',s1,λb o z=>?_,λb o z=>?_,h0l',qA1,?_⟩
     ·have c:b≠l:=λc=>by rw [c,h0l'] at z;cases z
      rw [qA7 c];exact s2 _ _ z
     ·rcases s3 _ _ z with y | y
      ·exact .inl y
      ·cases y2:H b with
       | none=>exact .inr rfl
       | some u=>have:=e2.toSame _ _ y2;rw [y] at this;cases this
     ·rw [hs];exact (((hVs.take k).mono s1).app (.cons hR .nil)).app ((hVs.drop (k+1)).mono s1)
end
section
variable{P:Program}{w:World}{K:PySem.W.Frag}{mg:Str->Option Value}{base:Heap}
abbrev qEq:Stmt:=top 33
theorem scPlaces:FnScope ["_law_thing","_law_found","_law_layer","_law_turn","_law_further","_law_path","_law_inner","_law_place"] ["_law_thing"] (qA4 qEq):=⟨rfl,rfl,rfl,by decide +kernel,rfl,by decide +kernel,by decide +kernel⟩
theorem qOo{f:Addr}{fd:FuncData}(F:Fun K "_law_places" "_law_places" qEq f fd)(nisi:mg "isinstance" = none)(nlist:mg "list" = none)(ntuple:mg "tuple" = none)(nlen:mg "len" = none)(nrange:mg "range" = none):FnOk P w K mg base CX0 1 f fd ["_law_thing"] (qHf K):=by
 refine F.ok scPlaces (λvs H Q E h=>?_) (λcdv A outer s H vs Q E hr h=>?_)
 ·obtain⟨x,d,ds,rfl,_⟩:=h;rfl
 ·obtain⟨x,d,ds,rfl,hD,hwd,hps,hne,q⟩:=h;have hu:=qCc hr
  refine⟨_,(qA3 (qEb (i:=1) (j:=2) rfl scPlaces.nd rfl rfl (by decide) rfl rfl (qA0 (qAk pa_nil) (qA0 (qAk (qA0 (qBw pa_nil) pa_nil)) pa_nil)) rfl)
   (qA3 (qCq bT rfl (qBv rfl nrange (qA0 pe_int pa_nil)) (qAj (i:=3) scPlaces.nd rfl (Or.inl rfl))
   (qA3 (qAo (i:=4) scPlaces.nd rfl (Or.inl rfl) (qAk pa_nil))
   (qA3 (qCq bT rfl (qCb (pv 2)) (qAj (i:=5) scPlaces.nd rfl (Or.inr rfl))
   (qA3 (qAo (i:=6) scPlaces.nd rfl (Or.inl rfl) (pv 0))
   (qA3 (qCq bT rfl (qFz (pv 5)) (qAj (i:=7) scPlaces.nd rfl (Or.inl rfl))
   (qA6 (qAo (i:=6) scPlaces.nd rfl (Or.inl rfl) (qAm qLo (pv 6) (pv 7) (λ_ _=>rfl)))))
   (qA6 (qBe (qAa K rfl (qA5 qJo (by rfl) nisi (by decide +kernel) (qA0 (pv 6) (qA0 (qBw (qA0 (qAt (v :=.ty "list") rfl nlist aV rfl) (qA0 (qAt (v :=.ty "tuple") rfl ntuple cB rfl) pa_nil))) pa_nil))) (λ_=>rfl)) (qA6 (qAo (i:=4) scPlaces.nd rfl (Or.inl rfl) (qAl qJ2 (pv 4) (qFc ["_law_place"] [5] rfl (.of rfl) (qBv rfl nrange (qA0 (qA5 qA8 (by rfl) nlen aU (qA0 (pv 6) pa_nil)) pa_nil)) (λ_ _ _ _=>(qAj (i:=0) (by show (((["_law_place","_law_path"]:List Str))).Nodup;decide) rfl (Or.inl rfl))) (λ_ _ _ _ =>.nil) (λ_ _ _ _=>(qAl (catAK K rfl) (pv 1) (qBw (qA0 (pv 0) pa_nil)))))))) qAf)))))
   (qA6 (qEb (i:=1) (j:=2) rfl scPlaces.nd rfl rfl (by decide) rfl rfl (qA0 (qAl qJ2 (pv 1) (pv 4)) (qA0 (pv 4) pa_nil)) rfl)))))
   (qA6 (qA9 (pv 1))))),?_⟩
  try dsimp only [qBm,qB5,qB0,qCj,qG9]
  walk_at "ri";refine⟨len2 (aW _),λlf0 hlf0=>?_⟩;have e0:Ext [] H (upd H lf0 (.lst [])) :=.laid hlf0;have hlf:(upd H lf0 (.lst [])) lf0=some (.lst []):=qA1;generalize upd H lf0 (.lst [])=Ha at e0 hlf ⊢;walk_at "ri";refine⟨len2 (aW _),λt0 ht0=>?_⟩;have e1:Ext [] Ha (upd Ha t0 (.tup [])) :=.laid ht0;have ht1:(upd Ha t0 (.tup [])) t0=some (.tup (pathV [])):=qA1;generalize upd Ha t0 (.tup [])=Hb at e1 ht1 ⊢;walk_at "ri";refine⟨len2 (by show 1<=1000;decide),λll0 hll0=>?_⟩;have e2:Ext [] Hb (upd Hb ll0 (.lst [.ref t0])) :=.laid hll0;have hll:(upd Hb ll0 (.lst [V.ref t0])) ll0=some (.lst [.ref t0]):=qA1;generalize upd Hb ll0 (.lst [V.ref t0])=Hc at e2 hll ⊢;have E2:=e0.trans (e1.trans e2)
  walk_at "ri";refine⟨_,_,rfl,?_⟩;walk_at "ri";refine⟨_,rfl,by lia,by lia,qC3 (lo:=0) (n:=6) (λt σ' G => ∃(lf ll:Addr) (fs ls:List V) (o3 o4 o5 o6 o7:Option V),σ' = [some x,some (.ref lf),some (.ref ll),o3,o4,o5,o6,o7]/\Ext [] Hc G/\G lf=some (.lst fs)/\G ll=some (.lst ls)/\PathsTo G d t fs/\PathsIn G d t ls/\ls.length<=pow12 t/\fs.length<=sum12 t/\(1<=t->fs ≠ [])/\(t=0->ls ≠ [])) ?_ ?_ ?_⟩
  ·refine⟨lf0,ll0,[],[.ref t0],_,_,_,_,_,rfl,.refl _ _,(e1.trans e2) _ _ (by simp) hlf,hll,λv hv=>absurd hv (by simp),λv hv=>?_,by show 1<=1;lia,aW _,λz=>by lia,λ_=>by simp⟩;rw [aL.mp hv];exact⟨t0,[],d,rfl,e2 _ _ (by simp) ht1,rfl,rfl⟩
  ·rintro t σ' G ht ⟨lf,ll,fs,ls,o3,o4,o5,o6,o7,rfl,eG,hlfG,hllG,hTo,hIn,hlsl,hfsl,hfne,hlne⟩ N_ B_ C_ R_ hN_ hC_ hR_;have hp12:=qLd (t:=t) (by lia);have hp12':=qLd (t:=t+1) (by lia);have hs12:=qL4 (t:=t) (by lia);have hpe:pow12 (t+1)=12*pow12 t:=rfl;have hse:sum12 (t+1)=sum12 t+pow12 (t+1):=rfl;walk_at "ri";refine⟨len2 (aW _),λlw0 hlw0=>?_⟩;have e3:Ext [] G (upd G lw0 (.lst [])) :=.laid hlw0;have hlw:(upd G lw0 (.lst [])) lw0=some (.lst []):=qA1;generalize upd G lw0 (.lst [])=G0 at e3 hlw ⊢;walk_at "ri";refine⟨ll,rfl,⟨_,SqL.of (e3 _ _ (by simp) hllG)⟩,qEe (xs:=ls) (λi σ' G1 => ∃(lw:Addr) (ws:List V) (o5 o6 o7:Option V),σ' = [some x,some (.ref lf),some (.ref ll),some (.int (0+t)),some (.ref lw),o5,o6,o7]/\Ext [] G0 G1/\G1 lw=some (.lst ws)/\PathsIn G1 d (t+1) ws/\ws.length<=12*i/\(t=0->1<=i->ws ≠ [])) ?_ ?_ ?_ ?_⟩
   ·exact⟨lw0,[],_,_,_,rfl,.refl _ _,hlw,λv hv=>absurd hv (by simp),aW _,λ_ z=>by lia⟩
   ·rintro i σ' G1 hi ⟨lw,ws,o5,o6,o7,rfl,e4,hlw1,hws,hwl,hwn⟩;exact SqL.of ((e3.trans e4) _ _ (by simp) hllG)
   ·rintro i v σ' G1 hv ⟨lw,ws,o5,o6,o7,rfl,e4,hlw1,hws,hwl,hwn⟩ N_ B_ C_ R_ hN_ hC_ hR_;obtain⟨pa,p,e,rfl,hpa,hplen,hsub⟩:=hIn v (aP hv);have hil:i<ls.length:=(aE.mp hv).1;have E1:Ext [] H G1:=E2.trans (eG.trans (e3.trans e4));have hpa1:=(e3.trans e4) _ _ (by simp) hpa;walk_at "ri";refine⟨pa,rfl,⟨_,SqT.of hpa1⟩,qI0 (xs:=pathV p) (λj σ' G2 => ∃(vi:V) (m:PyData) (o7:Option V),σ' = [some x,some (.ref lf),some (.ref ll),some (.int (0+t)),some (.ref lw),some (.ref pa),some vi,o7]/\G2=G1/\DenX K G1 m vi/\subD d (p.take j)=some m/\subD m (p.drop j)=some e) ?_ ?_ ?_ ?_⟩
    ·exact⟨x,d,_,rfl,rfl,hD.mono E1.toSame,by rw [eK];rfl,by rw [List.drop_zero];exact hsub⟩
    ·rintro j σ' G2 hj ⟨vi,m,o7,rfl,rfl,hm,hs1,hs2⟩;exact SqT.of hpa1
    ·rintro j v σ' G2 hv ⟨vi,m,o7,rfl,rfl,hm,hs1,hs2⟩ N_ B_ C_ R_ hN_ hC_ hR_;obtain⟨k,hk,rfl⟩:=qIw hv;rw [qLq hk] at hs2;obtain⟨es,y,g1,g2,g3⟩:=qB7 hs2;obtain⟨ai,vsi,rfl,hS,hVs⟩:=hm.parts g1;obtain⟨vy,hvy,hDy⟩:=hVs.at g2;walk_at "ri";refine⟨ai,vsi,k,vy,rfl,rfl,hS,qAw hvy,?_⟩;walk_at "ri";refine⟨vy,y,_,rfl,rfl,hDy,?_,g3⟩;rw [qCn hk];exact qDk hs1 g1 g2
    ·rintro σ' G2 ⟨vi,m,o7,rfl,rfl,hm,hs1,hs2⟩;have hpl:(pathV p).length=p.length:=by unfold pathV;rw [aC]
     rw [hpl,List.drop_length] at hs2;have hs2:m=e:=bG hs2;subst hs2;walk_at "ri";refine⟨len2 (by show 2<=1000;decide),λpt hpt=>?_⟩;have e5:Ext [] G2 (upd G2 pt (.tup [.ty "list",.ty "tuple"])) :=.laid hpt;have hpt1:(upd G2 pt (.tup [V.ty "list",V.ty "tuple"])) pt=some (.tup [.ty "list",.ty "tuple"]):=qA1;generalize upd G2 pt (.tup [V.ty "list",V.ty "tuple"])=G3 at e5 hpt1 ⊢;walk_at "ri";refine⟨vi,m,pt,"list","tuple",rfl,hm.mono e5.toSame,SqT.of hpt1,by decide,by decide,?_⟩;have h00:t=0->d=m:=λz=>by
      have hp0:p = []:=eC.mp (by lia);rw [hp0] at hs1;simpa [subD] using hs1
     cases hps2:qB3 m with
     | none =>
      rw [qLj hps2];refine⟨false,rfl,iteF ?_⟩;walk_at "ri";refine⟨lw,ws,_,_,_,rfl,e4.trans e5,e5 _ _ (by simp) hlw1,hws.mono e5.toSame,by lia,λz1 z2=>?_⟩;rw [<-h00 z1,hps] at hps2;cases hps2
     | some es =>
      rw [qIx hps2];refine⟨true,rfl,iteT ?_⟩;obtain⟨ai,vsi,rfl,hS,hVs⟩:=(hm.mono e5.toSame).parts hps2;have hvl:=hVs.len;obtain⟨hw1,hw2⟩:=qCy (qH9 hs1 hwd) hps2;walk_at "ri";refine⟨ai,vsi,rfl,hS,?_⟩;rw [hvl];walk_at "ri";refine⟨_,rfl,by lia,by lia,λlc hlc=>?_⟩;have hpa3:=e5 _ _ (by simp) hpa1;have hsm:subD d p=some m:=hsub;refine qGz (lo:=0) (n:=(es.length:Int).toNat) (λk σ' G4 => ∃(o0:Option V) (us:List V),σ' = [o0,some (.ref pa)]/\Ext [lc] G3 G4/\G4 lc=some (.lst us)/\us.length=k/\PathsIn G4 d (t+1) us) ?_ ?_ ?_
      ·exact⟨none,[],rfl,.laid hlc,qA1,rfl,λv hv=>absurd hv (by simp)⟩
      ·rintro k σ' G4 R hk ⟨o0,us,rfl,e6,hlc4,hul,hus⟩ hR;have hpa4:=(e6.drop hlc) _ _ (by simp) hpa3;have hke:k<es.length:=by lia
       walk_at "ri";refine iteT ?_;walk_at "ri";refine⟨len2 (by show 1<=1000;decide),λb hb=>?_⟩;have e7:Ext [] G4 (upd G4 b (.tup [.int (0+(k:Int))])) :=.laid hb;have hb1:(upd G4 b (.tup [V.int (0+(k:Int))])) b=some (.tup [.int (0+(k:Int))]):=qA1;generalize upd G4 b (.tup [V.int (0+(k:Int))])=G5 at e7 hb1 ⊢;walk_at "ri";refine⟨pa,b,pathV p,[.int (0+(k:Int))],rfl,rfl,SqT.of (e7 _ _ (by simp) hpa4),hb1,by simp,len2 (by unfold pathV;simp only [aC,bX];lia),λr G6 e8 hr6=>?_⟩;have e78:=e7.trans e8;have hlc6:=e78 _ _ (by simp) hlc4;rw [Int.zero_add,qIv] at hr6;have hnew:PathsIn G6 d (t+1) [.ref r]:=λv hv=>by
        rw [aL.mp hv];exact⟨r,p ++ [k],es[k],rfl,hr6,by rw [aK,hplen];rfl,qDk hsm hps2 (aJ hke)⟩
       refine⟨_,hlc6,qAn (by lia),hR _ _ ⟨_,us ++ [.ref r],rfl,(e6.trans (e78.mono (by simp))).trans (.put (by simp)),qA1,by simp [hul],?_⟩⟩;exact ((hus.mono e78.toSame).app hnew).beside hlc6
      ·rintro σ' G4 ⟨o0,us,rfl,e6,hlc4,hul,hus⟩;have e6':=e6.drop hlc;have hlw4:=e6' _ _ (by simp) (e5 _ _ (by simp) hlw1);have hul:us.length=es.length:=by lia
       refine⟨lw,lc,ws,us,rfl,rfl,hlw4,hlc4,lenS (by lia),λf1 hf1=>?_⟩;have e9:Ext [] G4 (upd G4 f1 (.lst (ws++us))) :=.laid hf1;walk_at "ri";refine⟨f1,ws++us,_,_,_,rfl,e4.trans (e5.trans (e6'.trans e9)),qA1,((hws.mono (e5.trans e6').toSame).app hus).mono e9.toSame,by rw [aK];lia,λz1 z2 z3=>?_⟩;obtain⟨_,z4⟩:=List.append_eq_nil_iff.mp z3;rw [<-h00 z1,hps] at hps2;cases hps2;exact hne (eC.mp (by rw [<-hul,z4];rfl))
   ·rintro σ' G1 ⟨lw,ws,o5,o6,o7,rfl,e4,hlw1,hws,hwl,hwn⟩;walk_at "ri";have hw12:ws.length<=12*pow12 t:=bC hwl (Nat.mul_le_mul_left 12 hlsl);refine⟨lf,lw,fs,ws,rfl,rfl,(e3.trans e4) _ _ (by simp) hlfG,hlw1,lenS (by lia),λf1 hf1=>?_⟩;have e5:Ext [] G1 (upd G1 f1 (.lst (fs++ws))) :=.laid hf1;walk_at "ri";refine⟨_,_,rfl,?_⟩;walk_at "ri";refine⟨f1,lw,fs++ws,ws,_,_,_,_,_,rfl,eG.trans (e3.trans (e4.trans e5)),qA1,e5 _ _ (by simp) hlw1,(hTo.mono ((e3.trans e4).trans e5).toSame (by lia)).app (hws.mono e5.toSame).to,hws.mono e5.toSame,by lia,by rw [aK];lia,λ_=>?_,λz=>by lia⟩;intro z;obtain⟨z1,z2⟩:=List.append_eq_nil_iff.mp z;by_cases c:t=0
    ·exact hwn c (eW.mpr (hlne c)) z2
    ·exact hfne (by lia) z1
  ·rintro σ' G ⟨lf,ll,fs,ls,o3,o4,o5,o6,o7,rfl,eG,hlfG,hllG,hTo,hIn,hlsl,hfsl,hfne,hlne⟩;have hs12:=qL4 (t:=6) (by lia);walk_at "ri";exact q _ _ _ (E2.trans eG) hlfG (hfne (by lia)) (by lia) hTo
end
section
variable{P:Program}{w:World}{K:PySem.W.Frag}{mg:Str->Option Value}{base:Heap}
abbrev sBent:Stmt:=top 35
theorem scBent:FnScope ["_law_tape_here","_law_thing","_law_way","_law_number_here","_law_odd"] ["_law_tape_here","_law_thing"] (qA4 sBent):=⟨rfl,rfl,rfl,by decide +kernel,rfl,by decide +kernel,by decide +kernel⟩
theorem qTu{f:Addr}{fd:FuncData}(F:Fun K "_law_bent" "_law_bent" sBent f fd)(nisi:mg "isinstance" = none)(nlist:mg "list" = none)(ntuple:mg "tuple" = none)(nstr:mg "str" = none)(hDr:Has P w K mg base "_law_draw" 1 ["_law_tape_here","_law_many_here"] qD0):FnOk P w K mg base CX0 2 f fd ["_law_tape_here","_law_thing"] (qN9 K):=by
 refine F.ok scBent (λvs H Q E h=>?_) (λcdv A outer s H vs Q E hr h=>?_)
 ·obtain⟨t,k,x,d,n,W,D,rfl,_⟩:=h;rfl
 ·obtain⟨t,k,x,d,n,W,D,rfl,hT,hk,hD,hPl,hOk,hn5,hn1,hW,hD8,q⟩:=h;have hu:=qCc hr
  refine⟨_,(PSsx.h (qBa (psx (qEb (i:=2) (j:=3) rfl scBent.nd rfl rfl (by decide) rfl rfl (paC (qAd hDr hr (by decide) (paN (pv 0) (paK pe_int pa_nil))) (paC (qAd hDr hr (by decide) (paN (pv 0) (paK pe_int pa_nil))) pa_nil)) rfl))
   (qBa (qFy (qAe qCi (qAd hDr hr (by decide) (paN (pv 0) (paK pe_int pa_nil))) pe_int (qAh _)) (qBa (qLc (i:=4) scBent.nd rfl (Or.inl rfl) (qTf (K:=K)))
   (qBu (qKa (qOa (qAe qHs (pv 3) pe_int (qAh _)) (pex (qAm qAi (pv 4) (pv 3) (λ_ _=>rfl))) (qO9 qAi (qQz (K:=K)) (qAl qF6 (pv 3) pe_int) (λ_ _=>rfl)))))) qAf)
   (qBa (qFy (qAa K rfl (qA5 qJo (by rfl) nisi (by decide +kernel) (paN (pv 1) (paT (qBw (paN (qAt (v :=.ty "list") rfl nlist aV rfl) (paN (qAt (v :=.ty "tuple") rfl ntuple cB rfl) pa_nil))) pa_nil))) (λ_=>rfl)) (qBu (psx (qA9 (qAm qAi (qAk (paC (qAv qBs (by rfl) nlist aV (paN (pv 1) pa_nil)) (paC (qAv qPw (by rfl) ntuple cB (paN (pv 1) pa_nil)) (paS (qBn qS7 (pv 1) qCa (qC9 (qIu qF4 pe_int))) (paS (qBn qS7 (pv 1) (qC9 pe_int) qCa) (paS (qVd (pv 1) (qIu qF4 pe_int)) pa_nil)))))) (pv 2) (λ_ _=>rfl))))) qAf)
   (qBa (qFy (qAa K rfl (qA5 qAq (by rfl) nisi (by decide +kernel) (paN (pv 1) (paN (qAt (v :=.ty "str") rfl nstr PyProof.Rows.boot_str rfl) pa_nil))) (λ_=>rfl)) (qBu (qKa (qO9 qAi (qO7 (K:=K)) (qAl qDg (pv 3) pe_int) (λ_ _=>rfl)))) qAf)
   (qBu (qKa (pex (qAm qAi (qAk (paB (qAl qAz (pv 1) pe_int) (paB (qAl qF6 (pv 1) pe_int) (paN (pv 3) (paB (qAl qF6 pe_int (pv 3)) (paSx (qO9 qAi (qQy (K:=K)) (qAl qDg (pv 3) pe_int) (λ_ _=>rfl)) pa_nil)))))) (pv 2) (λ_ _=>rfl)))))))))),?_⟩
  try dsimp only [qBm,qB5,qB0,qCj,qG9]
  walk_at "ri";refine qAx hT (by lia) (by decide) (by decide) λwy H1 wy0 wy1 T1 e1 _=>?_;walk_at "ri";refine qAx T1 (by lia) (by decide) (by decide) λnr H2 nr0 nr1 T2 e2 _=>?_;walk_at "ri";refine⟨_,_,rfl,?_⟩;walk_at "ri";refine qAx T2 (by lia) (by decide) (by decide) λc H3 c0 c1 T3 e3 _=>?_;have e3:Ext [t] H H3:=e1.trans (e2.trans e3);clear T1 T2 e1 e2;walk_at "ri";refine qCv ?_;have fin:∀(r:V) (d':PyData) (H':Hp),Ext [] H3 H'->DenX K (wo [t] H') d' r->BentOk n W D d'->Q r H':=λr d' H' e hd hb=>q r d' H' (T3.same e.toSame) (e3.trans (e.mono (by simp))) hd hb;by_cases hc:c=0
  ·rw [decide_eq_true hc];refine⟨_,rfl,iteT ?_⟩;walk_at "ri";refine λos G4 e4 d4=>⟨len2 (by rw [d4.len];decide),λlo hlo=>?_⟩;have dO:=d4.mono (qFd T3 (Ext.laid (o :=.lst os) hlo));have e5:Ext [] H3 (upd G4 lo (.lst os)):=e4.trans (.laid hlo);have hlo5:(upd G4 lo (.lst os)) lo=some (.lst os):=qA1;generalize upd G4 lo (.lst os)=G5 at dO e5 hlo5 ⊢;walk_at "ri";by_cases h12:nr<12
   ·rw [decide_eq_true h12];refine iteT ?_;obtain⟨d',v,hm,hv,hd⟩:=dO.pick nr0 h12;walk_at "ri";refine qB6 (SqL.of hlo5) hv ?_;walk_at "ri";exact fin v d' _ e5 hd ((qVm d' hm).mono hn5 hW hD8)
   ·rw [decide_eq_false h12];refine iteF ?_;walk_at "ri";refine λos2 G6 e6 d6=>⟨len2 (by rw [d6.len];decide),λl2 hl2=>?_⟩;have dO2:=d6.mono (qFd (T3.same e5.toSame) (Ext.laid (o :=.lst os2) hl2));have e7:Ext [] H3 (upd G6 l2 (.lst os2)):=e5.trans (e6.trans (.laid hl2));have hl7:(upd G6 l2 (.lst os2)) l2=some (.lst os2):=qA1;generalize upd G6 l2 (.lst os2)=G7 at dO2 e7 hl7 ⊢;walk_at "ri";obtain⟨d',v,hm,hv,hd⟩:=dO2.pick (i:=nr - 12) (by lia) (by show nr - 12<2;lia);refine qB6 (SqL.of hl7) hv ?_;walk_at "ri";exact fin v d' _ e7 hd ((qUf d' hm).mono hn5 hW hD8)
  ·rw [decide_eq_false hc];refine⟨_,rfl,iteF ?_⟩;have hD3:=hD.mono e3.same;walk_at "ri";refine⟨len2 (by show 2<=1000;decide),λpt hpt=>?_⟩;have e4:Ext [] H3 (upd H3 pt (.tup [.ty "list",.ty "tuple"])) :=.laid hpt;have hpt1:(upd H3 pt (.tup [V.ty "list",V.ty "tuple"])) pt=some (.tup [.ty "list",.ty "tuple"]):=qA1;generalize upd H3 pt (.tup [V.ty "list",V.ty "tuple"])=G4 at e4 hpt1 ⊢;have T4:=T3.same e4.toSame;have hD4:=hD3.mono (e4.mono (us :=[t]) (by simp)).same;walk_at "ri";refine⟨x,d,pt,"list","tuple",rfl,hD4.mono (qAs _ _),SqT.of hpt1,by decide,by decide,?_⟩;cases hps:qB3 d with
   | some ds =>
    rw [qIx hps];refine⟨true,rfl,iteT ?_⟩;obtain⟨a,vs,rfl,hSq,hVs⟩:∃a vs,x = .ref a/\((SqL K (wo [t] G4) a vs/\True)\/(SqT K (wo [t] G4) a vs/\vs ≠ []))/\DenXs K (wo [t] G4) ds vs:=by
     rcases qC0 hps with rfl | rfl
     ·obtain⟨a,vs,rfl,h1,h2⟩:=hD4.ofList;exact⟨a,vs,rfl,.inl ⟨h1,trivial⟩,h2⟩
     ·obtain⟨a,vs,rfl,h1,h2⟩:=hD4.ofTuple;refine⟨a,vs,rfl,.inr ⟨h1,λz=>?_⟩,h2⟩;rcases hPl with ⟨_,h⟩ | ⟨es',h,hne⟩ | ⟨_,h⟩ | ⟨_,h,_⟩
      ·cases h
      ·cases h;rw [z] at h2;exact hne (eC.mp h2.len.symm)
      ·cases h
      ·cases h
    have hS:SqL K (wo [t] G4) a vs\/SqT K (wo [t] G4) a vs:=hSq.imp And.left And.left;have hSn:∀ {G},Same (wo [t] G4) (wo [t] G)->((SqL K (wo [t] G) a vs/\True)\/(SqT K (wo [t] G) a vs/\vs ≠ [])):=λm=>hSq.imp (λh=>⟨m.seq h.1,trivial⟩) λh=>⟨m.seqT h.1,h.2⟩;walk_at "ri";refine⟨a,vs,rfl,hS.imp (qAs _ _).seq (qAs _ _).seqT,λl1 hl1=>?_⟩;have d1:=qKh T4 hl1 hVs;have e5:Ext [] G4 (upd G4 l1 (.lst vs)) :=.laid hl1;generalize upd G4 l1 (.lst vs)=G5 at d1 e5 ⊢;have T5:=T4.same e5.toSame;have m5:=(e5.mono (us :=[t]) (by simp)).same;walk_at "ri";refine qWt T5 (hS.imp m5.seq m5.seqT) (hVs.mono m5) λr2 G6 e6 d2=>?_;have T6:=T5.same e6.toSame;have m6:=(e6.mono (us :=[t]) (by simp)).same;have hV6:=(hVs.mono m5).mono m6
    walk_at "ri";refine⟨-1,rfl,?_⟩;refine qVz T6 (hSn (λb o z=>m6 b o (m5 b o z))) hV6 hOk hps qLt λr3 d3' G7 e7 d3 b3=>?_;have T7:=T6.same e7.toSame;have m7:=(e7.mono (us :=[t]) (by simp)).same;walk_at "ri";refine⟨1,rfl,?_⟩;refine qVz T7 (hSn (λb o z=>m7 b o (m6 b o (m5 b o z)))) (hV6.mono m7) hOk hps qPs λr4 d4' G8 e8 d4 b4=>?_;have T8:=T7.same e8.toSame;have m8:=(e8.mono (us :=[t]) (by simp)).same;walk_at "ri";refine qWd ?_;walk_at "ri";refine⟨rfl,?_⟩;refine qWu T8 (hS.imp (λh=>m8.seq (m7.seq (m6.seq (m5.seq h)))) λh=>m8.seqT (m7.seqT (m6.seqT (m5.seqT h)))) ((hV6.mono m7).mono m8) hOk hps λr5 d5' G9 e9 d5 b5=>?_;have m9:=(e9.mono (us :=[t]) (by simp)).same;walk_at "ri";refine⟨len2 (by show 5<=1000;decide),λpl hpl=>?_⟩
    have e10:Ext [] G9 (upd G9 pl (.lst [.ref l1,r2,r3,r4,r5])) :=.laid hpl;have hpl1:(upd G9 pl (.lst [.ref l1,r2,r3,r4,r5])) pl=some (.lst [.ref l1,r2,r3,r4,r5]):=qA1;generalize upd G9 pl (.lst [.ref l1,r2,r3,r4,r5])=GA at e10 hpl1 ⊢;have mA:=(e10.mono (us :=[t]) (by simp)).same;have eA:Ext [] H3 GA:=e4.trans (e5.trans (e6.trans (e7.trans (e8.trans (e9.trans e10)))));walk_at "ri";have hwy:wy=0\/wy=1\/wy=2\/wy=3\/wy=4:=by lia
    rcases hwy with rfl | rfl | rfl | rfl | rfl
    ·refine qB6 (SqL.of hpl1) (qAw (j:=0) rfl) ?_;walk_at "ri";exact fin _ _ _ eA (((((d1.mono m6).mono m7).mono m8).mono m9).mono mA) (hOk.all hps).1
    ·refine qB6 (SqL.of hpl1) (qAw (j:=1) rfl) ?_;walk_at "ri";exact fin _ _ _ eA ((((d2.mono m7).mono m8).mono m9).mono mA) (hOk.all hps).2
    ·refine qB6 (SqL.of hpl1) (qAw (j:=2) rfl) ?_;walk_at "ri";exact fin _ _ _ eA (((d3.mono m8).mono m9).mono mA) b3
    ·refine qB6 (SqL.of hpl1) (qAw (j:=3) rfl) ?_;walk_at "ri";exact fin _ _ _ eA ((d4.mono m9).mono mA) b4
    ·refine qB6 (SqL.of hpl1) (qAw (j:=4) rfl) ?_;walk_at "ri";exact fin _ _ _ eA (d5.mono mA) b5
   | none =>
    rw [qLj hps];refine⟨false,rfl,iteF ?_⟩;walk_at "ri";refine⟨x,d,"str",rfl,hD4.mono (qAs _ _),by decide,_,rfl,?_⟩;rcases hPl with ⟨_,h⟩ | ⟨_,h,_⟩ | ⟨s,h⟩ | ⟨m,h,hm1,hm2⟩
    ·rw [h] at hps;cases hps
    ·rw [h] at hps;cases hps
    ·subst h;refine iteT ?_;walk_at "ri";refine λos2 G6 e6 d6=>⟨len2 (by rw [d6.len];decide),λl2 hl2=>?_⟩;have dO2:=d6.mono (qFd T4 (Ext.laid (o :=.lst os2) hl2));have e7:Ext [] H3 (upd G6 l2 (.lst os2)):=e4.trans (e6.trans (.laid hl2));have hl7:(upd G6 l2 (.lst os2)) l2=some (.lst os2):=qA1;generalize upd G6 l2 (.lst os2)=G7 at dO2 e7 hl7 ⊢;walk_at "ri";refine qEy (by decide) ?_;obtain⟨d',v,hm,hv,hd⟩:=dO2.pick (i:=nr%10) (by lia) (by show nr%10<10;lia);walk_at "ri";refine qB6 (SqL.of hl7) hv ?_;walk_at "ri";exact fin v d' _ e7 hd ((qQe d' hm).mono hn5 hW hD8)
    ·subst h;refine iteF ?_;have hx:=hD4.ofInt;subst hx;walk_at "ri";refine λos2 G6 e6 d6=>⟨len2 (by rw [d6.len];decide),λl2 hl2=>?_⟩;have dO2:=d6.mono (qFd T4 (Ext.laid (o :=.lst os2) hl2));have e7:Ext [] H3 (upd G6 l2 (.lst os2)):=e4.trans (e6.trans (.laid hl2));have hl7:(upd G6 l2 (.lst os2)) l2=some (.lst os2):=qA1;generalize upd G6 l2 (.lst os2)=G7 at dO2 e7 hl7 ⊢;walk_at "ri";refine qEy (by decide) ?_;obtain⟨d',v,hm,hv,hd⟩:=dO2.pick (i:=nr%5) (by lia) (by show nr%5<5;lia);walk_at "ri";refine qB6 (SqL.of hl7) hv ?_;walk_at "ri";refine⟨len2 (by show 5<=1000;decide),λpl hpl=>?_⟩;have e10:Ext [] G7 (upd G7 pl (.lst [.int (m+1),.int (m - 1),.int nr,.int (0 - nr),v])) :=.laid hpl;have hpl1:(upd G7 pl (.lst [.int (m+1),.int (m - 1),.int nr,.int (0 - nr),v])) pl=some (.lst [.int (m+1),.int (m - 1),.int nr,.int (0 - nr),v]):=qA1
     generalize upd G7 pl (.lst [.int (m+1),.int (m - 1),.int nr,.int (0 - nr),v])=GA at e10 hpl1 ⊢;have mA:=(e10.mono (us :=[t]) (by simp)).same;have eA:Ext [] H3 GA:=e7.trans e10;have iok:∀i:Int,i.natAbs<10^13->BentOk n W D (.int i):=λi hi=>(qVy hi).mono hn5 hW hD8;walk_at "ri";have hwy:wy=0\/wy=1\/wy=2\/wy=3\/wy=4:=by lia
     rcases hwy with rfl | rfl | rfl | rfl | rfl
     ·refine qB6 (SqL.of hpl1) (qAw (j:=0) rfl) ?_;walk_at "ri";exact fin _ _ _ eA DenX.int' (iok _ (by lia))
     ·refine qB6 (SqL.of hpl1) (qAw (j:=1) rfl) ?_;walk_at "ri";exact fin _ _ _ eA DenX.int' (iok _ (by lia))
     ·refine qB6 (SqL.of hpl1) (qAw (j:=2) rfl) ?_;walk_at "ri";exact fin _ _ _ eA DenX.int' (iok _ (by lia))
     ·refine qB6 (SqL.of hpl1) (qAw (j:=3) rfl) ?_;walk_at "ri";exact fin _ _ _ eA DenX.int' (iok _ (by lia))
     ·refine qB6 (SqL.of hpl1) (qAw (j:=4) rfl) ?_;walk_at "ri";exact fin _ _ _ eA (hd.mono mA) ((qU3 d' hm).mono hn5 hW hD8)
end
section
variable{P:Program}{w:World}{K:PySem.W.Frag}{mg:Str->Option Value}{base:Heap}
abbrev qEo:Stmt:=top 36
theorem scSpoilt:FnScope ["_law_tape_here","_law_works_here","_law_way","_law_places_here","_law_path","_law_inner","_law_around","_law_place","_law_other"] ["_law_tape_here","_law_works_here"] (qA4 qEo):=⟨rfl,rfl,rfl,by decide +kernel,rfl,by decide +kernel,by decide +kernel⟩
theorem qOm{f:Addr}{fd:FuncData}(F:Fun K "_law_spoilt" "_law_spoilt" qEo f fd)(nlen:mg "len" = none)(hDr:Has P w K mg base "_law_draw" 1 ["_law_tape_here","_law_many_here"] qD0)(hPl:Has P w K mg base "_law_places" 1 ["_law_thing"] (qHf K))(hWi:Has P w K mg base "_law_with" 7 ["_law_thing","_law_path","_law_made"] (qGn 6 K))(hBe:Has P w K mg base "_law_bent" 2 ["_law_tape_here","_law_thing"] (qN9 K)):FnOk P w K mg base CX0 8 f fd ["_law_tape_here","_law_works_here"] (qHd K):=by
 refine F.ok scSpoilt (λvs H Q E h=>?_) (λcdv A outer s H vs Q E hr h=>?_)
 ·obtain⟨t,k,x,ds,rfl,_⟩:=h;rfl
 ·obtain⟨t,k,x,ds,rfl,hT,hk,hD,hne,hSo,q⟩:=h;have hu:=qCc hr
  refine⟨_,(qA3 (qEb (i:=2) (j:=3) rfl scSpoilt.nd rfl rfl (by decide) rfl rfl (paC (qAd hDr hr (by decide) (paN (pv 0) (paK pe_int pa_nil))) (paC (qAd hPl hr (by decide) (paN (pv 1) pa_nil)) pa_nil)) rfl)
   (qA3 (qAo (i:=4) scSpoilt.nd rfl (Or.inl rfl) (qAm qAi (pv 3) (qAd hDr hr (by decide) (paN (pv 0) (paC (qA5 qA8 (by rfl) nlen aU (paN (pv 3) pa_nil)) pa_nil))) (λ_ _=>rfl)))
   (qA3 (qEb (i:=5) (j:=6) rfl scSpoilt.nd rfl rfl (by decide) rfl rfl (paN (pv 1) (paN (pv 1) pa_nil)) rfl)
   (qA3 (qCq bT rfl (qFz (pv 4)) (qAj (i:=7) scSpoilt.nd rfl (Or.inl rfl))
   (qA6 (qEb (i:=6) (j:=5) rfl scSpoilt.nd rfl rfl (by decide) rfl rfl (paN (pv 5) (paS (qAm qLo (pv 5) (pv 7) (λ_ _=>rfl)) pa_nil)) rfl)))
   (qA3 (qBe (qAe qCi (pv 2) pe_int (qAh _)) (qA6 (qA9 (qAd hWi hr (by decide) (paN (pv 1) (paN (pv 4) (paL (qAk pa_nil) pa_nil)))))) qAf)
   (qA3 (qBe (qAe qCi (pv 2) pe_int (qAh _)) (qA6 (qA9 (qAd hWi hr (by decide) (paN (pv 1) (paN (pv 4) (paL (qAk (paN (pv 5) (paN (pv 5) pa_nil))) pa_nil)))))) qAf)
   (qA3 (qBe (PW.pt (qIp (qAe qCi (pv 2) pe_int (qAh _)) (qFx (qAe qHs (qAl qAz (qAm qB1 (pv 4) (qIu qF4 pe_int) (λ_ _=>rfl)) pe_int) (qA5 qA8 (by rfl) nlen aU (paN (pv 6) pa_nil)) (qAh _))))) (qA3 (qAo (i:=8) scSpoilt.nd rfl (Or.inl rfl) (qAd hWi hr (by decide) (paN (pv 1) (paN (pv 4) (paL (qAk (paS (qAm qLo (pv 6) (qAl qAz (qAm qB1 (pv 4) (qIu qF4 pe_int) (λ_ _=>rfl)) pe_int) (λ_ _=>rfl)) pa_nil)) pa_nil)))))
   (qA6 (qA9 (qAd hWi hr (by decide) (paN (pv 8) (paB (qAl (catAK K rfl) (qBn qE7 (pv 4) qCa (qC9 (qIu qF4 pe_int))) (qBw (paB (qAl qAz (qAm qB1 (pv 4) (qIu qF4 pe_int) (λ_ _=>rfl)) pe_int) pa_nil))) (paL (qAk (paN (pv 5) pa_nil)) pa_nil))))))) qAf)
   (qA6 (qA9 (qAd hWi hr (by decide) (paN (pv 1) (paN (pv 4) (paL (qAk (paC (qAd hBe hr (by decide) (paN (pv 0) (paN (pv 5) pa_nil))) pa_nil)) pa_nil))))))))))))),?_⟩
  try dsimp only [qBm,qB5,qB0,qCj,qG9]
  walk_at "ri";refine qAx hT (by lia) (by decide) (by decide) λwy H1 wy0 wy1 T1 e1 _=>?_;have D1:=hD.mono e1.same;walk_at "ri";refine⟨x,.list ds,ds,rfl,D1.mono (qAs _ _),hSo.wi,rfl,hne,λlp us H2 e2 hlp hus hul hTo=>?_⟩;have T2:=T1.same e2.toSame;have D2:=D1.mono (e2.mono (us :=[t]) (by simp)).same;have E2:Ext [t] H H2:=e1.trans (e2.mono (by simp));clear T1 D1 e1 e2;walk_at "ri";refine⟨_,_,rfl,?_⟩;walk_at "ri";refine⟨lp,us,rfl,.inl (SqL.of hlp),?_⟩;walk_at "ri";have hul0:0<us.length:=eW.mpr hus;refine qAx T2 (by lia) (by lia) (by lia) λi H3 i0 i1 T3 e3 _=>?_;obtain⟨pa,qq,kk,e,ed,es,hv,hpa,hpl,hsub,hsq,hpe,hek⟩:=hTo.pick i0 i1;have hlp3:=e3 _ _ (hTo.apart hlp hus T2) hlp;have hpa3:=e3 _ _ (qN3 hpa T2) hpa
  have D3:=D2.mono e3.same;have E3:Ext [t] H H3:=E2.trans e3;clear e3 D2 E2 hlp hpa T2 hTo;walk_at "ri";refine qB6 (SqL.of hlp3) hv ?_;walk_at "ri";refine⟨_,_,rfl,?_⟩;walk_at "ri";have hlenp:(pathV (qq ++ [kk])).length=qq.length+1:=by unfold pathV;simp
  refine⟨pa,rfl,⟨_,SqT.of hpa3⟩,qI0 (xs:=pathV (qq ++ [kk])) (λj σ' G => ∃(vi va:V) (m:PyData) (o7 o8:Option V),σ' = [some (.ref t),some x,some (.int wy),some (.ref lp),some (.ref pa),some vi,some va,o7,o8]/\G=H3/\DenX K (wo [t] H3) m vi/\subD (.list ds) ((qq ++ [kk]).take j)=some m/\subD m ((qq ++ [kk]).drop j)=some e/\(j=0 \/ ∃md,DenX K (wo [t] H3) md va/\subD (.list ds) ((qq ++ [kk]).take (j - 1))=some md)) ?_ ?_ ?_ ?_⟩
  ·exact⟨x,x,.list ds,_,_,rfl,rfl,D3,by rw [eK];rfl,by rw [List.drop_zero];exact hsub,.inl rfl⟩
  ·rintro j σ' G hj ⟨vi,va,m,o7,o8,rfl,rfl,hm,hs1,hs2,hva⟩;exact SqT.of hpa3
  ·rintro j v σ' G hv ⟨vi,va,m,o7,o8,rfl,rfl,hm,hs1,hs2,hva⟩ N_ B_ C_ R_ hN_ hC_ hR_;obtain⟨k0,hk0,rfl⟩:=qIw hv;rw [qLq hk0] at hs2;obtain⟨es',y,g1,g2,g3⟩:=qB7 hs2;obtain⟨ai,vsi,rfl,hS,hVs⟩:=hm.parts g1;obtain⟨vy,hvy,hDy⟩:=hVs.at g2;walk_at "ri";refine⟨ai,vsi,k0,vy,rfl,rfl,hS.imp (qAs _ _).seq (qAs _ _).seqT,qAw hvy,?_⟩;walk_at "ri";refine⟨_,_,rfl,?_⟩;walk_at "ri";refine⟨vy,.ref ai,y,_,_,rfl,rfl,hDy,?_,g3,.inr ⟨m,hm,hs1⟩⟩;rw [qCn hk0];exact qDk hs1 g1 g2
  ·rintro σ' G ⟨vi,va,m,o7,o8,rfl,rfl,hm,hs1,hs2,hva⟩;rw [hlenp] at hs2 hva;rw [List.drop_of_length_le (by simp)] at hs2;have hs2:m=e:=bG hs2;subst hs2;obtain⟨md,hmd,hs3⟩:=hva.resolve_left (by lia);rw [Nat.add_sub_cancel,List.take_left' rfl,hsq] at hs3;have hs3:ed=md:=bG hs3;subst hs3;have hE:=qI7 hSo hsub;walk_at "ri";refine qCv ?_;by_cases w0:wy=0
   ·rw [decide_eq_true w0];refine⟨_,rfl,iteT ?_⟩;walk_at "ri";refine⟨len2 (aW _),λmm hmm=>?_⟩;have e4:Ext [] G (upd G mm (.lst [])) :=.laid hmm;have hm1:(upd G mm (.lst [])) mm=some (.lst []):=qA1;generalize upd G mm (.lst [])=G4 at e4 hm1 ⊢;have T4:=T3.same e4.toSame;have D4:=D3.mono (e4.mono (us :=[t]) (by simp)).same;walk_at "ri";refine⟨x,.list ds,pa,mm,qq ++ [kk],[],[],m,wo [t] G4,rfl,qAs _ _,D4,SqT.of (e4 _ _ (by simp) hpa3),by simp,hpl,hsub,hm1,.nil,by simp,qAu (by lia) hSo.wi,λr H' H0' f1 f2 f3 f4 f5=>?_⟩;walk_at "ri";exact q r _ H' ((T4.same f1.toSame).mono (by lia)) (E3.trans ((e4.trans f1).mono (by simp))) (f5.mono (qFo T4 f3 f4)) (qG4 hSo hsub (by simp) (by simp) (by simp))
   rw [decide_eq_false w0];refine⟨_,rfl,iteF ?_⟩;walk_at "ri";refine qCv ?_;by_cases w1:wy=1
   ·rw [decide_eq_true w1];refine⟨_,rfl,iteT ?_⟩;walk_at "ri";refine⟨len2 (by show 2<=1000;decide),λmm hmm=>?_⟩;have e4:Ext [] G (upd G mm (.lst [vi,vi])) :=.laid hmm;have hm1:(upd G mm (.lst [vi,vi])) mm=some (.lst [vi,vi]):=qA1;generalize upd G mm (.lst [vi,vi])=G4 at e4 hm1 ⊢;have T4:=T3.same e4.toSame;have M4:=(e4.mono (us :=[t]) (by simp)).same;walk_at "ri";refine⟨x,.list ds,pa,mm,qq ++ [kk],[m,m],[vi,vi],m,wo [t] G4,rfl,qAs _ _,D3.mono M4,SqT.of (e4 _ _ (by simp) hpa3),by simp,hpl,hsub,hm1,.cons (hm.mono M4) (.cons (hm.mono M4) .nil),by simp,qAu (by lia) hSo.wi,λr H' H0' f1 f2 f3 f4 f5=>?_⟩;walk_at "ri"
    exact q r _ H' ((T4.same f1.toSame).mono (by lia)) (E3.trans ((e4.trans f1).mono (by simp))) (f5.mono (qFo T4 f3 f4)) (qG4 hSo hsub (by simp) (by simp) (λy hy=>by
     simp only [aN,bH,or_false,or_self] at hy
     rw [hy];exact hE))
   rw [decide_eq_false w1];refine⟨_,rfl,iteF ?_⟩;walk_at "ri";rename_i NA NB hNA hNB;have hPm:Plain m:=hSo.pl _ _ (by simp) hsub;have last:NB [some (.ref t),some x,some (.int wy),some (.ref lp),some (.ref pa),some vi,some va,o7,o8] G:=by
    with_reducible refine qBq hNB ?_
    walk_at "ri";refine⟨t,_,vi,m,12,300000,20,rfl,T3,by lia,hm,hPm,hE,by decide,by decide,by decide,by decide,λr0 d0 H4 T4 e4 dd0 b0=>?_⟩;walk_at "ri";refine⟨len2 (by show 1<=1000;decide),λmm hmm=>?_⟩;have e5:Ext [] H4 (upd H4 mm (.lst [r0])) :=.laid hmm;have hm1:(upd H4 mm (.lst [r0])) mm=some (.lst [r0]):=qA1;generalize upd H4 mm (.lst [r0])=G5 at e5 hm1 ⊢;have T5:=T4.same e5.toSame;have M5:=(e5.mono (us :=[t]) (by simp)).same;walk_at "ri";refine⟨x,.list ds,pa,mm,qq ++ [kk],[d0],[r0],m,wo [t] G5,rfl,qAs _ _,(D3.mono e4.same).mono M5,SqT.of (e5 _ _ (by simp) (e4 _ _ (qN3 hpa3 T3) hpa3)),by simp,hpl,hsub,hm1,.cons (dd0.mono M5) .nil,by simp,qAu (by lia) hSo.wi,λr H' H0' f1 f2 f3 f4 f5=>?_⟩;walk_at "ri"
    exact q r _ H' ((T5.same f1.toSame).mono (by lia)) (E3.trans (e4.trans ((e5.trans f1).mono (by simp)))) (f5.mono (qFo T5 f3 f4)) (qG4 hSo hsub (by simp) (by simp) (λy hy=>by
     rw [aL.mp hy];exact b0))
   refine qCv ?_;walk_at "ri";by_cases w2:wy=2
   ·rw [decide_eq_true w2];refine iteT ?_;obtain⟨aa,vsa,rfl,hSa,hVa⟩:=hmd.parts hpe;have hSa':SqL K G aa vsa\/SqT K G aa vsa:=hSa.imp (qAs _ _).seq (qAs _ _).seqT;walk_at "ri";refine qGf (SqT.of hpa3) qKu ?_;walk_at "ri";refine⟨aa,vsa,rfl,hSa',?_⟩;rw [hVa.len];walk_at "ri";by_cases w3:(kk:Int)+1<(es.length:Int)
    ·rw [decide_eq_true w3];refine iteT ?_;have hy:es[kk+1]? = some es[kk+1]:=aJ (by lia);obtain⟨l1,⟨z,hz⟩,l3⟩:=qRi hSo hsub hsq hpe hek hy;obtain⟨vy,hvy,hDy⟩:=hVa.at hy;generalize es[kk+1]=y at hy hDy l1 hz l3
     with_reducible refine qBq hNA ?_
     walk_at "ri";refine qGf (SqT.of hpa3) qKu ?_;walk_at "ri";refine⟨aa,vsa,((kk+1:Nat):Int),vy,rfl,congrArg V.int (by lia),hSa',qAw hvy,?_⟩;walk_at "ri";refine⟨len2 (by show 1<=1000;decide),λmm hmm=>?_⟩;have e5:Ext [] G (upd G mm (.lst [vy])) :=.laid hmm;have hm1:(upd G mm (.lst [vy])) mm=some (.lst [vy]):=qA1;generalize upd G mm (.lst [vy])=G5 at e5 hm1 ⊢;have T5:=T3.same e5.toSame;have M5:=(e5.mono (us :=[t]) (by simp)).same;have hpa5:=e5 _ _ (by simp) hpa3;walk_at "ri";refine⟨x,.list ds,pa,mm,qq ++ [kk],[y],[vy],m,wo [t] G5,rfl,qAs _ _,D3.mono M5,SqT.of hpa5,by simp,hpl,hsub,hm1,.cons (hDy.mono M5) .nil,by simp,qAu (by lia) hSo.wi,λro H6 H0' f1 f2 f3 f4 f5=>?_⟩;have T6:=T5.same f1.toSame
     have D6:=f5.mono (qFo T5 f3 f4);have M6:=(f1.mono (us :=[t]) (by simp)).same;have hpa6:=f1 _ _ (by simp) hpa5;have hm6:=(hm.mono M5).mono M6;have E6:Ext [t] H H6:=E3.trans ((e5.trans f1).mono (by simp));clear f2 f3 f4 f5 f1 M6 M5 hm1 e5 T5 hpa5;walk_at "ri";refine⟨-1,rfl,pa,_,rfl,SqT.of hpa6,qLt qTk,λp1 hp1=>?_⟩;rw [qRt];have e7:Ext [] H6 (upd H6 p1 (.tup (pathV qq))) :=.laid hp1;have hp11:(upd H6 p1 (.tup (pathV qq))) p1=some (.tup (pathV qq)):=qA1;generalize upd H6 p1 (.tup (pathV qq))=G7 at e7 hp11 ⊢;walk_at "ri";refine qGf (SqT.of (e7 _ _ (by simp) hpa6)) qKu ?_;walk_at "ri";refine⟨len2 (by show 1<=1000;decide),λp2 hp2=>?_⟩;have e8:Ext [] G7 (upd G7 p2 (.tup [.int ((kk:Int)+1)])) :=.laid hp2
     have hp21:(upd G7 p2 (.tup [.int ((kk:Int)+1)])) p2=some (.tup [.int ((kk:Int)+1)]):=qA1;generalize upd G7 p2 (.tup [.int ((kk:Int)+1)])=G8 at e8 hp21 ⊢;walk_at "ri";have hql:(pathV qq).length=qq.length:=by unfold pathV;simp
     rw [aK,bX] at hpl;refine⟨p1,p2,pathV qq,_,rfl,rfl,SqT.of (e8 _ _ (by simp) hp11),hp21,by simp,len2 (by rw [hql];show qq.length+1<=1000;lia),λp3 G9 e9 hp3=>?_⟩;walk_at "ri";refine⟨len2 (by show 1<=1000;decide),λm2 hm2=>?_⟩;have e10:Ext [] G9 (upd G9 m2 (.lst [vi])) :=.laid hm2;have hm21:(upd G9 m2 (.lst [vi])) m2=some (.lst [vi]):=qA1;generalize upd G9 m2 (.lst [vi])=GA at e10 hm21 ⊢;have eA:Ext [] H6 GA:=e7.trans (e8.trans (e9.trans e10));have TA:=T6.same eA.toSame;have MA:=(eA.mono (us :=[t]) (by simp)).same;have hp3A:=e10 _ _ (by simp) hp3;rw [show ((kk:Int)+1)=((kk+1:Nat):Int) by lia,qIv] at hp3A;walk_at "ri";refine⟨ro,withD (.list ds) (qq ++ [kk]) [y],p3,m2,qq ++ [kk+1],[m],[vi],z,wo [t] GA,rfl,qAs _ _,D6.mono MA,SqT.of hp3A,by simp,by simp;lia,hz,hm21,.cons (hm6.mono MA) .nil,by simp,l1,λr H' H0' f1 f2 f3 f4 f5=>?_⟩
     walk_at "ri";exact q r _ H' ((TA.same f1.toSame).mono (by lia)) (E6.trans ((eA.trans f1).mono (by simp))) (f5.mono (qFo TA f3 f4)) l3
    ·rw [decide_eq_false w3];refine iteF ?_;exact last
   ·rw [decide_eq_false w2];refine iteF (iteF ?_);exact last
end
section
variable{P:Program}{w:World}{K:PySem.W.Frag}{mg:Str->Option Value}{base:Heap}
abbrev qDn:Stmt:=top 16
theorem qNd:FnScope ["work"] ["work"] (qA4 qDn):=⟨rfl,rfl,rfl,by decide +kernel,rfl,by decide +kernel,by decide +kernel⟩
theorem qM8{f ly:Addr}{fd:FuncData}(F:Fun K "is_plain" "is_plain" qDn f fd)(nany:mg "any" = none)(hLy:mg "LAYING" = some (.ref ly))(hLay:qSn K ly):FnOk P w K mg base CX0 1 f fd ["work"] (qFt K):=by
 refine F.ok qNd (λvs H Q E h=>?_) (λcdv A outer s H vs Q E hr h=>?_)
 ·obtain⟨x,wk,rfl,_⟩:=h;rfl
 ·obtain⟨x,wk,rfl,hD,hl,hfew,q⟩:=h;have hu:=qCc hr;refine⟨_,(qA6 (qA9 (qLf (qA5 (qQ1 hr.hd) (by rfl) nany PyProof.Rows.boot_any (qA0 (qVe ["deeds","end","deed"] [] rfl (.of rfl) (qCb (pv 0)) (λ_ _ _ _=>(qHr (n:=2) K rfl rfl (qC5 (qAj (i:=0) (by show (((["deeds","end","deed"]:List Str))).Nodup;decide) rfl (Or.inl rfl)) (qC5 (qAj (i:=1) (by show (((["deeds","end","deed"]:List Str))).Nodup;decide) rfl (Or.inl rfl)) qG0)))) (λ_ _ _ _ =>.nil) (λ_ _ _ _=>(qQx K rfl (pv 0))) (λ_ _ _ _=>(qAj (i:=2) (by show (((["deeds","end","deed"]:List Str))).Nodup;decide) rfl (Or.inl rfl))) (λ_ _ _ _ =>.nil) (λ_ _ _ _=>(qBp (inK K rfl) (qAm (qU4 K rfl) (pv 2) pe_int (λ_ _=>rfl)) (qEz (v :=.ref ly) rfl hLy rfl) rfl))) pa_nil))))),?_⟩
  try dsimp only [qBm,qB5,qB0,qCj,qG9]
  obtain⟨a,vs,rfl,hSq,hDL⟩:=hD.ofList;have hvl:=hDL.len;rw [aC] at hvl;have hbl:=qG5 hfew;walk_at "ri";refine⟨a,rfl,⟨_,hSq⟩,λl hl=>?_⟩;refine qC7 (xs:=vs) (λi σ' G => ∃(o0 o1 o2:Option V),σ' = [o0,o1,o2]/\Ext [l] H G/\G l=some (.lst ((layBs (wk.take i)).map V.bl))) ?_ ?_ ?_ ?_
  ·exact⟨none,none,none,rfl,.laid hl,by rw [eK];exact qA1⟩
  ·rintro i σ' G hi ⟨o0,o1,o2,rfl,e3,hlG⟩;exact (e3.drop hl).toSame.seq hSq
  ·rintro i v σ' G R hv ⟨o0,o1,o2,rfl,e3,hlG⟩ hR;have eG:=(e3.drop hl).toSame;obtain⟨d,hd,hDv⟩:=hDL.get hv;rw [aX] at hd;obtain⟨b,hb,rfl⟩:=Option.map_eq_some_iff.mp hd;obtain⟨ba,bvs,rfl,hT,hB⟩:=(show Den K H (.tuple [.list (b.ds.map deedD),endD b.ns]) v from hDv).ofTuple;obtain⟨v1,r,rfl,h1,h2⟩:=hB.ofCons;obtain⟨v2,r2,rfl,h3,h4⟩:=h2.ofCons;have h4:=h4.ofNil;subst h4;obtain⟨la,dvs,rfl,hLs,hDs⟩:=h1.ofList;have hbd:=hfew b (aP hb);have hwi:=qG5 (wk:=wk.take i) λc hc=>hfew c (List.mem_of_mem_take hc);rw [bD] at hwi;walk_at "ri";refine⟨ba,_,rfl,eG.seqT hT,rfl,?_⟩;walk_at "ri";refine iteT ?_;unfold bNext;walk_at "ri";refine⟨la,rfl,⟨_,eG.seq hLs⟩,?_⟩;refine qC7 (xs:=dvs) (λj σ' G2 => ∃(o2:Option V),σ' = [some (.ref la),some v2,o2]/\Ext [l] G G2/\G2 l=some (.lst ((layBs (wk.take i)++(b.ds.take j).map laysB).map V.bl))) ?_ ?_ ?_ ?_
   ·exact⟨_,rfl,.refl _ _,by rw [hlG,eK,eZ,List.append_nil]⟩
   ·rintro j σ' G2 hj ⟨o2,rfl,e4,hl4⟩;exact ((e3.trans e4).drop hl).toSame.seq hLs
   ·rintro j v σ' G2 R2 hv2 ⟨o2,rfl,e4,hl4⟩ hR2;obtain⟨d,hd2,hDd⟩:=hDs.get hv2;rw [aX] at hd2;obtain⟨dd,hdd,rfl⟩:=Option.map_eq_some_iff.mp hd2;obtain⟨da,rr,rfl,hda⟩:=qPm (hDd.mono ((e3.trans e4).drop hl).toSame);walk_at "ri";refine iteT ?_;walk_at "ri";refine qDf hda ?_;walk_at "ri";refine⟨ly,_,rfl,.inr hLay.sq,rfl,rfl,?_⟩;walk_at "ri";refine⟨_,hl4,qAn (by rw [aC,aK,aC,bD];lia),hR2 _ _ ⟨_,rfl,e4.trans (.put (by simp)),?_⟩⟩;rw [qA1,qCn hdd,if_neg (by decide),qU1,aO (f:=laysB),<-List.append_assoc,aO (l₂ :=List.map laysB [dd])];rfl
   ·rintro σ' G2 ⟨o2,rfl,e4,hl4⟩;have hdl:=hDs.len;rw [aC] at hdl;rw [hdl,eJ] at hl4;refine hR _ _ ⟨_,_,_,rfl,e3.trans e4,?_⟩;rw [hl4,qCn hb];unfold layBs;rw [List.flatMap_append,List.flatMap_cons,List.flatMap_nil,List.append_nil]
  ·rintro σ' G ⟨o0,o1,o2,rfl,e3,hlG⟩;rw [hvl,eJ] at hlG;walk_at "ri";refine⟨l,layBs wk,rfl,SqL.of hlG,_,rfl,?_⟩;exact q _ (e3.drop hl)
end
section
variable{P:Program}{w:World}{K:PySem.W.Frag}{mg:Str->Option Value}{base:Heap}
abbrev qEp:Stmt:=top 38
theorem scPlainR:FnScope ["_law_tape_here","_law_work_here","_law_spot","_law_deeds_here","_law_other"] ["_law_tape_here","_law_work_here"] (qA4 qEp):=⟨rfl,rfl,rfl,by decide +kernel,rfl,by decide +kernel,by decide +kernel⟩
theorem qOn{f:Addr}{fd:FuncData}(F:Fun K "_law_plain_right" "_law_plain_right" qEp f fd)(nlen:mg "len" = none)(nlist:mg "list" = none)(hDr:Has P w K mg base "_law_draw" 1 ["_law_tape_here","_law_many_here"] qD0)(hIp:Has P w K mg base "is_plain" 1 ["work"] (qFt K)):FnOk P w K mg base CX0 2 f fd ["_law_tape_here","_law_work_here"] (qHe K):=by
 refine F.ok scPlainR (λvs H Q E h=>?_) (λcdv A outer s H vs Q E hr h=>?_)
 ·obtain⟨t,k,x,wk,rfl,_⟩:=h;rfl
 ·obtain⟨t,k,x,wk,rfl,hT,hk,hD,hw1,hw12,hpl,q⟩:=h;have hu:=qCc hr
  refine⟨_,(qA3 (qAo (i:=2) scPlainR.nd rfl (Or.inl rfl) (qAd hDr hr (by decide) (qA0 (pv 0) (qA0 (qA5 qA8 (by rfl) nlen aU (qA0 (pv 1) pa_nil)) pa_nil))))
   (qA3 (qAo (i:=3) scPlainR.nd rfl (Or.inl rfl) (qAv qBs (by rfl) nlist aV (qA0 (qAm qB1 (qAm qAi (pv 1) (pv 2) (λ_ _=>rfl)) pe_int (λ_ _=>rfl)) pa_nil)))
   (qA3 (qD7 (qGg bL PySem.F.slot_list_insert PySem.F.type_list_insert qP2 (pv 3) (qA0 (qAd hDr hr (by decide) (qA0 (pv 0) (qA0 (qAl qAz (qA5 qA8 (by rfl) nlen aU (qA0 (pv 3) pa_nil)) pe_int) pa_nil))) (qA0 (qBw (qA0 (qAm qAi (qAk (qA0 pe_str (qA0 pe_str pa_nil))) (qAd hDr hr (by decide) (qA0 (pv 0) (qA0 pe_int pa_nil))) (λ_ _=>rfl)) (qA0 (qAd hDr hr (by decide) (qA0 (pv 0) (qA0 pe_int pa_nil))) pa_nil))) pa_nil))))
   (qA3 (qAo (i:=4) scPlainR.nd rfl (Or.inl rfl) (qAl qJ2 (qAl qJ2 (qBn sl_list (pv 1) qCa (qC9 (pv 2))) (qAk (qA0 (qBw (qA0 (pv 3) (qA0 (qAm qB1 (qAm qAi (pv 1) (pv 2) (λ_ _=>rfl)) pe_int (λ_ _=>rfl)) pa_nil))) pa_nil))) (qBn sl_list (pv 1) (qC9 (qAl qAz (pv 2) pe_int)) qCa)))
   (qA6 (qA9 (qDw (qBp qSg (qAd hIp hr (by decide) (qA0 (pv 1) pa_nil)) pe_bl (qAh _)) (qF5 (qBp qSg (qAd hIp hr (by decide) (qA0 (pv 4) pa_nil)) pe_bl (qAh _)))))))))),?_⟩
  try dsimp only [qBm,qB5,qB0,qCj,qG9]
  obtain⟨a,vs,rfl,hSq0,hDL0⟩:=hD.ofList;have hvl:=hDL0.len;rw [aC] at hvl;walk_at "ri";refine⟨a,vs,rfl,.inl ((qAs _ _).seq hSq0),?_⟩;rw [hvl];walk_at "ri";refine qAx hT (by lia) (by lia) (by lia) λsp H1 sp0 sp1 T1 e1 _=>?_;have D1:=hD.mono e1.same;have hSq:=e1.same.seq hSq0;have hDL:=hDL0.mono e1.same;obtain⟨j,rfl⟩:∃j:Nat,sp=(j:Int):=⟨sp.toNat,by lia⟩;have hj:j<wk.length:=by lia
  have hb:wk[j]? = some wk[j]:=aJ hj;generalize wk[j]=b at hb;obtain⟨bl,bp⟩:=hpl b (aP hb);obtain⟨v,hv,hDv⟩:=hDL.get' (i:=j) (d:=blkD b) (by rw [aX,hb];rfl);obtain⟨ba,bvs,rfl,hBt,hB⟩:=(show Den K (wo [t] H1) (.tuple [.list (b.ds.map deedD),endD b.ns]) v from hDv).ofTuple;obtain⟨v1,r,rfl,h1,h2⟩:=hB.ofCons;obtain⟨v2,r2,rfl,h3,h4⟩:=h2.ofCons;have h4:=h4.ofNil;subst h4;obtain⟨la,dvs,rfl,hLs,hDs⟩:=h1.ofList;have hdl:=hDs.len;rw [aC] at hdl;have S0:Same (wo [t] H1) H1:=qAs _ _;walk_at "ri";refine qB6 (S0.seq hSq) (qAw hv) ?_;walk_at "ri";refine qDf (S0.seqT hBt) ?_;walk_at "ri";refine⟨la,dvs,rfl,.inl (S0.seq hLs),λl hl=>?_⟩;have nlt:l ∉ [t]:=T1.some hl
  have f1:Ext [l,t] H1 (upd H1 l (.lst dvs)) :=.laid hl;have hl1:(upd H1 l (.lst dvs)) l=some (.lst dvs):=qA1;have T2:=T1.same (Ext.laid (ts :=[]) (o :=.lst dvs) hl).toSame;generalize upd H1 l (.lst dvs)=G1 at f1 hl1 T2 ⊢;walk_at "ri";refine qFa hl1 ?_;walk_at "ri";refine⟨l,dvs,rfl,.inl (SqL.of hl1),?_⟩;rw [hdl];walk_at "ri";refine qAx T2 (by lia) (by lia) (by lia) λi G2 i0 i1 T3 e2 _=>?_;have f2:=f1.trans (e2.mono (us :=[l,t]) (by simp));have hl2:=e2 _ _ nlt hl1;clear f1 hl1 T2 e2;walk_at "ri";refine⟨len2 (by show 2<=1000;decide),λp1 hp1=>?_⟩;have f3:Ext [l,t] H1 (upd G2 p1 (.lst [.str "save",.str "back"])):=f2.trans (.laid hp1);have T4:=T3.same (Ext.laid (ts :=[]) (o :=.lst [.str "save",.str "back"]) hp1).toSame
  have hl3:=(Ext.laid (ts :=[]) (o :=.lst [.str "save",.str "back"]) hp1) _ _ (by simp) hl2;have hp1':(upd G2 p1 (.lst [.str "save",.str "back"])) p1=some (.lst [.str "save",.str "back"]):=qA1;have np1:p1 ∉ [t]:=T3.some hp1;generalize upd G2 p1 (.lst [.str "save",.str "back"])=G3 at f3 T4 hl3 hp1' ⊢;walk_at "ri";refine qAx T4 (by lia) (by lia) (by lia) λc G4 c0 c1 T5 e4 _=>?_;have f4:=f3.trans (e4.mono (us :=[l,t]) (by simp));have hl4:=e4 _ _ nlt hl3;have hp14:=e4 _ _ np1 hp1';clear f3 f2 T3 T4 hl2 hl3 hp1' e4;obtain⟨wd,hwd,hwm⟩:∃wd:Str,atI [V.str "save",V.str "back"] c=some (.str wd)/\(wd = "save" \/ wd = "back"):=by
   have:c=0\/c=1:=by lia
   rcases this with rfl | rfl
   ·exact⟨"save",rfl,.inl rfl⟩
   ·exact⟨"back",rfl,.inr rfl⟩
  walk_at "ri";refine qB6 (SqL.of hp14) hwd ?_;walk_at "ri";refine qAx T5 (by lia) (by lia) (by lia) λx8 G5 x80 x81 T6 e5 _=>?_;have f5:=f4.trans (e5.mono (us :=[l,t]) (by simp));have hl5:=e5 _ _ nlt hl4;clear f4 T5 hl4 e5 hp14;walk_at "ri";refine⟨len2 (by show 2<=1000;decide),λp2 hp2=>?_⟩;have f6:Ext [l,t] H1 (upd G5 p2 (.tup [.str wd,.int x8])):=f5.trans (.laid hp2);have T7:=T6.same (Ext.laid (ts :=[]) (o :=.tup [.str wd,.int x8]) hp2).toSame;have hl6:=(Ext.laid (ts :=[]) (o :=.tup [.str wd,.int x8]) hp2) _ _ (by simp) hl5;have hp2':(upd G5 p2 (.tup [.str wd,.int x8])) p2=some (.tup [.str wd,.int x8]):=qA1;generalize upd G5 p2 (.tup [.str wd,.int x8])=G6 at f6 T7 hl6 hp2' ⊢;obtain⟨m,rfl⟩:∃m:Nat,i=(m:Int):=⟨i.toNat,by lia⟩
  walk_at "ri";refine⟨l,dvs,(m:Int),.ref p2,rfl,rfl,hl6,by lia,by lia,by lia,?_⟩;rw [cG];have f7:Ext [l,t] H1 (upd G6 l (.lst (dvs.take m ++ .ref p2::dvs.drop m))):=f6.trans (.put (by simp));have T8:=T7.ext (Ext.put (ts :=[l]) (t:=l) (H:=G6) (o :=.lst (dvs.take m ++ .ref p2::dvs.drop m)) (by simp)) (λz=>nlt (by rw [aL.mp z];simp));have hl7:(upd G6 l (.lst (dvs.take m ++ .ref p2::dvs.drop m))) l=some (.lst (dvs.take m ++ .ref p2::dvs.drop m)):=qA1;have np2:p2≠l:=λz=>by rw [z,hl6] at hp2';cases hp2'
  have hp27:(upd G6 l (.lst (dvs.take m ++ .ref p2::dvs.drop m))) p2=some (.tup [.str wd,.int x8]):=by rw [qA7 np2];exact hp2'
  generalize upd G6 l (.lst (dvs.take m ++ .ref p2::dvs.drop m))=G7 at f7 T8 hl7 hp27 ⊢;clear f6 f5 T6 T7 hl5 hl6 hp2';have F7:Ext [t] H1 G7:=f7.drop hl;have S7:Same (wo [t] H1) G7:=λb o z=>qAs _ _ b o (F7.same b o z);obtain⟨nd,hnd,hlay⟩:∃nd:Deed,deedD nd = .tuple [.str wd,.int x8]/\laysB nd=true:=by
   rcases hwm with rfl | rfl
   ·exact⟨.save x8,rfl,rfl⟩
   ·exact⟨.back x8,rfl,rfl⟩
  have dN:Den K G7 (deedD nd) (.ref p2):=by
   rw [hnd];exact .tuple (SqT.of hp27) (.cons .str (.cons .int .nil))
  have dL:Den K G7 (.list ((b.ds.take m++nd::b.ds.drop m).map deedD)) (.ref l):=by
   rw [aO,bR,List.map_take,List.map_drop];exact .list (SqL.of hl7) (((hDs.mono S7).take2 m).append (.cons dN ((hDs.mono S7).drop2 m)))
  walk_at "ri";refine⟨(j:Int),rfl,a,vs,rfl,S7.seq hSq,λp3 hp3=>?_⟩;rw [qW4];have e8:Ext [] G7 (upd G7 p3 (.lst (vs.take j))) :=.laid hp3;have hp38:(upd G7 p3 (.lst (vs.take j))) p3=some (.lst (vs.take j)):=qA1;generalize upd G7 p3 (.lst (vs.take j))=G8 at e8 hp38 ⊢;have S8:Same (wo [t] H1) G8:=λb o z=>e8.toSame b o (S7 b o z);walk_at "ri";refine qB6 (S8.seq hSq) (qAw hv) ?_;walk_at "ri";refine qGf (S8.seqT hBt) (qAw (j:=1) rfl) ?_;walk_at "ri";refine⟨len2 (by show 2<=1000;decide),λp4 hp4=>?_⟩;have e9:Ext [] G8 (upd G8 p4 (.tup [.ref l,v2])) :=.laid hp4;have hp49:(upd G8 p4 (.tup [.ref l,v2])) p4=some (.tup [.ref l,v2]):=qA1;generalize upd G8 p4 (.tup [.ref l,v2])=G9 at e9 hp49 ⊢;walk_at "ri"
  refine⟨len2 (by show 1<=1000;decide),λp5 hp5=>?_⟩;have e10:Ext [] G9 (upd G9 p5 (.lst [.ref p4])) :=.laid hp5;have hp5':(upd G9 p5 (.lst [.ref p4])) p5=some (.lst [.ref p4]):=qA1;generalize upd G9 p5 (.lst [.ref p4])=GA at e10 hp5' ⊢;walk_at "ri";refine⟨p3,p5,_,_,rfl,rfl,(e9.trans e10) _ _ (by simp) hp38,hp5',len2 (by rw [bD];show _+1<=1000;lia),λp6 hp6=>?_⟩;have e11:Ext [] GA (upd GA p6 (.lst (vs.take j ++ [.ref p4]))) :=.laid hp6;have hp6':(upd GA p6 (.lst (vs.take j ++ [.ref p4]))) p6=some (.lst (vs.take j ++ [.ref p4])):=qA1;generalize upd GA p6 (.lst (vs.take j ++ [.ref p4]))=GB at e11 hp6' ⊢;have e8B:=e8.trans (e9.trans (e10.trans e11));have SB:Same (wo [t] H1) GB:=λb o z=>e8B.toSame b o (S7 b o z)
  walk_at "ri";refine⟨((j+1:Nat):Int),congrArg V.int (by lia),a,vs,rfl,SB.seq hSq,λp7 hp7=>?_⟩;rw [qRu];have e12:Ext [] GB (upd GB p7 (.lst (vs.drop (j+1)))) :=.laid hp7;have hp7':(upd GB p7 (.lst (vs.drop (j+1)))) p7=some (.lst (vs.drop (j+1))):=qA1;generalize upd GB p7 (.lst (vs.drop (j+1)))=GC at e12 hp7' ⊢;walk_at "ri";refine⟨p6,p7,_,_,rfl,rfl,e12 _ _ (by simp) hp6',hp7',len2 (by rw [aK,bD,cJ];show _+1+_<=1000;lia),λp8 hp8=>?_⟩;have e13:Ext [] GC (upd GC p8 (.lst (vs.take j ++ [.ref p4]++vs.drop (j+1)))) :=.laid hp8;have hp8':(upd GC p8 (.lst (vs.take j ++ [.ref p4]++vs.drop (j+1)))) p8=some (.lst (vs.take j ++ [.ref p4]++vs.drop (j+1))):=qA1;generalize upd GC p8 (.lst (vs.take j ++ [.ref p4]++vs.drop (j+1)))=GD at e13 hp8' ⊢
  have eD:Ext [] G7 GD:=e8B.trans (e12.trans e13);have SD:Same (wo [t] H1) GD:=λb o z=>eD.toSame b o (S7 b o z);have dB:Den K GD (blkD ⟨b.ds.take m++nd::b.ds.drop m,b.ns⟩) (.ref p4) :=.tuple (SqT.of ((e10.trans (e11.trans (e12.trans e13))) _ _ (by simp) hp49)) (.cons (dL.mono eD.toSame) (.cons (h3.mono SD) .nil));have dO:Den K GD (workD (wk.take j ++ [⟨b.ds.take m++nd::b.ds.drop m,b.ns⟩]++wk.drop (j+1))) (.ref p8):=by
   unfold workD;rw [aO,aO,List.map_take,List.map_drop];exact .list (SqL.of hp8') ((((hDL.mono SD).take2 j).append (.cons dB .nil)).append ((hDL.mono SD).drop2 (j+1)))
  walk_at "ri";refine⟨.ref a,wk,rfl,D1.mono SD,hw12,λb hb=>by have:=(hpl b hb).1;lia,λGE eE=>?_⟩;rw [qRl λb hb=>(hpl b hb).2];walk_at "ri";refine⟨_,_,rfl,rfl,?_⟩;walk_at "ri";refine iteT ?_;walk_at "ri";refine⟨.ref p8,_,rfl,dO.mono eE.toSame,?_,λc hc=>?_,λGF eF=>?_⟩
  ·rw [aK,aK,bD,cJ,bX];lia
  ·rcases aS.mp hc with hc | hc
   ·rcases aS.mp hc with hc | hc
    ·have:=(hpl c (List.mem_of_mem_take hc)).1;lia
    ·rw [aL.mp hc];show (b.ds.take m++nd::b.ds.drop m).length<=20;rw [aK,bD,bI,cJ];lia
   ·have:=(hpl c (List.mem_of_mem_drop hc)).1;lia
  rw [qRk (b:=⟨b.ds.take m++nd::b.ds.drop m,b.ns⟩) (d:=nd) (by simp) (by simp) hlay];walk_at "ri";refine⟨_,_,rfl,rfl,?_⟩;walk_at "ri";exact q _ ((T8.same (eD.trans (eE.trans eF)).toSame).mono (by lia)) (e1.trans (F7.trans ((eD.trans (eE.trans eF)).mono (by simp))))
end
section
variable{P:Program}{w:World}{K:PySem.W.Frag}{mg:Str->Option Value}{base:Heap}
abbrev sLaw:Stmt:=top 39
theorem scLaw:FnScope ["_law_script","_law_k","_law_tape_here","_law_works_here","_law_turn","_law_things"] ["_law_script"] (qA4 sLaw):=⟨rfl,rfl,rfl,by decide +kernel,rfl,by decide +kernel,by decide +kernel⟩
def qQi(K:PySem.W.Frag):Sp:=λvs H Q _ => ∃(a:Addr) (ns:List Int),vs = [.ref a]/\SqL K H a (ns.map V.int)/\ns.length<=63 /\ ∀H',Q (.bl true) H'
theorem qVl{f:Addr}{fd:FuncData}(F:Fun K "law" "law" sLaw f fd)(nrange:mg "range" = none)(nlen:mg "len" = none)(nmax:mg "max" = none)(nmin:mg "min" = none)
  (hT:Has P w K mg base "_law_tape" 1 ["_law_script","_law_k"] (qN7 K)) (hDr:Has P w K mg base "_law_draw" 1 ["_law_tape_here","_law_many_here"] qD0) (hW:Has P w K mg base "_law_works" 5 ["_law_tape_here","_law_most"] (qHc K)) (hAw:Has P w K mg base "are_works" 7 ["thing"] (qBo K)) (hLk:Has P w K mg base "_law_looked_right" 8 ["_law_thing"] (qHi K)) (hPr:Has P w K mg base "_law_plain_right" 2 ["_law_tape_here","_law_work_here"] (qHe K)) (hSp:Has P w K mg base "_law_spoilt" 8 ["_law_tape_here","_law_works_here"] (qHd K)) :
  FnOk P w K mg base CX0 9 f fd ["_law_script"] (qQi K):=by
 refine F.ok scLaw (λvs H Q E h=>?_) (λcdv A outer s H vs Q E hr h=>?_)
 ·obtain⟨a,ns,rfl,_⟩:=h;rfl
 ·obtain⟨a,ns,rfl,hSq,hlen,q⟩:=h;have hu:=qCc hr
  refine⟨_,(PSsx.h (qBa (psx (qCq bT rfl (qBv rfl nrange (paC (qA5 (qJm rfl) (by rfl) nmax PyProof.Rows.boot_max (paK pe_int (paC (qA5 (qPz rfl) (by rfl) nmin PyProof.Rows.boot_min (paC (qA5 qA8 (by rfl) nlen aU (paN (pv 0) pa_nil)) (paK pe_int pa_nil))) pa_nil))) pa_nil)) (qAj (i:=1) scLaw.nd rfl (Or.inl rfl))
   (PSsx.h (qBa (psx (qAo (i:=2) scLaw.nd rfl (Or.inl rfl) (qAd hT hr (by decide) (paN (pv 0) (paN (pv 1) pa_nil)))))
   (qBa (psx (qAo (i:=3) scLaw.nd rfl (Or.inl rfl) (qAd hW hr (by decide) (paN (pv 2) (paK pe_int pa_nil)))))
   (qBa (qFy (PW.pt (qE2 (qAe qOe (qAd hAw hr (by decide) (paN (pv 3) pa_nil)) pe_bl (qAh _)) (qCp (qB9 (qAa K rfl (qAd hLk hr (by decide) (paN (pv 3) pa_nil)) (λ_=>rfl)))))) (qBu (psx (qA9 pe_bl))) qAf)
   (qBa (qFy (qB9 (qAa K rfl (qAd hPr hr (by decide) (paN (pv 2) (paS (qAm qAi (pv 3) (qIu qF4 pe_int) (λ_ _=>rfl)) pa_nil))) (λ_=>rfl))) (qBu (psx (qA9 pe_bl))) qAf)
   (qBa (psx (qCq bT rfl (qBv rfl nrange (paK pe_int pa_nil)) (qAj (i:=4) scLaw.nd rfl (Or.inl rfl))
   (PSsx.h (qBu (qFy (qB9 (qAa K rfl (qAd hLk hr (by decide) (paC (qAd hSp hr (by decide) (paN (pv 2) (paN (pv 3) pa_nil))) pa_nil)) (λ_=>rfl))) (qBu (psx (qA9 pe_bl))) qAf)))))
   (qBa (qLc (i:=5) scLaw.nd rfl (Or.inl rfl) (qM7 (K:=K)))
   (qBa (psx (qD7 (qGg bL cL cM qCk (pv 5) (paLx (qO8 (K:=K)) pa_nil))))
   (qBu (qFy (qB9 (qAa K rfl (qAd hLk hr (by decide) (paS (qAm qAi (pv 5) (qAd hDr hr (by decide) (paN (pv 2) (paK pe_int pa_nil))) (λ_ _=>rfl)) pa_nil)) (λ_=>rfl))) (qBu (psx (qA9 pe_bl))) qAf))))))))))))
   (qBu (psx (qA9 pe_bl))))),?_⟩
  try dsimp only [qBm,qB5,qB0,qCj,qG9]
  walk_at "ri";refine⟨a,_,rfl,.inl hSq,?_⟩;rw [aC];walk_at "ri";refine⟨_,_,rfl,?_⟩;walk_at "ri";refine⟨_,_,rfl,?_⟩;generalize hN:(if (if (3:Int)<(ns.length:Int) then (3:Int) else (ns.length:Int))>1 then (if (3:Int)<(ns.length:Int) then (3:Int) else (ns.length:Int)) else 1)=N;have hN1:1<=N/\N<=3:=by
   rw [<-hN]
   repeat' split
   all_goals lia
  walk_at "ri";refine⟨N,rfl,by lia,by lia,qC3 (lo:=0) (n:=N.toNat) (λi σ' H' => ∃(o1 o2 o3 o4 o5:Option V),σ' = [some (.ref a),o1,o2,o3,o4,o5]/\Ext [] H H') ?_ ?_ ?_⟩
  ·exact⟨_,_,_,_,_,rfl,.refl _ _⟩
  ·rintro i σ' H' hi ⟨o1,o2,o3,o4,o5,rfl,e'⟩ N_ B_ C_ R_ hN_ hC_ hR_;walk_at "ri";refine⟨a,ns,i,by show [V.ref a,V.int (0+(i:Int))] = [V.ref a,V.int (i:Int)];rw [Int.zero_add],e'.toSame.seq hSq,by lia,λt H1 ht T1 s1=>?_⟩;walk_at "ri";refine⟨t,_,3,rfl,T1,by lia,by decide,by decide,λl0 as0 ws0 H2 hl0 nlt0 hla0 has0 hnd0 T2 e2 hl02 hW0 hok0 hfw0=>?_⟩;have dX:DenX K (wo [t] H2) (qDc ws0) (.ref l0):=(T2.works (.list (SqL.of hl02) (qGi hW0 yo_same))).x;have dW:Den K (wo [t] H2) (qDc ws0) (.ref l0):=T2.works (.list (SqL.of hl02) (qGi hW0 yo_same));have E2:Ext [t] H' H2:=(show Ext [t] H' H1 from λb o _ h=>s1 b o h).trans e2;have hSo:=qJy hok0 (λw hw b hb=>((hfw0 w hw).1 b hb).1);have hLo:=qM2 hSo;have hok1:=hok0.one
   clear hla0 has0 hnd0 hl02 hW0 e2 nlt0 hl0 T1 s1;walk_at "ri";refine⟨.ref l0,qDc ws0,rfl,dX.mono (qAs _ _),qD3 (by lia) hLo.wi,hLo.few,λH3 e3=>?_⟩;rw [qMs hok0 λw hw=>(hfw0 w hw).2];walk_at "ri";refine⟨_,_,rfl,rfl,_,rfl,iteF ?_⟩;walk_at "ri";refine⟨.ref l0,qDc ws0,rfl,(dX.mono (qAs _ _)).mono e3.toSame,hLo,λH4 e4=>?_⟩;walk_at "ri";refine⟨_,rfl,iteF ?_⟩;have E4:Ext [t] H2 H4:=(e3.trans e4).mono (by simp);have T4:=T2.same (e3.trans e4).toSame;obtain⟨l0',us,u,wk,hl0',hSq0,hwk,dU⟩:=qPa dW hok1;cases hl0';obtain⟨mm,hm1,hm2,hWk⟩:=hok0.all wk hwk;have hwl:=hWk.len;walk_at "ri";refine qB6 ((qAs _ _).seq (E4.same.seq hSq0)) qUi ?_;walk_at "ri";refine⟨t,_,u,wk,rfl,T4,by lia,dU.mono E4.same,by lia,by lia,λb hb=>⟨((hfw0 wk hwk).1 b hb).1,λd hd=>qVq (((hfw0 wk hwk).1 b hb).2 d hd)⟩,λH5 T5 e5=>?_⟩
   have E5:Ext [t] H2 H5:=E4.trans e5;walk_at "ri";refine⟨_,rfl,iteF ?_⟩;clear e3 e4 e5 T4 E4;walk_at "ri";refine⟨8,rfl,by decide,by decide,qC3 (lo:=0) (n:=(8:Int).toNat) (λj σ' G => ∃(o4 o5:Option V) (kk:Nat),σ' = [some (.ref a),some (.int (0+(i:Int))),some (.ref t),some (.ref l0),o4,o5]/\Ext [t] H2 G/\Tape G t kk/\kk<=30000+5*j) ?_ ?_ ?_⟩
   ·exact⟨_,_,_,rfl,E5,T5,by lia⟩
   ·rintro j σ' G hj ⟨o4,o5,kk,rfl,eG,TG,hkk⟩ N2_ B2_ C2_ R2_ hN2_ hC2_ hR2_;have hj8:j<8:=hj;walk_at "ri";refine⟨t,kk,.ref l0,ws0.map workD,rfl,TG,by lia,dX.mono eG.same,?_,hSo,λr d' H6 T6 e6 dd lk=>?_⟩
    ·intro z;rw [List.map_eq_nil_iff.mp z] at hok1;simp at hok1
    walk_at "ri";refine⟨r,d',rfl,dd.mono (qAs _ _),lk,λH7 e7=>?_⟩;walk_at "ri";refine⟨_,rfl,iteF ?_⟩;walk_at "ri";exact⟨_,_,_,rfl,eG.trans (e6.trans (e7.mono (by simp))),T6.same e7.toSame,by lia⟩
   ·rintro σ' G ⟨o4,o5,kk,rfl,eG,TG,hkk⟩;have hkk:kk<=30000+5*8:=hkk;walk_at "ri";refine λos G4 e4 d4=>⟨len2 (by rw [d4.len];decide),λlo hlo=>?_⟩;have hol:=d4.len;have f5:Ext [] G (upd G4 lo (.lst os)):=e4.trans (.laid hlo);have hG5:∀b o,G4 b=some o->(upd G4 lo (.lst os)) b=some o:=(Ext.laid (ts :=[]) hlo).toSame;have hlo5:(upd G4 lo (.lst os)) lo=some (.lst os):=qA1;generalize upd G4 lo (.lst os)=G5 at f5 hG5 hlo5 ⊢;walk_at "ri";refine qFa hlo5 ?_;walk_at "ri";refine λrs G6 e6 d6=>⟨len2 (by rw [d6.len];decide),λl2 hl2=>?_⟩;have f7:Ext [] G5 (upd G6 l2 (.lst rs)):=e6.trans (.laid hl2);have n56:=qCw e6 hl2;have hG7:∀b o,G6 b=some o->(upd G6 l2 (.lst rs)) b=some o:=(Ext.laid (ts :=[]) hl2).toSame
    have hl27:(upd G6 l2 (.lst rs)) l2=some (.lst rs):=qA1;generalize upd G6 l2 (.lst rs)=G7 at f7 hG7 hl27 ⊢;have hlo7:=f7 _ _ (by simp) hlo5;walk_at "ri";refine qFb hlo7 (qAn (by rw [hol];decide)) ?_;have T7:=TG.same (f5.trans f7).toSame;have nlo:lo ∉ [t]:=TG.some (qCw e4 hlo);have e8:Ext [lo] G7 (upd G7 lo (.lst (os ++ [.ref l2]))) :=.put (by simp);have hlo8:(upd G7 lo (.lst (os ++ [.ref l2]))) lo=some (.lst (os ++ [.ref l2])):=qA1;generalize upd G7 lo (.lst (os ++ [.ref l2]))=G8 at e8 hlo8 ⊢;have T8:=T7.ext e8 (λz=>nlo (by rw [aL.mp z];simp));walk_at "ri";refine qAx T8 (by lia) (by decide) (by decide) λc G9 c0 c1 T9 e9 _=>?_;have hlo9:=e9 _ _ nlo hlo8;have z59:∀b o,b≠lo->b ∉ [t]->G5 b=some o->G9 b=some o:=λb o h1 h2 h=>e9 _ _ h2 (e8 _ _ (by simpa using h1) (f7 _ _ (by simp) h))
    have z79:∀b o,b≠lo->b ∉ [t]->G7 b=some o->G9 b=some o:=λb o h1 h2 h=>e9 _ _ h2 (e8 _ _ (by simpa using h1) h);have T5:=TG.same f5.toSame;have s1:Same (yo G [] G4) G9:=λb o h=>by
     obtain⟨h1,_,h3⟩:=qCg h;exact z59 b o (λz=>by rw [z,hlo] at h3;cases h3) (TG.some h1) (hG5 _ _ h3)
    have s2:Same (yo G5 [] G6) G9:=λb o h=>by
     obtain⟨h1,_,h3⟩:=qCg h;exact z79 b o (λz=>by rw [z,hlo5] at h1;cases h1) (T5.some h1) (hG7 _ _ h3)
    have hl29:G9 l2=some (.lst rs):=z79 _ _ (λz=>by rw [z,hlo5] at n56;cases n56) (T5.some n56) hl27;have dAll:DenXs K G9 (qE0 ++ [.list qGj]) (os ++ [.ref l2]):=(d4.mono s1).app (.cons (.list (SqL.of hl29) (d6.mono s2)) .nil);obtain⟨d',v,hm,hv,hd⟩:=dAll.pick c0 (by show c<12;lia);walk_at "ri";refine qB6 (SqL.of hlo9) hv ?_;walk_at "ri";refine⟨v,d',rfl,hd,qK2 d' hm,λGA eA=>?_⟩;walk_at "ri";refine⟨_,rfl,iteF ?_⟩;walk_at "ri";refine⟨_,_,_,_,_,rfl,e'.trans ?_⟩;have e0:Ext [lo,t] H' GA:=(E2.mono (by simp)).trans ((eG.mono (by simp)).trans ((f5.mono (by simp)).trans ((f7.mono (by simp)).trans ((e8.mono (by simp)).trans ((e9.mono (by simp)).trans (eA.mono (by simp)))))));have hlo':H' lo=none:=by
     cases z:H' lo with
     | none=>rfl
     | some o =>
      have h4:=qCw e4 hlo;rw [eG _ _ nlo (E2 _ _ nlo z)] at h4;cases h4
    exact (e0.drop hlo').drop ht
  ·rintro σ' H' ⟨o1,o2,o3,o4,o5,rfl,e'⟩;walk_at "ri";exact q _
end
section
variable{P:Program}{w:World}{K:PySem.W.Frag}{mg:Str->Option Value}{base:Heap}
theorem qIg{vs:List V}{H:Hp}{Q:VK}{E:XK}(h:qGn 0 K vs H Q E):False:=by
 obtain⟨x,d,pp,mm,p,made,ms,e,H0,rfl,hIn,hD,hP,hne,hpl,_⟩:=h;exact hne (eC.mp (by lia))
theorem qOk{f:Addr}{fd:FuncData}(F:Fun K "_law_with" "_law_with" sWith f fd)(hm:mg "_law_with" = some (.ref f))(hk:PySem.W.keepIn K (.ref f)=true)(hb:Binds K fd ["_law_thing","_law_path","_law_made"] [])(nisi:mg "isinstance" = none)(nlist:mg "list" = none)(ntuple:mg "tuple" = none)(nlen:mg "len" = none):∀n:Nat,FnOk P w K mg base CX0 (n+1) f fd ["_law_thing","_law_path","_law_made"] (qGn n K)
 | 0=>F.ok scWith (λvs H Q E h=>(qIg h).elim) (λcdv A outer s H vs Q E hr h=>(qIg h).elim)
 | n+1=>qJ3 F nisi nlist ntuple nlen n ⟨f,fd,qOk F hm hk hb nisi nlist ntuple nlen n,hm,hk,hb⟩
end
theorem qAy{P:Program}{w:World}{K:PySem.W.Frag}{mg:Str->Option Value}{base h:Heap}{x:Str}{st:Stmt}{k:Nat}{ps:List Str}{sp:Sp}{f:Addr}{oc:Value}{od an:Option Addr}{osl:Array (Option Value)}{kV doc pm cdv ct:Value}(X:K.In h)(G:h.Ns mainGlobals mg)(a:PySem.W.nsIn K mainGlobals x=some (some (.ref f)))(l:K.lookup f=some ⟨oc,od,.func (PySem.W.fnOf x x (qAg st) (qAc st) (qA4 st) .none kV doc pm an cdv ct),osl⟩)(c:PySem.W.codeIn K cdv x=true)(kk:PySem.W.keepIn K (.ref f)=true)(hb:∀(kV doc pm:Value) (an:Option Addr) (cdv ct:Value) (us:List Value),us.length=ps.length->bindArgs (PySem.W.fnOf x x (qAg st) (qAc st) (qA4 st) .none kV doc pm an cdv ct) ⟨us,[]⟩=pure (ps.zip us))(ok:∀fd,Fun K x x st f fd->FnOk P w K mg base CX0 k f fd ps sp):Has P w K mg base x k ps sp:=by
 have F:=qSk (st:=st) l c kk;exact⟨f,_,ok _ F,eS X G a,kk,F.binds hb⟩
theorem qDy{us:List Value}(h:us.length=1):∃a0,us = [a0]:=by
 obtain _ | ⟨x0,us⟩:=us
 ·cases h
 obtain _ | ⟨y,us⟩:=us
 ·exact⟨x0,rfl⟩
 ·simp at h
theorem qCl{us:List Value}(h:us.length=2):∃a0 a1,us = [a0,a1]:=by
 obtain _ | ⟨x0,us⟩:=us
 ·cases h
 obtain _ | ⟨x1,us⟩:=us
 ·cases h
 obtain _ | ⟨y,us⟩:=us
 ·exact⟨x0,x1,rfl⟩
 ·simp at h
theorem qH0{us:List Value}(h:us.length=3):∃a0 a1 a2,us = [a0,a1,a2]:=by
 obtain _ | ⟨x0,us⟩:=us
 ·cases h
 obtain _ | ⟨x1,us⟩:=us
 ·cases h
 obtain _ | ⟨x2,us⟩:=us
 ·cases h
 obtain _ | ⟨y,us⟩:=us
 ·exact⟨x0,x1,x2,rfl⟩
 ·simp at h
theorem qSi{us:List Value}(h:us.length=5):∃a0 a1 a2 a3 a4,us = [a0,a1,a2,a3,a4]:=by
 obtain _ | ⟨x0,us⟩:=us
 ·cases h
 obtain _ | ⟨x1,us⟩:=us
 ·cases h
 obtain _ | ⟨x2,us⟩:=us
 ·cases h
 obtain _ | ⟨x3,us⟩:=us
 ·cases h
 obtain _ | ⟨x4,us⟩:=us
 ·cases h
 obtain _ | ⟨y,us⟩:=us
 ·exact⟨x0,x1,x2,x3,x4,rfl⟩
 ·simp at h
theorem qW7{l:PySem.W.OpenLaw}{w:World}{K:PySem.W.Frag}{h:Heap}{mg:Str->Option Value}{fa f1 f2 f3 f4 f5 f6 f7 f8 f9 f10 f11 f12 f13 f14 f15 f16 f17 f18 f19 f20 f21 f22 f23 f24 f25 f26 f27 f28 f29 f30 f31 f32 f33 wa0 wa1 wa2:Addr}(X:K.In h)(G:h.Ns mainGlobals mg)(hfa:mg "law" = some (.ref fa))
  {od1 an1 od2 an2 od3 an3 od4 an4 od5 an5 od6 an6 od7 an7 od8 an8 od9 an9 od10 an10 od11 an11 od12 an12 od13 an13 od14 an14 od15 an15 od16 an16 od17 an17 od18 an18 od19 an19 od20 an20 od21 an21 od22 an22 od23 an23 od24 an24 od25 an25 od26 an26 od27 an27 od28 an28 od29 an29 od30 an30 od31 an31 od32 an32 od33 an33:Option Addr} {sl1 sl2 sl3 sl4 sl5 sl6 sl7 sl8 sl9 sl10 sl11 sl12 sl13 sl14 sl15 sl16 sl17 sl18 sl19 sl20 sl21 sl22 sl23 sl24 sl25 sl26 sl27 sl28 sl29 sl30 sl31 sl32 sl33:Array (Option Value)} {oc1 kV1 dc1 pm1 cd1 ct1 oc2 kV2 dc2 pm2 cd2 ct2 oc3 kV3 dc3 pm3 cd3 ct3 oc4 kV4 dc4 pm4 cd4 ct4 oc5 kV5 dc5 pm5 cd5 ct5 oc6 kV6 dc6 pm6 cd6 ct6 oc7 kV7 dc7 pm7 cd7 ct7 oc8 kV8 dc8 pm8 cd8 ct8 oc9 kV9 dc9 pm9 cd9 ct9 oc10 kV10 dc10 pm10 cd10 ct10 oc11 kV11 dc11 pm11 cd11 ct11 oc12 kV12 dc12 pm12 cd12 ct12 oc13 kV13 dc13 pm13 cd13 ct13 oc14 kV14 dc14 pm14 cd14 ct14 oc15 kV15 dc15 pm15 cd15 ct15 oc16 kV16 dc16 pm16 cd16 ct16 oc17 kV17 dc17 pm17 cd17 ct17 oc18 kV18 dc18 pm18 cd18 ct18 oc19 kV19 dc19 pm19 cd19 ct19 oc20 kV20 dc20 pm20 cd20 ct20 oc21 kV21 dc21 pm21 cd21 ct21 oc22 kV22 dc22 pm22 cd22 ct22 oc23 kV23 dc23 pm23 cd23 ct23 oc24 kV24 dc24 pm24 cd24 ct24 oc25 kV25 dc25 pm25 cd25 ct25 oc26 kV26 dc26 pm26 cd26 ct26 oc27 kV27 dc27 pm27 cd27 ct27 oc28 kV28 dc28 pm28 cd28 ct28 oc29 kV29 dc29 pm29 cd29 ct29 oc30 kV30 dc30 pm30 cd30 ct30 oc31 kV31 dc31 pm31 cd31 ct31 oc32 kV32 dc32 pm32 cd32 ct32 oc33 kV33 dc33 pm33 cd33 ct33:Value}
  (a1:PySem.W.nsIn K mainGlobals "_law_tape" = some (some (.ref f1))) (l1:K.lookup f1=some ⟨oc1,od1,.func (PySem.W.fnOf "_law_tape" "_law_tape" (qAg sTape) (qAc sTape) (qA4 sTape) .none kV1 dc1 pm1 an1 cd1 ct1),sl1⟩) (c1:PySem.W.codeIn K cd1 "_law_tape" = true) (k1:PySem.W.keepIn K (.ref f1)=true)
  (a2:PySem.W.nsIn K mainGlobals "_law_draw" = some (some (.ref f2))) (l2:K.lookup f2=some ⟨oc2,od2,.func (PySem.W.fnOf "_law_draw" "_law_draw" (qAg sDraw) (qAc sDraw) (qA4 sDraw) .none kV2 dc2 pm2 an2 cd2 ct2),sl2⟩) (c2:PySem.W.codeIn K cd2 "_law_draw" = true) (k2:PySem.W.keepIn K (.ref f2)=true)
  (a3:PySem.W.nsIn K mainGlobals "_law_nexts" = some (some (.ref f3))) (l3:K.lookup f3=some ⟨oc3,od3,.func (PySem.W.fnOf "_law_nexts" "_law_nexts" (qAg qGr) (qAc qGr) (qA4 qGr) .none kV3 dc3 pm3 an3 cd3 ct3),sl3⟩) (c3:PySem.W.codeIn K cd3 "_law_nexts" = true) (k3:PySem.W.keepIn K (.ref f3)=true)
  (a4:PySem.W.nsIn K mainGlobals "_law_number" = some (some (.ref f4))) (l4:K.lookup f4=some ⟨oc4,od4,.func (PySem.W.fnOf "_law_number" "_law_number" (qAg qEr) (qAc qEr) (qA4 qEr) .none kV4 dc4 pm4 an4 cd4 ct4),sl4⟩) (c4:PySem.W.codeIn K cd4 "_law_number" = true) (k4:PySem.W.keepIn K (.ref f4)=true)
  (a5:PySem.W.nsIn K mainGlobals "_law_deeds" = some (some (.ref f5))) (l5:K.lookup f5=some ⟨oc5,od5,.func (PySem.W.fnOf "_law_deeds" "_law_deeds" (qAg qGu) (qAc qGu) (qA4 qGu) .none kV5 dc5 pm5 an5 cd5 ct5),sl5⟩) (c5:PySem.W.codeIn K cd5 "_law_deeds" = true) (k5:PySem.W.keepIn K (.ref f5)=true)
  (a6:PySem.W.nsIn K mainGlobals "_law_work" = some (some (.ref f6))) (l6:K.lookup f6=some ⟨oc6,od6,.func (PySem.W.fnOf "_law_work" "_law_work" (qAg sWork) (qAc sWork) (qA4 sWork) .none kV6 dc6 pm6 an6 cd6 ct6),sl6⟩) (c6:PySem.W.codeIn K cd6 "_law_work" = true) (k6:PySem.W.keepIn K (.ref f6)=true)
  (a7:PySem.W.nsIn K mainGlobals "_law_many" = some (some (.ref f7))) (l7:K.lookup f7=some ⟨oc7,od7,.func (PySem.W.fnOf "_law_many" "_law_many" (qAg sMany) (qAc sMany) (qA4 sMany) .none kV7 dc7 pm7 an7 cd7 ct7),sl7⟩) (c7:PySem.W.codeIn K cd7 "_law_many" = true) (k7:PySem.W.keepIn K (.ref f7)=true)
  (a8:PySem.W.nsIn K mainGlobals "_law_works" = some (some (.ref f8))) (l8:K.lookup f8=some ⟨oc8,od8,.func (PySem.W.fnOf "_law_works" "_law_works" (qAg qGp) (qAc qGp) (qA4 qGp) .none kV8 dc8 pm8 an8 cd8 ct8),sl8⟩) (c8:PySem.W.codeIn K cd8 "_law_works" = true) (k8:PySem.W.keepIn K (.ref f8)=true)
  (a9:PySem.W.nsIn K mainGlobals "led_to" = some (some (.ref f9))) (l9:K.lookup f9=some ⟨oc9,od9,.func (PySem.W.fnOf "led_to" "led_to" (qAg sLed) (qAc sLed) (qA4 sLed) .none kV9 dc9 pm9 an9 cd9 ct9),sl9⟩) (c9:PySem.W.codeIn K cd9 "led_to" = true) (k9:PySem.W.keepIn K (.ref f9)=true)
  (a10:PySem.W.nsIn K mainGlobals "nexts_of" = some (some (.ref f10))) (l10:K.lookup f10=some ⟨oc10,od10,.func (PySem.W.fnOf "nexts_of" "nexts_of" (qAg sNx) (qAc sNx) (qA4 sNx) .none kV10 dc10 pm10 an10 cd10 ct10),sl10⟩) (c10:PySem.W.codeIn K cd10 "nexts_of" = true) (k10:PySem.W.keepIn K (.ref f10)=true)
  (a11:PySem.W.nsIn K mainGlobals "is_number" = some (some (.ref f11))) (l11:K.lookup f11=some ⟨oc11,od11,.func (PySem.W.fnOf "is_number" "is_number" (qAg qGs) (qAc qGs) (qA4 qGs) .none kV11 dc11 pm11 an11 cd11 ct11),sl11⟩) (c11:PySem.W.codeIn K cd11 "is_number" = true) (k11:PySem.W.keepIn K (.ref f11)=true)
  (a12:PySem.W.nsIn K mainGlobals "is_number_from" = some (some (.ref f12))) (l12:K.lookup f12=some ⟨oc12,od12,.func (PySem.W.fnOf "is_number_from" "is_number_from" (qAg qEv) (qAc qEv) (qA4 qEv) .none kV12 dc12 pm12 an12 cd12 ct12),sl12⟩) (c12:PySem.W.codeIn K cd12 "is_number_from" = true) (k12:PySem.W.keepIn K (.ref f12)=true)
  (a13:PySem.W.nsIn K mainGlobals "has_word" = some (some (.ref f13))) (l13:K.lookup f13=some ⟨oc13,od13,.func (PySem.W.fnOf "has_word" "has_word" (qAg qDp) (qAc qDp) (qA4 qDp) .none kV13 dc13 pm13 an13 cd13 ct13),sl13⟩) (c13:PySem.W.codeIn K cd13 "has_word" = true) (k13:PySem.W.keepIn K (.ref f13)=true)
  (a14:PySem.W.nsIn K mainGlobals "is_part" = some (some (.ref f14))) (l14:K.lookup f14=some ⟨oc14,od14,.func (PySem.W.fnOf "is_part" "is_part" (qAg qEu) (qAc qEu) (qA4 qEu) .none kV14 dc14 pm14 an14 cd14 ct14),sl14⟩) (c14:PySem.W.codeIn K cd14 "is_part" = true) (k14:PySem.W.keepIn K (.ref f14)=true)
  (a15:PySem.W.nsIn K mainGlobals "is_deed" = some (some (.ref f15))) (l15:K.lookup f15=some ⟨oc15,od15,.func (PySem.W.fnOf "is_deed" "is_deed" (qAg qEw) (qAc qEw) (qA4 qEw) .none kV15 dc15 pm15 an15 cd15 ct15),sl15⟩) (c15:PySem.W.codeIn K cd15 "is_deed" = true) (k15:PySem.W.keepIn K (.ref f15)=true)
  (a16:PySem.W.nsIn K mainGlobals "is_end" = some (some (.ref f16))) (l16:K.lookup f16=some ⟨oc16,od16,.func (PySem.W.fnOf "is_end" "is_end" (qAg qGt) (qAc qGt) (qA4 qGt) .none kV16 dc16 pm16 an16 cd16 ct16),sl16⟩) (c16:PySem.W.codeIn K cd16 "is_end" = true) (k16:PySem.W.keepIn K (.ref f16)=true)
  (a17:PySem.W.nsIn K mainGlobals "is_block" = some (some (.ref f17))) (l17:K.lookup f17=some ⟨oc17,od17,.func (PySem.W.fnOf "is_block" "is_block" (qAg qDo) (qAc qDo) (qA4 qDo) .none kV17 dc17 pm17 an17 cd17 ct17),sl17⟩) (c17:PySem.W.codeIn K cd17 "is_block" = true) (k17:PySem.W.keepIn K (.ref f17)=true)
  (a18:PySem.W.nsIn K mainGlobals "is_work" = some (some (.ref f18))) (l18:K.lookup f18=some ⟨oc18,od18,.func (PySem.W.fnOf "is_work" "is_work" (qAg qEt) (qAc qEt) (qA4 qEt) .none kV18 dc18 pm18 an18 cd18 ct18),sl18⟩) (c18:PySem.W.codeIn K cd18 "is_work" = true) (k18:PySem.W.keepIn K (.ref f18)=true)
  (a19:PySem.W.nsIn K mainGlobals "are_works" = some (some (.ref f19))) (l19:K.lookup f19=some ⟨oc19,od19,.func (PySem.W.fnOf "are_works" "are_works" (qAg qD1) (qAc qD1) (qA4 qD1) .none kV19 dc19 pm19 an19 cd19 ct19),sl19⟩) (c19:PySem.W.codeIn K cd19 "are_works" = true) (k19:PySem.W.keepIn K (.ref f19)=true)
  (a20:PySem.W.nsIn K mainGlobals "is_plain" = some (some (.ref f20))) (l20:K.lookup f20=some ⟨oc20,od20,.func (PySem.W.fnOf "is_plain" "is_plain" (qAg qDn) (qAc qDn) (qA4 qDn) .none kV20 dc20 pm20 an20 cd20 ct20),sl20⟩) (c20:PySem.W.codeIn K cd20 "is_plain" = true) (k20:PySem.W.keepIn K (.ref f20)=true)
  (a21:PySem.W.nsIn K mainGlobals "_law_within" = some (some (.ref f21))) (l21:K.lookup f21=some ⟨oc21,od21,.func (PySem.W.fnOf "_law_within" "_law_within" (qAg qEm) (qAc qEm) (qA4 qEm) .none kV21 dc21 pm21 an21 cd21 ct21),sl21⟩) (c21:PySem.W.codeIn K cd21 "_law_within" = true) (k21:PySem.W.keepIn K (.ref f21)=true)
  (a22:PySem.W.nsIn K mainGlobals "_law_tupled" = some (some (.ref f22))) (l22:K.lookup f22=some ⟨oc22,od22,.func (PySem.W.fnOf "_law_tupled" "_law_tupled" (qAg qEn) (qAc qEn) (qA4 qEn) .none kV22 dc22 pm22 an22 cd22 ct22),sl22⟩) (c22:PySem.W.codeIn K cd22 "_law_tupled" = true) (k22:PySem.W.keepIn K (.ref f22)=true)
  (a23:PySem.W.nsIn K mainGlobals "_law_deed_right" = some (some (.ref f23))) (l23:K.lookup f23=some ⟨oc23,od23,.func (PySem.W.fnOf "_law_deed_right" "_law_deed_right" (qAg qGv) (qAc qGv) (qA4 qGv) .none kV23 dc23 pm23 an23 cd23 ct23),sl23⟩) (c23:PySem.W.codeIn K cd23 "_law_deed_right" = true) (k23:PySem.W.keepIn K (.ref f23)=true)
  (a24:PySem.W.nsIn K mainGlobals "_law_end_right" = some (some (.ref f24))) (l24:K.lookup f24=some ⟨oc24,od24,.func (PySem.W.fnOf "_law_end_right" "_law_end_right" (qAg sEndR) (qAc sEndR) (qA4 sEndR) .none kV24 dc24 pm24 an24 cd24 ct24),sl24⟩) (c24:PySem.W.codeIn K cd24 "_law_end_right" = true) (k24:PySem.W.keepIn K (.ref f24)=true)
  (a25:PySem.W.nsIn K mainGlobals "_law_work_right" = some (some (.ref f25))) (l25:K.lookup f25=some ⟨oc25,od25,.func (PySem.W.fnOf "_law_work_right" "_law_work_right" (qAg qGq) (qAc qGq) (qA4 qGq) .none kV25 dc25 pm25 an25 cd25 ct25),sl25⟩) (c25:PySem.W.codeIn K cd25 "_law_work_right" = true) (k25:PySem.W.keepIn K (.ref f25)=true)
  (a26:PySem.W.nsIn K mainGlobals "_law_works_right" = some (some (.ref f26))) (l26:K.lookup f26=some ⟨oc26,od26,.func (PySem.W.fnOf "_law_works_right" "_law_works_right" (qAg qEl) (qAc qEl) (qA4 qEl) .none kV26 dc26 pm26 an26 cd26 ct26),sl26⟩) (c26:PySem.W.codeIn K cd26 "_law_works_right" = true) (k26:PySem.W.keepIn K (.ref f26)=true)
  (a27:PySem.W.nsIn K mainGlobals "_law_places" = some (some (.ref f27))) (l27:K.lookup f27=some ⟨oc27,od27,.func (PySem.W.fnOf "_law_places" "_law_places" (qAg qEq) (qAc qEq) (qA4 qEq) .none kV27 dc27 pm27 an27 cd27 ct27),sl27⟩) (c27:PySem.W.codeIn K cd27 "_law_places" = true) (k27:PySem.W.keepIn K (.ref f27)=true)
  (a28:PySem.W.nsIn K mainGlobals "_law_with" = some (some (.ref f28))) (l28:K.lookup f28=some ⟨oc28,od28,.func (PySem.W.fnOf "_law_with" "_law_with" (qAg sWith) (qAc sWith) (qA4 sWith) .none kV28 dc28 pm28 an28 cd28 ct28),sl28⟩) (c28:PySem.W.codeIn K cd28 "_law_with" = true) (k28:PySem.W.keepIn K (.ref f28)=true)
  (a29:PySem.W.nsIn K mainGlobals "_law_bent" = some (some (.ref f29))) (l29:K.lookup f29=some ⟨oc29,od29,.func (PySem.W.fnOf "_law_bent" "_law_bent" (qAg sBent) (qAc sBent) (qA4 sBent) .none kV29 dc29 pm29 an29 cd29 ct29),sl29⟩) (c29:PySem.W.codeIn K cd29 "_law_bent" = true) (k29:PySem.W.keepIn K (.ref f29)=true)
  (a30:PySem.W.nsIn K mainGlobals "_law_spoilt" = some (some (.ref f30))) (l30:K.lookup f30=some ⟨oc30,od30,.func (PySem.W.fnOf "_law_spoilt" "_law_spoilt" (qAg qEo) (qAc qEo) (qA4 qEo) .none kV30 dc30 pm30 an30 cd30 ct30),sl30⟩) (c30:PySem.W.codeIn K cd30 "_law_spoilt" = true) (k30:PySem.W.keepIn K (.ref f30)=true)
  (a31:PySem.W.nsIn K mainGlobals "_law_looked_right" = some (some (.ref f31))) (l31:K.lookup f31=some ⟨oc31,od31,.func (PySem.W.fnOf "_law_looked_right" "_law_looked_right" (qAg qEs) (qAc qEs) (qA4 qEs) .none kV31 dc31 pm31 an31 cd31 ct31),sl31⟩) (c31:PySem.W.codeIn K cd31 "_law_looked_right" = true) (k31:PySem.W.keepIn K (.ref f31)=true)
  (a32:PySem.W.nsIn K mainGlobals "_law_plain_right" = some (some (.ref f32))) (l32:K.lookup f32=some ⟨oc32,od32,.func (PySem.W.fnOf "_law_plain_right" "_law_plain_right" (qAg qEp) (qAc qEp) (qA4 qEp) .none kV32 dc32 pm32 an32 cd32 ct32),sl32⟩) (c32:PySem.W.codeIn K cd32 "_law_plain_right" = true) (k32:PySem.W.keepIn K (.ref f32)=true)
  (a33:PySem.W.nsIn K mainGlobals "law" = some (some (.ref f33))) (l33:K.lookup f33=some ⟨oc33,od33,.func (PySem.W.fnOf "law" "law" (qAg sLaw) (qAc sLaw) (qA4 sLaw) .none kV33 dc33 pm33 an33 cd33 ct33),sl33⟩) (c33:PySem.W.codeIn K cd33 "law" = true) (k33:PySem.W.keepIn K (.ref f33)=true)
  (u0:PySem.W.nsIn K mainGlobals "DEED_PARTS" = some (some (.ref wa0))) (v0:Parts K wa0)
  (u1:PySem.W.nsIn K mainGlobals "END_BLOCKS" = some (some (.ref wa1))) (v1:Blocks K wa1)
  (u2:PySem.W.nsIn K mainGlobals "LAYING" = some (some (.ref wa2))) (v2:qSn K wa2)
  {tb0:Tok} (i0:PySem.W.nsIn K mainGlobals "BOXES" = some (some (.int 8 tb0)))
  (z1:PySem.W.nsIn K mainGlobals "range" = some none) (z2:PySem.W.nsIn K mainGlobals "len" = some none) (z3:PySem.W.nsIn K mainGlobals "abs" = some none) (z4:PySem.W.nsIn K mainGlobals "int" = some none) (z5:PySem.W.nsIn K mainGlobals "max" = some none) (z6:PySem.W.nsIn K mainGlobals "min" = some none) (z7:PySem.W.nsIn K mainGlobals "list" = some none) (z8:PySem.W.nsIn K mainGlobals "repr" = some none) (z9:PySem.W.nsIn K mainGlobals "enumerate" = some none) (z10:PySem.W.nsIn K mainGlobals "isinstance" = some none) (z11:PySem.W.nsIn K mainGlobals "bool" = some none) (z12:PySem.W.nsIn K mainGlobals "tuple" = some none) (z13:PySem.W.nsIn K mainGlobals "str" = some none) (z14:PySem.W.nsIn K mainGlobals "all" = some none) (z15:PySem.W.nsIn K mainGlobals "any" = some none) (z16:PySem.W.nsIn K mainGlobals "zip" = some none) (z17:PySem.W.nsIn K mainGlobals "set" = some none) :
  ∃fd:FuncData,(∀(s:Shared) (v:Value),BindsTo s fd ⟨[v],[]⟩ [("_law_script",v)]) /\ ∀base:Heap,K.In base->base.Ns mainGlobals mg->FnOk l.prog w K mg base CX0 9 fa fd ["_law_script"] (qQi K):=by
 have e:=hfa.symm.trans (eS X G a33);cases e;have nrange:=bB X G z1;have nlen:=bB X G z2;have nabs:=bB X G z3;have nint:=bB X G z4;have nmax:=bB X G z5;have nmin:=bB X G z6;have nlist:=bB X G z7;have nrepr:=bB X G z8;have nenumerate:=bB X G z9;have nisinstance:=bB X G z10;have nbool:=bB X G z11;have ntuple:=bB X G z12;have nstr:=bB X G z13;have nall:=bB X G z14;have nany:=bB X G z15;have nzip:=bB X G z16;have nset:=bB X G z17
 have hDp:=eS X G u0;have hEb:=eS X G u1;have hLy:=eS X G u2;have hBx:=eS X G i0;have FL:=qSk (st:=sLaw) l33 c33 k33;refine⟨PySem.W.fnOf "law" "law" (qAg sLaw) (qAc sLaw) (qA4 sLaw) .none kV33 dc33 pm33 an33 cd33 ct33,λs v =>.of_eq rfl,λbase _ _=>?_⟩;have htape:Has l.prog w K mg base "_law_tape" 1 ["_law_script","_law_k"] (qN7 K):=qAy (st:=sTape) X G a1 l1 c1 k1 (λ_ _ _ _ _ _ us hl=>by obtain⟨_,_,rfl⟩:=qCl hl;rfl) λ_ F=>qTq F nlen nabs nint;have hdraw:Has l.prog w K mg base "_law_draw" 1 ["_law_tape_here","_law_many_here"] qD0:=qAy (st:=sDraw) X G a2 l2 c2 k2 (λ_ _ _ _ _ _ us hl=>by obtain⟨_,_,rfl⟩:=qCl hl;rfl) λ_ F=>qTt F;have hnexts:Has l.prog w K mg base "_law_nexts" 2 ["_law_tape_here","_law_many_here"] (qHh K):=qAy (st:=qGr) X G a3 l3 c3 k3 (λ_ _ _ _ _ _ us hl=>by obtain⟨_,_,rfl⟩:=qCl hl;rfl) λ_ F=>qR8 F nrange nmax hdraw
 have hnumber:Has l.prog w K mg base "_law_number" 2 ["_law_tape_here"] qHg:=qAy (st:=qEr) X G a4 l4 c4 k4 (λ_ _ _ _ _ _ us hl=>by obtain⟨_,rfl⟩:=qDy hl;rfl) λ_ F=>qOp F hdraw;have hdeeds:Has l.prog w K mg base "_law_deeds" 3 ["_law_tape_here","_law_most","_law_boxes","_law_first","_law_works_here"] (qFi K):=qAy (st:=qGu) X G a5 l5 c5 k5 (λ_ _ _ _ _ _ us hl=>by obtain⟨_,_,_,_,_,rfl⟩:=qSi hl;rfl) λ_ F=>qRb F nrange nint nlen hdraw hnumber;have hwork:Has l.prog w K mg base "_law_work" 4 ["_law_tape_here","_law_many_here","_law_most","_law_first","_law_works_here"] (qK3 K):=qAy (st:=sWork) X G a6 l6 c6 k6 (λ_ _ _ _ _ _ us hl=>by obtain⟨_,_,_,_,_,rfl⟩:=qSi hl;rfl) λ_ F=>qTp F nrange nlist nlen hdraw hnexts hdeeds
 have hmany:Has l.prog w K mg base "_law_many" 2 ["_law_tape_here"] qN8:=qAy (st:=sMany) X G a7 l7 c7 k7 (λ_ _ _ _ _ _ us hl=>by obtain⟨_,rfl⟩:=qDy hl;rfl) λ_ F=>qTr F nint hdraw;have hworks:Has l.prog w K mg base "_law_works" 5 ["_law_tape_here","_law_most"] (qHc K):=qAy (st:=qGp) X G a8 l8 c8 k8 (λ_ _ _ _ _ _ us hl=>by obtain⟨_,_,rfl⟩:=qCl hl;rfl) λ_ F=>qR6 F nrange nint hdraw hmany hwork;have hled_to:Has l.prog w K mg base "led_to" 1 ["starts","nexts"] (qSr K):=qAy (st:=sLed) X G a9 l9 c9 k9 (λ_ _ _ _ _ _ us hl=>by obtain⟨_,_,rfl⟩:=qCl hl;rfl) λ_ F=>qVk F nlist;have hnexts_of:Has l.prog w K mg base "nexts_of" 1 ["work"] (qW8 K):=qAy (st:=sNx) X G a10 l10 c10 k10 (λ_ _ _ _ _ _ us hl=>by obtain⟨_,rfl⟩:=qDy hl;rfl) λ_ F=>qWq F nlist nenumerate
 have his_number:Has l.prog w K mg base "is_number" 1 ["thing"] (qFh K):=qAy (st:=qGs) X G a11 l11 c11 k11 (λ_ _ _ _ _ _ us hl=>by obtain⟨_,rfl⟩:=qDy hl;rfl) λ_ F=>qR9 F nisinstance nint nbool;have his_number_from:Has l.prog w K mg base "is_number_from" 2 ["thing","low","beyond"] (qE6 K):=qAy (st:=qEv) X G a12 l12 c12 k12 (λ_ _ _ _ _ _ us hl=>by obtain⟨_,_,_,rfl⟩:=qH0 hl;rfl) λ_ F=>qOt F his_number;have hhas_word:Has l.prog w K mg base "has_word" 1 ["thing"] (qDm K):=qAy (st:=qDp) X G a13 l13 c13 k13 (λ_ _ _ _ _ _ us hl=>by obtain⟨_,rfl⟩:=qDy hl;rfl) λ_ F=>qMa F nisinstance ntuple nstr nlen;have his_part:Has l.prog w K mg base "is_part" 3 ["thing","kind","works"] (qFu K):=qAy (st:=qEu) X G a14 l14 c14 k14 (λ_ _ _ _ _ _ us hl=>by obtain⟨_,_,_,rfl⟩:=qH0 hl;rfl) λ_ F=>qOs F hBx his_number his_number_from
 have his_deed:Has l.prog w K mg base "is_deed" 4 ["thing","works"] (qCz K):=qAy (st:=qEw) X G a15 l15 c15 k15 (λ_ _ _ _ _ _ us hl=>by obtain⟨_,_,rfl⟩:=qCl hl;rfl) λ_ F=>qOu F nlen nall nzip hDp v0 hhas_word his_part;have his_end:Has l.prog w K mg base "is_end" 3 ["thing","many"] (qDl K):=qAy (st:=qGt) X G a16 l16 c16 k16 (λ_ _ _ _ _ _ us hl=>by obtain⟨_,_,rfl⟩:=qCl hl;rfl) λ_ F=>qRa F nlen nall nset hEb v1 hhas_word his_number_from;have his_block:Has l.prog w K mg base "is_block" 5 ["thing","many","works"] (qEk K):=qAy (st:=qDo) X G a17 l17 c17 k17 (λ_ _ _ _ _ _ us hl=>by obtain⟨_,_,_,rfl⟩:=qH0 hl;rfl) λ_ F=>qM9 F nisinstance ntuple nlist nlen nall his_end his_deed;have his_work:Has l.prog w K mg base "is_work" 6 ["thing","works"] (qC6 K):=qAy (st:=qEt) X G a18 l18 c18 k18 (λ_ _ _ _ _ _ us hl=>by obtain⟨_,_,rfl⟩:=qCl hl;rfl) λ_ F=>qOr F nisinstance nlist nlen nall his_block hled_to hnexts_of
 have hare_works:Has l.prog w K mg base "are_works" 7 ["thing"] (qBo K):=qAy (st:=qD1) X G a19 l19 c19 k19 (λ_ _ _ _ _ _ us hl=>by obtain⟨_,rfl⟩:=qDy hl;rfl) λ_ F=>qKf F nisinstance nlist nlen nall his_work;have his_plain:Has l.prog w K mg base "is_plain" 1 ["work"] (qFt K):=qAy (st:=qDn) X G a20 l20 c20 k20 (λ_ _ _ _ _ _ us hl=>by obtain⟨_,rfl⟩:=qDy hl;rfl) λ_ F=>qM8 F nany hLy v2;have hwithin:Has l.prog w K mg base "_law_within" 1 ["_law_thing","_law_least","_law_most"] (qFf K):=qAy (st:=qEm) X G a21 l21 c21 k21 (λ_ _ _ _ _ _ us hl=>by obtain⟨_,_,_,rfl⟩:=qH0 hl;rfl) λ_ F=>qOj F nisinstance nint nbool;have htupled:Has l.prog w K mg base "_law_tupled" 1 ["_law_thing","_law_sizes"] (qFg K):=qAy (st:=qEn) X G a22 l22 c22 k22 (λ_ _ _ _ _ _ us hl=>by obtain⟨_,_,rfl⟩:=qCl hl;rfl) λ_ F=>qOl F nisinstance ntuple nstr nlen
 have hdeed_right:Has l.prog w K mg base "_law_deed_right" 2 ["_law_thing","_law_works_here"] (qCz K):=qAy (st:=qGv) X G a23 l23 c23 k23 (λ_ _ _ _ _ _ us hl=>by obtain⟨_,_,rfl⟩:=qCl hl;rfl) λ_ F=>qRc F nisinstance nint nbool nall hwithin htupled;have hend_right:Has l.prog w K mg base "_law_end_right" 2 ["_law_thing","_law_many_here"] (qDl K):=qAy (st:=sEndR) X G a24 l24 c24 k24 (λ_ _ _ _ _ _ us hl=>by obtain⟨_,_,rfl⟩:=qCl hl;rfl) λ_ F=>qTs F nlen nall hwithin htupled;have hwork_right:Has l.prog w K mg base "_law_work_right" 3 ["_law_thing","_law_works_here"] (qC6 K):=qAy (st:=qGq) X G a25 l25 c25 k25 (λ_ _ _ _ _ _ us hl=>by obtain⟨_,_,rfl⟩:=qCl hl;rfl) λ_ F=>qR7 F nisinstance nlist ntuple nlen nall nrange nset hdeed_right hend_right
 have hworks_right:Has l.prog w K mg base "_law_works_right" 4 ["_law_thing"] (qBo K):=qAy (st:=qEl) X G a26 l26 c26 k26 (λ_ _ _ _ _ _ us hl=>by obtain⟨_,rfl⟩:=qDy hl;rfl) λ_ F=>qOi F nisinstance nlist nlen nall hwork_right;have hplaces:Has l.prog w K mg base "_law_places" 1 ["_law_thing"] (qHf K):=qAy (st:=qEq) X G a27 l27 c27 k27 (λ_ _ _ _ _ _ us hl=>by obtain⟨_,rfl⟩:=qDy hl;rfl) λ_ F=>qOo F nisinstance nlist ntuple nlen nrange;have hwith:Has l.prog w K mg base "_law_with" 7 ["_law_thing","_law_path","_law_made"] (qGn 6 K):=qAy (st:=sWith) X G a28 l28 c28 k28 (λ_ _ _ _ _ _ us hl=>by obtain⟨_,_,_,rfl⟩:=qH0 hl;rfl) λ_ F=>qOk F (eS X G a28) k28 (F.binds λ_ _ _ _ _ _ us hl=>by obtain⟨_,_,_,rfl⟩:=qH0 hl;rfl) nisinstance nlist ntuple nlen 6
 have hbent:Has l.prog w K mg base "_law_bent" 2 ["_law_tape_here","_law_thing"] (qN9 K):=qAy (st:=sBent) X G a29 l29 c29 k29 (λ_ _ _ _ _ _ us hl=>by obtain⟨_,_,rfl⟩:=qCl hl;rfl) λ_ F=>qTu F nisinstance nlist ntuple nstr hdraw;have hspoilt:Has l.prog w K mg base "_law_spoilt" 8 ["_law_tape_here","_law_works_here"] (qHd K):=qAy (st:=qEo) X G a30 l30 c30 k30 (λ_ _ _ _ _ _ us hl=>by obtain⟨_,_,rfl⟩:=qCl hl;rfl) λ_ F=>qOm F nlen hdraw hplaces hwith hbent;have hlooked_right:Has l.prog w K mg base "_law_looked_right" 8 ["_law_thing"] (qHi K):=qAy (st:=qEs) X G a31 l31 c31 k31 (λ_ _ _ _ _ _ us hl=>by obtain⟨_,rfl⟩:=qDy hl;rfl) λ_ F=>qOq F nisinstance nlist nbool nrepr hare_works hworks_right his_work hwork_right
 have hplain_right:Has l.prog w K mg base "_law_plain_right" 2 ["_law_tape_here","_law_work_here"] (qHe K):=qAy (st:=qEp) X G a32 l32 c32 k32 (λ_ _ _ _ _ _ us hl=>by obtain⟨_,_,rfl⟩:=qCl hl;rfl) λ_ F=>qOn F nlen nlist hdraw his_plain;exact qVl FL nrange nlen nmax nmin htape hdraw hworks hare_works hlooked_right hplain_right hspoilt
theorem walk{l:PySem.W.OpenLaw}{q:Program}{loose:List Str}{XP:(Str->Option Value)->Heap->Prop}{YP:World->Heap->Prop}{d:DefRec}{K:Params->PySem.W.Frag}(hn:l.most=some 63)(hdf:d.params.defaults = [])(hY:∀(w:World) (h:Heap),YP w h->(K w.params).In h)(F:∀(w:World) (mg:Str->Option Value) (fa:Addr) (h:Heap),(K w.params).In h->h.Ns mainGlobals mg->mg d.name=some (.ref fa) ->
   ∃fd:FuncData,(∀(s:Shared) (u:Value),BindsTo s fd ⟨[u],[]⟩ [("_law_script",u)]) /\ ∀base:Heap,(K w.params).In base->base.Ns mainGlobals mg->FnOk l.prog w (K w.params) mg base CX0 9 fa fd ["_law_script"] (qQi (K w.params))) :
  PySem.W.WalkO q loose XP YP l.row.toRowW d [] (λf vs=>PySem.call f vs) :=
 L2.qSp (n:=63) (k:=9) (x := "_law_script") (CX:=λ_=>CX0) (sp:=λw=>qQi (K w.params)) hn (by decide) hdf ⟨rfl,by decide,by decide,rfl⟩ hY F (λ_ _ a ns hl _ hS=>⟨a,ns,rfl,hS,hl,λ_=>rfl⟩) λ_ _ _ _ _ z=>z
end Fs
open PySem PySem.W PyProof.Rows
namespace PySem.W.Fast
def tw10346498953269325134:=0
def tw15705764651702171059:=0
def tw18215346112558828332:=0
def tw112689314570654414:=0
def tw7830767136843840282:=0
def tw7601792032930554587:=0
def tw16636289217287275133:=0
def tw16163189731152777636:=0
def tw6495075877943025495:=0
def tw9566826801003555894:=0
def tw15258525122069584846:=0
def tw2723352428148747354:=0
def tw1041299172736052404:=0
def tw12946513288048199912:=0
def tw9599139233318453240:=0
def tw17470198626458198607:=0
def tw8930290564699377337:=0
def tw13241837660994603168:=0
def tw6748789752379840594:=0
def tw10388074555966485723:=0
def tw11173366745422042232:=0
def tw17599751402400927089:=0
def tw4872965825585420001:=0
def tw58260149736580034:=0
def tw6663672460209021343:=0
def tw12436941414489977200:=0
def tw9940274659113036576:=0
def tw15125816294572754145:=0
def tw3299734139121969688:=0
def tw16543369502016749542:=0
def tw17383183517706882017:=0
def tw15582182267028621284:=0
def tw16294696751689857220:=0
def tw11691145992606824642:=0
def tw6064567508891838553:=0
def tw8232723377097371169:=0
def tw12900077780096297223:=0
def tw11662960608035964506:=0
def tw10663760143481399486:=0
def tw12634662056701126319:=0
def tw4989306608941804916:=0
def tw7350022764019919093:=0
def tw12688227401863351306:=0
def tw3865718708287436961:=0
def tw6998367268702013359:=0
def tw14586923252736201727:=0
def tw4249289129389116572:=0
def tw18193949345250139912:=0
def tw15379868955783368381:=0
def tw14184159676247715580:=0
def tw8114245266770655535:=0
def tw15989470219047345982:=0
def tw2678280262245087508:=0
def tw17967913586537652702:=0
def tw13996489820162428825:=0
def tw13426693309310476276:=0
def tw11251728861823393842:=0
def tw17529242588127209665:=0
def tw11685278369198771003:=0
def tw16751755794910570953:=0
def tw843379361320029186:=0
def tw4645191071849673132:=0
def tw6265708520990557299:=0
def tw7490885046691876999:=0
def tw10274405017411105898:=0
def tw18347868016279572162:=0
def tw11900516745363362409:=0
def tw6310508778917181382:=0
def tw13142292237800665792:=0
def tw17802998903713552135:=0
def tw13496346607215148476:=0
def tw3205551557578581224:=0
def tw11844812443741981715:=0
def tw12073171758570991904:=0
def tw1534153934030844054:=0
def tw17357141013951563198:=0
def tw13116809935157132240:=0
def tw1237549972322403881:=0
def tw12132069851140295970:=0
def tw573038123260941183:=0
def tw16375859098263704169:=0
def tw6892090301092901511:=0
def tw13426395187200152777:=0
def tw12607231770302051298:=0
def tw1818658160374513555:=0
def tw14764830814459415230:=0
def tw6627752504396318018:=0
def tw2900799338967846646:=0
def tw304815599841388216:=0
def tw6987139548589933822:=0
def tw1651199252409480304:=0
def tw2405128019226877120:=0
def tw14182295212224440069:=0
def tw12160434224282436827:=0
def tw8616277488936357841:=0
def tw1952446001920485645:=0
def tw4272502910706296208:=0
def tw12361417782453214445:=0
def tw4845671003622212824:=0
def tw8907565825726898240:=0
def tw15770130162091050693:=0
def tw3591275668914970844:=0
def tw3896883461051429446:=0
def tw18335025110826752888:=0
def tw13653443970922940161:=0
def tw16525110295005395033:=0
def tw14248815830944429689:=0
def tw2117728853529937949:=0
def tw15155055912009394050:=0
def tw9787174304097459812:=0
def tw12112812258493608738:=0
def tw7502555861413123713:=0
def tw3688167357187216842:=0
def tw13404094856793904413:=0
def tw14644206180675518279:=0
def tw17072773923362473409:=0
def tw11821719220012339384:=0
def tw13728602474029863833:=0
def tw1806168685127668240:=0
def tw16745629447064486136:=0
def tw17755615799947166062:=0
def tw12180492143561118458:=0
def tw1453793090892681655:=0
def tw7295181119766438299:=0
def tw5268022693676415479:=0
def tw4528627403272943855:=0
def tw2283082347098072247:=0
def tw6128146556546962915:=0
def tw18373133017453530089:=0
def tw15035968678066777293:=0
def tw4709676266160778007:=0
def tw16794960987924735545:=0
def tw11917821734502656736:=0
def tw3262769016415660004:=0
def tw12142789209254183868:=0
def tw17268159219120128491:=0
def tw12947665613209197853:=0
def tw15274215766623721082:=0
def tw84996890515230217:=0
def tw16600138659917227533:=0
def tw10626464047873507520:=0
def tw14655706907919824780:=0
def tw7283452144125535553:=0
def tw13636539973587867135:=0
def tw15361282923064939868:=0
def tw2487414232994625164:=0
def tw10246196109951352900:=0
def tw5291981265463102786:=0
def tw12819535308207287876:=0
def tw15179246974518511548:=0
def tw5672789270531108178:=0
def tw2789663233849781697:=0
def tw18143318953955756049:=0
def tw13862009540851387937:=0
def tw6799439006362568749:=0
def tw84844588895050702:=0
def tw5647480647278337250:=0
def tw12978561639413121741:=0
def tw11695520629454774807:=0
def tw16986806524263076789:=0
def tw5072401487784723046:=0
def tw14761077565024964538:=0
def tw10056452601558742339:=0
def tw12695921680096874205:=0
def tw395128257485219241:=0
def tw6588276203299464585:=0
def tw12776249355078460146:=0
def tw8959409899773104569:=0
def tw3637687643252275783:=0
def tw5544478548646614280:=0
def tw5208548207536395225:=0
def tw3567364031674890727:=0
def tw2609769136341317442:=0
def tw8885642140545875628:=0
def tw17168615674863120237:=0
def tw3036993731982580691:=0
def tw4374639732992182326:=0
def tw2139094101196966682:=0
def tw10320930650775399000:=0
def tw12695018992868625939:=0
def tw8274234359005392172:=0
def tw15992374784105267135:=0
def tw14723471389990287009:=0
def tw7955086249673671074:=0
def tw3118645764075762184:=0
def tw16244329414915134362:=0
def tw15733510404025498288:=0
def tw9551646567238947885:=0
def tw7330380309783738933:=0
def tw8959246621297091478:=0
def tw1651361183919922054:=0
def tw6019891040474085740:=0
def tw6978149390256648899:=0
def tw5775066892177683751:=0
def tw15155179529140941691:=0
def tw1958954196223943140:=0
def tw497539820300137059:=0
def tw8488012425411515690:=0
def tw15792243766682151889:=0
def tw13605326904781338208:=0
def tw5825984832539373523:=0
def tw10053942504892687603:=0
end PySem.W.Fast
set_option maxRecDepth 100000 in
set_option maxHeartbeats 0 in
theorem PySem.Challenge.cw_fewsaves_k01_works_or_not_holds : PySem.Challenge.rw_fewsaves_k01_works_or_not.Holds := by
 w_on;o_law;k_head;(case hw=>w_witness2)
 k_fill
 refine Fs.walk (l:=PySem.Challenge.rw_fewsaves_k01_works_or_not) rfl rfl (λw h Y=>PySem.W.kIn_of Y) ?F
 case F =>
  intro w mg fa h KX G hmg
  refine' Fs.qW7 KX G hmg ?a1 ?l1 ?c1 ?k1 ?a2 ?l2 ?c2 ?k2 ?a3 ?l3 ?c3 ?k3 ?a4 ?l4 ?c4 ?k4 ?a5 ?l5 ?c5 ?k5 ?a6 ?l6 ?c6 ?k6 ?a7 ?l7 ?c7 ?k7 ?a8 ?l8 ?c8 ?k8 ?a9 ?l9 ?c9 ?k9 ?a10 ?l10 ?c10 ?k10 ?a11 ?l11 ?c11 ?k11 ?a12 ?l12 ?c12 ?k12 ?a13 ?l13 ?c13 ?k13 ?a14 ?l14 ?c14 ?k14 ?a15 ?l15 ?c15 ?k15 ?a16 ?l16 ?c16 ?k16 ?a17 ?l17 ?c17 ?k17 ?a18 ?l18 ?c18 ?k18 ?a19 ?l19 ?c19 ?k19 ?a20 ?l20 ?c20 ?k20 ?a21 ?l21 ?c21 ?k21 ?a22 ?l22 ?c22 ?k22 ?a23 ?l23 ?c23 ?k23 ?a24 ?l24 ?c24 ?k24 ?a25 ?l25 ?c25 ?k25 ?a26 ?l26 ?c26 ?k26 ?a27 ?l27 ?c27 ?k27 ?a28 ?l28 ?c28 ?k28 ?a29 ?l29 ?c29 ?k29 ?a30 ?l30 ?c30 ?k30 ?a31 ?l31 ?c31 ?k31 ?a32 ?l32 ?c32 ?k32 ?a33 ?l33 ?c33 ?k33 ?u0 ?v0 ?u1 ?v1 ?u2 ?v2 ?i0 ?z1 ?z2 ?z3 ?z4 ?z5 ?z6 ?z7 ?z8 ?z9 ?z10 ?z11 ?z12 ?z13 ?z14 ?z15 ?z16 ?z17
  (case a1=>k_is)
  (case l1=>k_is)
  (case c1=>k_is)
  (case k1=>k_is)
  (case a2=>k_is)
  (case l2=>k_is)
  (case c2=>k_is)
  (case k2=>k_is)
  (case a3=>k_is)
  (case l3=>k_is)
  (case c3=>k_is)
  (case k3=>k_is)
  (case a4=>k_is)
  (case l4=>k_is)
  (case c4=>k_is)
  (case k4=>k_is)
  (case a5=>k_is)
  (case l5=>k_is)
  (case c5=>k_is)
  (case k5=>k_is)
  (case a6=>k_is)
  (case l6=>k_is)
  (case c6=>k_is)
  (case k6=>k_is)
  (case a7=>k_is)
  (case l7=>k_is)
  (case c7=>k_is)
  (case k7=>k_is)
  (case a8=>k_is)
  (case l8=>k_is)
  (case c8=>k_is)
  (case k8=>k_is)
  (case a9=>k_is)
  (case l9=>k_is)
  (case c9=>k_is)
  (case k9=>k_is)
  (case a10=>k_is)
  (case l10=>k_is)
  (case c10=>k_is)
  (case k10=>k_is)
  (case a11=>k_is)
  (case l11=>k_is)
  (case c11=>k_is)
  (case k11=>k_is)
  (case a12=>k_is)
  (case l12=>k_is)
  (case c12=>k_is)
  (case k12=>k_is)
  (case a13=>k_is)
  (case l13=>k_is)
  (case c13=>k_is)
  (case k13=>k_is)
  (case a14=>k_is)
  (case l14=>k_is)
  (case c14=>k_is)
  (case k14=>k_is)
  (case a15=>k_is)
  (case l15=>k_is)
  (case c15=>k_is)
  (case k15=>k_is)
  (case a16=>k_is)
  (case l16=>k_is)
  (case c16=>k_is)
  (case k16=>k_is)
  (case a17=>k_is)
  (case l17=>k_is)
  (case c17=>k_is)
  (case k17=>k_is)
  (case a18=>k_is)
  (case l18=>k_is)
  (case c18=>k_is)
  (case k18=>k_is)
  (case a19=>k_is)
  (case l19=>k_is)
  (case c19=>k_is)
  (case k19=>k_is)
  (case a20=>k_is)
  (case l20=>k_is)
  (case c20=>k_is)
  (case k20=>k_is)
  (case a21=>k_is)
  (case l21=>k_is)
  (case c21=>k_is)
  (case k21=>k_is)
  (case a22=>k_is)
  (case l22=>k_is)
  (case c22=>k_is)
  (case k22=>k_is)
  (case a23=>k_is)
  (case l23=>k_is)
  (case c23=>k_is)
  (case k23=>k_is)
  (case a24=>k_is)
  (case l24=>k_is)
  (case c24=>k_is)
  (case k24=>k_is)
  (case a25=>k_is)
  (case l25=>k_is)
  (case c25=>k_is)
  (case k25=>k_is)
  (case a26=>k_is)
  (case l26=>k_is)
  (case c26=>k_is)
  (case k26=>k_is)
  (case a27=>k_is)
  (case l27=>k_is)
  (case c27=>k_is)
  (case k27=>k_is)
  (case a28=>k_is)
  (case l28=>k_is)
  (case c28=>k_is)
  (case k28=>k_is)
  (case a29=>k_is)
  (case l29=>k_is)
  (case c29=>k_is)
  (case k29=>k_is)
  (case a30=>k_is)
  (case l30=>k_is)
  (case c30=>k_is)
  (case k30=>k_is)
  (case a31=>k_is)
  (case l31=>k_is)
  (case c31=>k_is)
  (case k31=>k_is)
  (case a32=>k_is)
  (case l32=>k_is)
  (case c32=>k_is)
  (case k32=>k_is)
  (case a33=>k_is)
  (case l33=>k_is)
  (case c33=>k_is)
  (case k33=>k_is)
  (case u0=>k_is)
  (case v0=>(refine' L2.qR3 (L2.qS3 ?zq1sm ?zq1hl ?zq1hx ?zq1hd ?zq1hr) ?zq1t0 ?zq1t1 ?zq1t2 ?zq1t3 ?zq1t4 ?zq1t5;(case zq1sm=>decide);(case zq1hl=>k_is);(case zq1hx=>exact⟨rfl,rfl,rfl⟩);(case zq1hd=>rfl);(case zq1hr=>exact (.cons rfl rfl (.cons rfl rfl (.cons rfl rfl (.cons rfl rfl (.cons rfl rfl (.cons rfl rfl .nil)))))));(case zq1t0=>exact⟨_,_,_,by k_is,rfl,rfl,by decide,(.cons ⟨_,rfl⟩ (.cons ⟨_,rfl⟩ .nil))⟩);(case zq1t1=>exact⟨_,_,_,by k_is,rfl,rfl,by decide,(.cons ⟨_,rfl⟩ (.cons ⟨_,rfl⟩ .nil))⟩);(case zq1t2=>exact⟨_,_,_,by k_is,rfl,rfl,by decide,(.cons ⟨_,rfl⟩ .nil)⟩);(case zq1t3=>exact⟨_,_,_,by k_is,rfl,rfl,by decide,(.cons ⟨_,rfl⟩ .nil)⟩);(case zq1t4=>exact⟨_,_,_,by k_is,rfl,rfl,by decide,(.cons ⟨_,rfl⟩ .nil)⟩);(case zq1t5=>exact⟨_,_,_,by k_is,rfl,rfl,by decide,(.cons ⟨_,rfl⟩ .nil)⟩)))
  (case u1=>k_is)
  (case v1=>(refine' L2.qS3 ?zq2sm ?zq2hl ?zq2hx ?zq2hd ?zq2hr;(case zq2sm=>decide);(case zq2hl=>k_is);(case zq2hx=>exact⟨rfl,rfl,rfl⟩);(case zq2hd=>rfl);(case zq2hr=>exact (.cons rfl ⟨_,rfl⟩ (.cons rfl ⟨_,rfl⟩ (.cons rfl ⟨_,rfl⟩ .nil))))))
  (case u2=>k_is)
  (case v2=>exact⟨_,_,_,by k_is,rfl,rfl,by decide,(.cons ⟨_,rfl⟩ (.cons ⟨_,rfl⟩ .nil))⟩)
  (case i0=>k_is)
  (case z1=>k_is)
  (case z2=>k_is)
  (case z3=>k_is)
  (case z4=>k_is)
  (case z5=>k_is)
  (case z6=>k_is)
  (case z7=>k_is)
  (case z8=>k_is)
  (case z9=>k_is)
  (case z10=>k_is)
  (case z11=>k_is)
  (case z12=>k_is)
  (case z13=>k_is)
  (case z14=>k_is)
  (case z15=>k_is)
  (case z16=>k_is)
  (case z17=>k_is)
