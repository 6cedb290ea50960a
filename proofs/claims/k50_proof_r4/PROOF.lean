import PyProof.Rows.All
import Wide.All
import OpenK.AllK
import Wide.FinOn
import Lean
import PyProof.EqAt
import PyProof.EqKinds
import PyProof.TupleCall
import PyProof.CollectWalk
import PySem.Challenge.RW_fewsaves_k50_works_written
import PyProof.DictItems
import KE.KItemsList
import PyProof.StrCalls2
import PyProof.StrBlockH
import PyProof.CallStr
import PyProof.FitsReplace
import PyProof.StrWalks
import KE.KIntText
import KE.KTabLook
import KE.KUnpackStar
import PyProof.WalksMore
import PyProof.FactsAll.subtypes_4
import PyProof.SetRoads
import PyProof.ZipIter
import PyProof.Rows.ZipGen
import PyProof.TupleIter
import KE.IntTextText
import PyProof.StrLawsTight
import PyProof.StrLawsJoin
import KE.KDictOf
import PyProof.FactsAll.zip_1
import PyProof.TupleOfSeq
import PyProof.StrLawsIn
import PyProof.StrLawsIdx
import PyProof.Rows.SeqMore
set_option Elab.async false
set_option linter.all false
set_option maxRecDepth 100000
set_option compiler.extract_closed false
set_option genInjectivity false
set_option genSizeOfSpec false
open PySem renaming wpAny_bind->aA,wpAny_pure->aF,boot_len->bB,wpAny_holding->bI,wpAny_truthy_bool->bQ,sizeLine_eq->bS,wpAny_field->cB,wpAny_callSpecial?_slot->cC,wpAny_newObj_type->cD,mem_of_lookup->cE,wpAny_call_entry->cL,wpAny_seqItems->cP,wpAny_passesOwn->cS,wpAny_getItem_str_slice->cX,wpAny_setField_rec->dC,codeAny_builtin->dG,wpAny_pyIter_list->dO,call_meets->dP,wpAny_rule->eB
open List renaming length_map->aB,getElem?_eq_some_iff->aD,size_toArray->aG,getElem?_eq_getElem->aI,mem_cons->aJ,mem_of_getElem?->aL,length_append->aN,mem_singleton->aO,mem_append->aP,map_append->aQ,mem_cons_of_mem->aV,mem_append_right->aZ,length_cons->bA,getElem?_map->bC,take_of_length_le->bD,map_cons->bJ,getElem_of_mem->bM,length_take->bN,take_add_one->bO,mem_append_left->bR,mem_cons_self->bT,not_mem_nil->bX,length_replicate->bY,getElem?_append_left->cF,replicate_succ'->cG,getD_eq_getElem?_getD->cJ,take_length->cM,mem_map->cN,nodup_append->cU,getElem?_cons_succ->cY,length_drop->cZ,find?_cons->dD,length_nil->dE,foldl_cons->dH,foldl_append->dQ,getElem?_append_right->dR,lookup_cons->dX,all_eq_true->dY,filterMap_cons->dZ
open Nat renaming le_refl->aC,lt_of_lt_of_le->aU,zero_le->aW,ne_of_lt->aY,le_trans->bH,le_of_lt->bU,lt_irrefl->cW,le_add_right->dA,ne_of_gt->eC
open PySem.Heap renaming get?_push_of_some->aE,lt_size->aK,get?_push_size->aR,size_push->cQ
open Bool renaming false_ne_true->aH,and_eq_true->bE,eq_iff_iff->cA
open PySem.F renaming plainAttrs_list->aM,slot_list_append->aS,type_list_append->aT,plainAttrs_str->bW,slot_tuple_iterator_next->cK,called_set->dI,slot_str_join->dM,type_str_join->dN,slot_list_getattribute->eD,slot_dict_update->eE
open PySem.W renaming mg_none_of->aX,kia_one->bP,mg_of->cH
open Option.some renaming inj->bF
open Array renaming length_toList->bG,getElem?_toList->bK,getElem?_eq_getElem->dU
open PySem.PassesOwn renaming never->bL
open PyProof.Rows renaming boot_list->bV,boot_int->bZ,callWith_type1->cI,slot_tuple_getitem->cT,assignInOrder_cons->dB,boot_str->dL
open Int renaming emod_lt_of_pos->cO,emod_nonneg->dJ
open PySem.Around renaming under_plainId->cR
open PySem.Paired renaming length->cV
open Ne renaming symm->dS
open PySem.Heap.SameBut renaming update->eA
namespace L2
open PySem PySem.Spec PyProof.Rows
abbrev Key:=Sum Int Str
def keyIs:Key->Value->Bool
 | .inl k,v=>Value.isInt k v
 | .inr x,v=>Value.isStrOf x v
def keyH(w:World):Key->Int
 | .inl k=>hashInt k
 | .inr x=>hashStr w x
theorem qB6:∀ {k:Key} {v:Value},keyIs k v=true->(∃i t,k=Sum.inl i/\v=Value.int i t)\/(∃x t,k=Sum.inr x/\v=Value.str x t)
 | .inl i,v,h=>by
  obtain⟨t,e⟩:=Value.isInt_shape (k:=i) (v:=v) h;exact .inl ⟨i,t,rfl,e⟩
 | .inr x,v,h=>by
  obtain⟨t,e⟩:=Value.isStrOf_shape (x:=x) (v:=v) h;exact .inr ⟨x,t,rfl,e⟩
theorem qMx(i:Int)(t:Tok):keyIs (.inl i) (.int i t)=true:=by simp [keyIs,Value.isInt]
theorem qMw(x:Str)(t:Tok):keyIs (.inr x) (.str x t)=true:=by simp [keyIs,Value.isStrOf]
theorem qSo(a b:Int):decide ((Sum.inl a:Key)=Sum.inl b)=(a == b):=by
 by_cases e:a=b
 ·subst e;simp
 ·have h : ¬(Sum.inl a:Key)=Sum.inl b:=λq=>e (Sum.inl.inj q);rw [decide_eq_false h];exact (beq_eq_false_iff_ne.mpr e).symm
theorem qSl(a b:Str):decide ((Sum.inr a:Key)=Sum.inr b)=decide (a=b):=by
 by_cases e:a=b
 ·subst e;simp
 ·have h : ¬(Sum.inr a:Key)=Sum.inr b:=λq=>e (Sum.inr.inj q);rw [decide_eq_false h,decide_eq_false e]
theorem qSn(a:Int)(b:Str):decide ((Sum.inl a:Key)=Sum.inr b)=false:=decide_eq_false (λq=>nomatch q)
theorem qSm(a:Str)(b:Int):decide ((Sum.inr a:Key)=Sum.inl b)=false:=decide_eq_false (λq=>nomatch q)
def qBe(prog:Program)(w:World):PySem.KeyKind prog w Key where
 is:=keyIs
 hash:=keyH w
 inj:=λv a b ha hb=>by
  rcases qB6 ha with ⟨i,t,rfl,rfl⟩ | ⟨x,t,rfl,rfl⟩
  ·rcases qB6 hb with ⟨j,u,rfl,e⟩ | ⟨y,u,rfl,e⟩
   ·injection e with e1 _;rw [e1]
   ·exact nomatch e
  ·rcases qB6 hb with ⟨j,u,rfl,e⟩ | ⟨y,u,rfl,e⟩
   ·exact nomatch e
   ·injection e with e1 _;rw [e1]
 byValue:=λk v h=>by
  rcases qB6 h with ⟨i,t,rfl,rfl⟩ | ⟨x,t,rfl,rfl⟩ <;> rfl
 pyHash:=λhv h=>by
  rcases qB6 hv with ⟨i,t,rfl,rfl⟩ | ⟨x,t,rfl,rfl⟩
  ·exact wpAny_pyHash_int h
  ·exact wpAny_pyHash_str h
 eqBool:=λhu hv h=>by
  rcases qB6 hu with ⟨i,t,rfl,rfl⟩ | ⟨x,t,rfl,rfl⟩
  ·rcases qB6 hv with ⟨j,u,rfl,rfl⟩ | ⟨y,u,rfl,rfl⟩
   ·rw [qSo] at h;exact wpAny_eqBool_int h
   ·rw [qSn] at h;exact SeqAt.EqAt.int_str i t y u _ _ _ _ h
  ·rcases qB6 hv with ⟨j,u,rfl,rfl⟩ | ⟨y,u,rfl,rfl⟩
   ·rw [qSm] at h;exact SeqAt.EqAt.str_int x t j u _ _ _ _ h
   ·rw [qSl] at h;exact wpAny_eqBool_str h
 «strs» :=λk x t v h=>by
  rcases qB6 h with ⟨i,u,rfl,e⟩ | ⟨y,u,rfl,e⟩
  ·exact nomatch e
  ·injection e with e1 _
   subst e1;cases v <;> rfl
theorem qIg(prog:Program)(w:World)(i:Int)(t:Tok):(qBe prog w).is (.inl i) (.int i t)=true:=qMx i t
theorem qIf(prog:Program)(w:World)(x:Str)(t:Tok):(qBe prog w).is (.inr x) (.str x t)=true:=qMw x t
set_option genInjectivity true in
inductive V where
 | non | bl (b:Bool) | int (i:Int) | str (x:Str) | byt (b:Array UInt8) | flt (b:UInt64) | ref (a:Addr) | ty (n:String)
 deriving DecidableEq
def RelV:V->Value->Prop
 | .non,u=>u=Value.none
 | .bl b,u=>u=Value.bool b
 | .int i,u => ∃t,u=Value.int i t
 | .str x,u => ∃t,u=Value.str x t
 | .byt b,u => ∃t,u=Value.bytes b t
 | .flt b,u => ∃t,u=Value.float b t
 | .ref a,u=>u=Value.ref a
 | .ty n,u=>u=Value.type n
abbrev Vals:List V->List Value->Prop:=Paired RelV
theorem Vals.length{xs:List V}{us:List Value}(r:Vals xs us):xs.length=us.length:=cV r
theorem Vals.get:∀ {xs:List V} {us:List Value} {i:Nat} {x:V},Vals xs us->xs[i]? = some x -> ∃u,us[i]? = some u/\RelV x u
 | _,_,_,_,.nil,e=>by simp at e
 | _,_,0,_,.cons r _,e=>by simp at e;subst e;exact⟨_,rfl,r⟩
 | _,_,i+1,x,.cons _ t,e=>by
  obtain⟨u,h1,h2⟩:=Vals.get (i:=i) (x:=x) t (by simpa using e);exact⟨u,by simpa using h1,h2⟩
theorem Vals.set{x:V}{u:Value}(r:RelV x u):∀ {xs:List V} {us:List Value} (i:Nat),Vals xs us->Vals (xs.set i x) (us.set i u)
 | _,_,_,.nil =>.nil
 | _,_,0,.cons _ t =>.cons r t
 | _,_,i+1,.cons q t =>.cons q (Vals.set r i t)
theorem Vals.append{xs ys:List V}{us ws:List Value}(h:Vals xs us)(s:Vals ys ws):Vals (xs++ys) (us++ws):=by
 induction h with
 | nil=>exact s
 | cons r _ ih=>exact .cons r ih
theorem Vals.take:∀ {xs:List V} {us:List Value} (n:Nat),Vals xs us->Vals (xs.take n) (us.take n)
 | _,_,0,_ =>.nil
 | _,_,_+1,.nil =>.nil
 | _,_,n+1,.cons r t =>.cons r (Vals.take n t)
theorem Vals.drop:∀ {xs:List V} {us:List Value} (n:Nat),Vals xs us->Vals (xs.drop n) (us.drop n)
 | _,_,0,r=>r
 | _,_,_+1,.nil =>.nil
 | _,_,n+1,.cons _ t=>Vals.drop n t
def RelO:Option V->Option Value->Prop
 | some v,some u=>RelV v u
 | none,none=>True
 | _,_=>False
def KV{κ : Type}:List (κ × V)->List (κ × Value)->Prop:=Paired λ(p : κ × V) (q : κ × Value)=>p.1=q.1/\RelV p.2 q.2
def kV:Key->V
 | .inl i =>.int i
 | .inr x =>.str x
inductive HO where
 | lst (xs:List V)
 | tup (xs:List V)
 | dK (kvs:List (Key×V)) | dT (kvs:List (List Key×V))
 | set (S:Int->Bool) (n:Nat)
 | ins (C dx:Addr) (fs:List (Str×V))
 | own (x:Addr)
 | xd (fs:List (Str×V))
 | met (f x:Addr)
 | rng (lo hi:Int)
 | frz (o:Obj) (u:HO)
 | tbl (ps:Array Value)
 | ext (φ : Addr->Heap->Prop)
abbrev Hp:=Addr->Option HO
def upd(H:Hp)(a:Addr)(o:HO):Hp:=λb=>if b=a then some o else H b
theorem qA1{H:Hp}{a:Addr}{o:HO}:upd H a o a=some o:=by unfold upd;rw [if_pos rfl]
theorem qA5{H:Hp}{a b:Addr}{o:HO}(h:b≠a):upd H a o b=H b:=by unfold upd;rw [if_neg h]
theorem qQd{H:Hp}{a:Addr}{o u:HO}:upd (upd H a o) a u=upd H a u:=by
 funext b;unfold upd;split <;> rfl
theorem qKq{H:Hp}{a b:Addr}{o u:HO}(h:H a=some o)(h':H b=some u)(d:o≠u):a≠b:=by
 intro e;subst e;rw [h] at h';exact d (bF h')
theorem qA2{H:Hp}{a b:Addr}{o:HO}(h:H a=some o)(h':H b=none):a≠b:=by
 intro e;subst e;rw [h] at h';cases h'
section
variable(P:Program)(w:World)
def ObjOk(H:Hp)(h:Heap)(a:Addr):HO->Prop
 | .lst xs=>xs.length<=sizeLine /\ ∃(its:List Value) (n:Nat),Vals xs its/\h.get? a=some { cls :=.type "list",data :=.seq its.toArray n }
 | .tup xs=>xs.length<=sizeLine /\ ∃its:List Value,Vals xs its/\IsTup h a its.toArray
 | .dK kvs=>kvs.length<=sizeLine/\(a == sysModules)=false /\ ∃vs,KV kvs vs/\h.DictOf (qBe P w) a vs
 | .dT kvs=>kvs.length<=sizeLine/\(a == sysModules)=false /\ ∃xs:List (List Key×Addr×Value),
   Paired (λ(p:List Key×V) (q:List Key×Addr×Value)=>p.1=q.1/\H q.2.1=some (.tup (p.1.map kV))/\RelV p.2 q.2.2) kvs xs /\
   ∃o es ep,h.get? a=some o/\o.ExactDict/\o.data = .dict es ep/\es.toList=xs.map (entryOfKey (tupleKind (qBe P w)))/\(xs.map (·.1)).Nodup
 | .set S n=>h.SetOf (intKind P w) a S n
 | .ins C dx fs=>H dx=some (.own a)/\fs.length<=1000/\dx≠a/\h.get? a=some (PySem.W.instObj C dx) /\
   ∃mA,h.Ns1 dx mA/\(∀f,RelO (fs.lookup f) (mA f))/\PySem.Within mA (fs.map (·.1))
 | .own _ => ∃o,h.get? a=some o
 | .xd fs => ∃mA,h.Ns1 a mA /\ ∀f,RelO (fs.lookup f) (mA f)
 | .rng lo hi => ∃t u v,h.get? a=some { cls :=.type "range",data :=.fields #[.int lo t,.int hi u,.int 1 v] }
 | .frz o u=>h.get? a=some o/\ObjOk H h a u
 | .tbl ps=>h.get? a=some { cls :=.none,data :=.fields ps }
 | .met f x=>h.get? a=some (PySem.W.methodObj (.ref f) (.ref x))
 | .ext φ => φ a h/\(∃o,h.get? a=some o) /\ ∀h1 h2:Heap,φ a h1->(∀o,h1.get? a=some o->h2.get? a=some o) -> φ a h2
def HOk(H:Hp)(h:Heap):Prop := ∀a o,H a=some o->ObjOk P w H h a o
end
section
variable{P:Program}{w:World}{H H':Hp}{h h':Heap}{a:Addr}{o:HO}
theorem ObjOk.lt(x:ObjOk P w H h a o):a<h.objs.size:=by
 cases o with
 | lst xs=>obtain⟨_,_,_,_,e⟩:=x;exact aK e
 | tup xs=>obtain⟨_,_,_,p⟩:=x;exact p.lt
 | dK kvs=>obtain⟨_,_,_,_,o,_,_,e,_⟩:=x;exact aK e
 | dT kvs=>obtain⟨_,_,_,_,o,_,_,e,_⟩:=x;exact aK e
 | set S n=>obtain⟨o,_,_,_,e,_⟩:=x;exact aK e
 | ins C dx fs=>obtain⟨_,_,_,e,_⟩:=x;exact aK e
 | own y=>obtain⟨_,e⟩:=x;exact aK e
 | xd fs=>obtain⟨_,⟨_,_,_,e,_⟩,_⟩:=x;exact aK e
 | rng lo hi=>obtain⟨_,_,_,e⟩:=x;exact aK e
 | frz ob u=>obtain⟨e,_⟩:=x;exact aK e
 | tbl ps=>exact aK (show h.get? a=some _ from x)
 | met f y=>exact aK (show h.get? a=some _ from x)
 | ext φ =>obtain⟨_,⟨_,e⟩,_⟩:=x;exact aK e
theorem Paired.mapP{α β : Type}{F G : α -> β -> Prop}{l₁ : List α}{l₂ : List β}(h:Paired F l₁ l₂)(f:∀a b,F a b->G a b):Paired G l₁ l₂ :=by
 induction h with
 | nil=>exact .nil
 | cons r _ ih=>exact .cons (f _ _ r) ih
theorem ObjOk.stay(x:ObjOk P w H h a o)(k:∀b u,(b=a\/H b=some (.own a))->h.get? b=some u->h'.get? b=some u)(ho:∀b,H b=some (.own a)->H' b=some (.own a))(ht:∀b xs,H b=some (.tup xs)->H' b=some (.tup xs)):ObjOk P w H' h' a o:=by
 induction o with
 | lst xs=>obtain⟨z,its,n,r,e⟩:=x;exact⟨z,its,n,r,k _ _ (.inl rfl) e⟩
 | tup xs=>obtain⟨z,its,r,ob,e,c⟩:=x;exact⟨z,its,r,ob,k _ _ (.inl rfl) e,c⟩
 | dK kvs=>obtain⟨z,y,vs,r,ob,es,ep,e,c⟩:=x;exact⟨z,y,vs,r,ob,es,ep,k _ _ (.inl rfl) e,c⟩
 | dT kvs =>
  obtain⟨z,y,xs,r,ob,es,ep,e,c⟩:=x;exact⟨z,y,xs,Paired.mapP r λp q z=>⟨z.1,ht _ _ z.2.1,z.2.2⟩,ob,es,ep,k _ _ (.inl rfl) e,c⟩
 | set S n=>obtain⟨ob,es,ep,t,e,c⟩:=x;exact⟨ob,es,ep,t,k _ _ (.inl rfl) e,c⟩
 | ins C dx fs =>
  obtain⟨d,z,ne,e,mA,⟨od,es,ep,e2,c⟩,r⟩:=x;exact⟨ho _ d,z,ne,k _ _ (.inl rfl) e,mA,⟨od,es,ep,k _ _ (.inr d) e2,c⟩,r⟩
 | own y=>obtain⟨ob,e⟩:=x;exact⟨ob,k _ _ (.inl rfl) e⟩
 | xd fs=>obtain⟨mA,⟨od,es,ep,e,c⟩,r⟩:=x;exact⟨mA,⟨od,es,ep,k _ _ (.inl rfl) e,c⟩,r⟩
 | rng lo hi=>obtain⟨t,u,v,e⟩:=x;exact⟨t,u,v,k _ _ (.inl rfl) e⟩
 | frz ob u ih=>obtain⟨e,q⟩:=x;exact⟨k _ _ (.inl rfl) e,ih q⟩
 | tbl ps =>
  have e:h.get? a=some { cls :=.none,data :=.fields ps }:=x;show h'.get? a=some { cls :=.none,data :=.fields ps };exact k a _ (.inl rfl) e
 | met f y =>
  have e:h.get? a=some (PySem.W.methodObj (.ref f) (.ref y)):=x;show h'.get? a=some (PySem.W.methodObj (.ref f) (.ref y));exact k a _ (.inl rfl) e
 | ext φ =>obtain⟨p,⟨o,e⟩,st⟩:=x;exact⟨st _ _ p λo q=>k _ _ (.inl rfl) q,⟨o,k _ _ (.inl rfl) e⟩,st⟩
theorem HOk.lt(x:HOk P w H h)(e:H a=some o):a<h.objs.size:=(x a o e).lt
theorem HOk.fresh(x:HOk P w H h)(e:h.objs.size<=a):H a=none:=by
 cases q:H a with
 | none=>rfl
 | some u=>exact absurd (aU (x.lt q) e) (cW _)
theorem HOk.kept(x:HOk P w H h)(k:∀b u,h.get? b=some u->h'.get? b=some u):HOk P w H h':=λa o e =>
 (x a o e).stay (λb u _ q=>k b u q) (λ_ q=>q) λ_ _ q=>q
theorem HOk.laid(x:HOk P w H h)(k:∀b u,h.get? b=some u->h'.get? b=some u)(hp:h.objs.size<=a)(new:ObjOk P w (upd H a o) h' a o):HOk P w (upd H a o) h':=λb u e=>by
 have hn:=x.fresh hp;by_cases hb:b=a
 ·subst hb;rw [qA1] at e;cases e;exact new
 ·rw [qA5 hb] at e;exact (x b u e).stay (λc v _ q=>k c v q) (λc q=>by rw [qA5 (qA2 q hn)];exact q) λc xs q=>by rw [qA5 (qA2 q hn)];exact q
end
def Rd(H:Hp)(a:Addr)(u:HO):Prop:=H a=some u \/ ∃o,H a=some (.frz o u)
theorem Rd.ok{P:Program}{w:World}{H:Hp}{h:Heap}{a:Addr}{u:HO}(r:Rd H a u)(x:HOk P w H h):ObjOk P w H h a u:=by
 rcases r with r | ⟨o,r⟩
 ·exact x a u r
 ·obtain⟨_,q⟩:=x a _ r;exact q
def Mut:Option HO->Prop
 | some (.lst _)=>True
 | some (.dK _)=>True
 | some (.dT _)=>True
 | some (.set _ _)=>True
 | some (.ins _ _ _)=>True
 | some (.ext _)=>True
 | _=>False
section
variable{P:Program}{w:World}{H:Hp}{h h':Heap}{x e:Addr}{o':HO}
theorem HOk.write(ok:HOk P w H h)(mu:Mut (H x))(he:e=x\/H e=some (.own x))(k:∀b u,b≠e->h.get? b=some u->h'.get? b=some u)(heo:∃u,h'.get? e=some u)(new:ObjOk P w (upd H x o') h' x o'):HOk P w (upd H x o') h':=λb u q=>by
 have nown:∀c y,H c=some (.own y)->c≠x:=λc y r z=>by subst z;rw [r] at mu;exact mu
 have ntup:∀c xs,H c=some (.tup xs)->c≠x:=λc xs r z=>by subst z;rw [r] at mu;exact mu
 by_cases hb:b=x
 ·subst hb;rw [qA1] at q;cases q;exact new
 ·rw [qA5 hb] at q;by_cases hbe:b=e
  ·have q':H b=some (.own x):=by
    rcases he with z | z
    ·exact absurd (hbe.trans z) hb
    ·rw [hbe];exact z
   rw [q] at q';cases q';obtain⟨v,hv⟩:=heo;exact⟨v,by rw [hbe];exact hv⟩
  ·refine (ok b u q).stay (λc v hc r=>k c v ?_ r) (λc r=>by rw [qA5 (nown c b r)];exact r) λc xs r=>by rw [qA5 (ntup c xs r)];exact r
   rcases hc with rfl | hc
   ·exact hbe
   ·rintro rfl;rcases he with z | z
    ·exact nown c b hc z
    ·rw [hc] at z;cases z;exact hb rfl
end
structure Un(fs ex:List Addr)(H H':Hp)(h h':Heap):Prop where
 keep:∀b o,h.get? b=some o->H b=none->b∉fs->b∉ex->h'.get? b=some o
 slot:∀b o,h.get? b=some o->H b=none->b∈fs->b∉ex -> ∃sl,h'.get? b=some { o with slots:=sl }
 free:∀b o,h.get? b=some o->H b=none->b∉ex->H' b=none
 there:∀b o,h.get? b=some o->b∉ex -> ∃o',h'.get? b=some o'
 tups:∀b xs,H b=some (.tup xs)->H' b=some (.tup xs)
 frzs:∀b o u,H b=some (.frz o u)->H' b=some (.frz o u)
 tbls:∀b ps,H b=some (.tbl ps) -> ∃more,H' b=some (.tbl (ps++more))
section
variable{fs fs' ex ex':List Addr}{H H1 H2:Hp}{h h1 h2 h':Heap}{a x e:Addr}{o:HO}
theorem Un.any(u:Un fs ex H H1 h h1){b:Addr}{ob:Obj}(q:h.get? b=some ob)(n:H b=none)(hx:b∉ex):∃sl,h1.get? b=some { ob with slots:=sl }:=by
 by_cases hb:b∈fs
 ·exact u.slot b ob q n hb hx
 ·exact⟨ob.slots,u.keep b ob q n hb hx⟩
theorem Un.kept(k:∀b u,h.get? b=some u->h'.get? b=some u):Un fs ex H H h h':=⟨λb ob q _ _ _=>k b ob q,λb ob q _ _ _=>⟨ob.slots,k b ob q⟩,λ_ _ _ n _=>n,λb ob q _=>⟨ob,k b ob q⟩,λ_ _ q=>q,λ_ _ _ q=>q,λ_ ps q=>⟨#[],by rw [q];simp⟩⟩
theorem Un.refl:Un fs ex H H h h:=Un.kept λ_ _ q=>q
theorem Un.laid(k:∀b u,h.get? b=some u->h'.get? b=some u)(hp:h.objs.size<=a)(hn:H a=none):Un fs ex H (upd H a o) h h' where
 keep:=λb u q _ _ _=>k b u q
 slot:=λb u q _ _ _=>⟨u.slots,k b u q⟩
 free:=λb u q n _=>by rw [qA5 (aY (aU (aK q) hp))];exact n
 there:=λb u q _=>⟨u,k b u q⟩
 tups:=λb xs q=>by rw [qA5 (qA2 q hn)];exact q
 frzs:=λb u xs q=>by rw [qA5 (qA2 q hn)];exact q
 tbls:=λb ps q=>⟨#[],by rw [qA5 (qA2 q hn),q];simp⟩
theorem Un.write(mu:Mut (H x))(he:e=x\/H e=some (.own x))(k:∀b u,b≠e->h.get? b=some u->h'.get? b=some u)(heo:∃u,h'.get? e=some u):Un fs ex H (upd H x o) h h':=by
 have hx:∀b,H b=none->b≠x:=λb n z=>by subst z;rw [n] at mu;exact mu
 have hb:∀b,H b=none->b≠e:=λb n z=>by
  subst z;rcases he with r | r
  ·exact hx b n r
  ·rw [n] at r;cases r
 have hm:∀b u,H b=some u -> ¬Mut (some u)->b≠x:=λb u q nm z=>by subst z;rw [q] at mu;exact nm mu
 refine⟨λb u q n _ _=>k b u (hb b n) q,λb u q n _ _=>⟨u.slots,k b u (hb b n) q⟩,λb u q n _=>by rw [qA5 (hx b n)];exact n,λb u q _=>?_,
  λb xs q=>by rw [qA5 (hm b _ q λz=>z)];exact q,λb u xs q=>by rw [qA5 (hm b _ q λz=>z)];exact q,λb ps q=>⟨#[],by rw [qA5 (hm b _ q λz=>z),q];simp⟩⟩
 by_cases hbe:b=e
 ·subst hbe;exact heo
 ·exact⟨u,k b u hbe q⟩
end
def trk(h:Heap)(H:Hp):List Addr:=(List.range h.objs.size).filter λa=>(H a).isSome
def hidT(h:Heap)(H:Hp):Heap:=PySem.W.hideAll h (trk h H)
theorem qN3(h:Heap)(H:Hp):(hidT h H).objs.size=h.objs.size:=PySem.W.hideAll_size _ _
theorem qPd{h:Heap}{H:Hp}{b:Addr}{o:Obj}(e:h.get? b=some o)(n:H b=none):(hidT h H).get? b=some o :=
 PySem.W.hideAll_get _ e λhm=>by
  have q:(H b).isSome=true:=(List.mem_filter.mp hm).2;rw [n] at q;simp at q
theorem qR8{h:Heap}{H:Hp}{b:Addr}{o:Obj}(e:(hidT h H).get? b=some o):h.get? b=some o/\H b=none:=by
 have e':h.get? b=some o:=PySem.W.of_hideAll (trk h H) e;refine⟨e',?_⟩;cases q:H b with
 | none=>rfl
 | some x =>
  have hm:b∈trk h H:=List.mem_filter.mpr ⟨List.mem_range.mpr (aK e'),by simp [q]⟩;have z:(hidT h H).get? b=none:=PySem.W.hideAll_none (trk h H) hm;rw [z] at e;cases e
def qRi(g h:Heap)(L:Addr):List (Addr×Obj):=(List.range h.objs.size).filterMap λa=>if a=L\/(g.get? a).isSome=true then none else (h.get? a).map λo=>(a,o)
def rest(g h:Heap)(L d:Addr):List (Addr×Obj):=(qRi g h L).filter λp=>decide (p.1≠d)
structure Mod(K:PySem.W.Frag)(mg:Str->Option Value)(base:Heap):Prop where
 kin:K.In base
 glob:base.Ns mainGlobals mg
 blt:∃mb,base.Ns builtinsNs mb /\ ∀x:Str,x ≠ "__name__" -> mb x=bootBuiltins x
 nolimit:base.NoLimit
structure Cx where
 prog:Program
 w:World
 K:PySem.W.Frag
 mg:Str->Option Value
 base:Heap
 A:Around
 N:List Str
 s₀ : Shared
 H₀ : Hp
 env:Env
 outer:List Env
 stack:List Env
 ex:List Addr
 fn:Str->Bool
 calm:Bool
 pn:List (Addr×Obj)
 xe:Value->Shared->Prop
def frs(l:List Env):List Addr:=l.filterMap (·.frame)
abbrev Cx.fs(X:Cx):List Addr:=frs X.outer
def Vis(sc:Scope)(x:Str):Prop:=sc.names.lookup x=some .local\/sc.names.lookup x=some .cell\/sc.names.lookup x=some .free
def Loc(sc:Scope)(x:Str):Prop:=sc.names.lookup x=some .local\/sc.names.lookup x=some .cell
def Look(env:Env)(h:Heap)(m:Str->Option Value)(x:Str)(u:Value):Prop:=(env.kindOf x=some .local/\m x=some u)\/((env.kindOf x=some .cell\/env.kindOf x=some .free) /\ ∃c,env.cells.lookup x=some c/\h.IsCell c (some u))
structure Cx.Ok(X:Cx):Prop where
 mod:Mod X.K X.mg X.base
 kind:X.env.scope.kind = .function
 glob:X.env.globals=mainGlobals
 blt:X.env.builtins=builtinsNs
 above:X.s₀.heap.objs.size<=X.env.locals
 inj:∀x y c,X.env.cells.lookup x=some c->X.env.cells.lookup y=some c->x=y
 has:∀x,(X.env.kindOf x=some .cell\/X.env.kindOf x=some .free) -> ∃c,X.env.cells.lookup x=some c
 cab:∀x c,X.fn x=true->X.env.cells.lookup x=some c->X.s₀.heap.objs.size<=c
 hd:X.calm=true->X.A.handled=none
 frames:X.A.frames=some X.stack
 stk:X.stack=X.outer\/(X.stack=X.env::X.outer/\X.env.frame=some X.env.locals)
 exf:∀b∈X.ex,b≠X.env.locals /\ ∀x c,X.env.cells.lookup x=some c->c≠b
 bs:∀b o,X.base.get? b=some o->X.s₀.heap.get? b=some o/\X.H₀ b=none
 bsz:X.base.objs.size<=X.s₀.heap.objs.size
 noex:∀b o,X.base.get? b=some o->b∉X.ex
 exfs:∀b∈X.ex,b∉X.fs
 funs:X.s₀.heap.FunFrames X.base X.outer
 frf:∀b∈X.fs,X.H₀ b=none
structure Inv(X:Cx)(pins:List (Addr×Obj))(σ : List (Option V))(H:Hp)(s:Shared):Prop where
 ok:X.Ok
 os:s.os=X.s₀.os
 bare:AllBare s.gens
 base:Un X.fs X.ex X.H₀ H X.s₀.heap s.heap
 loc:∃m,s.heap.Ns X.env.locals m /\ ∀(i:Nat) (x:Str) (v:V),X.N[i]? = some x -> σ[i]? = some (some v)->Vis X.env.scope x -> ∃u,RelV v u/\Look X.env s.heap m x u
 cell:∀x c,X.env.cells.lookup x=some c -> ∃v,s.heap.IsCell c v
 free:H X.env.locals=none
 freeC:∀x c,X.env.cells.lookup x=some c->H c=none
 pin:∀p∈X.pn++pins,s.heap.get? p.1=some p.2/\H p.1=none/\p.1≠X.env.locals/\p.1∉X.fs /\ ∀v,p.2.data ≠ .cell v
 hok:HOk X.prog X.w H s.heap
 len : σ.length=X.N.length
section
variable{X:Cx}{pins:List (Addr×Obj)}{σ : List (Option V)}{H H':Hp}{s:Shared}{h':Heap}
theorem Cx.Ok.nofr(ok:X.Ok){b:Addr}{o:Obj}(e:X.base.get? b=some o):b∉X.fs:=λhb=>by
 have:=(ok.funs.mem hb).1;rw [e] at this;cases this
theorem Inv.bs(I:Inv X pins σ H s):∀b o,X.base.get? b=some o->s.heap.get? b=some o/\H b=none:=λb o e =>
 ⟨I.base.keep b o (I.ok.bs b o e).1 (I.ok.bs b o e).2 (I.ok.nofr e) (I.ok.noex b o e),I.base.free b o (I.ok.bs b o e).1 (I.ok.bs b o e).2 (I.ok.noex b o e)⟩
theorem Inv.bk(I:Inv X pins σ H s):∀b o,X.base.get? b=some o->s.heap.get? b=some o:=λb o e=>(I.bs b o e).1
theorem Inv.mod(I:Inv X pins σ H s):Mod X.K X.mg X.base:=I.ok.mod
theorem Inv.kIn(I:Inv X pins σ H s):X.K.In s.heap:=I.ok.mod.kin.keeps I.bk
theorem Inv.lt(I:Inv X pins σ H s):X.env.locals<s.heap.objs.size:=let ⟨_,hn,_⟩:=I.loc;hn.lt
theorem Inv.sz(I:Inv X pins σ H s):X.s₀.heap.objs.size<=s.heap.objs.size:=bH I.ok.above (bU I.lt)
theorem Inv.nofs(I:Inv X pins σ H s){a:Addr}(h:s.heap.objs.size<=a):a∉X.fs:=λhb=>by
 obtain⟨_,o,ho,_⟩:=I.ok.funs.mem hb;exact absurd (aU (aK ho) (bH I.sz h)) (cW _)
theorem Inv.cne(I:Inv X pins σ H s):∀x c,X.env.cells.lookup x=some c->c≠X.env.locals:=λx c e z=>by
 obtain⟨v,o,ho,hd⟩:=I.cell x c e;obtain⟨m,⟨o',es,ep,ho',hd',_⟩,_⟩:=I.loc;rw [z,ho'] at ho;cases ho;rw [hd'] at hd;cases hd
theorem Inv.funs(I:Inv X pins σ H s):s.heap.FunFrames X.base X.outer:=by
 have all:∀(l:List Env),(∀b∈frs l,b∈X.fs)->X.s₀.heap.FunFrames X.base l->s.heap.FunFrames X.base l:=by
  intro l
  induction l with
  | nil=>intro _ _;trivial
  | cons env r ih =>
   intro hs hl;obtain⟨hk,⟨L,o,hf,hn,ho,hd⟩,hr⟩:=hl;have hL:L∈X.fs:=hs L (by unfold frs;rw [dZ,hf];exact bT);obtain⟨sl,e⟩:=I.base.slot L o ho (I.ok.frf L hL) hL λz=>I.ok.exfs L z hL;exact⟨hk,⟨L,_,hf,hn,e,hd⟩,ih (λb hb=>hs b (by unfold frs;rw [dZ,hf];exact aV _ hb)) hr⟩
 exact all X.outer (λ_ hb=>hb) I.ok.funs
theorem Inv.stack(I:Inv X pins σ H s):s.heap.FunFrames X.base X.stack:=by
 rcases I.ok.stk with e | ⟨e,hf⟩
 ·rw [e];exact I.funs
 ·rw [e];obtain⟨m,hn,_⟩:=I.loc;refine .cons (by rw [I.ok.kind];decide) hf hn ?_ I.funs;exact Heap.get?_none_of_le (bH I.ok.bsz I.ok.above)
theorem Inv.stkSub(I:Inv X pins σ H s):∀b∈frs X.stack,b∈X.env.locals::X.fs:=λb hb=>by
 rcases I.ok.stk with e | ⟨e,hf⟩
 ·rw [e] at hb;exact aV _ hb
 ·rw [e] at hb;unfold frs at hb;rw [dZ,hf] at hb;exact hb
theorem Inv.stkFree(I:Inv X pins σ H s):∀b∈frs X.stack,H b=none:=λb hb=>by
 rcases aJ.mp (I.stkSub b hb) with e | hb
 ·rw [e];exact I.free
 ·obtain⟨_,o,ho,_⟩:=I.ok.funs.mem hb;exact I.base.free b o ho (I.ok.frf b hb) λz=>I.ok.exfs b z hb
theorem Inv.step{g':Array GenState}{t':Nat}{d':Drawn}{ch:List Addr}(I:Inv X pins σ H s)(hch:∀b∈ch,(b∈X.ex\/X.s₀.heap.objs.size<=b)/\b≠X.env.locals/\(∀x c,X.env.cells.lookup x=some c->c≠b) /\ ∀p∈X.pn++pins,p.1≠b)(keep:∀b o,b≠X.env.locals->b∉X.fs->b∉ch->s.heap.get? b=some o->H b=none->h'.get? b=some o)(slot:∀b o,b≠X.env.locals->b∈X.fs->b∉ch->s.heap.get? b=some o->H b=none -> ∃sl,h'.get? b=some { o with slots:=sl })(free:∀b o,b∉ch->s.heap.get? b=some o->H b=none->H' b=none)(there:∀b o,b∉ch->s.heap.get? b=some o -> ∃o',h'.get? b=some o')(tups:∀b xs,H b=some (.tup xs)->H' b=some (.tup xs))(frzs:∀b o u,H b=some (.frz o u)->H' b=some (.frz o u))(tbls:∀b ps,H b=some (.tbl ps) -> ∃more,H' b=some (.tbl (ps++more)))(ns:∀m,s.heap.Ns X.env.locals m->h'.Ns X.env.locals m)(hok:HOk X.prog X.w H' h')(hg:AllBare g'):Inv X pins σ H' { s with heap:=h',gens:=g',drawn:=d',toks:=t' }:=by
 have neL:∀b o,X.s₀.heap.get? b=some o->b≠X.env.locals:=λb o e=>aY (aU (aK e) I.ok.above);have neC:∀b o,X.s₀.heap.get? b=some o->b∉X.ex->b∉ch:=λb o e hx hb=>by
  rcases (hch b hb).1 with z | z
  ·exact hx z
  ·exact absurd (aU (aK e) z) (cW _)
 have cellK:∀x c,X.env.cells.lookup x=some c -> ∀v,s.heap.IsCell c v->h'.IsCell c v:=λx c e v ⟨o,ho,hd⟩=>by
  have nch:c∉ch:=λz=>(hch c z).2.2.1 x c e rfl;by_cases hc:c∈X.fs
  ·obtain⟨sl,q⟩:=slot c o (I.cne x c e) hc nch ho (I.freeC x c e);exact⟨_,q,hd⟩
  ·exact⟨o,keep c o (I.cne x c e) hc nch ho (I.freeC x c e),hd⟩
 refine⟨I.ok,I.os,hg,⟨λb o e n hb hx=>?_,λb o e n hb hx=>?_,λb o e n hx=>?_,λb o e hx=>?_,λb xs e=>tups b xs (I.base.tups b xs e),λb o xs e=>frzs b o xs (I.base.frzs b o xs e),λb ps e=>?_⟩,?_,λx c e=>?_,?_,λx c e=>?_,λp hp=>?_,hok,I.len⟩
 ·exact keep b o (neL b o e) hb (neC b o e hx) (I.base.keep b o e n hb hx) (I.base.free b o e n hx)
 ·obtain⟨sl,e1⟩:=I.base.slot b o e n hb hx;obtain⟨sl',e2⟩:=slot b _ (neL b o e) hb (neC b o e hx) e1 (I.base.free b o e n hx);exact⟨sl',e2⟩
 ·obtain⟨o',e1⟩:=I.base.there b o e hx;exact free b o' (neC b o e hx) e1 (I.base.free b o e n hx)
 ·obtain⟨o',e1⟩:=I.base.there b o e hx;exact there b o' (neC b o e hx) e1
 ·obtain⟨m1,e1⟩:=I.base.tbls b ps e;obtain⟨m2,e2⟩:=tbls b _ e1;exact⟨m1++m2,by rw [e2,Array.append_assoc]⟩
 ·obtain⟨m,hn,hl⟩:=I.loc;refine⟨m,ns m hn,λi x v e1 e2 e3=>?_⟩;obtain⟨u,r,l⟩:=hl i x v e1 e2 e3;refine⟨u,r,?_⟩;rcases l with l | ⟨k,c,e,z⟩
  ·exact .inl l
  ·exact .inr ⟨k,c,e,cellK x c e _ z⟩
 ·obtain⟨v,z⟩:=I.cell x c e;exact⟨v,cellK x c e v z⟩
 ·obtain⟨m,⟨o,_,_,ho,_⟩,_⟩:=I.loc;exact free _ o (λz=>(hch _ z).2.1 rfl) ho I.free
 ·obtain⟨v,o,ho,hd⟩:=I.cell x c e;exact free c o (λz=>(hch c z).2.2.1 x c e rfl) ho (I.freeC x c e)
 ·obtain⟨e,n,ne,nf,d⟩:=I.pin p hp;have nch:p.1∉ch:=λz=>(hch p.1 z).2.2.2 p hp rfl;exact⟨keep p.1 p.2 ne nf nch e n,free p.1 p.2 nch e n,ne,nf,d⟩
theorem Inv.un{t':Nat}(I:Inv X pins σ H s)(u:Un X.fs [] H H' s.heap h')(hok:HOk X.prog X.w H' h'):Inv X pins σ H' { s with heap:=h',toks:=t' }:=by
 obtain⟨m,⟨o,es,ep,ho,r⟩,_⟩:=id I.loc;obtain⟨sl,hL⟩:=u.any ho I.free (by simp)
 exact I.step (g':=s.gens) (d':=s.drawn) (ch :=[]) (λ_ z=>nomatch z) (λb o _ hb _ e n=>u.keep b o e n hb (by simp)) (λb o _ hb _ e n=>u.slot b o e n hb (by simp)) (λb o _ e n=>u.free b o e n (by simp)) (λb o _ e=>u.there b o e (by simp)) u.tups u.frzs u.tbls (λm' hm=>by
  obtain⟨o',es',ep',ho',r'⟩:=hm;rw [ho] at ho';cases ho'
  exact⟨_,es',ep',hL,r'⟩) hok I.bare
theorem Inv.call{g':Array GenState}{t':Nat}{d':Drawn}{ch:List Addr}(I:Inv X pins σ H s)(u:Un (frs X.stack) ch H H' s.heap h')(hok:HOk X.prog X.w H' h')(hg:AllBare g')(hch:∀b∈ch,(b∈X.ex\/X.s₀.heap.objs.size<=b)/\b≠X.env.locals/\(∀x c,X.env.cells.lookup x=some c->c≠b) /\ ∀p∈X.pn++pins,p.1≠b):Inv X pins σ H' { s with heap:=h',gens:=g',drawn:=d',toks:=t' }:=by
 obtain⟨m,⟨o,es,ep,ho,r⟩,_⟩:=id I.loc;obtain⟨sl,hL⟩:=u.any ho I.free λz=>(hch _ z).2.1 rfl
 exact I.step (ch:=ch) hch (λb o hL hb hc e n=>u.keep b o e n (λz=>(aJ.mp (I.stkSub b z)).elim hL hb) hc) (λb o _ _ hc e n=>u.any e n hc) (λb o hc e n=>u.free b o e n hc) (λb o hc e=>u.there b o e hc) u.tups u.frzs u.tbls (λm' hm=>by
  obtain⟨o',es',ep',ho',r'⟩:=hm;rw [ho] at ho';cases ho'
  exact⟨_,es',ep',hL,r'⟩) hok hg
theorem Inv.turned{t':Nat}{it:Addr}(I:Inv X pins σ H s)(k:∀b o,b≠it->s.heap.get? b=some o->h'.get? b=some o)(hn:H it=none)(hL:it≠X.env.locals)(h1:it∈X.ex\/X.s₀.heap.objs.size<=it)(h2:∀x c,X.env.cells.lookup x=some c->c≠it)(h3:∀p∈X.pn++pins,p.1≠it):Inv X pins σ H { s with heap:=h',toks:=t' }:=by
 have nit:∀b u,H b=some u->b≠it:=λb u e z=>by rw [z,hn] at e;cases e
 refine I.step (g':=s.gens) (d':=s.drawn) (ch :=[it]) (λb hb=>?_) (λb o _ _ hc e _=>k b o (λz=>hc (by simp [z])) e) (λb o _ _ hc e _=>⟨o.slots,k b o (λz=>hc (by simp [z])) e⟩) (λ_ _ _ _ n=>n)
  (λb o hc e=>⟨o,k b o (λz=>hc (by simp [z])) e⟩) (λ_ _ e=>e) (λ_ _ _ e=>e) (λb ps e=>⟨#[],by rw [e];simp⟩) (λm hm=>?_) (λb u e=>?_) I.bare
 ·have e:b=it:=by simpa using hb
  subst e;exact⟨h1,hL,h2,h3⟩
 ·obtain⟨o,es,ep,ho,r⟩:=hm;exact⟨o,es,ep,k _ o (dS hL) ho,r⟩
 ·refine (I.hok b u e).stay (λc v hc q=>k c v ?_ q) (λ_ q=>q) λ_ _ q=>q;rcases hc with z | z
  ·rw [z];exact nit b u e
  ·exact nit c _ z
theorem Inv.tok(I:Inv X pins σ H s)(t:Nat):Inv X pins σ H { s with toks:=t }:=I.un (h':=s.heap) (t':=t) Un.refl I.hok
theorem Inv.kept{t':Nat}(I:Inv X pins σ H s)(k:∀b u,s.heap.get? b=some u->h'.get? b=some u):Inv X pins σ H { s with heap:=h',toks:=t' }:=I.un (Un.kept k) (I.hok.kept k)
theorem Inv.laid{a:Addr}{o:HO}{t':Nat}(I:Inv X pins σ H s)(k:∀b u,s.heap.get? b=some u->h'.get? b=some u)(hp:s.heap.objs.size<=a)(new:ObjOk X.prog X.w (upd H a o) h' a o):Inv X pins σ (upd H a o) { s with heap:=h',toks:=t' }:=I.un (Un.laid k hp (I.hok.fresh hp)) (I.hok.laid k hp new)
theorem Inv.write{x e:Addr}{o:HO}{t':Nat}(I:Inv X pins σ H s)(mu:Mut (H x))(he:e=x\/H e=some (.own x))(k:∀b u,b≠e->s.heap.get? b=some u->h'.get? b=some u)(heo:∃u,h'.get? e=some u)(new:ObjOk X.prog X.w (upd H x o) h' x o):Inv X pins σ (upd H x o) { s with heap:=h',toks:=t' }:=I.un (Un.write mu he k heo) (I.hok.write mu he k heo new)
theorem Inv.pins_of{pins':List (Addr×Obj)}(I:Inv X pins σ H s)(h:∀p∈pins',s.heap.get? p.1=some p.2/\H p.1=none/\p.1≠X.env.locals/\p.1∉X.fs /\ ∀v,p.2.data ≠ .cell v):Inv X pins' σ H s:=⟨I.ok,I.os,I.bare,I.base,I.loc,I.cell,I.free,I.freeC,λp hp=>(aP.mp hp).elim (λz=>I.pin p (bR _ z)) (h p),I.hok,I.len⟩
theorem qJq{N:List Str}(hN:N.Nodup){i j:Nat}{x:Str}(a:N[i]? = some x)(b:N[j]? = some x):i=j:=by
 obtain⟨h1,e1⟩:=aD.mp a;obtain⟨h2,e2⟩:=aD.mp b;exact (List.getElem_inj hN).mp (e1.trans e2.symm)
theorem qH2{M:Model}{A:Around}{E:Value->Shared->Prop}{i:Nat}{x:Str}{v:V}{u:Value}{Q:Unit->Shared->Prop}(I:Inv X pins σ H s)(hN:X.N.Nodup)(hi:X.N[i]? = some x)(hx:Loc X.env.scope x)(r:RelV v u)(h:∀s',Inv X pins (σ.set i (some v)) H s'->(∃a,Heap.SameBut a s.heap s'.heap/\(a=X.env.locals\/X.env.cells.lookup x=some a))->Q () s')(hf:X.fn x=true\/X.env.scope.names.lookup x=some .local:=by first | exact .inl rfl | exact .inr rfl | assumption):wpAny M A (storeName X.env x u) Q E s:=by
 obtain⟨m,hn,hl⟩:=id I.loc;have hcls:(X.env.scope.kind == .class||(X.env.scope.kind == .module&&X.env.locals != X.env.globals))=false:=by rw [I.ok.kind];rfl
 have hiσ : i < σ.length:=by rw [I.len];exact (aD.mp hi).1
 have cne:=I.cne;have tracked:∀ {a:Addr} {h':Heap},(∃o,s.heap.get? a=some o/\H a=none)->Heap.SameBut a s.heap h'->HOk X.prog X.w H h':=λ{a h'} ha hs b ob e=>by
  obtain⟨_,_,hfree⟩:=ha;refine (I.hok b ob e).stay (λc w' hc q=>(hs.2 c ?_).trans q) (λ_ q=>q) λ_ _ q=>q;rintro rfl;rcases hc with rfl | hc
  ·rw [hfree] at e;cases e
  ·rw [hfree] at hc;cases hc
 rcases hx with hk | hk
 ·refine wpAny_storeName_local hk hn (λh' hn' hs=>?_) hcls;obtain⟨oL,_,_,hoL,_⟩:=id hn;refine h _ ⟨I.ok,I.os,I.bare,⟨λb o e n hb hx=>?_,λb o e n hb hx=>?_,I.base.free,λb o e hx=>?_,I.base.tups,I.base.frzs,I.base.tbls⟩,⟨_,hn',λj y v' e1 e2 e3=>?_⟩,λy c e=>?_,I.free,I.freeC,λp hp=>?_,tracked ⟨oL,hoL,I.free⟩ hs,by simpa using I.len⟩ ⟨_,hs,.inl rfl⟩
  ·exact (hs.2 b (aY (aU (aK e) I.ok.above))).trans (I.base.keep b o e n hb hx)
  ·obtain⟨sl,e1⟩:=I.base.slot b o e n hb hx;exact⟨sl,(hs.2 b (aY (aU (aK e) I.ok.above))).trans e1⟩
  ·obtain⟨o',e1⟩:=I.base.there b o e hx;exact⟨o',(hs.2 b (aY (aU (aK e) I.ok.above))).trans e1⟩
  ·by_cases hj:j=i
   ·subst hj;rw [hi] at e1;cases e1;rw [List.getElem?_set_self hiσ] at e2;cases e2;exact⟨u,r,.inl ⟨hk,by simp⟩⟩
   ·rw [List.getElem?_set_ne (dS hj)] at e2;obtain⟨u',r',q⟩:=hl j y v' e1 e2 e3;refine⟨u',r',?_⟩;rcases q with ⟨k,e⟩ | ⟨k,c,e,z⟩
    ·refine .inl ⟨k,?_⟩;have:y≠x:=λe=>hj (qJq hN e1 (e▸hi));simp [this,e]
    ·exact .inr ⟨k,c,e,z.sameBut hs (cne y c e)⟩
  ·obtain⟨w',z⟩:=I.cell y c e;exact⟨w',z.sameBut hs (cne y c e)⟩
  ·obtain⟨e,n,ne,nf,d⟩:=I.pin p hp;exact⟨(hs.2 p.1 ne).trans e,n,ne,nf,d⟩
 ·have hfn:X.fn x=true:=by
   rcases hf with z | z
   ·exact z
   ·rw [z] at hk;cases hk
  obtain⟨c,hc⟩:=I.ok.has x (.inl hk);obtain⟨w',z⟩:=I.cell x c hc;refine wpAny_storeName_cell I.ok.kind hk hc z (λh' hc' hs=>?_);obtain⟨oc,hoc,hocd⟩:=id z;refine h { s with heap:=h' } ⟨I.ok,I.os,I.bare,⟨λb o e n hb hx=>?_,λb o e n hb hx=>?_,I.base.free,λb o e hx=>?_,I.base.tups,I.base.frzs,I.base.tbls⟩,⟨m,hn.sameBut hs (dS (cne x c hc)),λj y v' e1 e2 e3=>?_⟩,λy c' e=>?_,I.free,I.freeC,λp hp=>?_,tracked ⟨oc,hoc,I.freeC x c hc⟩ hs,by simpa using I.len⟩ ⟨c,hs,.inr hc⟩
  ·exact (hs.2 b (aY (aU (aK e) (I.ok.cab x c hfn hc)))).trans (I.base.keep b o e n hb hx)
  ·obtain⟨sl,e1⟩:=I.base.slot b o e n hb hx;exact⟨sl,(hs.2 b (aY (aU (aK e) (I.ok.cab x c hfn hc)))).trans e1⟩
  ·obtain⟨o',e1⟩:=I.base.there b o e hx;exact⟨o',(hs.2 b (aY (aU (aK e) (I.ok.cab x c hfn hc)))).trans e1⟩
  ·by_cases hj:j=i
   ·subst hj;rw [hi] at e1;cases e1;rw [List.getElem?_set_self hiσ] at e2;cases e2;exact⟨u,r,.inr ⟨.inl hk,c,hc,hc'⟩⟩
   ·rw [List.getElem?_set_ne (dS hj)] at e2;obtain⟨u',r',q⟩:=hl j y v' e1 e2 e3;refine⟨u',r',?_⟩;rcases q with q | ⟨k,c',e,z'⟩
    ·exact .inl q
    ·refine .inr ⟨k,c',e,z'.sameBut hs ?_⟩;rintro rfl;exact hj (qJq hN e1 (I.ok.inj _ _ _ e hc▸hi))
  ·by_cases hcc:c'=c
   ·subst hcc;exact⟨_,hc'⟩
   ·obtain⟨w2,z2⟩:=I.cell y c' e;exact⟨w2,z2.sameBut hs hcc⟩
  ·obtain⟨e,n,ne,nf,d⟩:=I.pin p hp;refine⟨(hs.2 p.1 ?_).trans e,n,ne,nf,d⟩;intro q;rw [q,hoc] at e;have q':oc=p.2:=bF e;exact d w' (by rw [<-q'];exact hocd)
theorem qE1{M:Model}{A:Around}{E:Value->Shared->Prop}{i:Nat}{x:Str}{v:V}{u:Value}{Q:Unit->Shared->Prop}(I:Inv X pins σ H s)(hN:X.N.Nodup)(hi:X.N[i]? = some x)(hx:Loc X.env.scope x)(r:RelV v u)(h:∀s',Inv X pins (σ.set i (some v)) H s'->Q () s')(hf:X.fn x=true\/X.env.scope.names.lookup x=some .local:=by first | exact .inl rfl | exact .inr rfl | assumption):wpAny M A (storeName X.env x u) Q E s:=qH2 I hN hi hx r (λs' I' _=>h s' I') hf
theorem Inv.call'{s':Shared}{ch:List Addr}(I:Inv X pins σ H s)(ho:s'.os=s.os)(u:Un (frs X.stack) ch H H' s.heap s'.heap)(hok:HOk X.prog X.w H' s'.heap)(hg:AllBare s'.gens)(hch:∀b∈ch,(b∈X.ex\/X.s₀.heap.objs.size<=b)/\b≠X.env.locals/\(∀x c,X.env.cells.lookup x=some c->c≠b) /\ ∀p∈X.pn++pins,p.1≠b):Inv X pins σ H' s':=by
 obtain⟨h',g',d',t',o'⟩:=s';have e:o'=s.os:=ho;subst e;exact I.call (g':=g') (t':=t') (d':=d') u hok hg hch
end
abbrev XK:=Value->Option Addr->Hp->Prop
abbrev St:=List (Option V)
abbrev VK:=V->Hp->Prop
abbrev TE:=St->Hp->VK->Prop
abbrev TT:=St->Hp->(Bool->Hp->Prop)->Prop
abbrev TA:=St->Hp->(List V->Hp->Prop)->Prop
structure Ends where
 nx:St->Hp->Prop
 rt:VK
 bk:St->Hp->Prop:=λ_ _=>False
 ct:St->Hp->Prop:=λ_ _=>False
abbrev TS:=Ends->St->Hp->Prop
def EP(X:Cx)(pins:List (Addr×Obj))(σ : St)(Q:VK)(u:Value)(s':Shared):Prop := ∃v H',Inv X pins σ H' s'/\RelV v u/\Q v H'
def TP(X:Cx)(pins:List (Addr×Obj))(σ : St)(Q:Bool->Hp->Prop)(b:Bool)(s':Shared):Prop := ∃H',Inv X pins σ H' s'/\Q b H'
def AP(X:Cx)(pins:List (Addr×Obj))(σ : St)(Q:List V->Hp->Prop)(us:List Value)(s':Shared):Prop := ∃vs H',Inv X pins σ H' s'/\Vals vs us/\Q vs H'
def SP(X:Cx)(pins:List (Addr×Obj))(D:Ends)(f:Flow)(s':Shared):Prop :=
 match f with
 | .next => ∃ σ' H',Inv X pins σ' H' s'/\D.nx σ' H'
 | .brk => ∃ σ' H',Inv X pins σ' H' s'/\D.bk σ' H'
 | .cont => ∃ σ' H',Inv X pins σ' H' s'/\D.ct σ' H'
 | .ret u => ∃v σ' H',Inv X pins σ' H' s'/\RelV v u/\D.rt v H'
def PE(X:Cx)(e:Expr)(t:TE):Prop :=
 ∀(pins:List (Addr×Obj)) (s:Shared) (σ : St) (H:Hp) (Q:VK),Inv X pins σ H s->t σ H Q->wpAny (model X.prog X.w) X.A (eval e X.env) (EP X pins σ Q) X.xe s
def PT(X:Cx)(e:Expr)(t:TT):Prop :=
 ∀(pins:List (Addr×Obj)) (s:Shared) (σ : St) (H:Hp) (Q:Bool->Hp->Prop),Inv X pins σ H s->t σ H Q->wpAny (model X.prog X.w) X.A (isTrue e X.env (eval e X.env)) (TP X pins σ Q) X.xe s
def PW(X:Cx)(e:Expr)(t:TT):Prop :=
 ∀(whole:Sem Value) (pins:List (Addr×Obj)) (s:Shared) (σ : St) (H:Hp) (Q:Bool->Hp->Prop),Inv X pins σ H s->t σ H Q->wpAny (model X.prog X.w) X.A (isTrue e X.env whole) (TP X pins σ Q) X.xe s
theorem PW.pt{X:Cx}{e:Expr}{t:TT}(h:PW X e t):PT X e t:=h _
def PA(X:Cx)(es:List Expr)(t:TA):Prop :=
 ∀(pos:Pos) (pins:List (Addr×Obj)) (s:Shared) (σ : St) (H:Hp) (Q:List V->Hp->Prop),Inv X pins σ H s->t σ H Q->wpAny (model X.prog X.w) X.A (spliced (backTo pos (starEach es X.env))) (AP X pins σ Q) X.xe s
def PS(X:Cx)(st:Stmt)(t:TS):Prop :=
 ∀(pins:List (Addr×Obj)) (s:Shared) (σ : St) (H:Hp) (D:Ends),Inv X pins σ H s->t D σ H->wpAny (model X.prog X.w) X.A (exec st X.env) (SP X pins D) X.xe s
def PSs(X:Cx)(st:List Stmt)(t:TS):Prop :=
 ∀(pins:List (Addr×Obj)) (s:Shared) (σ : St) (H:Hp) (D:Ends),Inv X pins σ H s->t D σ H->wpAny (model X.prog X.w) X.A (execs st X.env) (SP X pins D) X.xe s
theorem thn{α : Type}{t:Sem α}{Q Q' : α -> Shared->Prop}{M:Model}{A:Around}{E:Value->Shared->Prop}{s:Shared}(h:wpAny M A t Q E s)(hQ:∀a s,Q a s->Q' a s):wpAny M A t Q' E s:=wpAny_mono h hQ λ_ _ x=>x
section
variable{X:Cx}
theorem bin{a b:Expr}{ta tb:TE}(ha:PE X a ta)(hb:PE X b tb){pins:List (Addr×Obj)}{s:Shared}{σ : St}{H:Hp}{R:V->V->Hp->Prop}(I:Inv X pins σ H s)(h:ta σ H λx H1=>tb σ H1 λy H2=>R x y H2){α : Type}{Q : α -> Shared->Prop}{f:Value->Value->Sem α}(hf:∀v u s2 x y H2,Inv X pins σ H2 s2->RelV x v->RelV y u->R x y H2->wpAny (model X.prog X.w) X.A (f v u) Q X.xe s2):wpAny (model X.prog X.w) X.A (eval a X.env) (λv s₁ =>wpAny (model X.prog X.w) X.A (eval b X.env) (λu s₂ =>wpAny (model X.prog X.w) X.A (f v u) Q X.xe s₂) X.xe s₁) X.xe s:=by
 refine thn (ha pins s σ H _ I h) λv s1 hq_=>?_;obtain⟨x,H1,I1,r1,q1⟩:=hq_;refine thn (hb pins s1 σ H1 _ I1 q1) λu s2 hq_=>?_;obtain⟨y,H2,I2,r2,q2⟩:=hq_;exact hf v u s2 x y H2 I2 r1 r2 q2
def tVar(i:Nat):TE:=λσ H Q => ∃v,σ[i]? = some (some v)/\Q v H
def tC(v:V):TE:=λ_ H Q=>Q v H
theorem qSa{i:Nat}{x:Str}{pos:Pos}(hN:X.N[i]? = some x)(hv:Vis X.env.scope x)(hd:(x == ("__debug__" : Str))=false:=by decide)(hcd:(x == ("__classdict__" : Str))=false:=by decide):PE X (.Name x pos) (tVar i):=by
 intro pins s σ H Q I h;obtain⟨v,e,h⟩:=h;obtain⟨m,hn,hl⟩:=I.loc;obtain⟨u,r,l⟩:=hl i x v hN e hv;have fin:EP X pins σ Q u s:=⟨v,H,I,r,h⟩;rcases l with ⟨hk,hm⟩ | ⟨hk,c,hc,hcell⟩
 ·exact wpAny_Name (wpAny_loadName_local I.ok.kind hk hn hm fin) hd
 ·rcases hk with hk | hk
  ·exact wpAny_Name (wpAny_loadName_cell I.ok.kind hk hc hcell fin) hd
  ·exact wpAny_Name (wpAny_loadName_free I.ok.kind hk hc hcell fin hcd) hd
theorem qA6{i j pos}:PE X (.Constant (.int i) j pos) (tC (.int i)):=λ_ _ _ H _ I h=>wpAny_Constant_int ⟨.int i,H,I.tok _,⟨_,rfl⟩,h⟩
theorem qD9{b j pos}:PE X (.Constant (.bool b) j pos) (tC (.bl b)):=λ_ _ _ H _ I h=>Constant_bool ⟨.bl b,H,I,rfl,h⟩
theorem qD3{j pos}:PE X (.Constant .none j pos) (tC .non):=λ_ _ _ H _ I h=>Constant_none ⟨.non,H,I,rfl,h⟩
theorem qAn{x j pos}:PE X (.Constant (.str x) j pos) (tC (.str x)):=λ_ _ _ H _ I h=>Calls.Constant_str ⟨.str x,H,I.tok _,⟨_,rfl⟩,h⟩
def Gl(X:Cx)(x:Str):Prop:=X.env.kindOf x=some .globalImplicit
theorem qMv{E:Value->Shared->Prop}{pins:List (Addr×Obj)}{s:Shared}{σ : St}{H:Hp}{x:Str}{u:Value}{pos:Pos}{Q:Value->Shared->Prop}(I:Inv X pins σ H s)(hg:Gl X x)(hm:X.mg x=some u)(h:Q u s)
  (hd:(x == ("__debug__" : Str))=false:=by decide):wpAny (model X.prog X.w) X.A (eval (.Name x pos) X.env) Q E s :=
 Calls.Name_function_global I.ok.kind hg (Calls.loadGlobal_global (by rw [I.ok.glob];exact I.mod.glob.keeps I.bk) hm h) hd
theorem qFr{E:Value->Shared->Prop}{pins:List (Addr×Obj)}{s:Shared}{σ : St}{H:Hp}{x:Str}{u:Value}{pos:Pos}{Q:Value->Shared->Prop}(I:Inv X pins σ H s)(hg:Gl X x)(hm:X.mg x=none)(hv:bootBuiltins x=some u)(h:Q u s)
  (hn:x ≠ "__name__" :=by decide) (hd:(x == ("__debug__" : Str))=false:=by decide):wpAny (model X.prog X.w) X.A (eval (.Name x pos) X.env) Q E s:=by
 obtain⟨mb,h1,h2⟩:=I.mod.blt;exact Calls.Name_function_global I.ok.kind hg (Calls.loadGlobal_builtin (by rw [I.ok.glob];exact I.mod.glob.keeps I.bk) hm (by rw [I.ok.blt];exact h1.keeps I.bk) ((h2 x hn).trans hv) h) hd
theorem qBd{x:Str}{v:V}{u:Value}{pos:Pos}(hg:Gl X x)(hm:X.mg x=some u)(r:RelV v u)(hd:(x == ("__debug__" : Str))=false:=by decide):PE X (.Name x pos) (tC v):=λ_ _ _ H _ I h=>qMv I hg hm ⟨v,H,I,r,h⟩ hd
theorem qCm{x:Str}{v:V}{u:Value}{pos:Pos}(hg:Gl X x)(hm:X.mg x=none)(hv:bootBuiltins x=some u)(r:RelV v u)(hn:x ≠ "__name__" :=by decide)(hd:(x == ("__debug__" : Str))=false:=by decide):PE X (.Name x pos) (tC v):=λ_ _ _ H _ I h=>qFr I hg hm hv ⟨v,H,I,r,h⟩ hn hd
variable{a b:Expr}{ta tb:TE}{pos:Pos}
def PC(X:Cx)(op:CmpOp)(a b:Expr)(t:TE):Prop :=
 ∀(pins:List (Addr×Obj)) (s:Shared) (σ : St) (H:Hp) (Q:VK),Inv X pins σ H s->t σ H Q ->
  wpAny (model X.prog X.w) X.A (eval a X.env) (λv s₁ =>wpAny (model X.prog X.w) X.A (eval b X.env) (λu s₂ =>wpAny (model X.prog X.w) X.A (compareOp op v u) (EP X pins σ Q) X.xe s₂) X.xe s₁) X.xe s
theorem qP4(b:Expr){op:CmpOp}(h:op ≠ .In)(h2:op ≠ .NotIn):behindInMarks op b=false:=by
 have e1:(op == CmpOp.In)=false:=by cases op <;> first | rfl | exact absurd rfl h
 have e2:(op == CmpOp.NotIn)=false:=by cases op <;> first | rfl | exact absurd rfl h2
 cases b <;> simp [behindInMarks,e1,e2]
def tB(t:TE):TT:=λσ H Q=>t σ H λx H1 => ∃c,x = .bl c/\Q c H1
theorem qPz{op:CmpOp}{t:TE}(h:PC X op a b t)(h1:behindInMarks op b=false:=by first | exact qP4 _ (by decide) (by decide) | rfl):PT X (.Compare a [op] [b] pos) (tB t):=by
 intro pins s σ H Q I hw;refine wpAny_isTrue_Compare1 (thn (h pins s σ H _ I hw) λv s1 h1=>thn h1 λu s2 h2=>thn h2 λc s3 hq_=>?_) h1;obtain⟨x,H1,I1,r1,q1⟩:=hq_;obtain⟨d,rfl,q⟩:=q1;cases r1;exact bQ ⟨H1,I1,q⟩
variable{tA tB':TT}{rest:List Expr}
def tAnd(t u:TT):TT:=λσ H Q=>t σ H λc H1=>if c=true then u σ H1 Q else Q false H1
def tOr(t u:TT):TT:=λσ H Q=>t σ H λc H1=>if c=true then Q true H1 else u σ H1 Q
def tNot(t:TT):TT:=λσ H Q=>t σ H λc H1=>Q (!c) H1
theorem qEj(ha:PT X a tA):PW X (.BoolOp .And [a] pos) tA:=by
 intro wh pins s σ H Q I h;refine isTrue_and (thn (ha pins s σ H Q I h) λc s1 e=>?_);cases c with
 | true=>exact isTrue_and_nil e
 | false=>exact e
theorem qBv(ha:PT X a tA):PW X (.BoolOp .Or [a] pos) tA:=by
 intro wh pins s σ H Q I h;refine isTrue_or (thn (ha pins s σ H Q I h) λc s1 e=>?_);cases c with
 | false=>exact isTrue_or_nil e
 | true=>exact e
theorem qH8(ha:PT X a tA)(hb:PW X (.BoolOp .And (b::rest) pos) tB'):PW X (.BoolOp .And (a::b::rest) pos) (tAnd tA tB'):=by
 intro wh pins s σ H Q I h;refine isTrue_and (thn (ha pins s σ H _ I h) λc s1 hq_=>?_);obtain⟨H1,I1,q1⟩:=hq_;cases c with
 | true=>exact hb wh pins s1 σ H1 Q I1 q1
 | false=>exact⟨H1,I1,q1⟩
theorem qD8(ha:PT X a tA)(hb:PW X (.BoolOp .Or (b::rest) pos) tB'):PW X (.BoolOp .Or (a::b::rest) pos) (tOr tA tB'):=by
 intro wh pins s σ H Q I h;refine isTrue_or (thn (ha pins s σ H _ I h) λc s1 hq_=>?_);obtain⟨H1,I1,q1⟩:=hq_;cases c with
 | true=>exact⟨H1,I1,q1⟩
 | false=>exact hb wh pins s1 σ H1 Q I1 q1
theorem qBw(ha:PT X a tA):PT X (.UnaryOp .Not a pos) (tNot tA):=by
 intro pins s σ H Q I h;exact isTrue_not (ha pins s σ H (λc H1=>Q (!c) H1) I h)
def tAndV(ta tb:TE):TE:=λσ H Q=>ta σ H λx H1 => ∃c,x = .bl c/\if c=true then tb σ H1 Q else Q (.bl false) H1
def tOrV(ta tb:TE):TE:=λσ H Q=>ta σ H λx H1 => ∃c,x = .bl c/\if c=true then Q (.bl true) H1 else tb σ H1 Q
def tNotV(ta:TE):TE:=λσ H Q=>ta σ H λx H1 => ∃c,x = .bl c/\Q (.bl (!c)) H1
theorem qM7{op}{t:TE}(h:PE X a t):PE X (.BoolOp op [a] pos) t:=λpins s σ H Q I hw=>BoolOp_one (h pins s σ H Q I hw)
theorem qJo(ha:PE X a ta)(hb:PE X (.BoolOp .And (b::rest) pos) tb):PE X (.BoolOp .And (a::b::rest) pos) (tAndV ta tb):=by
 intro pins s σ H Q I h;refine BoolOp_and (thn (ha pins s σ H _ I h) λv s1 hq_=>?_);obtain⟨x,H1,I1,r1,q1⟩:=hq_;obtain⟨c,rfl,q1⟩:=q1;cases r1;refine bQ ?_;cases c with
 | true=>exact hb pins s1 σ H1 Q I1 q1
 | false=>exact⟨.bl false,H1,I1,rfl,q1⟩
theorem qSb(ha:PE X a ta):PE X (.UnaryOp .Not a pos) (tNotV ta):=by
 intro pins s σ H Q I h;refine UnaryOp_ (thn (ha pins s σ H _ I h) λv s1 hq_=>?_);obtain⟨x,H1,I1,r1,q1⟩:=hq_;obtain⟨c,rfl,q1⟩:=q1;cases r1;exact not_of (bQ ⟨.bl (!c),H1,I1,rfl,q1⟩)
def tIf(t:TT)(ta tb:TE):TE:=λσ H Q=>t σ H λc H1=>if c=true then ta σ H1 Q else tb σ H1 Q
theorem qBg{c:Expr}(hc:PT X c tA)(ha:PE X a ta)(hb:PE X b tb):PE X (.IfExp c a b pos) (tIf tA ta tb):=by
 intro pins s σ H Q I h;refine wpAny_IfExp (thn (hc pins s σ H _ I h) λd s1 hq_=>?_);obtain⟨H1,I1,q1⟩:=hq_;cases d with
 | true=>exact ha pins s1 σ H1 Q I1 q1
 | false=>exact hb pins s1 σ H1 Q I1 q1
end
def SqL(K:PySem.W.Frag)(H:Hp)(a:Addr)(xs:List V):Prop :=
 Rd H a (.lst xs) \/
  ∃(o:Obj) (its:Array Value) (n:Nat),K.lookup a=some o/\o.cls = .type "list" /\ o.dict=none/\o.data = .seq its n/\its.size<=sizeLine/\Vals xs its.toList
def SqT(K:PySem.W.Frag)(H:Hp)(a:Addr)(xs:List V):Prop :=
 Rd H a (.tup xs) \/
  ∃(o:Obj) (its:Array Value) (n:Nat),K.lookup a=some o/\o.cls = .type "tuple" /\ o.data = .seq its n/\its.size<=sizeLine/\Vals xs its.toList
def absV:Value->Option V
 | .none=>some .non
 | .bool b=>some (.bl b)
 | .int i _=>some (.int i)
 | .str x _=>some (.str x)
 | .bytes b _=>some (.byt b)
 | .float b _=>some (.flt b)
 | .ref a=>some (.ref a)
 | .type n=>some (.ty n)
 | _=>none
theorem RelV.abs{x:V}{u:Value}(r:RelV x u):absV u=some x:=by
 cases x with
 | non=>cases r;rfl
 | bl _=>cases r;rfl
 | int _=>obtain⟨t,rfl⟩:=r;rfl
 | str _=>obtain⟨t,rfl⟩:=r;rfl
 | byt _=>obtain⟨t,rfl⟩:=r;rfl
 | flt _=>obtain⟨t,rfl⟩:=r;rfl
 | ref _=>cases r;rfl
 | ty _=>cases r;rfl
theorem RelV.inj{x y:V}{u:Value}(r:RelV x u)(q:RelV y u):x=y:=bF (r.abs.symm.trans q.abs)
theorem Vals.inj{xs ys:List V}{us:List Value}(h:Vals xs us)(k:Vals ys us):xs=ys:=by
 induction h generalizing ys with
 | nil=>cases k;rfl
 | cons r _ ih=>cases k with | cons r' t'=>rw [r.inj r',ih t']
section
variable{X:Cx}{pins:List (Addr×Obj)}{σ : St}{H:Hp}{s:Shared}{a:Addr}{xs ys:List V}
theorem SqL.of{K:PySem.W.Frag}(h:H a=some (.lst xs)):SqL K H a xs :=.inl (.inl h)
theorem SqT.of{K:PySem.W.Frag}(h:H a=some (.tup xs)):SqT K H a xs :=.inl (.inl h)
theorem Inv.list(I:Inv X pins σ H s)(h:SqL X.K H a xs):∃its:List Value,Vals xs its/\PlainL s.heap a its.toArray/\xs.length<=sizeLine:=by
 rcases h with h | ⟨o,its,n,hk,hc,hd,hs,hz,r⟩
 ·obtain⟨z,its,n,r,e⟩:=h.ok I.hok;exact⟨its,r,⟨_,n,e,rfl,rfl,rfl⟩,z⟩
 ·refine⟨its.toList,r,⟨o,n,I.kIn a o hk,hc,hd,by simpa using hs⟩,?_⟩;have e:=r.length;simp only [bG] at e;lia
theorem Inv.tuple(I:Inv X pins σ H s)(h:SqT X.K H a xs):∃its:List Value,Vals xs its/\IsTup s.heap a its.toArray/\xs.length<=sizeLine:=by
 rcases h with h | ⟨o,its,n,hk,hc,hs,hz,r⟩
 ·obtain⟨z,its,r,p⟩:=h.ok I.hok;exact⟨its,r,p,z⟩
 ·refine⟨its.toList,r,⟨o,I.kIn a o hk,hc,n,by simpa using hs⟩,?_⟩;have e:=r.length;simp only [bG] at e;lia
theorem Inv.list_inj(I:Inv X pins σ H s)(h:SqL X.K H a xs)(h':SqL X.K H a ys):xs=ys:=by
 obtain⟨its,r,⟨o,n,e,_,_,d⟩,_⟩:=I.list h;obtain⟨its',r',⟨o',n',e',_,_,d'⟩,_⟩:=I.list h';rw [e] at e';cases e';rw [d] at d';injection d' with d1 _
 have:its=its':=by simpa using congrArg Array.toList d1
 subst this;exact r.inj r'
theorem Inv.tuple_inj(I:Inv X pins σ H s)(h:SqT X.K H a xs)(h':SqT X.K H a ys):xs=ys:=by
 obtain⟨its,r,⟨o,e,_,n,d⟩,_⟩:=I.tuple h;obtain⟨its',r',⟨o',e',_,n',d'⟩,_⟩:=I.tuple h';rw [e] at e';cases e';rw [d] at d';injection d' with d1 _
 have:its=its':=by simpa using congrArg Array.toList d1
 subst this;exact r.inj r'
end
abbrev Cx.wish(X:Cx)(E:Value->Shared->Prop):Cx :={ X with xe:=E }
abbrev Cx.nox(X:Cx):Cx:=X.wish λ_ _=>False
theorem Cx.Ok.wish{X:Cx}(ok:X.Ok)(E:Value->Shared->Prop):(X.wish E).Ok:=⟨ok.mod,ok.kind,ok.glob,ok.blt,ok.above,ok.inj,ok.has,ok.cab,ok.hd,ok.frames,ok.stk,ok.exf,ok.bs,ok.bsz,ok.noex,ok.exfs,ok.funs,ok.frf⟩
theorem Cx.Ok.unwish{X:Cx}{E:Value->Shared->Prop}(ok:(X.wish E).Ok):X.Ok:=⟨ok.mod,ok.kind,ok.glob,ok.blt,ok.above,ok.inj,ok.has,ok.cab,ok.hd,ok.frames,ok.stk,ok.exf,ok.bs,ok.bsz,ok.noex,ok.exfs,ok.funs,ok.frf⟩
section
variable{X:Cx}{pins:List (Addr×Obj)}{σ : St}{H:Hp}{s:Shared}{E:Value->Shared->Prop}
theorem Inv.wish(I:Inv X pins σ H s)(E:Value->Shared->Prop):Inv (X.wish E) pins σ H s:=⟨I.ok.wish E,I.os,I.bare,I.base,I.loc,I.cell,I.free,I.freeC,I.pin,I.hok,I.len⟩
theorem Inv.unwish(I:Inv (X.wish E) pins σ H s):Inv X pins σ H s:=⟨I.ok.unwish,I.os,I.bare,I.base,I.loc,I.cell,I.free,I.freeC,I.pin,I.hok,I.len⟩
theorem SP.unwish{D:Ends}{f:Flow}{s':Shared}(h:SP (X.wish E) pins D f s'):SP X pins D f s':=by
 cases f with
 | next=>obtain⟨σ',H',I,q⟩:=h;exact⟨σ',H',I.unwish,q⟩
 | brk=>obtain⟨σ',H',I,q⟩:=h;exact⟨σ',H',I.unwish,q⟩
 | cont=>obtain⟨σ',H',I,q⟩:=h;exact⟨σ',H',I.unwish,q⟩
 | ret u=>obtain⟨v,σ',H',I,r,q⟩:=h;exact⟨v,σ',H',I.unwish,r,q⟩
theorem PSs.nox{st:List Stmt}{t:TS}(h:PSs X.nox st t):PSs X st t:=λpins s σ H D I hw =>
 wpAny_mono (h pins s σ H D (I.wish _) hw) (λ_ _ q=>q.unwish) λ_ _ z=>False.elim z
end
section
variable{X:Cx}{st:Stmt}{rest:List Stmt}{t u:TS}{e:Expr}{te:TE}{pos:Pos}
def tNext:TS:=λD σ H=>D.nx σ H
def tSeq(t u:TS):TS:=λD σ H=>t { D with nx:=u D } σ H
theorem qAl:PSs X [] tNext:=λ_ _ σ H _ I h=>wpAny_execs_nil ⟨σ,H,I,h⟩
theorem qA4(h1:PS X st t)(h2:PSs X rest u):PSs X (st::rest) (tSeq t u):=by
 intro pins s σ H D I h;refine wpAny_execs_cons (thn (h1 pins s σ H { D with nx:=u D } I h) λf s1 q=>?_);cases f with
 | next =>
  obtain⟨σ',H',I',q⟩:=q;exact h2 pins s1 σ' H' D I' q
 | ret v=>exact q
 | brk=>exact q
 | cont=>exact q
theorem qA8(h1:PS X st t):PSs X [st] t:=by
 intro pins s σ H D I h;refine wpAny_execs_cons (thn (h1 pins s σ H D I h) λf s1 q=>?_);cases f with
 | next=>exact wpAny_execs_nil q
 | ret v=>exact q
 | brk=>exact q
 | cont=>exact q
theorem Inv.quiet{pins:List (Addr×Obj)}{σ : St}{H:Hp}{s:Shared}(I:Inv X pins σ H s):interactive X.env=false:=by simp [interactive,I.ok.kind]
def tDrop(te:TE):TS:=λD σ H=>te σ H λ_ H1=>D.nx σ H1
theorem qB2(he:PE X e te)(hs:swapsWith e none pos.line X.env=pure false:=by rfl):PS X (.Expr e pos) (tDrop te):=by
 intro pins s σ H D I h;refine wpAny_Expr_any (thn (he pins s σ H _ I h) λv s1 hq_=>?_) I.quiet hs;obtain⟨x,H1,I1,r1,q1⟩:=hq_;exact⟨σ,H1,I1,q1⟩
def tRet(te:TE):TS:=λD σ H=>te σ H D.rt
theorem qAc(he:PE X e te):PS X (.Return (some e) pos) (tRet te):=by
 intro pins s σ H D I h;refine wpAny_Return_some (thn (he pins s σ H _ I h) λv s1 hq_=>?_);obtain⟨x,H1,I1,r1,q1⟩:=hq_;exact⟨x,σ,H1,I1,r1,q1⟩
def tIfS(c:TT)(t u:TS):TS:=λD σ H=>c σ H λb H1=>if b=true then t D σ H1 else u D σ H1
theorem qBc{c:Expr}{a b:List Stmt}{tc:TT}(hc:PT X c tc)(ha:PSs X a t)(hb:PSs X b u):PS X (.If c a b pos) (tIfS tc t u):=by
 intro pins s σ H D I h;refine wpAny_If (thn (hc pins s σ H _ I h) λd s1 hq_=>?_);obtain⟨H1,I1,q1⟩:=hq_;cases d with
 | true=>exact ha pins s1 σ H1 D I1 q1
 | false=>exact hb pins s1 σ H1 D I1 q1
def qRo:TS:=λ_ _ _=>False
theorem qGg:PS X st qRo:=λ_ _ _ _ _ _ h=>h.elim
end
abbrev TG:=V->St->Hp->(St->Hp->Prop)->Prop
abbrev TGs:=List V->St->Hp->(St->Hp->Prop)->Prop
def PG(X:Cx)(target:Expr)(t:TG):Prop :=
 ∀(pins:List (Addr×Obj)) (s:Shared) (σ : St) (H:Hp) (v:V) (u:Value) (Q:St->Hp->Prop),Inv X pins σ H s->RelV v u->t v σ H Q ->
  wpAny (model X.prog X.w) X.A (assign target X.env u) (λ_ s' => ∃ σ' H',Inv X pins σ' H' s'/\Q σ' H') X.xe s
def PGs(X:Cx)(ts:List Expr)(t:TGs):Prop :=
 ∀(pins:List (Addr×Obj)) (s:Shared) (σ : St) (H:Hp) (vs:List V) (us:List Value) (Q:St->Hp->Prop),Inv X pins σ H s->Vals vs us->t vs σ H Q ->
  wpAny (model X.prog X.w) X.A (assignInOrder ((assignEach ts X.env).map (·.2)) us) (λ_ s' => ∃ σ' H',Inv X pins σ' H' s'/\Q σ' H') X.xe s
abbrev TSet:=V->V->V->Hp->(Hp->Prop)->Prop
def PSet(X:Cx)(t:TSet):Prop :=
 ∀(pins:List (Addr×Obj)) (s:Shared) (σ : St) (H:Hp) (o i v:V) (ov iv u:Value) (Q:Hp->Prop),Inv X pins σ H s->RelV o ov->RelV i iv->RelV v u->t o i v H Q ->
  wpAny (model X.prog X.w) X.A (setItem ov iv u) (λ_ s' => ∃H',Inv X pins σ H' s'/\Q H') X.xe s
section
variable{X:Cx}{pos:Pos}
def gName(i:Nat):TG:=λv σ H Q=>Q (σ.set i (some v)) H
theorem qAd{i:Nat}{x:Str}(hN:X.N.Nodup)(hi:X.N[i]? = some x)(hx:Loc X.env.scope x)(hf:X.fn x=true\/X.env.scope.names.lookup x=some .local:=by first | exact .inl rfl | exact .inr rfl | assumption):PG X (.Name x pos) (gName i):=by
 intro pins s σ H v u Q I r h;exact wpAny_assign_Name (qE1 I hN hi hx r (λs' I'=>⟨_,H,I',h⟩) hf)
def gNil:TGs:=λvs σ H Q=>vs = []/\Q σ H
def gCons(t:TG)(u:TGs):TGs:=λvs σ H Q => ∃v r,vs=v::r/\t v σ H λσ' H'=>u r σ' H' Q
theorem qCe:PGs X [] gNil:=by
 intro pins s σ H vs us Q I r h;obtain⟨e,h⟩:=h;subst e;cases r;exact assignInOrder_nil ⟨σ,H,I,h⟩
theorem qAx{e:Expr}{es:List Expr}{t:TG}{u:TGs}(h1:PG X e t)(h2:PGs X es u)(hs:(assignEach (e::es) X.env).map (·.2)=assign e X.env::(assignEach es X.env).map (·.2):=by rfl):PGs X (e::es) (gCons t u):=by
 intro pins s σ H vs us Q I r h;obtain⟨v,vr,e1,h⟩:=h;subst e1;cases r with
 | cons r rr =>
  rw [hs];refine dB (thn (h1 pins s σ H _ _ _ I r h) λ_ s1 hq_=>?_);obtain⟨σ1,H1,I1,q1⟩:=hq_;exact h2 pins s1 σ1 H1 _ _ Q I1 rr q1
def gTup(K:PySem.W.Frag)(n:Nat)(t:TGs):TG:=λv σ H Q => ∃a xs,v = .ref a/\SqT K H a xs/\xs.length=n/\t xs σ H Q
theorem qFk{es:List Expr}{k:Nat}{t:TGs}{n:Nat}(hc:X.calm=true)(h:PGs X es t)(hn:(assignEach es X.env).length=n:=by rfl)(hst:(assignEach es X.env).findIdx? (·.1)=none:=by rfl):PG X (.Tuple es k pos) (gTup X.K n t):=by
 intro pins s σ H v u Q I r hw;obtain⟨a,xs,e1,hq,hl,hw⟩:=hw;subst e1;cases r;obtain⟨its,rv,ht,hz⟩:=I.tuple hq;refine assign_Tuple_tuple (I.ok.hd hc) ht (by simp [hn,<-hl,rv.length]) hst λh' hx=>?_;have I1:Inv X pins σ H { s with heap:=h' }:=I.kept (t':=s.toks) λb o e=>hx b o (aY (aK e)) e;exact h pins _ σ H xs _ Q I1 (by simpa using rv) hw
def gSub(to ti:TE)(t:TSet):TG:=λv σ H Q=>to σ H λo H1=>ti σ H1 λi H2=>t o i v H2 λH3=>Q σ H3
theorem qQ0{o i:Expr}{to ti:TE}{t:TSet}(ho:PE X o to)(hi:PE X i ti)(hs:PSet X t)(ha:∀v,assign (.Subscript o i pos) X.env v=(do
   let ov <-holding [v] (eval o X.env)
   let iv <-holding [v,ov] (eval i X.env)
   standAt pos
   holding [v,ov,iv] (setItem ov iv v)
   release [v,ov,iv] []):=by intro _;rfl):PG X (.Subscript o i pos) (gSub to ti t):=by
 intro pins s σ H v u Q I r h;rw [ha];refine aA (bI (thn (ho pins s σ H _ I h) λov s1 hq_=>?_));obtain⟨x,H1,I1,r1,q1⟩:=hq_;refine aA (bI (thn (hi pins s1 σ H1 _ I1 q1) λiv s2 hq_=>?_));obtain⟨y,H2,I2,r2,q2⟩:=hq_;refine aA (wpAny_standAt (aA (bI (thn (hs pins s2 σ H2 x y v ov iv u _ I2 r1 r2 r q2) λ_ s3 hq_=>?_))));obtain⟨H3,I3,q3⟩:=hq_;exact wpAny_release ⟨σ,H3,I3,q3⟩
def tAsg(te:TE)(g:TG):TS:=λD σ H=>te σ H λx H1=>g x σ H1 D.nx
theorem qJm{tg e:Expr}{te:TE}{g:TG}(he:PE X e te)(hg:PG X tg g)(hs:swapsWithSole [tg] e pos.line X.env=pure false:=by rfl)(hw:swappedStores [tg] e X.env=pure none:=by rfl)(h1:(assignEach [tg] X.env).map (·.2) = [assign tg X.env]:=by rfl):PS X (.Assign [tg] e pos) (tAsg te g):=by
 intro pins s σ H D I h;refine wpAny_Assign_stores (thn (he pins s σ H _ I h) λv s1 hq_=>?_) hs hw;obtain⟨x,H1,I1,r1,q1⟩:=hq_;rw [h1];exact thn (hg pins s1 σ H1 x v _ I1 r1 q1) λ_ s2 q=>q
theorem qAg{i:Nat}{x:Str}{e:Expr}{te:TE}{pos':Pos}(hN:X.N.Nodup)(hi:X.N[i]? = some x)(hx:Loc X.env.scope x)(he:PE X e te)(hs:swapsWith e (some (.Name x pos')) pos.line X.env=pure false:=by rfl)(hf:X.fn x=true\/X.env.scope.names.lookup x=some .local:=by first | exact .inl rfl | exact .inr rfl | assumption):PS X (.Assign [.Name x pos'] e pos) (tAsg te (gName i)):=by
 intro pins s σ H D I h;refine wpAny_Assign_Name (thn (he pins s σ H _ I h) λv s1 hq_=>?_) hs;obtain⟨y,H1,I1,r1,q1⟩:=hq_;exact qE1 I1 hN hi hx r1 (λs2 I2=>⟨_,H1,I2,q1⟩) hf
def tPar(i j:Nat)(ta:TA):TS:=λD σ H=>ta σ H λvs H1 => ∃v w,vs = [v,w]/\D.nx ((σ.set i (some v)).set j (some w)) H1
theorem qJl{i j:Nat}{x y:Str}{a b:Expr}{ta:TA}{px py pt:Pos}{kt k2 pt2}(hc:X.calm=true)(hN:X.N.Nodup)(hi:X.N[i]? = some x)(hj:X.N[j]? = some y)(hij:i≠j)(hx:X.env.scope.names.lookup x=some .local)(hy:X.env.scope.names.lookup y=some .local)(ha:PA X [a,b] ta)(hw:swappedStores [.Tuple [.Name x px,.Name y py] kt pt] (.Tuple [a,b] k2 pt2) X.env=pure (some [x,y]))(hs:swapsWithSole [.Tuple [.Name x px,.Name y py] kt pt] (.Tuple [a,b] k2 pt2) pos.line X.env=pure false:=by rfl):PS X (.Assign [.Tuple [.Name x px,.Name y py] kt pt] (.Tuple [a,b] k2 pt2) pos) (tPar i j ta):=by
 intro pins s σ H D I h;rw [exec_Assign_arm];refine aA (wpAny_standAt ?_);rw [hs];refine aA (aF ?_);rw [if_neg (by decide)];refine aA (Tuple_ (thn (ha _ pins s σ H _ I h) λus s1 hq_=>?_));obtain⟨vs,H1,I1,r1,q1⟩:=hq_;obtain⟨v,w,e1,q1⟩:=q1;subst e1;obtain⟨u1,u2,rfl,rv,rw'⟩:∃u1 u2,us = [u1,u2]/\RelV v u1/\RelV w u2:=by
  cases r1 with
  | cons p q =>
   cases q with
   | cons p' q' =>
    cases q';exact⟨_,_,rfl,p,p'⟩
 refine cD ?_ (by show 2<=sizeLine;decide);have I2:Inv X pins σ H1 { s1 with heap:=s1.heap.push { cls :=.type "tuple",data :=.seq [u1,u2].toArray } }:=I1.kept (t':=s1.toks) λb o e=>aE _ e;rw [hw];refine aA (aF ?_);show wpAny (model X.prog X.w) X.A (do rule "assign.swapped-stores";let items <-unpackItems (.ref s1.heap.objs.size) 2 none;assignInOrder [λv=>bindName X.env y v,λv=>bindName X.env x v] items.reverse;pure Flow.next) _ _ _;refine aA (eB (aA (unpackItems_tuple (items := #[u1,u2]) (I.ok.hd hc) (IsTup.new s1.heap _) λh' hx'=>?_)));have I3:=I2.kept (h':=h') (t':=s1.toks) λb o e=>hx' b o (aY (aK e)) e
 show wpAny _ _ (assignInOrder [λv=>bindName X.env y v,λv=>bindName X.env x v] [u2,u1] >>= λ_=>pure Flow.next) _ _ _;refine aA (dB (wpAny_bindName (qE1 I3 hN hj (.inl hy) rw' (λs2 I4=>?_) (.inr hy))));refine dB (wpAny_bindName (qE1 I4 hN hi (.inl hx) rv (λs3 I5=>assignInOrder_nil (aF ?_)) (.inr hx)));rw [List.set_comm _ _ (dS hij)] at I5;exact⟨_,H1,I5,q1⟩
end
section
variable{X:Cx}{pos:Pos}
def qRn(c:TT)(tb:TS):TS:=λD σ H => ∃W:Nat->St->Hp->Prop,(∃m,W m σ H) /\ ∀m σ H,W m σ H ->
 c σ H λb H1=>if b=true then ∃N:St->Hp->Prop,(∀ σ' H',N σ' H' -> ∃m',m'<m/\W m' σ' H')/\tb { D with nx:=N,ct:=N,bk:=D.nx } σ H1 else D.nx σ H1
theorem qOk{c:Expr}{body:List Stmt}{tc:TT}{tb:TS}(hp:PassesOwn (model X.prog X.w) X.A X.env X.xe)(hc:PT X c tc)(hb:PSs X body tb):PS X (.While c body [] pos) (qRn tc tb):=by
 intro pins s σ H D I h;obtain⟨W,⟨m0,w0⟩,turn⟩:=h;refine wpAny_While (codeAny_whileLoop (λn s' => ∃ σ' H',Inv X pins σ' H' s'/\W n σ' H') ?_ m0 ⟨σ,H,I,w0⟩);rintro n s1 ⟨σ1,H1,I1,w1⟩;refine cS hp (thn (hc pins s1 σ1 H1 _ I1 (turn n σ1 H1 w1)) λb s2 hq_=>?_);obtain⟨H2,I2,q2⟩:=hq_;cases b with
 | true =>
  obtain⟨N,hN,q2⟩:=q2;rw [if_pos rfl];refine cS hp (thn (hb pins s2 σ1 H2 _ I2 q2) λf s3 q3=>?_);cases f with
  | next =>
   obtain⟨σ3,H3,I3,n3⟩:=q3;obtain⟨m',hm,w3⟩:=hN σ3 H3 n3;exact⟨m',hm,σ3,H3,I3,w3⟩
  | cont =>
   obtain⟨σ3,H3,I3,n3⟩:=q3;obtain⟨m',hm,w3⟩:=hN σ3 H3 n3;exact⟨m',hm,σ3,H3,I3,w3⟩
  | brk=>exact q3
  | ret v=>exact q3
 | false =>
  rw [if_neg aH];exact wpAny_execs_nil ⟨σ1,H2,I2,q2⟩
end
structure It where
 go:Nat->Hp->Prop
 yld:Nat->Hp->V->Hp->Prop
 stop:Nat->Hp->Prop
def FpOk(X:Cx)(pins:List (Addr×Obj))(H:Hp)(b:Addr):Prop:=H b=none/\b≠X.env.locals/\b∉X.fs/\(b∈X.ex\/X.s₀.heap.objs.size<=b)/\(∀x c,X.env.cells.lookup x=some c->c≠b) /\ ∀p∈X.pn++pins,p.1≠b
theorem Inv.fpOk{X:Cx}{pins:List (Addr×Obj)}{σ : St}{H H':Hp}{s:Shared}{b:Addr}(I:Inv X pins σ H s)(hb:s.heap.objs.size<=b)(hn:H' b=none):FpOk X pins H' b:=by
 refine⟨hn,eC (aU I.lt hb),I.nofs hb,.inr (bH I.sz hb),λx c e z=>?_,λp hp z=>?_⟩
 ·obtain⟨v,q⟩:=I.cell x c e;exact absurd (aU q.lt (by rw [z];exact hb)) (cW _)
 ·exact absurd (aU (aK (I.pin p hp).1) (by rw [z];exact hb)) (cW _)
structure Turn(P:Program)(w:World)(K:PySem.W.Frag)(tg:Expr)(J:It)(fp:List Addr)(it:Addr)(tn:Nat->Heap->Prop):Prop where
 mem:it∈fp
 obj:∀i h,tn i h -> ∀b∈fp,∃o,h.get? b=some o /\ ∀v,o.data ≠ .cell v
 keep:∀i h h',tn i h->(∀b∈fp,∀o,h.get? b=some o->h'.get? b=some o)->tn i h'
 item:∀(X:Cx),X.prog=P->X.w=w->X.K=K->X.calm=true -> ∀(i:Nat) (pins:List (Addr×Obj)) (s:Shared) (σ : St) (H:Hp) (E:Value->Shared->Prop),Inv X pins σ H s->(∀b∈fp,FpOk X pins H b)->tn i s.heap->J.go i H ->
  wpAny (model P w) X.A (pyNext (.ref it)) (λr s1 => ∃u,r=some u /\
   wpAny (model P w) X.A (letOwnedTupleGo tg (.ref it) u) (λ_ s2 => ∃x H',Inv X pins σ H' s2/\RelV x u/\J.yld i H x H'/\tn (i+1) s2.heap /\ ∀b∈fp,H' b=none) E s1) E s
 done:∀(X:Cx),X.prog=P->X.w=w->X.K=K->X.calm=true -> ∀(i:Nat) (pins:List (Addr×Obj)) (s:Shared) (σ : St) (H:Hp) (E:Value->Shared->Prop),Inv X pins σ H s->(∀b∈fp,FpOk X pins H b)->tn i s.heap->J.stop i H ->
  wpAny (model P w) X.A (pyNext (.ref it)) (λr s1=>r=none/\Inv X pins σ H s1) E s
 self:∀(A:Around) (i:Nat) (s:Shared) (Q:Value->Shared->Prop) (E:Value->Shared->Prop),tn i s.heap->Q (.ref it) s->wpAny (model P w) A (pyIter (.ref it)) Q E s
abbrev TI:=St->Hp->(It->Hp->Prop)->Prop
def PIE(X:Cx)(pins:List (Addr×Obj))(σ : St)(tg:Expr)(R:It->Hp->Prop)(itv:Value)(s2:Shared):Prop :=
 ∃(it:Addr) (fp:List Addr) (tn:Nat->Heap->Prop) (J:It) (H':Hp),itv = .ref it/\Inv X pins σ H' s2/\Turn X.prog X.w X.K tg J fp it tn/\tn 0 s2.heap/\(∀b∈fp,FpOk X pins H' b)/\R J H'
def PI(X:Cx)(tg iter:Expr)(wi:TI):Prop :=
 ∀(pins:List (Addr×Obj)) (s:Shared) (σ : St) (H:Hp) (R:It->Hp->Prop),Inv X pins σ H s->wi σ H R ->
  wpAny (model X.prog X.w) X.A (eval iter X.env) (λv s1=>wpAny (model X.prog X.w) X.A (pyIter v) (PIE X pins σ tg R) X.xe s1) X.xe s
theorem qPe{M:Model}{A:Around}{E:Value->Shared->Prop}{s:Shared}{tg:Expr}{it:Addr}{u:Value}{o:Obj}{n:String}{vs:Array Value}{Q:Unit->Shared->Prop}(ho:s.heap.get? it=some o)(hc:o.cls = .type n)(hd:o.data = .fields vs)
  (hn : ["enumerate","zip","dict_itemiterator","dict_reverseitemiterator","odict_iterator","itertools.zip_longest","itertools.pairwise"].contains n=false) (hQ:Q () s):wpAny M A (letOwnedTupleGo tg (.ref it) u) Q E s:=by
 unfold letOwnedTupleGo;cases tg <;> first
  | exact aF hQ
  | (cases u <;> first
    | exact aF hQ
    | (refine aA (wpAny_load ho ?_)
       rw [hc,hd];show wpAny M A (if (["enumerate","zip","dict_itemiterator","dict_reverseitemiterator","odict_iterator","itertools.zip_longest","itertools.pairwise"].contains n&&vs[0]? == some (rawInt _))=true then _ else _) Q E s;rw [if_neg (by intro h;rw [hn,Bool.false_and] at h;cases h)]
       exact aF hQ))
def Itl(K:PySem.W.Frag)(a:Addr):It:=⟨λi H => ∃xs x,SqL K H a xs/\xs[i]? = some x,λi H x H'=>H'=H /\ ∀xs,SqL K H a xs->xs[i]? = some x,λi H => ∃xs,SqL K H a xs/\xs.length<=i⟩
def Itt(K:PySem.W.Frag)(a:Addr):It:=⟨λi H => ∃xs x,SqT K H a xs/\xs[i]? = some x,λi H x H'=>H'=H /\ ∀xs,SqT K H a xs->xs[i]? = some x,λi H => ∃xs,SqT K H a xs/\xs.length<=i⟩
def Itr(lo:Int)(n:Nat):It:=⟨λi _=>i<n,λi H x H'=>H'=H/\x = .int (lo+i),λi _=>n<=i⟩
theorem qL9{P:Program}{w:World}{K:PySem.W.Frag}{tg:Expr}(a it:Addr):Turn P w K tg (Itl K a) [it] it (λi h=>h.IsListIter it a i) where
 mem:=by simp
 obj:=λi h st b hb=>by
  have e:b=it:=by simpa using hb
  subst e;obtain⟨o,e,c,d⟩:=st;exact⟨o,e,λv z=>by rw [d] at z;cases z⟩
 keep:=λi h h' st k=>st.at λo e=>k it (by simp) o e
 item:=by
  intro X hP hw hK hc i pins s σ H E I hf st hg;subst hP hw hK;obtain⟨xs,x,hq,hx⟩:=hg;obtain⟨its,rv,p,hz⟩:=I.list hq;obtain⟨u,hu,ru⟩:=rv.get hx;obtain⟨f0,f1,f2,f3,f4,f5⟩:=hf it (by simp);refine wpAny_pyNext_list_item st p.isList (x:=u) (by simpa using hu) λh' st' sb=>?_;have I1:Inv X pins σ H { s with heap:=h' }:=I.turned (t':=s.toks) (λb o hb e=>(sb.2 b hb).trans e) f0 f1 f3 f4 f5;obtain⟨o,e,c,d⟩:=id st';exact⟨u,rfl,qPe (s :={ s with heap:=h' }) e c d (by decide) ⟨x,H,I1,ru,⟨rfl,λys hy=>by rw [I.list_inj hy hq];exact hx⟩,st',λb hb=>(hf b hb).1⟩⟩
 done:=by
  intro X hP hw hK hc i pins s σ H E I hf st hg;subst hP hw hK;obtain⟨xs,hq,hx⟩:=hg;obtain⟨its,rv,p,hz⟩:=I.list hq;obtain⟨f0,f1,f2,f3,f4,f5⟩:=hf it (by simp);have hl:=rv.length;exact wpAny_pyNext_list_end (I.ok.hd hc) st p.isList (by simp;lia) λh' eb=>⟨rfl,I.turned (t':=s.toks) (λb o hb e=>eb b o hb e) f0 f1 f3 f4 f5⟩
 self:=λ_ _ _ _ _ st h=>wpAny_pyIter_listiter st h
theorem qK7{P:Program}{w:World}{K:PySem.W.Frag}{tg:Expr}(a it:Addr):Turn P w K tg (Itt K a) [it] it (λi h=>h.IsTupleIter it a i) where
 mem:=by simp
 obj:=λi h st b hb=>by
  have e:b=it:=by simpa using hb
  subst e;obtain⟨o,e,c,d⟩:=st;exact⟨o,e,λv z=>by rw [d] at z;cases z⟩
 keep:=λi h h' st k=>st.at λo e=>k it (by simp) o e
 item:=by
  intro X hP hw hK hc i pins s σ H E I hf st hg;subst hP hw hK;obtain⟨xs,x,hq,hx⟩:=hg;obtain⟨its,rv,p,hz⟩:=I.tuple hq;obtain⟨u,hu,ru⟩:=rv.get hx;obtain⟨f0,f1,f2,f3,f4,f5⟩:=hf it (by simp);refine wpAny_pyNext_tuple_item st (show s.heap.IsTuple a its.toArray from p) (x:=u) (by simpa using hu) λh' st' sb=>?_;have I1:Inv X pins σ H { s with heap:=h' }:=I.turned (t':=s.toks) (λb o hb e=>(sb.2 b hb).trans e) f0 f1 f3 f4 f5;obtain⟨o,e,c,d⟩:=id st';exact⟨u,rfl,qPe (s :={ s with heap:=h' }) e c d (by decide) ⟨x,H,I1,ru,⟨rfl,λys hy=>by rw [I.tuple_inj hy hq];exact hx⟩,st',λb hb=>(hf b hb).1⟩⟩
 done:=by
  intro X hP hw hK hc i pins s σ H E I hf st hg;subst hP hw hK;obtain⟨xs,hq,hx⟩:=hg;obtain⟨its,rv,p,hz⟩:=I.tuple hq;obtain⟨f0,f1,f2,f3,f4,f5⟩:=hf it (by simp);have hl:=rv.length;exact wpAny_pyNext_tuple_end (I.ok.hd hc) st (show s.heap.IsTuple a its.toArray from p) (by simp;lia) λh' eb=>⟨rfl,I.turned (t':=s.toks) (λb o hb e=>eb b o hb e) f0 f1 f3 f4 f5⟩
 self:=λ_ _ _ _ _ st h=>wpAny_pyIter_tupleiter st h
theorem qK8{P:Program}{w:World}{K:PySem.W.Frag}{tg:Expr}(it:Addr)(lo:Int)(n:Nat):Turn P w K tg (Itr lo n) [it] it (λi h=>IsRangeIter h it (lo+(i:Nat)*1) ((n:Int) - (i:Nat)) 1) where
 mem:=by simp
 obj:=λi h st b hb=>by
  have e:b=it:=by simpa using hb
  subst e
  exact⟨_,st,λv z=>by
   have z':Data.fields _=Data.cell v:=z
   cases z'⟩
 keep:=λi h h' st k=>k it (by simp) _ st
 item:=by
  intro X hP hw hK hc i pins s σ H E I hf st hg;subst hP hw hK;obtain⟨f0,f1,f2,f3,f4,f5⟩:=hf it (by simp);have W:=Walks.range (prog:=X.prog) (w:=X.w) (I.ok.hd hc) it lo 1 n;refine W.item i s _ _ hg st λv h' tk hv st' kk=>?_;obtain⟨t,rfl⟩:=hv;have I1:Inv X pins σ H { s with heap:=h',toks:=tk }:=I.turned (λb o hb e=>kk b o (by simpa using hb) e) f0 f1 f3 f4 f5;refine⟨_,rfl,qPe (s :={ s with heap:=h',toks:=tk }) (n := "range_iterator") st' rfl rfl (by decide) ⟨.int (lo+i),H,I1,⟨t,?_⟩,⟨rfl,rfl⟩,st',λb hb=>(hf b hb).1⟩⟩;rw [Int.mul_one]
 done:=by
  intro X hP hw hK hc i pins s σ H E I hf st hg;subst hP hw hK;obtain⟨f0,f1,f2,f3,f4,f5⟩:=hf it (by simp);exact wpAny_pyNext_range_end (I.ok.hd hc) st (by have:n<=i:=hg;lia) λh' eb=>⟨rfl,I.turned (t':=s.toks) (λb o hb e=>eb b o hb e) f0 f1 f3 f4 f5⟩
 self:=λ_ _ _ _ _ st h=>wpAny_pyIter_rangeiter st h
section
variable{X:Cx}{tg:Expr}
def iList(K:PySem.W.Frag)(tl:TE):TI:=λσ H R=>tl σ H λx H1 => ∃a,x = .ref a/\(∃xs,SqL K H1 a xs)/\R (Itl K a) H1
def iTup(K:PySem.W.Frag)(tl:TE):TI:=λσ H R=>tl σ H λx H1 => ∃a,x = .ref a/\(∃xs,SqT K H1 a xs)/\R (Itt K a) H1
theorem qBk{l:Expr}{tl:TE}(hl:PE X l tl):PI X tg l (iList X.K tl):=by
 intro pins s σ H R I h;refine thn (hl pins s σ H _ I h) λv s1 hq_=>?_;obtain⟨x,H1,I1,r1,q1⟩:=hq_;obtain⟨a,e,⟨xs,hq⟩,q⟩:=q1;subst e;cases r1;obtain⟨its,rv,p,hz⟩:=I1.list hq;refine dO p.isList ?_;refine⟨s1.heap.objs.size,[s1.heap.objs.size],_,_,H1,rfl,I1.kept (t':=s1.toks) λb o e=>aE _ e,qL9 a _,⟨_,aR _ rfl,rfl,rfl⟩,λb hb=>?_,q⟩;have e:b=s1.heap.objs.size:=by simpa using hb
 subst e;exact I1.fpOk (aC _) (I1.hok.fresh (aC _))
theorem qM5{l:Expr}{tl:TE}(hl:PE X l tl):PI X tg l (iTup X.K tl):=by
 intro pins s σ H R I h;refine thn (hl pins s σ H _ I h) λv s1 hq_=>?_;obtain⟨x,H1,I1,r1,q1⟩:=hq_;obtain⟨a,e,⟨xs,hq⟩,q⟩:=q1;subst e;cases r1;obtain⟨its,rv,p,hz⟩:=I1.tuple hq;refine wpAny_pyIter_tuple (show s1.heap.IsTuple a its.toArray from p) ?_;refine⟨s1.heap.objs.size,[s1.heap.objs.size],_,_,H1,rfl,I1.kept (t':=s1.toks) λb o e=>aE _ e,qK7 a _,⟨_,aR _ rfl,rfl,rfl⟩,λb hb=>?_,q⟩;have e:b=s1.heap.objs.size:=by simpa using hb
 subst e;exact I1.fpOk (aC _) (I1.hok.fresh (aC _))
theorem qO2{pins:List (Addr×Obj)}{σ : St}{H:Hp}{s:Shared}{R:It->Hp->Prop}{E:Value->Shared->Prop}{lo hi:Int}{t u v:Tok}{tk:Nat}(I:Inv X pins σ H s)(h1 : -(2^62)<=lo)(h2:lo<2^62)(h3 : -(2^62)<=hi)(h4:hi<2^62)
  (q:R (Itr lo (hi - lo).toNat) H):wpAny (model X.prog X.w) X.A (pyIter (.ref s.heap.objs.size)) (PIE X pins σ tg R) E { s with heap:=s.heap.push { cls :=.type "range",data :=.fields #[.int lo t,.int hi u,.int 1 v] },toks:=tk }:=by
 refine wpAny_pyIter_range (IsRange.new ..) (small_one h1 h2 h3 h4) ?_;have I1:Inv X pins σ H { s with heap:=s.heap.push { cls :=.type "range",data :=.fields #[.int lo t,.int hi u,.int 1 v] },toks:=tk }:=I.kept λb o e=>aE _ e
 refine⟨(s.heap.push { cls :=.type "range",data :=.fields #[.int lo t,.int hi u,.int 1 v] }).objs.size,[(s.heap.push { cls :=.type "range",data :=.fields #[.int lo t,.int hi u,.int 1 v] }).objs.size],_,_,H,rfl,
  I1.kept (t':=tk) λb o e=>aE _ e,qK8 _ lo (hi - lo).toNat,?_,λb hb=>?_,q⟩
 ·have e1:lo+((0:Nat):Int)*1=lo:=by simp
  have e2:(((hi - lo).toNat:Nat):Int) - ((0:Nat):Int)=Builtin.Range.rangeSize lo hi 1:=by rw [rangeSize_one];split <;> lia
  show IsRangeIter _ _ (lo+((0:Nat):Int)*1) ((((hi - lo).toNat:Nat):Int) - ((0:Nat):Int)) 1;rw [e1,e2];exact aR _ rfl
 ·have e:b=(s.heap.push { cls :=.type "range",data :=.fields #[.int lo t,.int hi u,.int 1 v] }).objs.size:=by simpa using hb
  subst e;exact I1.fpOk (aC _) (I1.hok.fresh (aC _))
def iRng1(ta:TA):TI:=λσ H R=>ta σ H λvs H1 => ∃j:Int,vs = [.int j] /\ -(2^62)<=j/\j<2^62/\R (Itr 0 j.toNat) H1
theorem qBs{a:Expr}{ta:TA}{p pos:Pos}(hg:Gl X "range")(hm:X.mg "range" = none)(ha:PA X [a] ta)(hs:starEach [a] X.env = [(false,eval a X.env)]:=by rfl):PI X tg (.Call (.Name "range" p) [a] [] pos) (iRng1 ta):=by
 intro pins s σ H R I h;refine Call_ (qFr I hg hm boot_range (cI (thn (ha pos pins s σ H _ I h) λus s1 hq_=>?_) hs rfl));obtain⟨vs,H1,I1,r1,q1⟩:=hq_;obtain⟨j,e,q1,q2,q⟩:=q1;subst e;cases r1 with
 | cons r rr =>
  cases rr;obtain⟨t,rfl⟩:=r;exact call_range_1 (qO2 I1 (by lia) (by lia) q1 q2 (by simpa using q))
def tFor(wi:TI)(g:TG)(tb:TS):TS:=λD σ H=>wi σ H λJ H1 => ∃W:Nat->Nat->St->Hp->Prop,(∃m,W 0 m σ H1) /\ ∀i m σ H,W i m σ H ->
 (J.stop i H/\D.nx σ H)\/(J.go i H /\ ∃N:St->Hp->Prop,(∀ σ' H',N σ' H' -> ∃m',m'<m/\W (i+1) m' σ' H') /\ ∀x H',J.yld i H x H'->g x σ H' λσ2 H2=>tb { D with nx:=N,ct:=N,bk:=D.nx } σ2 H2)
def qH9(fp:List Addr)(h:Heap):List (Addr×Obj):=fp.filterMap λb=>(h.get? b).map λo=>(b,o)
theorem qCz{fp:List Addr}{h:Heap}{b:Addr}{o:Obj}(hb:b∈fp)(e:h.get? b=some o):(b,o)∈qH9 fp h:=List.mem_filterMap.mpr ⟨b,hb,by rw [e];rfl⟩
theorem qMk{fp:List Addr}{h:Heap}{p:Addr×Obj}(hp:p∈qH9 fp h):p.1∈fp/\h.get? p.1=some p.2:=by
 obtain⟨b,hb,e⟩:=List.mem_filterMap.mp hp;cases q:h.get? b with
 | none=>rw [q] at e;cases e
 | some o =>
  rw [q] at e;have e':(b,o)=p:=bF e;subst e';exact⟨hb,q⟩
theorem Inv.pinned{pins:List (Addr×Obj)}{σ : St}{H:Hp}{s:Shared}{fp:List Addr}(I:Inv X pins σ H s)(hf:∀b∈fp,FpOk X pins H b)(ho:∀b∈fp,∃o,s.heap.get? b=some o /\ ∀v,o.data ≠ .cell v):Inv X (pins++qH9 fp s.heap) σ H s :=
 I.pins_of λp hp=>(aP.mp hp).elim (λz=>I.pin p (aZ _ z)) λz=>by
  obtain⟨hb,e⟩:=qMk z;obtain⟨f0,f1,f2,_⟩:=hf p.1 hb;obtain⟨o,e',d⟩:=ho p.1 hb;rw [e] at e';cases e';exact⟨e,f0,f1,f2,d⟩
theorem Inv.unpinned{pins pl:List (Addr×Obj)}{σ : St}{H:Hp}{s:Shared}(I:Inv X (pins++pl) σ H s):Inv X pins σ H s:=I.pins_of λp hp=>I.pin p (aZ _ (bR _ hp))
theorem qBx{iter:Expr}{body:List Stmt}{wi:TI}{g:TG}{tb:TS}{pos:Pos}(hp:PassesOwn (model X.prog X.w) X.A X.env X.xe)(hc:X.calm=true)(hi:PI X tg iter wi)(hg:PG X tg g)(hb:PSs X body tb)(hs:∀x,foldedSetIterable iter X.env x=pure x:=by intro _;rfl):PS X (.For tg iter body [] pos) (tFor wi g tb):=by
 intro pins s σ H D I h;refine wpAny_For (thn (hi pins s σ H _ I h) λv s1 h1=>thn h1 λitv s2 h2=>?_) hs;obtain⟨it,fp,tn,J,H2,e,I2,T,st2,f2,W,⟨m0,w0⟩,turn⟩:=h2;subst e;have stat:∀ {H':Hp},(∀b∈fp,H' b=none) -> ∀b∈fp,FpOk X pins H' b:=λhn b hb=>⟨hn b hb,(f2 b hb).2⟩;refine codeAny_forLoop_any (λn s' => ∃i σ' H',Inv X pins σ' H' s'/\tn i s'.heap/\(∀b∈fp,H' b=none)/\W i n σ' H') ?_ m0 ⟨0,σ,H2,I2,st2,λb hb=>(f2 b hb).1,w0⟩;rintro n s3 ⟨i,σ3,H3,I3,st3,fr3,w3⟩;rcases turn i n σ3 H3 w3 with ⟨stop,qn⟩ | ⟨go,N,hN,step⟩
 ·refine cS hp (thn (T.done X rfl rfl rfl hc i pins s3 σ3 H3 X.xe I3 (stat fr3) st3 stop) λr s4 hq_=>?_);obtain⟨hr,I4⟩:=hq_;subst hr;exact wpAny_execs_nil ⟨σ3,H3,I4,qn⟩
 ·refine cS hp (thn (T.item X rfl rfl rfl hc i pins s3 σ3 H3 X.xe I3 (stat fr3) st3 go) λr s4 hq_=>?_);obtain⟨u,hr,h4⟩:=hq_;subst hr;refine cS hp (thn h4 λ_ s5 hq_=>?_);obtain⟨x,H5,I5,r5,y5,st5,fr5⟩:=hq_;have I5':=I5.pinned (stat fr5) (T.obj _ _ st5);refine cS hp (thn (hg _ s5 σ3 H5 x u _ I5' r5 (step x H5 y5)) λ_ s6 hq_=>?_);obtain⟨σ6,H6,I6,q6⟩:=hq_;refine cS hp (thn (hb _ s6 σ6 H6 _ I6 q6) λf s7 q7=>?_);have again:∀ {σ7:St} {H7:Hp},Inv X (pins++qH9 fp s5.heap) σ7 H7 s7->N σ7 H7 -> ∃m,m<n /\ ∃i σ' H',Inv X pins σ' H' s7/\tn i s7.heap/\(∀b∈fp,H' b=none)/\W i m σ' H':=λ{σ7 H7} I7 n7=>by
   obtain⟨m',hm,w7⟩:=hN σ7 H7 n7;refine⟨m',hm,i+1,σ7,H7,I7.unpinned,T.keep _ _ _ st5 λb hb o e=>(I7.pin (b,o) (aZ _ (aZ _ (qCz hb e)))).1,λb hb=>?_,w7⟩;obtain⟨o,e,d⟩:=T.obj _ _ st5 b hb;exact (I7.pin (b,o) (aZ _ (aZ _ (qCz hb e)))).2.1
  cases f with
  | next=>obtain⟨σ7,H7,I7,n7⟩:=q7;exact again I7 n7
  | cont=>obtain⟨σ7,H7,I7,n7⟩:=q7;exact again I7 n7
  | brk=>obtain⟨σ7,H7,I7,q7⟩:=q7;exact⟨σ7,H7,I7.unpinned,q7⟩
  | ret v=>obtain⟨x7,σ7,H7,I7,r7,q7⟩:=q7;exact⟨x7,σ7,H7,I7.unpinned,r7,q7⟩
end
theorem qGn{K:PySem.W.Frag}{a:Addr}{xs:List V}{g:TG}{tb:TS}{D:Ends}{σ : St}{H:Hp}(Pv:Nat->St->Hp->Prop)(h0:Pv 0 σ H)(hl:∀i σ H,i<=xs.length->Pv i σ H->SqL K H a xs)(hs:∀i x σ H,xs[i]? = some x->Pv i σ H->g x σ H λσ2 H2=>tb { D with nx:=Pv (i+1),ct:=Pv (i+1),bk:=D.nx } σ2 H2)(hd:∀ σ H,Pv xs.length σ H->D.nx σ H):∃W:Nat->Nat->St->Hp->Prop,(∃m,W 0 m σ H) /\ ∀i m σ H,W i m σ H ->
   ((Itl K a).stop i H/\D.nx σ H)\/((Itl K a).go i H /\ ∃N:St->Hp->Prop,(∀ σ' H',N σ' H' -> ∃m',m'<m/\W (i+1) m' σ' H') /\ ∀x H',(Itl K a).yld i H x H'->g x σ H' λσ2 H2=>tb { D with nx:=N,ct:=N,bk:=D.nx } σ2 H2):=by
 refine⟨λi m σ H=>m=xs.length - i/\i<=xs.length/\Pv i σ H,⟨xs.length,by simp,aW _,h0⟩,?_⟩;rintro i m σ H ⟨rfl,hi,p⟩;have q:=hl i σ H hi p;by_cases hlt:i<xs.length
 ·refine .inr ⟨⟨xs,xs[i],q,by simp [hlt]⟩,Pv (i+1),λσ' H' p'=>⟨xs.length - (i+1),by lia,rfl,hlt,p'⟩,λx H' y=>?_⟩;obtain⟨e,y⟩:=y;subst e;exact hs i x σ _ (y xs q) p
 ·have e:i=xs.length:=by lia
  subst e;exact .inl ⟨⟨xs,q,aC _⟩,hd σ H p⟩
theorem qHo{lo:Int}{n:Nat}{g:TG}{tb:TS}{D:Ends}{σ : St}{H:Hp}(Pv:Nat->St->Hp->Prop)(h0:Pv 0 σ H)(hs:∀i σ H,i<n->Pv i σ H->g (.int (lo+i)) σ H λσ2 H2=>tb { D with nx:=Pv (i+1),ct:=Pv (i+1),bk:=D.nx } σ2 H2)(hd:∀ σ H,Pv n σ H->D.nx σ H):∃W:Nat->Nat->St->Hp->Prop,(∃m,W 0 m σ H) /\ ∀i m σ H,W i m σ H ->
   ((Itr lo n).stop i H/\D.nx σ H)\/((Itr lo n).go i H /\ ∃N:St->Hp->Prop,(∀ σ' H',N σ' H' -> ∃m',m'<m/\W (i+1) m' σ' H') /\ ∀x H',(Itr lo n).yld i H x H'->g x σ H' λσ2 H2=>tb { D with nx:=N,ct:=N,bk:=D.nx } σ2 H2):=by
 refine⟨λi m σ H=>m=n - i/\i<=n/\Pv i σ H,⟨n,by simp,aW _,h0⟩,?_⟩;rintro i m σ H ⟨rfl,hi,p⟩;by_cases hlt:i<n
 ·refine .inr ⟨hlt,Pv (i+1),λσ' H' p'=>⟨n - (i+1),by lia,rfl,hlt,p'⟩,λx H' y=>?_⟩;obtain⟨e,y⟩:=y;subst e y;exact hs i σ _ hlt p
 ·have e:i=n:=by lia
  subst e;exact .inl ⟨aC _,hd σ H p⟩
abbrev R2:=V->V->Hp->VK->Prop
def OpR(X:Cx)(f:Value->Value->Sem Value)(r:R2):Prop :=
 ∀(pins:List (Addr×Obj)) (s:Shared) (σ : St) (H:Hp) (x y:V) (v u:Value) (Q:VK),Inv X pins σ H s->RelV x v->RelV y u->r x y H Q ->
  wpAny (model X.prog X.w) X.A (f v u) (EP X pins σ Q) X.xe s
def UnR(X:Cx)(f:Value->Sem Value)(r:V->Hp->VK->Prop):Prop :=
 ∀(pins:List (Addr×Obj)) (s:Shared) (σ : St) (H:Hp) (x:V) (v:Value) (Q:VK),Inv X pins σ H s->RelV x v->r x H Q ->
  wpAny (model X.prog X.w) X.A (f v) (EP X pins σ Q) X.xe s
def CallR(X:Cx)(f:Value)(r:List V->Hp->VK->Prop):Prop :=
 ∀(pins:List (Addr×Obj)) (s:Shared) (σ : St) (H:Hp) (xs:List V) (us:List Value) (Q:VK),Inv X pins σ H s->Vals xs us->r xs H Q ->
  wpAny (model X.prog X.w) X.A (call f us) (EP X pins σ Q) X.xe s
def TruR(X:Cx)(r:V->Hp->(Bool->Hp->Prop)->Prop):Prop :=
 ∀(pins:List (Addr×Obj)) (s:Shared) (σ : St) (H:Hp) (x:V) (v:Value) (Q:Bool->Hp->Prop),Inv X pins σ H s->RelV x v->r x H Q ->
  wpAny (model X.prog X.w) X.A (truthy v) (TP X pins σ Q) X.xe s
def tOp(r:R2)(ta tb:TE):TE:=λσ H Q=>ta σ H λx H1=>tb σ H1 λy H2=>r x y H2 Q
def tUn(r:V->Hp->VK->Prop)(ta:TE):TE:=λσ H Q=>ta σ H λx H1=>r x H1 Q
def rI(C:Int->Int->Prop)(g:Int->Int->V):R2:=λx y H Q => ∃i j,x = .int i/\y = .int j/\C i j/\Q (g i j) H
def rI0(g:Int->Int->V):R2:=λx y H Q => ∃i j,x = .int i/\y = .int j/\Q (g i j) H
def rU(g:Int->V):V->Hp->VK->Prop:=λx H Q => ∃i,x = .int i/\Q (g i) H
section
variable{X:Cx}{a b c:Expr}{ta tb tc:TE}{pos:Pos}
theorem binT(ha:PE X a ta)(hb:PE X b tb){pins:List (Addr×Obj)}{s:Shared}{σ : St}{H:Hp}{R:V->V->Hp->Prop}(I:Inv X pins σ H s)(h:ta σ H λx H1=>tb σ H1 λy H2=>R x y H2){Q:Value->Shared->Prop}{f:Value->Value->Sem Value}(hf:∀v u s2 x y H2,Inv X pins σ H2 s2->RelV x v->RelV y u->R x y H2->wpAny (model X.prog X.w) X.A (f v u) Q X.xe s2):wpAny (model X.prog X.w) X.A (eval a X.env) (λv s₁ =>wpAny (model X.prog X.w) X.A (eval b X.env) (λu s₂ =>wpAny (model X.prog X.w) X.A (f v u) Q X.xe s₂) X.xe s₁) X.xe s:=by
 refine thn (ha pins s σ H _ I h) λv s1 hq_=>?_;obtain⟨x,H1,I1,r1,q1⟩:=hq_;refine thn (hb pins s1 σ H1 _ I1 q1) λu s2 hq_=>?_;obtain⟨y,H2,I2,r2,q2⟩:=hq_;exact hf v u s2 x y H2 I2 r1 r2 q2
theorem qAp{op:Operator}{r:R2}(ho:OpR X (binaryOp op) r)(ha:PE X a ta)(hb:PE X b tb):PE X (.BinOp a op b pos) (tOp r ta tb):=by
 intro pins s σ H Q I h;exact wpAny_BinOp (binT ha hb I h λv u s2 x y H2 I2 rx ry q=>ho pins s2 σ H2 x y v u Q I2 rx ry q)
theorem qQu{op:UnaryOp}{r:V->Hp->VK->Prop}(ho:UnR X (unaryOp op) r)(ha:PE X a ta):PE X (.UnaryOp op a pos) (tUn r ta):=by
 intro pins s σ H Q I h;refine UnaryOp_ (thn (ha pins s σ H _ I h) λv s1 hq_=>?_);obtain⟨x,H1,I1,r1,q1⟩:=hq_;exact ho pins s1 σ H1 x v Q I1 r1 q1
theorem opI{f:Value->Value->Sem Value}{C:Int->Int->Prop}{g:Int->Int->Int}(rule:∀(i j:Int) (t u:Tok) (s:Shared) (Q:Value->Shared->Prop) (E:Value->Shared->Prop),C i j->Q (.int (g i j) s.toks) { s with toks:=s.toks+1 }->wpAny (model X.prog X.w) X.A (f (.int i t) (.int j u)) Q E s):OpR X f (rI C λi j =>.int (g i j)):=by
 intro pins s σ H x y v u Q I rx ry h;obtain⟨i,j,rfl,rfl,hc,q⟩:=h;obtain⟨t,rfl⟩:=rx;obtain⟨t',rfl⟩:=ry;exact rule i j t t' s _ _ hc ⟨.int (g i j),H,I.tok _,⟨_,rfl⟩,q⟩
theorem opI0{f:Value->Value->Sem Value}{g:Int->Int->Int}(rule:∀(i j:Int) (t u:Tok) (s:Shared) (Q:Value->Shared->Prop) (E:Value->Shared->Prop),Q (.int (g i j) s.toks) { s with toks:=s.toks+1 }->wpAny (model X.prog X.w) X.A (f (.int i t) (.int j u)) Q E s):OpR X f (rI0 λi j =>.int (g i j)):=by
 intro pins s σ H x y v u Q I rx ry h;obtain⟨i,j,rfl,rfl,q⟩:=h;obtain⟨t,rfl⟩:=rx;obtain⟨t',rfl⟩:=ry;exact rule i j t t' s _ _ ⟨.int (g i j),H,I.tok _,⟨_,rfl⟩,q⟩
theorem opB0{f:Value->Value->Sem Value}{g:Int->Int->Bool}(rule:∀(i j:Int) (t u:Tok) (s:Shared) (Q:Value->Shared->Prop) (E:Value->Shared->Prop),Q (.bool (g i j)) s->wpAny (model X.prog X.w) X.A (f (.int i t) (.int j u)) Q E s):OpR X f (rI0 λi j =>.bl (g i j)):=by
 intro pins s σ H x y v u Q I rx ry h;obtain⟨i,j,rfl,rfl,q⟩:=h;obtain⟨t,rfl⟩:=rx;obtain⟨t',rfl⟩:=ry;exact rule i j t t' s _ _ ⟨.bl (g i j),H,I,rfl,q⟩
def CDiv(i j:Int):Prop:=0<j/\j<1073741824
def CPow(i j:Int):Prop:=0<=j/\j<=1000000/\i.natAbs<2^64
def CMul(i j:Int):Prop:=(-(2^64)<i/\i<2^64)\/(-(2^64)<j/\j<2^64)
theorem CMul.ok{i j:Int}(h:CMul i j):IntMulOk i j:=by
 rcases h with ⟨h1,h2⟩ | ⟨h1,h2⟩
 ·exact .of_left (intBits_le_64 h1 h2)
 ·exact .of_right (intBits_le_64 h1 h2)
theorem qB7:OpR X (binaryOp .Add) (rI0 λi j =>.int (i+j)):=opI0 λ_ _ _ _ _ _ _ q=>add_int q
theorem qMa:OpR X (binaryOp .Sub) (rI0 λi j =>.int (i - j)):=opI0 λ_ _ _ _ _ _ _ q=>sub_int q
theorem qHf:OpR X (binaryOp .Mult) (rI CMul λi j =>.int (i*j)):=opI λ_ _ _ _ _ _ _ hc q=>mul_int q hc.ok
theorem qMe:OpR X (binaryOp .FloorDiv) (rI CDiv λi j =>.int (i / j)):=opI λi j _ _ _ _ _ hc q=>by
 have h1:(0:Int)<j:=hc.1;have h2:j<1073741824:=hc.2;exact floordiv_int (by lia) (by rw [Int.fdiv_eq_ediv_of_nonneg i (by lia)];exact q) (.inl (PyProof.noPylong_small (by lia)))
theorem qDh:OpR X (binaryOp .Mod) (rI (λ_ j=>0<j) λi j =>.int (i%j)):=opI λi j _ _ _ _ _ hc q=>by
 have h1:(0:Int)<j:=hc;exact mod_int' (by lia) (by rw [Int.fmod_eq_emod_of_nonneg i (by lia)];exact q)
theorem qHd:OpR X (binaryOp .Pow) (rI CPow λi j =>.int (i^j.toNat)):=opI λ_ _ _ _ _ _ _ hc q=>pow_int_small hc.1 hc.2.1 hc.2.2 q
theorem unI{f:Value->Sem Value}{g:Int->Int}(rule:∀(i:Int) (t:Tok) (s:Shared) (Q:Value->Shared->Prop) (E:Value->Shared->Prop),Q (.int (g i) s.toks) { s with toks:=s.toks+1 }->wpAny (model X.prog X.w) X.A (f (.int i t)) Q E s):UnR X f (rU λi =>.int (g i)):=by
 intro pins s σ H x v Q I rx h;obtain⟨i,rfl,q⟩:=h;obtain⟨t,rfl⟩:=rx;exact rule i t s _ _ ⟨.int (g i),H,I.tok _,⟨_,rfl⟩,q⟩
theorem qL7:UnR X (unaryOp .USub) (rU λi =>.int (-i)):=unI λ_ _ _ _ _ q=>neg_int q
end
def scal:V->V->Bool
 | .non,.non=>true | .non,.int _=>true | .int _,.non=>true | .non,.bl _=>true | .bl _,.non=>true | .non,.str _=>true | .str _,.non=>true
 | .int _,.int _=>true | .bl _,.bl _=>true | .str _,.str _=>true | .byt _,.byt _=>true
 | .int _,.str _=>true | .str _,.int _=>true | .bl _,.str _=>true | .str _,.bl _=>true
 | _,_=>false
def rEq:R2:=λx y H Q=>scal x y=true/\Q (.bl (decide (x=y))) H
def rNe:R2:=λx y H Q=>scal x y=true/\Q (.bl (!decide (x=y))) H
theorem qNb{i j:Int}:decide (V.int i=V.int j)=(i == j):=by
 rw [cA];simp
theorem qQ9{i j:Bool}:decide (V.bl i=V.bl j)=(i == j):=by
 rw [cA];simp
theorem qNa{i j:Str}:decide (V.str i=V.str j)=(i == j):=by
 rw [cA];simp
theorem qNc{i j:Array UInt8}:decide (V.byt i=V.byt j)=(i.toList == j.toList):=by
 rw [cA];cases i;cases j;simp
section
variable{X:Cx}{a b c:Expr}{ta tb tc:TE}{pos:Pos}
theorem qAv{pins:List (Addr×Obj)}{σ : St}{H:Hp}{s:Shared}{Q:VK}{k k':Bool}(I:Inv X pins σ H s)(q:Q (.bl k) H)(e:k=k'):EP X pins σ Q (.bool k') s:=by
 subst e;exact⟨.bl k,H,I,rfl,q⟩
theorem qBt:OpR X (compareOp .Eq) rEq:=by
 intro pins s σ H x y v u Q I rx ry h;obtain⟨hs,q⟩:=h;cases x with
 | non =>
  cases rx;cases y with
  | non=>cases ry;exact PySem.EqNone.eq_none_none (qAv I q (by simp))
  | bl j=>cases ry;exact PySem.EqNone.eq_none_bool (qAv I q (by simp))
  | int j=>obtain⟨t',rfl⟩:=ry;exact PySem.EqNone.eq_none_int (qAv I q (by simp))
  | str j=>obtain⟨t',rfl⟩:=ry;exact PySem.EqNone.eq_none_str (qAv I q (by simp))
  | _=>exact absurd (show false=true from hs) aH
 | bl i =>
  cases rx;cases y with
  | non=>cases ry;exact PySem.EqNone.eq_bool_none (qAv I q (by simp))
  | bl j=>cases ry;exact eq_bool (qAv I q qQ9)
  | str j=>obtain⟨t',rfl⟩:=ry;exact PySem.EqMixed.eq_bool_str (qAv I q (by simp))
  | _=>exact absurd (show false=true from hs) aH
 | int i =>
  obtain⟨t,rfl⟩:=rx;cases y with
  | non=>cases ry;exact PySem.EqNone.eq_int_none (qAv I q (by simp))
  | int j=>obtain⟨t',rfl⟩:=ry;exact eq_int (qAv I q qNb)
  | str j=>obtain⟨t',rfl⟩:=ry;exact PySem.EqMixed.eq_int_str (qAv I q (by simp))
  | _=>exact absurd (show false=true from hs) aH
 | str i =>
  obtain⟨t,rfl⟩:=rx;cases y with
  | non=>cases ry;exact PySem.EqNone.eq_str_none (qAv I q (by simp))
  | bl j=>cases ry;exact PySem.EqMixed.eq_str_bool (qAv I q (by simp))
  | int j=>obtain⟨t',rfl⟩:=ry;exact PySem.EqMixed.eq_str_int (qAv I q (by simp))
  | str j=>obtain⟨t',rfl⟩:=ry;exact eq_str (qAv I q qNa)
  | _=>exact absurd (show false=true from hs) aH
 | byt i =>
  obtain⟨t,rfl⟩:=rx;cases y with
  | byt j=>obtain⟨t',rfl⟩:=ry;exact PySem.W.eq_bytes (qAv I q qNc)
  | _=>exact absurd (show false=true from hs) aH
 | _=>cases y <;> exact absurd (show false=true from hs) aH
theorem qF0:OpR X (compareOp .NotEq) rNe:=by
 intro pins s σ H x y v u Q I rx ry h;obtain⟨hs,q⟩:=h;cases x with
 | non =>
  cases rx;cases y with
  | non=>cases ry;exact PySem.EqNone.ne_none_none (qAv I q (by simp))
  | bl j=>cases ry;exact PySem.EqNone.ne_none_bool (qAv I q (by simp))
  | int j=>obtain⟨t',rfl⟩:=ry;exact PySem.EqNone.ne_none_int (qAv I q (by simp))
  | str j=>obtain⟨t',rfl⟩:=ry;exact PySem.EqNone.ne_none_str (qAv I q (by simp))
  | _=>exact absurd (show false=true from hs) aH
 | bl i =>
  cases rx;cases y with
  | non=>cases ry;exact PySem.EqNone.ne_bool_none (qAv I q (by simp))
  | bl j=>cases ry;exact ne_bool (qAv I q (congrArg not qQ9))
  | str j=>obtain⟨t',rfl⟩:=ry;exact PySem.EqMixed.ne_bool_str (qAv I q (by simp))
  | _=>exact absurd (show false=true from hs) aH
 | int i =>
  obtain⟨t,rfl⟩:=rx;cases y with
  | non=>cases ry;exact PySem.EqNone.ne_int_none (qAv I q (by simp))
  | int j=>obtain⟨t',rfl⟩:=ry;exact ne_int (qAv I q (congrArg not qNb))
  | str j=>obtain⟨t',rfl⟩:=ry;exact PySem.EqMixed.ne_int_str (qAv I q (by simp))
  | _=>exact absurd (show false=true from hs) aH
 | str i =>
  obtain⟨t,rfl⟩:=rx;cases y with
  | non=>cases ry;exact PySem.EqNone.ne_str_none (qAv I q (by simp))
  | bl j=>cases ry;exact PySem.EqMixed.ne_str_bool (qAv I q (by simp))
  | int j=>obtain⟨t',rfl⟩:=ry;exact PySem.EqMixed.ne_str_int (qAv I q (by simp))
  | str j=>obtain⟨t',rfl⟩:=ry;exact ne_str (qAv I q (congrArg not qNa))
  | _=>exact absurd (show false=true from hs) aH
 | byt i =>
  obtain⟨t,rfl⟩:=rx;cases y with
  | byt j=>obtain⟨t',rfl⟩:=ry;exact PySem.W.ne_bytes (qAv I q (congrArg not qNc))
  | _=>exact absurd (show false=true from hs) aH
 | _=>cases y <;> exact absurd (show false=true from hs) aH
theorem qKj:OpR X (compareOp .Lt) (rI0 λi j =>.bl (decide (i<j))):=opB0 λ_ _ _ _ _ _ _ q=>lt_int q
theorem qQx:OpR X (compareOp .LtE) (rI0 λi j =>.bl (decide (i<=j))):=opB0 λ_ _ _ _ _ _ _ q=>le_int q
theorem qOq:OpR X (compareOp .Gt) (rI0 λi j =>.bl (decide (j<i))):=opB0 λ_ _ _ _ _ _ _ q=>gt_int q
theorem qSd:OpR X (compareOp .GtE) (rI0 λi j =>.bl (decide (j<=i))):=opB0 λ_ _ _ _ _ _ _ q=>ge_int q
theorem qMc:OpR X (compareOp .In) (λx y H Q => ∃i j,x = .str i/\y = .str j/\Q (.bl (!(Builtin.Str.occurrences j i 0 j.length 1).isEmpty)) H):=by
 intro pins s σ H x y v u Q I rx ry h;obtain⟨i,j,rfl,rfl,q⟩:=h;obtain⟨t,rfl⟩:=rx;obtain⟨t',rfl⟩:=ry;exact in_str (qAv I q rfl)
theorem qMb:OpR X (compareOp .Is) (λx y H Q=>y = .non/\Q (.bl (decide (x = .non))) H):=by
 intro pins s σ H x y v u Q I rx ry h;obtain⟨rfl,q⟩:=h;cases ry;refine is_none_gen (qAv I q ?_);cases x <;> first
  | (cases rx;rfl)
  | (obtain⟨t,rfl⟩:=rx;rfl)
theorem qAi(b:Expr){op:CmpOp}(h:op ≠ .In:=by decide)(h2:op ≠ .NotIn:=by decide):behindInMarks op b=false:=by
 have e1:(op == CmpOp.In)=false:=by cases op <;> first | rfl | exact absurd rfl h
 have e2:(op == CmpOp.NotIn)=false:=by cases op <;> first | rfl | exact absurd rfl h2
 cases b <;> simp [behindInMarks,e1,e2]
theorem qC4{op:CmpOp}{r:R2}(ho:OpR X (compareOp op) r)(ha:PE X a ta)(hb:PE X b tb)(hm:behindInMarks op b=false):PE X (.Compare a [op] [b] pos) (tOp r ta tb):=by
 intro pins s σ H Q I h;exact wpAny_Compare1 (binT ha hb I h λv u s2 x y H2 I2 rx ry q=>ho pins s2 σ H2 x y v u Q I2 rx ry q) hm
def tTest(t:TE):TT:=λσ H Q=>t σ H λx H' => ∃k,x = .bl k/\Q k H'
theorem qAa{op:CmpOp}{r:R2}(ho:OpR X (compareOp op) r)(ha:PE X a ta)(hb:PE X b tb)(hm:behindInMarks op b=false):PT X (.Compare a [op] [b] pos) (tTest (tOp r ta tb)):=by
 intro pins s σ H Q I h;refine wpAny_isTrue_Compare1 (thn (ha pins s σ H _ I h) λv s1 hq_=>?_) hm;obtain⟨x,H1,I1,r1,q1⟩:=hq_;refine thn (hb pins s1 σ H1 _ I1 q1) λu s2 hq_=>?_;obtain⟨y,H2,I2,r2,q2⟩:=hq_;refine thn (ho pins s2 σ H2 x y v u _ I2 r1 r2 q2) λc s3 hq_=>?_;obtain⟨z,H3,I3,r3,k,e,q3⟩:=hq_;subst e;cases r3;exact bQ ⟨H3,I3,q3⟩
def qLf(r r':R2)(ta tb tc:TE):TE:=λσ H Q=>ta σ H λx H1=>tb σ H1 λy H2=>r x y H2 λz H3 => ∃k,z = .bl k /\
 (if k=true then tc σ H3 λw' H4=>r' y w' H4 Q else Q (.bl false) H3)
theorem qOn{op op':CmpOp}{r r':R2}(ho:OpR X (compareOp op) r)(ho':OpR X (compareOp op') r')(ha:PE X a ta)(hb:PE X b tb)(hc:PE X c tc)(hm:lastMarks [op,op'] [b,c]=false:=by with_unfolding_all rfl):PE X (.Compare a [op,op'] [b,c] pos) (qLf r r' ta tb tc):=by
 intro pins s σ H Q I h;refine Compare_chain (thn (ha pins s σ H _ I h) λv s1 hq_=>?_) hm;obtain⟨x,H1,I1,r1,q1⟩:=hq_;refine chain_link (thn (hb pins s1 σ H1 _ I1 q1) λu s2 hq_=>?_);obtain⟨y,H2,I2,r2,q2⟩:=hq_;refine thn (ho pins s2 σ H2 x y v u _ I2 r1 r2 q2) λd s3 hq_=>?_;obtain⟨z,H3,I3,r3,k,e,q3⟩:=hq_;subst e;cases r3;refine bQ ?_;cases k with
 | false=>exact ite_ff ⟨.bl false,H3,I3,rfl,q3⟩
 | true=>exact ite_tt (chain_last (thn (hc pins s3 σ H3 _ I3 q3) λw' s4 ⟨z',H4,I4,r4,q4⟩=>ho' pins s4 σ H4 y z' u w' Q I4 r2 r4 q4))
theorem qOj{op op':CmpOp}{r r':R2}(ho:OpR X (compareOp op) r)(ho':OpR X (compareOp op') r')(ha:PE X a ta)(hb:PE X b tb)(hc:PE X c tc)(hm:lastMarks [op,op'] [b,c]=false:=by with_unfolding_all rfl):PT X (.Compare a [op,op'] [b,c] pos) (tTest (qLf r r' ta tb tc)):=by
 intro pins s σ H Q I h;refine isTrue_chain (thn (ha pins s σ H _ I h) λv s1 hq_=>?_) hm;obtain⟨x,H1,I1,r1,q1⟩:=hq_;refine test_link (thn (hb pins s1 σ H1 _ I1 q1) λu s2 hq_=>?_);obtain⟨y,H2,I2,r2,q2⟩:=hq_;refine thn (ho pins s2 σ H2 x y v u _ I2 r1 r2 q2) λd s3 hq_=>?_;obtain⟨z,H3,I3,r3,k,e,q3⟩:=hq_;subst e;cases r3;refine bQ ?_;cases k with
 | false =>
  obtain⟨k',e',q'⟩:=q3;cases e';exact ite_ff ⟨H3,I3,q'⟩
 | true =>
  refine ite_tt (test_last (thn (hc pins s3 σ H3 _ I3 q3) λw' s4 hq_=>?_));obtain⟨z',H4,I4,r4,q4⟩:=hq_;refine thn (ho' pins s4 σ H4 y z' u w' _ I4 r2 r4 q4) λd' s5 hq_=>?_;obtain⟨z2,H5,I5,r5,k2,e2,q5⟩:=hq_;subst e2;cases r5;exact bQ ⟨H5,I5,q5⟩
def TruV(K:PySem.W.Frag)(x:V)(H:Hp)(k:Bool):Prop :=
 match x with
 | .non=>k=false
 | .bl b=>k=b
 | .int i=>k=(i != 0)
 | .str y=>y.length<=sizeLine/\k=((y.length:Int) != 0)
 | .byt y=>y.size<=sizeLine/\k=((y.size:Int) != 0)
 | .ref p=>(∃xs,SqL K H p xs/\k = !xs.isEmpty)\/(∃xs,SqT K H p xs/\k = !xs.isEmpty) \/ ∃kvs,H p=some (.dK kvs)/\k = !kvs.isEmpty
 | _=>False
theorem qKu{κ : Type}{kvs:List (κ × V)}{vs:List (κ × Value)}(r:KV kvs vs):(!vs.isEmpty) = !kvs.isEmpty:=by
 cases r <;> rfl
theorem qFt{xs:List V}{its:List Value}(r:Vals xs its):(!its.toArray.isEmpty) = !xs.isEmpty:=by
 cases r <;> simp
theorem qEl:(sizeLine:Nat)<2^63:=by rw [bS];decide
theorem qRl:TruR X (λx H Q => ∃k,TruV X.K x H k/\Q k H):=by
 intro pins s σ H x v Q I rx h;obtain⟨k,e,q⟩:=h;have hl:=qEl;have hs:sizeLine=16777216:=bS;cases x with
 | non =>
  cases rx;have e':k=false:=e;subst e';exact truthy_none ⟨H,I,q⟩
 | bl b =>
  cases rx;have e':k=b:=e;subst e';exact bQ ⟨H,I,q⟩
 | int i =>
  obtain⟨t,rfl⟩:=rx;have e':k=(i != 0):=e;subst e';exact PySem.P.truthy_int ⟨H,I,q⟩
 | str y =>
  obtain⟨t,rfl⟩:=rx;obtain⟨hy,e'⟩:y.length<=sizeLine/\k=((y.length:Int) != 0):=e;subst e';exact PySem.P.truthy_str (by lia) ⟨H,I.tok _,q⟩
 | byt y =>
  obtain⟨t,rfl⟩:=rx;obtain⟨hy,e'⟩:y.size<=sizeLine/\k=((y.size:Int) != 0):=e;subst e';exact PySem.W.truthy_bytes (by lia) ⟨H,I.tok _,q⟩
 | ref p =>
  cases rx;have e':(∃xs,SqL X.K H p xs/\k = !xs.isEmpty)\/(∃xs,SqT X.K H p xs/\k = !xs.isEmpty) \/ ∃kvs,H p=some (.dK kvs)/\k = !kvs.isEmpty:=e;rcases e' with ⟨xs,hx,e'⟩ | ⟨xs,hx,e'⟩ | ⟨kvs,hx,e'⟩
  ·subst e';obtain⟨its,r,pl,hz⟩:=I.list hx;have hlen:=r.length;exact wpAny_truthy_list pl.isList (by simp only [aG];lia) ⟨H,I.tok _,by rw [qFt r];exact q⟩
  ·subst e';obtain⟨its,r,pl,hz⟩:=I.tuple hx;have hlen:=r.length;exact truthy_tuple pl (by simp only [aG];lia) ⟨H,I.tok _,by rw [qFt r];exact q⟩
  ·subst e';obtain⟨hz,hS,vs,r,m⟩:kvs.length<=sizeLine/\(p == sysModules)=false /\ ∃vs,KV kvs vs/\s.heap.DictOf (qBe X.prog X.w) p vs:=I.hok p _ hx;have hlen:kvs.length=vs.length:=cV r;exact wpAny_truthy_dict hS m (by lia) ⟨H,I.tok _,by rw [qKu r];exact q⟩
 | _=>exact (show False from e).elim
theorem qJk(ha:PE X a ta)(he:∀whole,isTrue a X.env whole=(do let v <-whole;standAt a.pos;holding [v] (truthy v))):PT X a (λσ H Q=>ta σ H λx H' => ∃k,TruV X.K x H' k/\Q k H'):=by
 intro pins s σ H Q I h;refine isTrue_plain (thn (ha pins s σ H _ I h) λv s1 hq_=>?_) (he _);obtain⟨x,H1,I1,r1,q1⟩:=hq_;exact qRl pins s1 σ H1 x v Q I1 r1 q1
theorem vals1{x:V}{us:List Value}(r:Vals [x] us):∃u,us = [u]/\RelV x u:=by
 cases r with
 | cons r1 r2=>cases r2;exact⟨_,rfl,r1⟩
theorem vals2{x y:V}{us:List Value}(r:Vals [x,y] us):∃u w',us = [u,w']/\RelV x u/\RelV y w':=by
 cases r with
 | cons r1 r2 =>
  cases r2 with
  | cons r3 r4=>cases r4;exact⟨_,_,rfl,r1,r3⟩
theorem qK3:CallR X (.builtin "abs") (λxs H Q => ∃i,xs = [.int i]/\Q (.int (if i<0 then -i else i)) H):=by
 intro pins s σ H xs us Q I r h;obtain⟨i,rfl,q⟩:=h;obtain⟨u,rfl,t,rfl⟩:=vals1 r;exact call_abs_int λu tk=>⟨.int (if i<0 then -i else i),H,I.tok _,⟨_,rfl⟩,q⟩
theorem qHv(hc:X.calm=true):CallR X (.builtin "max") (λxs H Q => ∃i j,xs = [.int i,.int j]/\Q (.int (if j>i then j else i)) H):=by
 intro pins s σ H xs us Q I r h;obtain⟨i,j,rfl,q⟩:=h;obtain⟨u,w',rfl,⟨t,rfl⟩,⟨t',rfl⟩⟩:=vals2 r;refine max_two_ints (I.ok.hd hc) λh' tk k=>⟨_,H,I.kept k,?_,q⟩;by_cases hj:j>i
 ·rw [if_pos hj,if_pos hj];exact⟨_,rfl⟩
 ·rw [if_neg hj,if_neg hj];exact⟨_,rfl⟩
theorem qNk(hc:X.calm=true):CallR X (.builtin "min") (λxs H Q => ∃i j,xs = [.int i,.int j]/\Q (.int (if j<i then j else i)) H):=by
 intro pins s σ H xs us Q I r h;obtain⟨i,j,rfl,q⟩:=h;obtain⟨u,w',rfl,⟨t,rfl⟩,⟨t',rfl⟩⟩:=vals2 r;refine min_two_ints (I.ok.hd hc) λh' tk k=>⟨_,H,I.kept k,?_,q⟩;by_cases hj:j<i
 ·rw [if_pos hj,if_pos hj];exact⟨_,rfl⟩
 ·rw [if_neg hj,if_neg hj];exact⟨_,rfl⟩
theorem qCt:CallR X (.type "int") (λxs H Q=>(∃i,xs = [.int i]/\Q (.int i) H) \/ ∃k,xs = [.bl k]/\Q (.int (if k then 1 else 0)) H):=by
 intro pins s σ H xs us Q I r h;rcases h with ⟨i,rfl,q⟩ | ⟨k,rfl,q⟩
 ·obtain⟨u,rfl,t,rfl⟩:=vals1 r;exact call_int_int ⟨.int i,H,I,⟨_,rfl⟩,q⟩
 ·obtain⟨u,rfl,r1⟩:=vals1 r;cases r1;exact call_int_bool ⟨.int (if k then 1 else 0),H,I.tok _,⟨_,rfl⟩,q⟩
theorem qHu:CallR X (.type "str") (λxs H Q => ∃i,xs = [.int i]/\i.natAbs.log2<1920/\Q (.str (toString i)) H):=by
 intro pins s σ H xs us Q I r h;obtain⟨i,rfl,hz,q⟩:=h;obtain⟨u,rfl,t,rfl⟩:=vals1 r;exact PySem.P.str_of_int hz ⟨.str _,H,I.tok _,⟨_,rfl⟩,q⟩
end
structure ObjM(h:Heap)(x dx C:Addr)(mA:Str->Option Value):Prop where
 obj:h.get? x=some (PySem.W.instObj C dx)
 ns:h.Ns1 dx mA
 ne:dx≠x
theorem qMr{h:Heap}{dx:Addr}{mA:Str->Option Value}(n:h.Ns1 dx mA):∃od,h.get? dx=some od /\ ∀name,PySem.W.lookIn name od=some (mA name):=by
 obtain⟨o,es,ep,ho,hd,hk,_,hm⟩:=n;refine⟨o,ho,λname=>?_⟩;have e:=hm name;unfold nsFind findBy at e;rw [<-Array.find?_toList] at e;unfold PySem.W.lookIn;rw [hd];dsimp only;split
 ·rename_i y q;rw [q] at e;exact congrArg some e
 ·rename_i q;rw [q] at e;have a:es.toList.any (·.refKey)=false:=by
   rw [List.any_eq_false];intro y hy;obtain⟨z,t,hkey⟩:=hk y (Array.mem_toList_iff.mp hy);simp [DictEntry.refKey,hkey]
  have a' : ¬es.toList.any (·.refKey)=true:=by rw [a];exact aH
  rw [if_neg a'];exact congrArg some e
theorem ObjM.look{h:Heap}{x dx C:Addr}{mA:Str->Option Value}(I:ObjM h x dx C mA):∃od,PySem.W.InstAt h x (PySem.W.instObj C dx) C (some od) /\ ∀name,PySem.W.lookIn name od=some (mA name) :=
 let ⟨od,ho,hl⟩:=qMr I.ns
 ⟨od,⟨I.obj,rfl,rfl,ho⟩,hl⟩
section
variable{P:Program}{w:World}{H H':Hp}{h h':Heap}{a C dx:Addr}{fs fs':List (Str×V)}
theorem qRc(hok:HOk P w H h)(e:H a=some (.ins C dx fs)):∃mA,ObjM h a dx C mA/\(∀f,RelO (fs.lookup f) (mA f))/\PySem.Within mA (fs.map (·.1))/\fs.length<=1000/\H dx=some (.own a):=by
 obtain⟨d,z,ne,ob,mA,n,r,q⟩:=(show ObjOk P w H h a (.ins C dx fs) from hok a _ e);exact⟨mA,⟨ob,n,ne⟩,r,q,z,d⟩
end
structure Cls(K:PySem.W.Frag)(C:Addr):Prop where
 pg:PySem.W.plainGet K C Str.empty=true
 hd:PySem.W.hasDictIn K C=true
 po:PySem.W.plainOver K C=true
 sa:PySem.W.findIn K (.ref C) "__setattr__" = some (some (.builtin "object.__setattr__"))
theorem Cls.get{K:PySem.W.Frag}{C:Addr}(c:Cls K C)(f:Str):PySem.W.plainGet K C f=true:=c.pg
section
variable{X:Cx}{pins:List (Addr×Obj)}{σ : St}{H:Hp}{s:Shared}{A:Around}{E:Value->Shared->Prop}{Q:Value->Shared->Prop}{c:Value}{b:Bool}
inductive TyOf(K:PySem.W.Frag)(H:Hp):V->Value->Prop where
 | non:TyOf K H .non (.type "NoneType")
 | bl (x:Bool):TyOf K H (.bl x) (.type "bool")
 | int (i:Int):TyOf K H (.int i) (.type "int")
 | str (x:Str):TyOf K H (.str x) (.type "str")
 | flt (x:UInt64):TyOf K H (.flt x) (.type "float")
 | lst {a:Addr} {xs:List V} (e:H a=some (.lst xs)):TyOf K H (.ref a) (.type "list")
 | frz {a:Addr} {o:Obj} {xs:List V} (e:H a=some (.frz o (.lst xs))):TyOf K H (.ref a) (.type "list")
 | tup {a:Addr} {xs:List V} (e:H a=some (.tup xs)):TyOf K H (.ref a) (.type "tuple")
 | dK {a:Addr} {kvs:List (Key×V)} (e:H a=some (.dK kvs)):TyOf K H (.ref a) (.type "dict")
 | dT {a:Addr} {kvs:List (List Key×V)} (e:H a=some (.dT kvs)):TyOf K H (.ref a) (.type "dict")
 | ins {a C dx:Addr} {fs:List (Str×V)} (e:H a=some (.ins C dx fs)) (cl:Cls K C) (ha:PySem.W.findIn K (.ref C) "__class__" = some (some (.builtin "object.__class__")))
   (hn:PySem.W.specialIn K (.builtin "object.__class__") "__get__" = some (some (.builtin "getset_descriptor.__get__"))) (htk:PySem.W.takesIn K (.builtin "object.__class__")=some true)
   (hm:PySem.W.mroIn K C (.type "object")=some true):TyOf K H (.ref a) (.ref C)
theorem qN1{x:V}{u t:Value}(I:Inv X pins σ H s)(rx:RelV x u)(ty:TyOf X.K H x t)(e:PySem.W.kitOne X.K t c=some b)(h:∀tk,Q (.bool b) { s with toks:=tk }):wpAny (model X.prog X.w) A (call (.builtin "isinstance") [u,c]) Q E s:=by
 cases ty with
 | non=>cases (show u=Value.none from rx);exact bP PySem.W.kitx_none I.kIn True.intro e (λz=>nomatch z) h
 | bl y=>cases (show u=Value.bool y from rx);exact bP PySem.W.kitx_bool I.kIn True.intro e (λz=>nomatch z) h
 | int i=>obtain⟨t,q⟩:=(show ∃t,u=Value.int i t from rx);cases q;exact bP PySem.W.kitx_int I.kIn True.intro e (λz=>nomatch z) h
 | str y=>obtain⟨t,q⟩:=(show ∃t,u=Value.str y t from rx);cases q;exact bP PySem.W.kitx_str I.kIn True.intro e (λz=>nomatch z) h
 | flt y=>obtain⟨t,q⟩:=(show ∃t,u=Value.float y t from rx);cases q;exact bP PySem.W.kitx_float I.kIn True.intro e (λz=>nomatch z) h
 | @lst a xs ea =>
  cases (show u=Value.ref a from rx);obtain⟨_,_,n,_,h1⟩:=(show ObjOk X.prog X.w H s.heap a (.lst xs) from I.hok a _ ea);exact bP PySem.W.kitx_list I.kIn ⟨_,h1,rfl⟩ e (λz=>nomatch z) h
 | @frz a ob xs ea =>
  cases (show u=Value.ref a from rx);obtain⟨_,_,_,n,_,h1⟩:=(show ObjOk X.prog X.w H s.heap a (.frz ob (.lst xs)) from I.hok a _ ea);exact bP PySem.W.kitx_list I.kIn ⟨_,h1,rfl⟩ e (λz=>nomatch z) h
 | @tup a xs ea =>
  cases (show u=Value.ref a from rx);obtain⟨_,_,_,p⟩:=(show ObjOk X.prog X.w H s.heap a (.tup xs) from I.hok a _ ea);obtain⟨o,h1,h2,_⟩:=p;exact bP PySem.W.kitx_tuple I.kIn ⟨o,h1,h2⟩ e (λz=>nomatch z) h
 | @dK a kvs ea =>
  cases (show u=Value.ref a from rx);obtain⟨_,_,vs,_,p⟩:=(show ObjOk X.prog X.w H s.heap a (.dK kvs) from I.hok a _ ea);obtain⟨o,es,ep,h1,h2,_⟩:=p;exact bP PySem.W.kitx_dict I.kIn ⟨o,h1,h2.1⟩ e (λz=>nomatch z) h
 | @dT a kvs ea =>
  cases (show u=Value.ref a from rx);obtain⟨_,_,xs,_,o,es,ep,h1,h2,_⟩:=(show ObjOk X.prog X.w H s.heap a (.dT kvs) from I.hok a _ ea);exact bP PySem.W.kitx_dict I.kIn ⟨o,h1,h2.1⟩ e (λz=>nomatch z) h
 | @ins a C dx fs ea cl ha hn htk hm =>
  cases (show u=Value.ref a from rx);obtain⟨mA,O,_⟩:=qRc I.hok ea;obtain⟨od,J,_⟩:=O.look;exact bP (PySem.W.kitx_own (cl.get _) cl.hd ha hn htk hm) I.kIn J e (λz=>nomatch z) h
end
structure Room(k:Nat)(A:Around):Prop where
 hd:A.handled=none
 dp:A.depth+3*k+5<recursionLimit
 un:A.units+16*k+200<cLine
 gd:A.guards=some []:=by rfl
theorem Room.mono{j k:Nat}{A:Around}(r:Room k A)(h:j<=k):Room j A:=⟨r.hd,by have:=r.dp;lia,by have:=r.un;lia,r.gd⟩
theorem Room.deeper{k:Nat}{A:Around}(r:Room (k+1) A)(env:Env):Room k (A.deeper env):=⟨r.hd,by have:=r.dp;show A.depth+1+3*k+5<_;lia,by have:=r.un;show A.units+3+16*k+200<_;lia,r.gd⟩
theorem Room.depth{k:Nat}{A:Around}(r:Room k A):A.depth<recursionLimit:=by have:=r.dp;lia
theorem Room.units{k:Nat}{A:Around}(r:Room k A):A.units+64<cLine:=by have:=r.un;lia
def tNil:TA:=λ_ H Q=>Q [] H
def tCons(ta:TE)(tr:TA):TA:=λσ H Q=>ta σ H λx H1=>tr σ H1 λxs H2=>Q (x::xs) H2
section
variable{X:Cx}{e:Expr}{es:List Expr}{te:TE}{t:TA}{pos:Pos}
theorem qA3:PA X [] tNil:=λ_ _ _ _ H Q I h=>Calls.spliced_nil ⟨[],H,I,.nil,h⟩
theorem qA0(ha:PE X e te)(hr:PA X es t)(hs:starEach (e::es) X.env=(false,eval e X.env)::starEach es X.env:=by rfl):PA X (e::es) (tCons te t):=by
 intro pos pins s σ H Q I h;rw [hs];show wpAny _ _ (spliced ((false,eval e X.env)::backTo pos (starEach es X.env))) _ _ s;refine Calls.spliced_cons (thn (ha pins s σ H _ I h) λu s1 hq_=>?_);obtain⟨x,H1,I1,r1,q1⟩:=hq_;refine thn (hr pos pins s1 σ H1 _ I1 q1) λus s2 hq_=>?_;obtain⟨xs,H2,I2,r2,q2⟩:=hq_;exact⟨x::xs,H2,I2,.cons r1 r2,q2⟩
def tTup(t:TA):TE:=λσ H Q=>t σ H λxs H1=>xs.length<=sizeLine /\ ∀p,H1 p=none->Q (.ref p) (upd H1 p (.tup xs))
def tLst(t:TA):TE:=λσ H Q=>t σ H λxs H1=>xs.length<=sizeLine /\ ∀p,H1 p=none->Q (.ref p) (upd H1 p (.lst xs))
theorem qBy{x1}(h:PA X es t):PE X (.Tuple es x1 pos) (tTup t):=by
 intro pins s σ H Q I hq;refine wpAny_Tuple_spliced (thn (h pos pins s σ H _ I hq) λus s1 hq_=>?_);obtain⟨xs,H1,I1,r,z,q⟩:=hq_;refine⟨by rw [<-r.length];exact z,?_⟩;have hf:H1 s1.heap.objs.size=none:=I1.hok.fresh (aC _);refine⟨.ref s1.heap.objs.size,upd H1 s1.heap.objs.size (.tup xs),I1.laid (t':=s1.toks) (λb u e=>aE _ e) (aC _) ?_,rfl,q _ hf⟩;exact⟨z,us,r,⟨_,aR _ rfl,rfl,_,rfl⟩⟩
theorem qAq(h:PA X es t):PE X (.List es pos) (tLst t):=by
 intro pins s σ H Q I hq;refine wpAny_List_spliced (thn (h pos pins s σ H _ I hq) λus s1 hq_=>?_);obtain⟨xs,H1,I1,r,z,q⟩:=hq_;refine⟨by rw [<-r.length];exact z,?_⟩;have hf:H1 s1.heap.objs.size=none:=I1.hok.fresh (aC _);refine⟨.ref s1.heap.objs.size,upd H1 s1.heap.objs.size (.lst xs),I1.laid (t':=s1.toks) (λb u e=>aE _ e) (aC _) ?_,rfl,q _ hf⟩;exact⟨z,us,0,r,aR _ rfl⟩
end
abbrev Sp:=List V->Hp->VK->XK->Prop
abbrev CXT:=List Env->Hp->Shared->XK->Value->Shared->Prop
structure Env0(P:Program)(w:World)(K:PySem.W.Frag)(mg:Str->Option Value)(base:Heap)(A:Around)(outer:List Env)(s:Shared)(H:Hp):Prop where
 frames:A.frames=some outer
 mod:Mod K mg base
 bs:∀b o,base.get? b=some o->s.heap.get? b=some o/\H b=none
 bsz:base.objs.size<=s.heap.objs.size
 funs:s.heap.FunFrames base outer
 frf:∀b∈frs outer,H b=none
 hok:HOk P w H s.heap
 bare:AllBare s.gens
def CE(outer:List Env)(P:Program)(w:World)(H:Hp)(s:Shared)(Q:VK)(u:Value)(s':Shared):Prop :=
 ∃v H',s'.os=s.os/\AllBare s'.gens/\Un (frs outer) [] H H' s.heap s'.heap/\HOk P w H' s'.heap/\RelV v u/\Q v H'
def CR(CX:CXT)(outer:List Env)(P:Program)(w:World)(H:Hp)(s:Shared)(Q:VK)(E:XK)(r:Result)(s':Shared):Prop :=
 match r with
 | .ok (.ret u)=>CE outer P w H s Q u s'
 | .ok _=>False
 | .error e=>CX outer H s E e s'
structure FnOk(P:Program)(w:World)(K:PySem.W.Frag)(mg:Str->Option Value)(base:Heap)(CX:CXT)(k:Nat)(f:Addr)(fd:FuncData)(ps:List Str)(sp:Sp):Prop where
 len:∀vs H Q E,sp vs H Q E->vs.length=ps.length
 run:∀(A:Around) (outer:List Env) (s:Shared) (H:Hp) (args:Args) (us:List Value) (vs:List V) (Q:VK) (E:XK),Room k A->Env0 P w K mg base A outer s H->BindsTo s fd args (ps.zip us)->Vals vs us->sp vs H Q E ->
  codeAny (model P w) A (.call (.ref f) args) (CR CX outer P w H s Q E) s
section
variable{X:Cx}{pins:List (Addr×Obj)}{σ : St}{H:Hp}{s s':Shared}
theorem Inv.env0(I:Inv X pins σ H s):Env0 X.prog X.w X.K X.mg X.base X.A X.stack s H:=⟨I.ok.frames,I.ok.mod,I.bs,bH I.ok.bsz I.sz,I.stack,I.stkFree,I.hok,I.bare⟩
theorem Inv.after{Q:VK}{u:Value}(I:Inv X pins σ H s)(h:CE X.stack X.prog X.w H s Q u s'):EP X pins σ Q u s':=by
 obtain⟨v,H',os,bare,un,hok,r,q⟩:=h;obtain⟨hh,g,d,t,os'⟩:=s';obtain rfl:os'=s.os:=os;exact⟨v,H',I.call (h':=hh) (g':=g) (d':=d) (t':=t) (ch :=[]) un hok bare (λb z=>absurd z (by simp)),r,q⟩
end
def tCall(sp:Sp)(dvs:List V)(E:XK)(t:TA):TE:=λσ H Q=>t σ H λvs H1=>sp (vs++dvs) H1 Q E
def Binds(K:PySem.W.Frag)(fd:FuncData)(ps:List Str)(ds:List Value):Prop :=
 ∀(s:Shared) (us:List Value),K.In s.heap->(us++ds).length=ps.length->BindsTo s fd ⟨us,[]⟩ (ps.zip (us++ds))
theorem Binds.all{K:PySem.W.Frag}{fd:FuncData}{ps:List Str}(h:∀us:List Value,us.length=ps.length->bindArgs fd ⟨us,[]⟩=pure (ps.zip us)):Binds K fd ps []:=λs us _ hl=>by
 rw [List.append_nil] at hl ⊢;exact .of_eq (h us hl)
def qNp(CX:CXT)(X:Cx)(E:XK):Prop := ∀(pins:List (Addr×Obj)) (σ : St) (H:Hp) (s:Shared) (e:Value) (s':Shared),Inv X pins σ H s->CX X.stack H s E e s'->X.xe e s'
section
variable{X:Cx}{CX:CXT}{k:Nat}{f C:Addr}{fd:FuncData}{ps:List Str}{sp:Sp}{dvs:List V}{ds:List Value}{E:XK}{x m:Str}{p pos apos:Pos}{e o:Expr}{es:List Expr}{ta:TE}{t:TA}
theorem qRv{pins:List (Addr×Obj)}{σ : St}{H:Hp}{s:Shared}{Q:VK}{us:List Value}{vs:List V}(F:FnOk X.prog X.w X.K X.mg X.base CX k f fd ps sp)(hr:Room k X.A)(hb:Binds X.K fd ps ds)(hd:Vals dvs ds)(hx:qNp CX X E)(I:Inv X pins σ H s)(r:Vals vs us)(h:sp (vs++dvs) H Q E):wpAny (model X.prog X.w) X.A (call (.ref f) us) (EP X pins σ Q) X.xe s:=by
 have r2:Vals (vs++dvs) (us++ds):=r.append hd;have hl:(us++ds).length=ps.length:=by rw [<-r2.length];exact F.len _ _ _ _ h
 refine wpAny_call (codeAny_mono (F.run X.A X.stack s H ⟨us,[]⟩ (us++ds) (vs++dvs) Q E hr I.env0 (hb s us I.kIn hl) r2 h) λr s' hq=>?_);cases r with
 | error e=>exact hx pins σ H s e s' I hq
 | ok fl =>
  cases fl with
  | ret u=>exact I.after hq
  | next=>exact False.elim hq
  | brk=>exact False.elim hq
  | cont=>exact False.elim hq
theorem qQv(F:FnOk X.prog X.w X.K X.mg X.base CX k f fd ps sp)(hr:Room k X.A)(hg:Gl X x)(hm:X.mg x=some (.ref f))(hk:PySem.W.keepIn X.K (.ref f)=true)(hb:Binds X.K fd ps ds)(hd:Vals dvs ds)(hx:qNp CX X E)
  (ha:PA X (e::es) t) (hdb:(x == ("__debug__" : Str))=false:=by decide) (he:starEach (e::es) X.env=(false,eval e X.env)::starEach es X.env:=by rfl) (hpl:(backTo pos (starEach es X.env)).any (·.1)=false:=by rfl) :
  PE X (.Call (.Name x p) (e::es) [] pos) (tCall sp dvs E t):=by
 intro pins s σ H Q I h;refine wpAny_Call_Name_kw (qMv I hg hm ?_ hdb);refine PySem.W.callWith_K (h₀ :=X.base) I.ok.mod.kin hk (thn (ha pos pins s σ H _ I h) λus s1 hq_=>?_) he hpl;obtain⟨vs,H1,I1,r,q⟩:=hq_;refine⟨I1.kIn,?_⟩;exact qRv F hr hb hd hx I1 r q
end
section
variable{X:Cx}{CX:CXT}{k:Nat}{f C:Addr}{fd:FuncData}{ps ks:List Str}{sp:Sp}{E:XK}{x m:Str}{p pos apos kpos:Pos}{e o:Expr}{es:List Expr}{kws:List Keyword}{te ta:TE}{t tk:TA}{nm:Option Str}
variable{g:List Value->List Value->List Value}{gV:List V->List V->List V}
end
structure FnScope(N P:List Str)(sc:Scope):Prop where
 kind:sc.kind = .function
 co:sc.isCoroutine=false
 gen:sc.isGenerator=false
 nd:N.Nodup
 pre:N.take P.length=P
 par:∀x∈P,sc.names.lookup x=some .local\/sc.names.lookup x=some .cell
 nofree:∀y∈sc.names,y.2 ≠ .free
theorem qHx{kindOf:Str->Option NameKind}{x:Str}:∀ {binds:List (Str×Value)} {m:Str->Option Value},(∀v,(x,v)∉binds)->bindL kindOf binds m x=m x
 | [],_,_=>rfl
 | (n,v)::r,m,h=>by
  unfold bindL;rw [qHx λw hw=>h w (aV _ hw)];split
  ·have:x≠n:=by rintro rfl;exact h v bT
   simp [this]
  ·rfl
theorem qHz{kindOf:Str->Option NameKind}{x:Str}:∀ {binds:List (Str×Value)} {m:Str->Option Value},(∀v,(x,v)∉binds)->bindC kindOf binds m x=m x
 | [],_,_=>rfl
 | (n,v)::r,m,h=>by
  unfold bindC;rw [qHz λw hw=>h w (aV _ hw)];split
  ·rfl
  ·have:x≠n:=by rintro rfl;exact h v bT
   simp [this]
theorem qHy{kindOf:Str->Option NameKind}{x:Str}{v:Value}:∀ {P:List Str} {vs:List Value} {i:Nat} {m:Str->Option Value},P.Nodup->P[i]? = some x->vs[i]? = some v->kindOf x=some .local ->
  bindL kindOf (P.zip vs) m x=some v
 | [],_,_,_,_,h,_,_=>by simp at h
 | _::_,[],_,_,_,_,h,_=>by simp at h
 | p::P,w::vs,0,m,nd,h1,h2,hk=>by
  simp at h1 h2;subst h1;subst h2;show bindL kindOf ((p,w)::P.zip vs) m p=_;unfold bindL;rw [qHx λv hv=>(List.nodup_cons.mp nd).1 (List.of_mem_zip hv).1,if_pos hk];simp
 | p::P,w::vs,i+1,m,nd,h1,h2,hk=>by
  show bindL kindOf ((p,w)::P.zip vs) m x=_;unfold bindL;exact qHy (i:=i) (List.nodup_cons.mp nd).2 (by simpa using h1) (by simpa using h2) hk
theorem qI0{kindOf:Str->Option NameKind}{x:Str}{v:Value}:∀ {P:List Str} {vs:List Value} {i:Nat} {m:Str->Option Value},P.Nodup->P[i]? = some x->vs[i]? = some v->kindOf x≠some .local ->
  bindC kindOf (P.zip vs) m x=some v
 | [],_,_,_,_,h,_,_=>by simp at h
 | _::_,[],_,_,_,_,h,_=>by simp at h
 | p::P,w::vs,0,m,nd,h1,h2,hk=>by
  simp at h1 h2;subst h1;subst h2;show bindC kindOf ((p,w)::P.zip vs) m p=_;unfold bindC;rw [qHz λv hv=>(List.nodup_cons.mp nd).1 (List.of_mem_zip hv).1,if_neg hk];simp
 | p::P,w::vs,i+1,m,nd,h1,h2,hk=>by
  show bindC kindOf ((p,w)::P.zip vs) m x=_;unfold bindC;exact qI0 (i:=i) (List.nodup_cons.mp nd).2 (by simpa using h1) (by simpa using h2) hk
def start(N:List Str)(vs:List V):St:=vs.map some++List.replicate (N.length - vs.length) none
def cxOf(CX:CXT)(P:Program)(w:World)(K:PySem.W.Frag)(mg:Str->Option Value)(base:Heap)(N:List Str)(qual:Str)(scope:Scope)(f:Addr)(cd:Value)(A:Around)(outer:List Env)(s:Shared)(H:Hp)(E:XK):Cx where
 prog:=P
 w:=w
 K:=K
 mg:=mg
 base:=base
 A:=A.deeper (envOfC qual scope s.heap.objs.size f cd)
 N:=N
 s₀ :=s
 H₀ :=H
 env:=envOfC qual scope s.heap.objs.size f cd
 outer:=outer
 stack:=envOfC qual scope s.heap.objs.size f cd::outer
 ex :=[]
 calm:=true
 fn:=λ_=>true
 pn :=[]
 xe:=λe s'=>wpAny (model P w) (A.deeper (envOfC qual scope s.heap.objs.size f cd)) (leaving (envOfC qual scope s.heap.objs.size f cd) e) (λ_ s''=>CX outer H s E e s'') (λe' s''=>CX outer H s E e' s'') s'
theorem qK2{sc:Scope}{n:Nat}{x:Str}(h:sc.names.lookup x=some .cell):∃c,(cellsFrom n sc.names []).lookup x=some c:=by
 have q:=PySem.W.cellsFrom_some sc.names n [] (.inl h);exact Option.isSome_iff_exists.mp q
theorem qN2{CX:CXT}{P:Program}{w:World}{K:PySem.W.Frag}{mg:Str->Option Value}{base:Heap}{N ps:List Str}{qual:Str}{scope:Scope}{f:Addr}{cd:Value}{A:Around}{outer:List Env}{s s1:Shared}{H:Hp}{E:XK}{us:List Value}{vs:List V}(S:FnScope N ps scope)(hd:A.handled=none)(e0:Env0 P w K mg base A outer s H)(hl:vs.length=ps.length)(r:Vals vs us)(x:InCallC s s.heap.objs.size (bindL (envOfC qual scope s.heap.objs.size f cd).kindOf (ps.zip us) λ_=>none) (cellsFrom (s.heap.objs.size+1) scope.names []) (bindC (envOfC qual scope s.heap.objs.size f cd).kindOf (ps.zip us) λ_=>none) s1):Inv (cxOf CX P w K mg base N qual scope f cd A outer s H E) [] (start N vs) H s1:=by
 have hpl:ps.length<=N.length:=by have:=congrArg List.length S.pre;rw [bN] at this;lia
 obtain⟨h1,tk,rfl,hk⟩:=x.done;have noA:∀b:Addr,b∉(cxOf CX P w K mg base N qual scope f cd A outer s H E).ex:=λb z=>absurd (show b∈([]:List Addr) from z) (by simp)
 refine⟨⟨e0.mod,S.kind,rfl,rfl,aC _,λy z c h1 h2=>?_,λy hy=>?_,λy c _ h=>?_,λ_=>hd,Around.frames_deeper e0.frames,.inr ⟨rfl,rfl⟩,λb z=>absurd z (noA b),e0.bs,e0.bsz,λb _ _=>noA b,λb z=>absurd z (noA b),e0.funs,e0.frf⟩,
  rfl,e0.bare,Un.kept hk,⟨_,x.toInCall.ns,λi y v h1 h2 h3=>?_⟩,λy c h=>⟨_,x.cell y c h⟩,e0.hok.fresh (aC _),λy c h=>?_,λp hp=>absurd (show p∈([]:List (Addr×Obj)) from hp) (by simp),e0.hok.kept hk,?_⟩
 ·exact name_of_addr x.apart (cE h1) (cE h2)
 ·have hy:scope.names.lookup y=some .cell\/scope.names.lookup y=some .free:=hy;rcases hy with hy | hy
  ·exact qK2 hy
  ·exact absurd rfl (S.nofree _ (cE hy))
 ·exact bU (x.above y c (cE h))
 ·have hi:i<vs.length:=by
   unfold start at h2;by_cases hi:i<vs.length
   ·exact hi
   ·rw [dR (by simpa using hi)] at h2;rw [List.getElem?_replicate] at h2;split at h2 <;> cases h2
  have ha:vs[i]? = some v:=by
   unfold start at h2;rw [cF (by simpa using hi),bC] at h2;cases e:vs[i]? with
   | none=>rw [e] at h2;cases h2
   | some a=>rw [e] at h2;cases h2;rfl
  obtain⟨u,hu,rv⟩:=r.get ha;have hp:ps[i]? = some y:=by
   rw [<-S.pre,List.getElem?_take_of_lt (by lia)];exact h1
  have ndP:ps.Nodup:=by rw [<-S.pre];exact S.nd.sublist (List.take_sublist _ _)
  refine⟨u,rv,?_⟩;rcases S.par y (aL hp) with k | k
  ·exact .inl ⟨k,qHy ndP hp hu k⟩
  ·obtain⟨c,e⟩:=qK2 (n:=s.heap.objs.size+1) k;refine .inr ⟨.inl k,c,e,?_⟩;have q:=x.cell y c e;rw [qI0 ndP hp hu (by show scope.names.lookup y≠_;rw [k];decide)] at q;exact q
 ·exact e0.hok.fresh (bU (x.above y c (cE h)))
 ·unfold start;show _=N.length;rw [aN,aB,bY];lia
theorem qT9{CX:CXT}{P:Program}{w:World}{K:PySem.W.Frag}{mg:Str->Option Value}{base:Heap}{k:Nat}{f:Addr}{name qual:Str}{params:Arguments}{body:List Stmt}{scope:Scope}{dV kV doc pm cdv ct oc:Value}{an od:Option Addr}{osl:Array (Option Value)}{N ps:List Str}{sp:Sp}(lk:K.lookup f=some ⟨oc,od,.func (PySem.W.fnOf name qual params body scope dV kV doc pm an cdv ct),osl⟩)(hcd:PySem.W.codeIn K cdv qual=true)(S:FnScope N ps scope)(len:∀vs H Q E,sp vs H Q E->vs.length=ps.length)(hbody:∀(A:Around) (outer:List Env) (s:Shared) (H:Hp) (vs:List V) (Q:VK) (E:XK),Room k (A.deeper (envOfC qual scope s.heap.objs.size f cdv))->sp vs H Q E ->
   ∃t,PSs (cxOf CX P w K mg base N qual scope f cdv A outer s H E) body t/\t { nx:=λ_ H'=>Q .non H',rt:=Q } (start N vs) H) :
  FnOk P w K mg base CX (k+1) f (PySem.W.fnOf name qual params body scope dV kV doc pm an cdv ct) ps sp:=by
 refine⟨len,λA outer s H args us vs Q E hr e0 hb r hsp=>?_⟩;have hl:=len _ _ _ _ hsp;have KX:K.In s.heap:=e0.mod.kin.keeps λb o e=>(e0.bs b o e).1;have lim:s.heap.NoLimit:=e0.mod.nolimit.keeps λb o e=>(e0.bs b o e).1;have hkind:∀y∈ps.zip us,scope.names.lookup y.1=some .local\/(scope.names.lookup y.1=some .cell/\((cellsFrom (s.heap.objs.size+1) scope.names []).lookup y.1).isSome=true):=λ⟨n,v⟩ hy=>by
  rcases S.par n (List.of_mem_zip hy).1 with q | q
  ·exact .inl q
  ·exact .inr ⟨q,PySem.W.cellsFrom_some _ _ _ (.inl q)⟩
 refine codeAny_call_function hr.depth (KX _ _ lk) rfl S.co S.gen rfl (PySem.W.codeRec_of KX hcd) (hb _ _ _ _ ?_);refine wpAny_newFunctionEnv_cells S.kind hkind λenv he s1 x=>?_;subst he;refine⟨lim.keeps x.toInCall.keep,codeAny_func ?_⟩;obtain⟨t,ht,hq⟩:=hbody A outer s H vs Q E (hr.deeper _) hsp;have I:Inv (cxOf CX P w K mg base N qual scope f cdv A outer s H E) [] (start N vs) H s1:=qN2 S hr.hd e0 hl r x;refine wpAny_mono (ht [] s1 (start N vs) H _ I hq) (λfl s' hs=>?_) λe s' hs=>hs;have fin:∀ {σ':St} {H':Hp} {v:V} {u:Value},Inv (cxOf CX P w K mg base N qual scope f cdv A outer s H E) [] σ' H' s'->RelV v u->Q v H'->CE outer P w H s Q u s' :=
  λ{σ' H' v u} J rv q=>⟨v,H',J.os,J.bare,J.base,J.hok,rv,q⟩
 cases fl with
 | ret u =>
  obtain⟨v,σ',H',J,rv,q⟩:=hs;exact fin J rv q
 | next =>
  obtain⟨σ',H',J,q⟩:=hs;exact fin (v:=V.non) (u:=Value.none) J rfl q
 | brk =>
  obtain⟨_,_,_,q⟩:=hs;exact False.elim q
 | cont =>
  obtain⟨_,_,_,q⟩:=hs;exact False.elim q
section
variable{X:Cx}{x:Str}{p pos:Pos}{e:Expr}{es:List Expr}{t:TA}{id T:String}{r:List V->Hp->VK->Prop}
def tCB(r:List V->Hp->VK->Prop)(t:TA):TE:=λσ H Q=>t σ H λvs H1=>r vs H1 Q
theorem qA9(hc:CallR X (.builtin id) r)(hg:Gl X x)(hm:X.mg x=none)(hv:bootBuiltins x=some (.builtin id))(ha:PA X (e::es) t)(hn:x ≠ "__name__" :=by decide)(hdb:(x == ("__debug__" : Str))=false:=by decide)
  (he:starEach (e::es) X.env=(false,eval e X.env)::starEach es X.env:=by rfl) (hpl:(backTo pos (starEach es X.env)).any (·.1)=false:=by rfl):PE X (.Call (.Name x p) (e::es) [] pos) (tCB r t):=by
 intro pins s σ H Q I h;refine wpAny_Call_Name_kw (qFr I hg hm hv ?_ hn hdb);refine PyProof.Rows.callWith_builtin1 (thn (ha pos pins s σ H _ I h) λus s1 hq_=>?_) he hpl;obtain⟨vs,H1,I1,r1,q1⟩:=hq_;exact hc pins s1 σ H1 vs us Q I1 r1 q1
theorem qAr(hc:CallR X (.type T) r)(hg:Gl X x)(hm:X.mg x=none)(hv:bootBuiltins x=some (.type T))(ha:PA X (e::es) t)(hn:x ≠ "__name__" :=by decide)(hdb:(x == ("__debug__" : Str))=false:=by decide)
  (he:starEach (e::es) X.env=(false,eval e X.env)::starEach es X.env:=by rfl) (hpl:(backTo pos (starEach es X.env)).any (·.1)=false:=by rfl):PE X (.Call (.Name x p) (e::es) [] pos) (tCB r t):=by
 intro pins s σ H Q I h;refine wpAny_Call_Name_kw (qFr I hg hm hv ?_ hn hdb);refine cI (thn (ha pos pins s σ H _ I h) λus s1 hq_=>?_) he hpl;obtain⟨vs,H1,I1,r1,q1⟩:=hq_;exact hc pins s1 σ H1 vs us Q I1 r1 q1
end
end L2
namespace HT
open PySem PyProof.Rows
section
open PySem.SeqAt
open PySem.AutoSeq1 (wpAny_loadPart')
open PySem.MeetsSeq PySem.MeetsSeq2 PySem.MeetsSeq3
end
section
variable{prog:Program}{w:World}{A:Around}{E:Value->Shared->Prop}{s:Shared}
theorem cat_tup{t b:Addr}{vs ws:List Value}{Q:Value->Shared->Prop}(ht:IsTup s.heap t vs.toArray)(hb:IsTup s.heap b ws.toArray)(hv:vs ≠ [])
  (h1:ws = []->Q (.ref t) s) (h2:ws ≠ []->Q (.ref s.heap.objs.size) { s with heap:=s.heap.push { cls :=.type "tuple",data :=.seq (vs++ws).toArray } })
  (hsz:vs.length+ws.length<=sizeLine):wpAny (model prog w) A (binaryOp .Add (.ref t) (.ref b)) Q E s:=by
 obtain⟨⟨cls,dd,data,sl⟩,ho,hc,n,hd⟩:=id ht;obtain⟨⟨cls2,dd2,data2,sl2⟩,ho2,hc2,n2,hd2⟩:=id hb;simp only at hc hd hc2 hd2;subst hc hd hc2 hd2;have e:vs.toArray++ws.toArray=(vs++ws).toArray:=by simp
 by_cases hw:ws = []
 ·exact concat_meets ⟨_,ho,rfl⟩ ⟨_,ho2,rfl⟩ noFill_tuple_add seq_tuple_add PySem.F.slot_tuple_add PySem.F.entry_tuple_add (PySem.F.args_tuple_add_2 _ _)
   (tuple_addW1 t b vs.toArray ws.toArray n n2 dd dd2 sl sl2 (by simpa using hv) (by simp [hw])) ⟨ho,ho2,h1 hw⟩
 ·refine concat_meets ⟨_,ho,rfl⟩ ⟨_,ho2,rfl⟩ noFill_tuple_add seq_tuple_add PySem.F.slot_tuple_add PySem.F.entry_tuple_add (PySem.F.args_tuple_add_2 _ _)
   (tuple_addW2 t b vs.toArray ws.toArray n n2 dd dd2 sl sl2 (by simpa using hv) (by simpa using hw) (by rw [aG,aG];exact hsz)) ⟨ho,ho2,?_⟩
  rw [e];exact h2 hw
def sIx(n d:Nat):Option Int->Nat
 | none=>d
 | some v=>if v<0 then (v+(n:Int)).toNat else min v.toNat n
theorem qRu(n d:Nat)(hd:d<=n)(o:Option Int):sIx n d o<=n:=by
 cases o with
 | none=>exact hd
 | some v =>
  show (if v<0 then (v+(n:Int)).toNat else min v.toNat n)<=n;by_cases hv:v<0
  ·rw [if_pos hv];lia
  ·rw [if_neg hv];exact Nat.min_le_right _ _
theorem qNg(v:Int)(n d:Nat):(if v<0 then max (v+(n:Int)) 0 else min v (n:Int))=((sIx n d (some v):Nat):Int):=by
 show (if v<0 then max (v+(n:Int)) 0 else min v (n:Int))=(((if v<0 then (v+(n:Int)).toNat else min v.toNat n):Nat):Int);by_cases hv:v<0
 ·simp only [if_pos hv];lia
 ·simp only [if_neg hv];lia
theorem qKy(lo hi:Option Int)(n:Nat):Builtin.Slice.sliceAdjust lo hi 1 (n:Int)=(((sIx n 0 lo:Nat):Int),((sIx n n hi:Nat):Int)):=by
 have h1 : ¬((1:Int)<0):=by lia
 unfold Builtin.Slice.sliceAdjust;simp only [h1,if_false];refine Prod.ext ?_ ?_
 ·cases lo with
  | none=>rfl
  | some v=>exact qNg v n 0
 ·cases hi with
  | none=>rfl
  | some v=>exact qNg v n n
theorem qKi(i j:Nat):Builtin.Slice.slicePlaces (i:Int) (j:Int) 1=j - i:=by
 unfold Builtin.Slice.slicePlaces;have h1:(1:Int)>0:=by lia
 simp only [h1,if_true,Int.ediv_one];split <;> lia
theorem qF5{v:Value}{o:Option Int}{Q:Option Int->Shared->Prop}(p:IsPart v o)(h:Q o s):wpAny (model prog w) A (Builtin.Slice.slicePartIndex v) Q E s:=by
 cases p with
 | none=>exact slicePart_none h
 | int i t=>exact slicePart_int h
theorem qE0{sl:Addr}{vl vu:Value}{lo hi:Option Int}{n:Nat}{Q:Int×Int×Nat->Shared->Prop}(hs:s.heap.IsSliceOf sl vl vu .none)(pl:IsPart vl lo)(pu:IsPart vu hi)(h:Q (((sIx n 0 lo:Nat):Int),1,sIx n n hi - sIx n 0 lo) s):wpAny (model prog w) A (Builtin.Slice.sliceApplied (.ref sl) (pure (n:Int))) Q E s:=by
 obtain⟨os,hos,hcs,hds⟩:=id hs;unfold Builtin.Slice.sliceApplied Builtin.Slice.sliceFields;refine aA (aA (cB hos hds (x:=vl) rfl (aA (cB hos hds (x:=vu) rfl (aA (cB hos hds (x :=.none) rfl (aF ?_)))))));refine aA (slicePart_none ?_);show wpAny _ _ (if ((1:Int) == 0)=true then _ else _) _ _ s;rw [if_neg (by decide)];refine aA (qF5 pl (aA (qF5 pu (aA (aF ?_)))));show wpAny _ _ (match Builtin.Slice.sliceAdjust lo hi 1 (n:Int) with | (lo,hi)=>pure (lo,(1:Int),Builtin.Slice.slicePlaces lo hi 1)) _ _ s;rw [qKy lo hi n];show wpAny _ _ (pure (((sIx n 0 lo:Nat):Int),(1:Int),Builtin.Slice.slicePlaces ((sIx n 0 lo:Nat):Int) ((sIx n n hi:Nat):Int) 1)) _ _ s
 rw [qKi];exact aF h
theorem qOl(xs:Array Value)(i k:Nat):((List.range k).filterMap λ(m:Nat)=>xs[((i:Int)+(m:Int)*1).toNat]?).toArray=((xs.toList.drop i).take k).toArray:=by
 have e:(λ(m:Nat)=>xs[((i:Int)+(m:Int)*1).toNat]?)=λm=>xs[i+m]? :=by
  funext m
  have:((i:Int)+(m:Int)*1).toNat=i+m:=by lia
  rw [this]
 rw [e];have:=pick_run xs i k;rw [List.filterMap_map] at this;have e2:((λx=>xs[x]?)∘λx=>i+x)=λm=>xs[i+m]? :=rfl;rw [e2] at this;rw [this]
theorem getItem_tuple_cut{t sl:Addr}{items:Array Value}{vl vu:Value}{lo hi:Option Int}{Q:Value->Shared->Prop}(ht:IsTup s.heap t items)(hs:s.heap.IsSliceOf sl vl vu .none)(pl:IsPart vl lo)(pu:IsPart vu hi)(hw : ¬(sIx items.size 0 lo=0/\sIx items.size items.size hi=items.size))
  (h:Q (.ref s.heap.objs.size) { s with heap:=s.heap.push { cls :=.type "tuple",data :=.seq ((items.toList.drop (sIx items.size 0 lo)).take (sIx items.size items.size hi - sIx items.size 0 lo)).toArray } })
  (hsz:items.size<=sizeLine):wpAny (model prog w) A (getItem (.ref t) (.ref sl)) Q E s:=by
 have htake:sizeOk (.seq ((items.toList.drop (sIx items.size 0 lo)).take (sIx items.size items.size hi - sIx items.size 0 lo)).toArray):=by
  show ((items.toList.drop (sIx items.size 0 lo)).take (sIx items.size items.size hi - sIx items.size 0 lo)).toArray.size<=sizeLine;rw [aG,bN,cZ,bG];lia
 have hj:sIx items.size items.size hi<=items.size:=qRu _ _ (aC _) hi;obtain⟨os,hos,hcs,hds⟩:=id hs;have hTs:s.TypeIs (.ref sl) "slice" :=⟨os,hos,hcs⟩;unfold getItem
 try with_reducible refine bI ?_
 first | refine aA (aF ?_) | skip
 refine aA (wpAny_sequenceKey ht.typeIs (by decide) ?_)
 refine aA (cC (name:=Str.ofString "__getitem__") ht.typeIs cT
  (cL cT ht.typeIs entry_tuple_getitem ?_ (args_tuple_getitem _ _)))
 show wpAny _ _ (Builtin.Tuple.tupleItemsOf (.ref t) >>= _) _ _ s;refine aA (tupleItemsOf_ ht ?_);refine aA (wpAny_typeOf hTs ?_);rw [if_pos (by decide)];refine aA (qE0 hs pl pu ?_);have hno : ¬((((sIx items.size 0 lo:Nat):Int) == 0&&(1:Int) == 1&&(sIx items.size items.size hi - sIx items.size 0 lo) == items.size)=true):=by
  intro q;rw [bE,bE] at q;have q1:((sIx items.size 0 lo:Nat):Int)=0:=eq_of_beq q.1.1;have q2:sIx items.size items.size hi - sIx items.size 0 lo=items.size:=eq_of_beq q.2;exact hw ⟨by lia,by lia⟩
 show wpAny _ _ (if (((sIx items.size 0 lo:Nat):Int) == 0&&(1:Int) == 1&&(sIx items.size items.size hi - sIx items.size 0 lo) == items.size)=true then _ else _) _ _ s;rw [if_neg hno,qOl]
 first
  | exact aA (m:=Builtin.Tuple.tupleExact _) (cD (aF ⟨_,rfl,aF h⟩) htake)
  | exact aA (m:=Builtin.Tuple.tupleExact _) (cD (aA (aF (aF ⟨_,rfl,aF h⟩))) htake)
  | exact aA (aA (m:=Builtin.Tuple.tupleExact _) (cD (aF (aF ⟨_,rfl,aF h⟩)) htake))
  | exact aA (aA (m:=Builtin.Tuple.tupleExact _) (cD (aF ⟨_,rfl,aF h⟩) htake))
end
end HT
namespace L2
open PySem PySem.Spec PyProof.Rows
abbrev TO:=St->Hp->(Option Int->Hp->Prop)->Prop
def PO(X:Cx)(e:Option Expr)(t:TO):Prop :=
 ∀(pins:List (Addr×Obj)) (s:Shared) (σ : St) (H:Hp) (Q:Option Int->Hp->Prop),Inv X pins σ H s->t σ H Q ->
  wpAny (model X.prog X.w) X.A (evalPart e X.env) (λu s' => ∃o H',Inv X pins σ H' s'/\IsPart u o/\Q o H') X.xe s
def qLd:TO:=λ_ H Q=>Q none H
def tPart(t:TE):TO:=λσ H Q=>t σ H λx H1 => ∃i,x = .int i/\Q (some i) H1
theorem qKv{ns:List Int}:∀ {us:List Value},Vals (ns.map V.int) us->IntsAre us ns:=by
 induction ns with
 | nil=>intro us r;rw [List.map_nil] at r;cases r;exact .nil
 | cons n ns ih =>
  intro us r;rw [bJ] at r;cases r with
  | cons r1 r2 =>
   obtain⟨t,e⟩:=r1;subst e;exact .cons n t (ih r2)
section
variable{X:Cx}{e:Expr}{te:TE}{lo hi:Option Expr}{tl th:TO}{pos p2:Pos}
theorem qGj:PO X none qLd:=by
 intro pins s σ H Q I h;rw [evalPart_none];exact aF ⟨none,H,I,.none,h⟩
theorem qGi(h:PE X e te):PO X (some e) (tPart te):=by
 intro pins s σ H Q I hw;rw [evalPart_some];refine thn (h pins s σ H _ I hw) λu s1 hq_=>?_;obtain⟨x,H1,I1,r1,q1⟩:=hq_;obtain⟨i,rfl,q⟩:=q1;obtain⟨t,rfl⟩:=r1;exact⟨some i,H1,I1,.int i t,q⟩
def SlR(X:Cx)(r:V->Option Int->Option Int->Hp->VK->Prop):Prop :=
 ∀(pins:List (Addr×Obj)) (s:Shared) (σ : St) (H:Hp) (x:V) (v vl vu:Value) (lo hi:Option Int) (sl:Addr) (Q:VK),Inv X pins σ H s->RelV x v->s.heap.IsSliceOf sl vl vu .none->IsPart vl lo->IsPart vu hi->r x lo hi H Q ->
  ∃T id,typeLookup (.type T) "__getitem__" = pure (some (.builtin id))/\s.TypeIs v T/\wpAny (model X.prog X.w) X.A (getItem v (.ref sl)) (EP X pins σ Q) X.xe s
def tSl(r:V->Option Int->Option Int->Hp->VK->Prop)(te:TE)(tl th:TO):TE:=λσ H Q=>te σ H λx H1=>tl σ H1 λl H2=>th σ H2 λu H3=>r x l u H3 Q
theorem qE5{r:V->Option Int->Option Int->Hp->VK->Prop}(hr:SlR X r)(he:PE X e te)(hl:PO X lo tl)(hu:PO X hi th):PE X (.Subscript e (.Slice lo hi none p2) pos) (tSl r te tl th):=by
 intro pins s σ H Q I h;refine Subscript_ (thn (he pins s σ H _ I h) λv s1 hq_=>?_);obtain⟨x,H1,I1,r1,q1⟩:=hq_;refine wpAny_Slice (thn (hl pins s1 σ H1 _ I1 q1) λvl s2 hq_=>?_);obtain⟨l,H2,I2,pl,q2⟩:=hq_;refine thn (hu pins s2 σ H2 _ I2 q2) λvu s3 hq_=>?_;obtain⟨u,H3,I3,pu,q3⟩:=hq_;rw [evalPart_none];refine aF ?_;have I4:Inv X pins σ H3 { s3 with heap:=s3.heap.push { cls :=.type "slice",data :=.fields #[vl,vu,.none] } }:=I3.kept (t':=s3.toks) λb ob q=>aE _ q;obtain⟨T,id,hT,ht,hg⟩:=hr pins { s3 with heap:=s3.heap.push { cls :=.type "slice",data :=.fields #[vl,vu,.none] } } σ H3 x v vl vu l u s3.heap.objs.size Q I4 r1 (Heap.IsSliceOf.new ..) pl pu q3;show wpAny (model X.prog X.w) X.A (subscriptTail e (.Slice lo hi none p2) v (.ref s3.heap.objs.size)) (EP X pins σ Q) X.xe { s3 with heap:=s3.heap.push { cls :=.type "slice",data :=.fields #[vl,vu,.none] } }
 exact tail_any (ops :=[.ref s3.heap.objs.size,v]) ht hT hg (by with_unfolding_all rfl)
def cutV(xs:List V)(lo hi:Option Int):List V:=(xs.drop (HT.sIx xs.length 0 lo)).take (HT.sIx xs.length xs.length hi - HT.sIx xs.length 0 lo)
theorem qEu(xs:List V)(lo hi:Option Int):(cutV xs lo hi).length<=xs.length:=by
 unfold cutV;rw [bN,cZ];lia
def rSlT(K:PySem.W.Frag):V->Option Int->Option Int->Hp->VK->Prop:=λx lo hi H Q => ∃a xs,x = .ref a/\SqT K H a xs /\
 ¬(HT.sIx xs.length 0 lo=0/\HT.sIx xs.length xs.length hi=xs.length) /\ ∀p,H p=none->Q (.ref p) (upd H p (.tup (cutV xs lo hi)))
theorem qLp:SlR X (rSlT X.K):=by
 intro pins s σ H x v vl vu lo hi sl Q I rx hs pl pu h;obtain⟨a,xs,rfl,hx,hw,q⟩:=h;cases rx;obtain⟨its,r,ht,hz⟩:=I.tuple hx;have hlen:its.toArray.size=xs.length:=by rw [aG];exact r.length.symm
 refine⟨"tuple",_,cT.lookup,ht.typeIs,?_⟩;refine HT.getItem_tuple_cut ht hs pl pu (by rw [hlen];exact hw) ?_ (by rw [hlen];exact hz);rw [hlen];refine⟨.ref s.heap.objs.size,_,I.laid (t':=s.toks) (o :=.tup (cutV xs lo hi)) (λb ob q=>aE _ q) (aC _) ?_,rfl,q _ (I.hok.fresh (aC _))⟩;exact⟨bH (qEu xs lo hi) hz,_,(r.drop (HT.sIx xs.length 0 lo)).take (HT.sIx xs.length xs.length hi - HT.sIx xs.length 0 lo),IsTup.new _ _⟩
def rCatT(K:PySem.W.Frag):R2:=λx y H Q => ∃a b xs ys,x = .ref a/\y = .ref b/\SqT K H a xs/\SqT K H b ys/\xs ≠ []/\xs.length+ys.length<=sizeLine /\
 (ys = []->Q (.ref a) H)/\(ys ≠ [] -> ∀p,H p=none->Q (.ref p) (upd H p (.tup (xs++ys))))
theorem Vals.nil_iff{xs:List V}{us:List Value}(r:Vals xs us):us = []↔xs = []:=by
 cases r with
 | nil=>simp
 | cons _ _=>simp
theorem qQy:OpR X (binaryOp .Add) (rCatT X.K):=by
 intro pins s σ H x y v u Q I rx ry h;obtain⟨a,b,xs,ys,rfl,rfl,ha,hb,hx,hz,q1,q2⟩:=h;cases rx;cases ry;obtain⟨its,r1,p1,_⟩:=I.tuple ha;obtain⟨its2,r2,p2,_⟩:=I.tuple hb;refine HT.cat_tup p1 p2 (λz=>hx (r1.nil_iff.mp z)) (λz=>⟨.ref a,H,I,rfl,q1 (r2.nil_iff.mp z)⟩) (λz=>?_) (by rw [<-r1.length,<-r2.length];exact hz);refine⟨.ref s.heap.objs.size,_,I.laid (t':=s.toks) (o :=.tup (xs++ys)) (λb ob q=>aE _ q) (aC _) ?_,rfl,q2 (λw=>z (r2.nil_iff.mpr w)) _ (I.hok.fresh (aC _))⟩;exact⟨by rw [aN];exact hz,_,r1.append r2,IsTup.new _ _⟩
end
def ixN(n:Nat)(i:Int):Option Nat:=if 0<=i then (if i<n then some i.toNat else none) else if -(n:Int)<=i then some (i+n).toNat else none
def atI{α : Type}(xs:List α)(i:Int):Option α :=(ixN xs.length i).bind λj=>xs[j]?
theorem qMy{n:Nat}{i:Int}{j:Nat}(h:ixN n i=some j):seqIndex? i n=some j/\j<n /\ -(n:Int)<=i/\i<n:=by
 unfold ixN at h;by_cases h0:0<=i
 ·rw [if_pos h0] at h;by_cases h1:i<n
  ·rw [if_pos h1] at h;have e:i.toNat=j:=bF h;exact⟨by rw [seqIndex_of h0 h1,e],by lia,by lia,h1⟩
  ·rw [if_neg h1] at h;cases h
 ·rw [if_neg h0] at h;by_cases h1 : -(n:Int)<=i
  ·rw [if_pos h1] at h;have e:(i+n).toNat=j:=bF h;exact⟨by rw [seqIndex_neg (by lia) h1,e],by lia,h1,by lia⟩
  ·rw [if_neg h1] at h;cases h
theorem qIo{α : Type}{xs:List α}{i:Int}{v : α}(h:atI xs i=some v):∃j,seqIndex? i xs.length=some j/\xs[j]? = some v/\j<xs.length /\ -(xs.length:Int)<=i/\i<xs.length:=by
 unfold atI at h;cases e:ixN xs.length i with
 | none=>rw [e] at h;cases h
 | some j =>
  rw [e] at h;obtain⟨h1,h2,h3,h4⟩:=qMy e;exact⟨j,h1,h,h2,h3,h4⟩
theorem qDc{α : Type}{xs:List α}{j:Nat}{v : α}(h:xs[j]? = some v):atI xs (j:Int)=some v:=by
 have hj:j<xs.length:=(aD.mp h).1;have e:ixN xs.length (j:Int)=some j:=by
  unfold ixN;rw [if_pos (by lia),if_pos (by lia)];simp
 unfold atI;rw [e];exact h
def qRj(b:Expr):Prop := ∀o i,subscripted b false o i=operate [o,i] (getItem o i)
def IxR(X:Cx)(r:R2):Prop :=
 ∀(value slice:Expr) (pins:List (Addr×Obj)) (s:Shared) (σ : St) (H:Hp) (x y:V) (v u:Value) (Q:VK),Inv X pins σ H s->RelV x v->RelV y u->r x y H Q ->
  subscripted slice false v u=operate [v,u] (getItem v u)->wpAny (model X.prog X.w) X.A (subscriptTail value slice v u) (EP X pins σ Q) X.xe s
def MtR(X:Cx)(id:String)(r:V->List V->Hp->VK->Prop):Prop :=
 ∀(pins:List (Addr×Obj)) (s:Shared) (σ : St) (H:Hp) (x:V) (xs:List V) (v:Value) (us:List Value) (Q:VK),Inv X pins σ H s->RelV x v->Vals xs us->r x xs H Q ->
  wpAny (model X.prog X.w) X.A (call (.builtin id) (v::us)) (EP X pins σ Q) X.xe s
section
variable{X:Cx}{a b:Expr}{ta tb:TE}{pos:Pos}
theorem qB3{r:R2}(hr:IxR X r)(ha:PE X a ta)(hb:PE X b tb)(hs:qRj b):PE X (.Subscript a b pos) (tOp r ta tb):=by
 intro pins s σ H Q I h;exact Subscript_ (binT ha hb I h λv u s2 x y H2 I2 rx ry q=>hr a b pins s2 σ H2 x y v u Q I2 rx ry q (hs _ _))
def rIxL(K:PySem.W.Frag):R2:=λx y H Q => ∃p xs i v,x = .ref p/\y = .int i/\SqL K H p xs/\atI xs i=some v/\Q v H
def rIxT(K:PySem.W.Frag):R2:=λx y H Q => ∃p xs i v,x = .ref p/\y = .int i/\SqT K H p xs/\atI xs i=some v/\Q v H
def rIxS:R2:=λx y H Q => ∃z i c,x = .str z/\y = .int i/\z.length<=sizeLine/\atI z.cps.toList i=some c/\Q (.str ⟨#[c]⟩) H
theorem qAm:IxR X (rIxL X.K):=by
 intro value slice pins s σ H x y v u Q I rx ry h hs;obtain⟨p,xs,i,z,rfl,rfl,hq,he,q⟩:=h;cases rx;obtain⟨t,rfl⟩:=ry;obtain⟨its,r,pl,hz⟩:=I.list hq;obtain⟨j,h1,h2,h3,h4,h5⟩:=qIo he;obtain⟨w,ew,rw'⟩:=r.get h2;have hl:=r.length;have hn:=qEl;have fin:EP X pins σ Q w s:=⟨z,H,I,rw',q⟩;by_cases h0:0<=i
 ·have hj:i.toNat=j:=by
   rw [seqIndex_of h0 h5] at h1;exact bF h1
  exact item_listR pl.isList h0 (by lia) (by rw [hj];simpa using ew) fin hs
 ·have hj:(i+(its.toArray.size:Int)).toNat=j:=by
   rw [seqIndex_neg (by lia) h4] at h1;rw [aG,<-hl];exact bF h1
  exact subscriptTail_builtinR (x:=w) pl.isList.typeIs slot_list_getitem.lookup
   (wpAny_getItem_list_neg (Q:=λr s'=>r=w/\EP X pins σ Q r s') pl.isList (by lia) (by rw [aG] <;> lia) (by lia) (by rw [hj];simpa using ew) ⟨rfl,fin⟩) hs
theorem qDx:IxR X (rIxT X.K):=by
 intro value slice pins s σ H x y v u Q I rx ry h hs;obtain⟨p,xs,i,z,rfl,rfl,hq,he,q⟩:=h;cases rx;obtain⟨t,rfl⟩:=ry;obtain⟨its,r,pl,hz⟩:=I.tuple hq;obtain⟨j,h1,h2,h3,h4,h5⟩:=qIo he;obtain⟨w,ew,rw'⟩:=r.get h2;have hl:=r.length;have hn:=qEl;have fin:EP X pins σ Q w s:=⟨z,H,I,rw',q⟩;exact subscriptTail_builtinR (x:=w) pl.typeIs slot_tuple_getitem.lookup
  (getItem_tuple (j:=j) (Q:=λr s'=>r=w/\EP X pins σ Q r s') pl (by lia) (by lia) (by rw [aG,<-hl];exact h1) (by simpa using ew) ⟨rfl,fin⟩) hs
theorem qSp:IxR X rIxS:=by
 intro value slice pins s σ H x y v u Q I rx ry h hs;obtain⟨z,i,c,rfl,rfl,hz,he,q⟩:=h;obtain⟨t,rfl⟩:=rx;obtain⟨t',rfl⟩:=ry;obtain⟨j,h1,h2,h3,h4,h5⟩:=qIo he;have hl:z.cps.toList.length=z.length:=by simp [Str.length]
 rw [hl] at h1 h4 h5;have hn:=qEl
 exact tail_any (typeIs_str s z t) slot_str_getitem.lookup (getItem_str (c:=c) (by
  have e1:decide (i < -(2^63:Int))=false:=decide_eq_false (by lia);have e2:decide (i>=2^63)=false:=decide_eq_false (by lia)
  rw [e1,e2,Bool.or_false]) (by rw [h1];simpa using h2) ⟨.str ⟨#[c]⟩,H,I.tok _,⟨_,rfl⟩,q⟩) hs
theorem qKs(its:List Value)(n j:Nat)(u:Value):Obj.mapSeq (·.setIfInBounds j u) { cls :=.type "list",data :=.seq its.toArray n } = { cls :=.type "list",data :=.seq (its.set j u).toArray n }:=by
 simp [Obj.mapSeq]
theorem Inv.lst{pins:List (Addr×Obj)}{σ : St}{H:Hp}{s:Shared}{p:Addr}{xs:List V}(I:Inv X pins σ H s)(h:H p=some (.lst xs)):∃(its:List Value) (n:Nat),Vals xs its/\s.heap.get? p=some { cls :=.type "list",data :=.seq its.toArray n }/\xs.length<=sizeLine:=by
 obtain⟨z,its,n,r,e⟩:=I.hok p _ h;exact⟨its,n,r,e,z⟩
theorem Inv.lstUpd{pins:List (Addr×Obj)}{σ : St}{H:Hp}{s:Shared}{p:Addr}{xs ys:List V}{its its':List Value}{n n':Nat}{f:Obj->Obj}(I:Inv X pins σ H s)(h:H p=some (.lst xs))
  (ho:s.heap.get? p=some { cls :=.type "list",data :=.seq its.toArray n }) (hf:f { cls :=.type "list",data :=.seq its.toArray n } = { cls :=.type "list",data :=.seq its'.toArray n' }) (r:Vals ys its') (hz:ys.length<=sizeLine) (t:Nat) :
  Inv X pins σ (upd H p (.lst ys)) { s with heap:=s.heap.update p f,toks:=t }:=by
 have e:(s.heap.update p f).get? p=some { cls :=.type "list",data :=.seq its'.toArray n' }:=by
  rw [Heap.get?_update_self f ho (by rw [hf] <;> rfl),hf]
 refine I.write (x:=p) (e:=p) (by rw [h];trivial) (.inl rfl) (λb u hb q=>(Heap.get?_update_other _ _ (dS hb)).trans q) ⟨_,e⟩ ?_;exact⟨hz,its',n',r,e⟩
def rSetL:V->V->V->Hp->(Hp->Prop)->Prop:=λo i v H Q => ∃p xs k j,o = .ref p/\i = .int k/\H p=some (.lst xs)/\ixN xs.length k=some j/\Q (upd H p (.lst (xs.set j v)))
theorem qIz:PSet X rSetL:=by
 intro pins s σ H o i v ov iv u Q I ro ri rv h;obtain⟨p,xs,k,j,rfl,rfl,hp,hj,q⟩:=h;cases ro;obtain⟨t,rfl⟩:=ri;obtain⟨its,n,r,ho,hz⟩:=I.lst hp;obtain⟨h1,h2,h3,h4⟩:=qMy hj;have hl:=r.length;have hn:=qEl;have I':Inv X pins σ (upd H p (.lst (xs.set j v))) { s with heap:=s.heap.update p (Obj.mapSeq (·.setIfInBounds j u)) } :=
  I.lstUpd hp ho (qKs its n j u) (r.set rv j) (by rw [List.length_set];exact hz) s.toks
 by_cases h0:0<=k
 ·have hk:k.toNat=j:=by
   rw [seqIndex_of h0 h4] at h1;exact bF h1
  exact PySem.W.ki_setAt ho h0 (by lia) (by rw [aG,<-hl];exact h4) (by rw [hk];exact⟨_,I',q⟩)
 ·have hk:(k+(its.toArray.size:Int)).toNat=j:=by
   rw [seqIndex_neg (by lia) h3] at h1;rw [aG,<-hl];exact bF h1
  exact PySem.W.ki_setBack ho (by lia) (by rw [aG,<-hl];exact h3) (by lia) (by rw [hk];exact⟨_,I',q⟩)
theorem qH3(lo hi:Option Int)(n:Nat):(sliceBounds lo hi none n).1=((HT.sIx n 0 lo:Nat):Int)/\(sliceBounds lo hi none n).2.1=((HT.sIx n n hi:Nat):Int)/\(sliceBounds lo hi none n).2.2=1:=by
 refine⟨?_,?_,rfl⟩
 ·cases lo with
  | none=>simp [sliceBounds,HT.sIx]
  | some i =>
   simp only [sliceBounds,HT.sIx,Option.getD_none,show (1:Int)>0 by decide,if_true];by_cases h:i<0
   ·simp only [h,if_true] <;> lia
   ·simp only [h,if_false] <;> lia
 ·cases hi with
  | none=>simp [sliceBounds,HT.sIx]
  | some i =>
   simp only [sliceBounds,HT.sIx,Option.getD_none,show (1:Int)>0 by decide,if_true];by_cases h:i<0
   ·simp only [h,if_true] <;> lia
   ·simp only [h,if_false] <;> lia
theorem qG8(its:List Value)(lo hi:Option Int):slicePick its.toArray lo hi none=((its.drop (HT.sIx its.length 0 lo)).take (HT.sIx its.length its.length hi - HT.sIx its.length 0 lo)).toArray:=by
 obtain⟨h1,h2,h3⟩:=qH3 lo hi its.toArray.size;unfold slicePick;rw [h1,h2,h3];simp only [sliceRange_one,pick_run,aG] <;> rfl
def rSlL(K:PySem.W.Frag):V->Option Int->Option Int->Hp->VK->Prop:=λx lo hi H Q => ∃a xs,x = .ref a/\SqL K H a xs /\ ∀p,H p=none->Q (.ref p) (upd H p (.lst (cutV xs lo hi)))
theorem qT3:SlR X (rSlL X.K):=by
 intro pins s σ H x v vl vu lo hi sl Q I rx hs pl pu h;obtain⟨a,xs,rfl,hx,q⟩:=h;cases rx;obtain⟨its,r,ht,hz⟩:=I.list hx;have hlen:=r.length;refine⟨"list",_,slot_list_getitem.lookup,ht.isList.typeIs,?_⟩;refine wpAny_getItem_list_slice ht.isList hs pl pu .none (by simp) ?_ (by rw [aG] <;> lia);rw [qG8,<-hlen];refine⟨.ref s.heap.objs.size,_,I.laid (t':=s.toks) (o :=.lst (cutV xs lo hi)) (λb ob q=>aE _ q) (aC _) ?_,rfl,q _ (I.hok.fresh (aC _))⟩;exact⟨bH (qEu xs lo hi) hz,_,0,(r.drop (HT.sIx xs.length 0 lo)).take (HT.sIx xs.length xs.length hi - HT.sIx xs.length 0 lo),aR _ rfl⟩
def flatV:V->Bool
 | .non=>true
 | .bl _=>true
 | .int _=>true
 | .str _=>true
 | _=>false
def eqV:V->V->Bool
 | .non,.non=>true
 | .bl a,.bl b=>a == b
 | .bl a,.int b=>(if a then 1 else 0) == b
 | .int a,.bl b=>a == (if b then 1 else 0)
 | .int a,.int b=>a == b
 | .str a,.str b=>a == b
 | _,_=>false
theorem qSs{A:Around}{s:Shared}{y x:V}{u v:Value}(ry:RelV y u)(rx:RelV x v)(fy:flatV y=true)(fx:flatV x=true):SeqAt.EqAt A s u v (eqV y x):=by
 cases y with
 | non =>
  cases ry;cases x with
  | non=>cases rx;exact SeqAt.EqAt.same _
  | bl b=>cases rx;exact SeqAt.EqAt.none_bool b
  | int b=>obtain⟨t,rfl⟩:=rx;exact SeqAt.EqAt.none_int b t
  | str b=>obtain⟨t,rfl⟩:=rx;exact SeqAt.EqAt.none_str b t
  | _=>exact absurd (show false=true from fx) aH
 | bl a =>
  cases ry;cases x with
  | non=>cases rx;exact SeqAt.EqAt.bool_none a
  | bl b=>cases rx;exact SeqAt.EqAt.bool_bool a b
  | int b=>obtain⟨t,rfl⟩:=rx;exact SeqAt.EqAt.bool_int a b t
  | str b=>obtain⟨t,rfl⟩:=rx;exact SeqAt.EqAt.bool_str a b t
  | _=>exact absurd (show false=true from fx) aH
 | int a =>
  obtain⟨t',rfl⟩:=ry;cases x with
  | non=>cases rx;exact SeqAt.EqAt.int_none a t'
  | bl b=>cases rx;exact SeqAt.EqAt.int_bool a t' b
  | int b=>obtain⟨t,rfl⟩:=rx;exact SeqAt.EqAt.int_int a t' b t
  | str b=>obtain⟨t,rfl⟩:=rx;exact SeqAt.EqAt.int_str a t' b t
  | _=>exact absurd (show false=true from fx) aH
 | str a =>
  obtain⟨t',rfl⟩:=ry;cases x with
  | non=>cases rx;exact SeqAt.EqAt.str_none a t'
  | bl b=>cases rx;exact SeqAt.EqAt.str_bool a t' b
  | int b=>obtain⟨t,rfl⟩:=rx;exact SeqAt.EqAt.str_int a t' b t
  | str b=>obtain⟨t,rfl⟩:=rx;exact SeqAt.EqAt.str_str a t' b t
  | _=>exact absurd (show false=true from fx) aH
 | _=>exact absurd (show false=true from fy) aH
def eqU(x:V)(u:Value):Bool:=match u with
 | .none=>eqV .non x
 | .bool b=>eqV (.bl b) x
 | .int i _=>eqV (.int i) x
 | .str z _=>eqV (.str z) x
 | _=>false
theorem qQ8{x y:V}{u:Value}(r:RelV y u)(f:flatV y=true):eqU x u=eqV y x:=by
 cases y with
 | non=>cases r;rfl
 | bl b=>cases r;rfl
 | int i=>obtain⟨t,rfl⟩:=r;rfl
 | str z=>obtain⟨t,rfl⟩:=r;rfl
 | _=>exact absurd (show false=true from f) aH
theorem qGx{x:V}{xs:List V}{us:List Value}(h:Vals xs us)(f:xs.all flatV=true):us.any (eqU x)=xs.any λy=>eqV y x:=by
 induction h with
 | nil=>rfl
 | cons r t ih =>
  rw [List.all_cons,bE] at f;rw [List.any_cons,List.any_cons,qQ8 r f.1,ih f.2]
theorem qE7{A:Around}{s:Shared}{x:V}{v:Value}(rx:RelV x v)(fx:flatV x=true){xs:List V}{us:List Value}(h:Vals xs us)(f:xs.all flatV=true):∀u∈us,SeqAt.EqAt A s u v (eqU x u):=by
 induction h with
 | nil=>intro u hu;cases hu
 | cons r t ih =>
  intro u' hu;rw [List.all_cons,bE] at f;rcases aJ.mp hu with rfl | hu
  ·rw [qQ8 r f.1];exact qSs r rx f.1 fx
  ·exact ih f.2 u' hu
def inV(x:V)(xs:List V):Bool:=xs.any λy=>eqV y x
def rIn(K:PySem.W.Frag)(neg:Bool):R2:=λx y H Q => ∃p xs,y = .ref p/\(SqL K H p xs\/SqT K H p xs)/\flatV x=true/\xs.all flatV=true/\Q (.bl (if neg then !inV x xs else inV x xs)) H
theorem qMd:OpR X (compareOp .In) (rIn X.K false):=by
 intro pins s σ H x y v u Q I rx ry h;obtain⟨p,xs,rfl,hq,fx,fs,q⟩:=h;cases ry;rcases hq with hq | hq
 ·obtain⟨its,r,pl,hz⟩:=I.list hq;refine SeqAt.in_listAt (eqU x) pl.isList (λw hw=>qE7 rx fx r fs w (by simpa using hw)) ⟨.bl _,H,I,rfl,?_⟩;rw [show its.toArray.any (eqU x)=its.any (eqU x) by simp,qGx r fs];exact q
 ·obtain⟨its,r,pl,hz⟩:=I.tuple hq;refine SeqAt.in_tupleAt (eqU x) pl (λw hw=>qE7 rx fx r fs w (by simpa using hw)) ⟨.bl _,H,I,rfl,?_⟩;rw [show its.toArray.any (eqU x)=its.any (eqU x) by simp,qGx r fs];exact q
theorem qHe:OpR X (compareOp .NotIn) (rIn X.K true):=by
 intro pins s σ H x y v u Q I rx ry h;obtain⟨p,xs,rfl,hq,fx,fs,q⟩:=h;cases ry;rcases hq with hq | hq
 ·obtain⟨its,r,pl,hz⟩:=I.list hq;refine SeqAt.notIn_listAt (eqU x) pl.isList (λw hw=>qE7 rx fx r fs w (by simpa using hw)) ⟨.bl _,H,I,rfl,?_⟩;rw [show its.toArray.any (eqU x)=its.any (eqU x) by simp,qGx r fs];exact q
 ·obtain⟨its,r,pl,hz⟩:=I.tuple hq;refine SeqAt.notIn_tupleAt (eqU x) pl (λw hw=>qE7 rx fx r fs w (by simpa using hw)) ⟨.bl _,H,I,rfl,?_⟩;rw [show its.toArray.any (eqU x)=its.any (eqU x) by simp,qGx r fs];exact q
theorem qAf:CallR X (.builtin "len") (λxs H Q => ∃p ys,xs = [.ref p]/\(SqL X.K H p ys\/SqT X.K H p ys)/\Q (.int ys.length) H):=by
 intro pins s σ H xs us Q I r h;obtain⟨p,ys,rfl,hq,q⟩:=h;obtain⟨u,rfl,rx⟩:=vals1 r;cases rx;have hn:=qEl;rcases hq with hq | hq
 ·obtain⟨its,r',pl,hz⟩:=I.list hq;have hlen:=r'.length;exact Calls.call_len_list pl.isList (by simp only [aG] <;> lia) ⟨.int ys.length,H,I.tok _,⟨s.toks+1,by rw [aG,hlen]⟩,q⟩
 ·obtain⟨its,r',pl,hz⟩:=I.tuple hq;have hlen:=r'.length;exact len_tuple pl (by simp only [aG] <;> lia) ⟨.int ys.length,H,I.tok _,⟨s.toks+1,by rw [aG,hlen]⟩,q⟩
theorem qDy:CallR X (.builtin "len") (λxs H Q => ∃z,xs = [.str z]/\z.length<=sizeLine/\Q (.int z.length) H):=by
 intro pins s σ H xs us Q I r h;obtain⟨z,rfl,hz,q⟩:=h;obtain⟨u,rfl,t,rfl⟩:=vals1 r;have hn:=qEl;exact len_str (by lia) ⟨.int z.length,H,I.tok _,⟨_,rfl⟩,q⟩
theorem qCr:CallR X (.type "list") (λxs H Q => ∃p ys,xs = [.ref p]/\(SqL X.K H p ys\/SqT X.K H p ys) /\ ∀l,H l=none->Q (.ref l) (upd H l (.lst ys))):=by
 intro pins s σ H xs us Q I r h;obtain⟨p,ys,rfl,hq,q⟩:=h;obtain⟨u,rfl,rx⟩:=vals1 r;cases rx;have fin:∀(its:List Value),Vals ys its->ys.length<=sizeLine -> ∀(h':Heap) (c':Nat),(∀b o',s.heap.get? b=some o'->h'.get? b=some o') ->
   h'.get? s.heap.objs.size=some { cls :=.type "list",dict:=none,data :=.seq its.toArray c',slots := #[] }->EP X pins σ Q (.ref s.heap.objs.size) { s with heap:=h' }:=λits r' hz h' c' kp e =>
  ⟨.ref s.heap.objs.size,_,I.laid (t':=s.toks) kp (aC _) (show ObjOk X.prog X.w _ h' _ (.lst ys) from⟨hz,its,c',r',e⟩),rfl,q _ (I.hok.fresh (aC _))⟩
 rcases hq with hq | hq
 ·obtain⟨its,r',pl,hz⟩:=I.list hq;have hlen:=r'.length;obtain⟨o,ho,hc,n,hd⟩:=pl.isList;exact call_list_seq p (.inl rfl) ho hc hd (λh' c' kp e=>fin its r' hz h' c' kp e) (by simp only [aG] <;> lia)
 ·obtain⟨its,r',pl,hz⟩:=I.tuple hq;have hlen:=r'.length;obtain⟨o,ho,hc,n,hd⟩:=pl;exact call_list_seq p (.inr rfl) ho hc hd (λh' c' kp e=>fin its r' hz h' c' kp e) (by simp only [aG] <;> lia)
def tyV(K:PySem.W.Frag)(T:String)(x:V)(H:Hp):Prop:=match x with
 | .str _=>T = "str"
 | .int _=>T = "int"
 | .ref p=>(T = "list" /\ ∃xs,SqL K H p xs)\/(T = "tuple" /\ ∃o,K.lookup p=some o/\o.cls = .type "tuple" /\ o.dict=none) \/
   (T = "dict" /\ ((∃kvs,H p=some (.dK kvs)) \/ ∃kvs,H p=some (.dT kvs)))\/(T = "set" /\ ∃S n,H p=some (.set S n))
 | _=>False
theorem qPu{pins:List (Addr×Obj)}{σ : St}{H:Hp}{s:Shared}{T:String}{x:V}{v:Value}(I:Inv X pins σ H s)(r:RelV x v)(ty:tyV X.K T x H):s.TypeIs v T /\ ∀a,v = .ref a -> ∃ob,s.heap.get? a=some ob/\ob.dict=none:=by
 cases x with
 | str z =>
  obtain⟨t,rfl⟩:=r;cases (show T = "str" from ty);exact⟨typeIs_str s z t,λ_ e=>nomatch e⟩
 | int i =>
  obtain⟨t,rfl⟩:=r;cases (show T = "int" from ty);exact⟨typeIs_int s i t,λ_ e=>nomatch e⟩
 | ref p =>
  cases r;rcases ty with ⟨rfl,xs,hq⟩ | ⟨rfl,o,hk,hc,hd⟩ | ⟨rfl,hk⟩ | ⟨rfl,S,n,hk⟩
  ·obtain⟨its,_,pl,_⟩:=I.list hq;refine⟨pl.isList.typeIs,λa e=>?_⟩;cases e;obtain⟨o,n,e,c,hd,_⟩:=pl;exact⟨o,e,hd⟩
  ·refine⟨⟨o,I.kIn p o hk,hc⟩,λa e=>?_⟩;cases e;exact⟨o,I.kIn _ o hk,hd⟩
  ·have z:∃o,s.heap.get? p=some o/\o.ExactDict:=by
    rcases hk with ⟨kvs,hk⟩ | ⟨kvs,hk⟩
    ·obtain⟨_,_,_,_,o,_,_,e,ex,_⟩:=I.hok p _ hk;exact⟨o,e,ex⟩
    ·obtain⟨_,_,_,_,o,_,_,e,ex,_⟩:=I.hok p _ hk;exact⟨o,e,ex⟩
   obtain⟨o,e,ex⟩:=z;refine⟨⟨o,e,ex.1⟩,λa e2=>?_⟩;cases e2;exact⟨o,e,ex.2.1⟩
  ·obtain⟨o,_,_,_,e,ex,_⟩:=I.hok p _ hk;refine⟨⟨o,e,ex.1⟩,λa e2=>?_⟩;cases e2;exact⟨o,e,ex.2.1⟩
 | _=>exact False.elim ty
def tBM0(K:PySem.W.Frag)(T:String)(r:V->List V->Hp->VK->Prop)(to:TE):TE:=λσ H Q=>to σ H λx H1=>tyV K T x H1/\r x [] H1 Q
def tBM(K:PySem.W.Frag)(T:String)(r:V->List V->Hp->VK->Prop)(to:TE)(t:TA):TE:=λσ H Q=>to σ H λx H1=>tyV K T x H1/\t σ H1 λxs H2=>r x xs H2 Q
variable{o e:Expr}{es:List Expr}{to:TE}{t:TA}{name:Str}{apos cpos:Pos}{T id:String}{r:V->List V->Hp->VK->Prop}
theorem qQ2(pa:PlainAttrs T)(slot:Slot T name id)(hty:typeOf (.builtin id)=pure (.type "method_descriptor"))(hm:MtR X id r)(ho:PE X o to)
  (hbase:attributeBase o name X.env (eval o X.env)=eval o X.env:=by rfl) (hline:(apos.endLine == cpos.line)=true:=by rfl):PE X (.Call (.Attribute o name apos) [] [] cpos) (tBM0 X.K T r to):=by
 intro pins s σ H Q I h;refine wpAny_Call_method0_late hbase hline (thn (ho pins s σ H _ I h) λv s1 hq_=>?_);obtain⟨x,H1,I1,r1,ty,q1⟩:=hq_;obtain⟨h1,h2⟩:=qPu I1 r1 ty;exact⟨T,id,pa,slot,hty,h1,h2,Calls.callWith_builtin rfl (PySem.evalArgs_none (hm pins s1 σ H1 x [] v [] Q I1 r1 .nil q1))⟩
theorem qBp(pa:PlainAttrs T)(slot:Slot T name id)(hty:typeOf (.builtin id)=pure (.type "method_descriptor"))(hm:MtR X id r)(ho:PE X o to)(ha:PA X (e::es) t)
  (hbase:attributeBase o name X.env (eval o X.env)=eval o X.env:=by rfl)
  (hfew:((backTo cpos (starEach (e::es) X.env)).all (λx => !x.1)&&(backToKw cpos (keywordEach [] X.env)).all (λx=>x.1.isSome)
   && decide ((e::es).length+([]:List Keyword).length+(if ([]:List Keyword).isEmpty then 0 else 1)<30))=true:=by rfl)
  (hline:(apos.endLine == cpos.line)=true:=by rfl) (hs:starEach (e::es) X.env=(false,eval e X.env)::starEach es X.env:=by rfl) (hplain:(backTo cpos (starEach es X.env)).any (·.1)=false:=by rfl) :
  PE X (.Call (.Attribute o name apos) (e::es) [] cpos) (tBM X.K T r to t):=by
 intro pins s σ H Q I h;refine wpAny_Call_method_late hbase hfew hline rfl (thn (ho pins s σ H _ I h) λv s1 hq_=>?_);obtain⟨x,H1,I1,r1,ty,q1⟩:=hq_;obtain⟨h1,h2⟩:=qPu I1 r1 ty;refine⟨T,id,pa,slot,hty,h1,h2,?_⟩;have hA:=ha cpos pins s1 σ H1 _ I1 q1;rw [hs] at hA ⊢;refine Calls.callWith_builtin (by show (false||(backTo cpos (starEach es X.env)).any (·.1))=false;rw [hplain] <;> rfl) (Calls.evalArgs_plain ?_);refine thn hA λus s2 hq_=>?_;obtain⟨vs,H2,I2,r2,q2⟩:=hq_;exact hm pins s2 σ H2 x vs v us Q I2 r1 r2 q2
end
def MtM(X:Cx)(id:String)(r:V->List V->Hp->VK->Prop):Prop :=
 ∀(pins:List (Addr×Obj)) (s:Shared) (σ : St) (H:Hp) (x:V) (xs:List V) (v:Value) (us:List Value) (Q:VK),Inv X pins σ H s->RelV x v->Vals xs us->r x xs H Q ->
  wpAny (model X.prog X.w) X.A (call (.builtin id) (v::us)) (EP X pins σ Q) X.xe s
theorem Vals.one{x:V}{us:List Value}(h:Vals [x] us):∃u,us = [u]/\RelV x u:=by
 cases h with | cons r t=>cases t;exact⟨_,rfl,r⟩
theorem Vals.two{x y:V}{us:List Value}(h:Vals [x,y] us):∃u v,us = [u,v]/\RelV x u/\RelV y v:=by
 cases h with | cons r t=>cases t with | cons q t=>cases t;exact⟨_,_,rfl,r,q⟩
theorem Vals.zero:∀ {us:List Value},Vals [] us->us = []
 | _,.nil=>rfl
theorem Vals.dropLast{xs:List V}{us:List Value}(h:Vals xs us):Vals xs.dropLast us.dropLast:=by
 induction h with
 | nil=>exact .nil
 | cons r t ih =>
  cases t with
  | nil=>exact .nil
  | cons q t'=>exact .cons r ih
theorem Vals.eraseIdx:∀ {xs:List V} {us:List Value} (i:Nat),Vals xs us->Vals (xs.eraseIdx i) (us.eraseIdx i)
 | _,_,_,.nil =>.nil
 | _,_,0,.cons _ t=>t
 | _,_,i+1,.cons r t =>.cons r (Vals.eraseIdx i t)
theorem Vals.reverse{xs:List V}{us:List Value}(h:Vals xs us):Vals xs.reverse us.reverse:=by
 induction h with
 | nil=>exact .nil
 | cons r t ih=>rw [List.reverse_cons,List.reverse_cons];exact Vals.append ih (.cons r .nil)
theorem qKw{α : Type}(l:List α):l.eraseIdx (l.length - 1)=l.dropLast:=by
 induction l with
 | nil=>rfl
 | cons a r ih =>
  cases r with
  | nil=>rfl
  | cons b r =>
   have e:(a::b::r).length - 1=((b::r).length - 1)+1:=by
    have h1:(a::b::r).length=r.length+2:=rfl;have h2:(b::r).length=r.length+1:=rfl;lia
   rw [e,List.eraseIdx_cons_succ,ih]
   all_goals rfl
theorem qHj{α : Type}:∀(l:List α) (i:Nat),(l.eraseIdx i).length<=l.length
 | [],_=>aC _
 | _::_,0=>Nat.le_succ _
 | _::r,i+1=>Nat.succ_le_succ (qHj r i)
section
variable{X:Cx}{pins:List (Addr×Obj)}{σ : St}{H:Hp}{s:Shared}{l b:Addr}{xs ys zs:List V}
theorem Inv.lset{its its':List Value}{n:Nat}{f:Array Value->Array Value}{t':Nat}(I:Inv X pins σ H s)(hH:H l=some (.lst xs))
  (e:s.heap.get? l=some { cls :=.type "list",data :=.seq its.toArray n }) (hf:f its.toArray=its'.toArray) (hv:Vals ys its') (hz:ys.length<=sizeLine) :
  Inv X pins σ (upd H l (.lst ys)) { s with heap:=s.heap.update l (Obj.mapSeq f),toks:=t' }:=by
 have q:=PySem.IsL.update e f;rw [hf] at q;refine I.write (x:=l) (e:=l) (by rw [hH];exact trivial) (.inl rfl) (λb' u hb hu=>(Heap.get?_update_other s.heap (Obj.mapSeq f) (dS hb)).trans hu) ⟨_,q⟩ ?_;exact⟨hz,its',_,hv,q⟩
theorem Inv.lnew{its:List Value}{t':Nat}(I:Inv X pins σ H s)(hv:Vals ys its)(hz:ys.length<=sizeLine):Inv X pins σ (upd H s.heap.objs.size (.lst ys)) { s with heap:=s.heap.push { cls :=.type "list",data :=.seq its.toArray },toks:=t' } :=
 I.laid (λ_ _ q=>aE _ q) (aC _) ⟨hz,its,0,hv,aR _ rfl⟩
theorem Inv.fresh(I:Inv X pins σ H s):H s.heap.objs.size=none:=I.hok.fresh (aC _)
theorem Inv.lstM(I:Inv X pins σ H s)(hH:H l=some (.lst xs)):xs.length<=sizeLine /\ ∃(its:List Value) (n:Nat),Vals xs its/\xs.length=its.length/\s.heap.get? l=some { cls :=.type "list",data :=.seq its.toArray n }:=by
 obtain⟨z,its,n,r,e⟩:=I.hok l _ hH;exact⟨z,its,n,r,r.length,e⟩
theorem qP3{n:Nat}(h:n<=sizeLine):Builtin.List.listTooLong n=false:=by
 unfold Builtin.List.listTooLong;exact decide_eq_false (by lia)
end
section
variable{X:Cx}
def qGf:V->List V->Hp->VK->Prop:=λx vs H Q => ∃l xs y,x = .ref l/\vs = [y]/\H l=some (.lst xs)/\xs.length<sizeLine/\Q .non (upd H l (.lst (xs ++ [y])))
theorem qAs:MtM X "list.append" qGf:=by
 intro pins s σ H x vs v us Q I rx rv h;obtain⟨l,xs,y,rfl,rfl,hH,hz,q⟩:=h;cases rx;obtain⟨u,rfl,ru⟩:=rv.one;obtain⟨z,its,n,r,hl,e⟩:=I.lstM hH;refine dP F.slot_list_append ⟨_,e,rfl⟩ F.entry_list_append (F.args_list_append_2 _ _) (PySem.list_append l its.toArray n u (by rw [aG];lia)) ⟨e,?_⟩;refine⟨.non,_,I.lset (its':=its ++ [u]) hH e (by simp) (r.append (.cons ru .nil)) ?_,rfl,q⟩;rw [aN,List.length_singleton];lia
def qQq:V->List V->Hp->VK->Prop:=λx vs H Q => ∃l b xs zs,x = .ref l/\vs = [.ref b]/\H l=some (.lst xs)/\H b=some (.lst zs)/\xs.length+zs.length<=sizeLine/\Q .non (upd H l (.lst (xs++zs)))
theorem qHg:MtM X "list.extend" qQq:=by
 intro pins s σ H x vs v us Q I rx rv h;obtain⟨l,b,xs,zs,rfl,rfl,hH,hB,hz,q⟩:=h;cases rx;obtain⟨u,rfl,ru⟩:=rv.one;cases ru;obtain⟨z,its,n,r,hl,e⟩:=I.lstM hH;obtain⟨z2,its2,n2,r2,hl2,e2⟩:=I.lstM hB;have hsz:its.toArray.size+its2.toArray.size<=sizeLine:=by rw [aG,aG];lia
 have hlong : ¬(!its.toArray.isEmpty&&Builtin.List.listTooLong (its.toArray.size+its2.toArray.size))=true:=by
  rw [qP3 hsz,Bool.and_false];exact aH
 refine dP F.slot_list_extend ⟨_,e,rfl⟩ F.entry_list_extend (F.args_list_extend_2 _ _)
  (AutoSeq1.list_extend_list_list_0 l its.toArray n b its2.toArray n2 hlong (by rw [aG];lia) (by lia)) ⟨e,e2,?_⟩
 refine⟨.non,_,I.lset (its':=its++its2) hH e (by simp) (r.append r2) ?_,rfl,q⟩;rw [aN];lia
def rPop:V->List V->Hp->VK->Prop:=λx vs H Q => ∃l xs y,x = .ref l/\vs = []/\H l=some (.lst xs)/\xs[xs.length - 1]? = some y/\Q y (upd H l (.lst xs.dropLast))
theorem qSk:MtM X "list.pop" rPop:=by
 intro pins s σ H x vs v us Q I rx rv h;obtain⟨l,xs,y,rfl,rfl,hH,hy,q⟩:=h;cases rx;have hus:=rv.zero;subst hus;obtain⟨z,its,n,r,hl,e⟩:=I.lstM hH;obtain⟨u,hu,ru⟩:=r.get hy;have hy':its.toArray[its.toArray.size - 1]? = some u:=by
  show its.toArray[its.length - 1]? = some u;rw [<-bK,<-hl];exact hu
 refine dP F.slot_list_pop ⟨_,e,rfl⟩ F.entry_list_pop (F.args_list_pop_1 _) (MeetsSeq.list_pop_last l its.toArray n u hy' (by rw [aG];lia)) ⟨e,?_⟩;refine⟨y,_,I.lset (its':=its.dropLast) hH e ?_ r.dropLast ?_,ru,q⟩
 ·show its.toArray.eraseIdxIfInBounds (its.toArray.size - 1)=its.dropLast.toArray;rw [aG,List.eraseIdxIfInBounds_toArray,qKw]
 ·rw [List.length_dropLast];lia
def qS6:V->List V->Hp->VK->Prop:=λx vs H Q => ∃l xs i k y,x = .ref l/\vs = [.int i]/\H l=some (.lst xs) /\ -(2^63)<=i/\i<2^63/\seqIndex? i xs.length=some k/\xs[k]? = some y/\Q y (upd H l (.lst (xs.eraseIdx k)))
theorem qP6:MtM X "list.pop" qS6:=by
 intro pins s σ H x vs v us Q I rx rv h;obtain⟨l,xs,i,k,y,rfl,rfl,hH,h1,h2,hk,hy,q⟩:=h;cases rx;obtain⟨u,rfl,ru⟩:=rv.one;obtain⟨t,rfl⟩:=ru;obtain⟨z,its,n,r,hl,e⟩:=I.lstM hH;obtain⟨w,hw,rw'⟩:=r.get hy;refine dP F.slot_list_pop ⟨_,e,rfl⟩ F.entry_list_pop (F.args_list_pop_2 _ _)
  (MeetsSeq.list_pop_at l its.toArray n i t k w (fitsIndex_both h1 h2) (by rw [aG,<-hl];exact hk) (by rw [<-bK];exact hw) (by rw [aG];lia)) ⟨e,?_⟩
 refine⟨y,_,I.lset (its':=its.eraseIdx k) hH e ?_ (r.eraseIdx k) ?_,rw',q⟩
 ·show its.toArray.eraseIdxIfInBounds k=(its.eraseIdx k).toArray;rw [List.eraseIdxIfInBounds_toArray]
 ·have:=qHj xs k;lia
def qOg:V->List V->Hp->VK->Prop:=λx vs H Q => ∃l xs,x = .ref l/\vs = []/\H l=some (.lst xs)/\Q .non (upd H l (.lst xs.reverse))
theorem qKr:MtM X "list.reverse" qOg:=by
 intro pins s σ H x vs v us Q I rx rv h;obtain⟨l,xs,rfl,rfl,hH,q⟩:=h;cases rx;have hus:=rv.zero;subst hus;obtain⟨z,its,n,r,hl,e⟩:=I.lstM hH;refine dP F.slot_list_reverse ⟨_,e,rfl⟩ F.entry_list_reverse (F.args_list_reverse_1 _) (AutoSeq1.list_reverse_list_0 l its.toArray n (by rw [aG];lia)) ⟨e,?_⟩;refine⟨.non,_,I.lset (its':=its.reverse) hH e (by simp) r.reverse ?_,rfl,q⟩;rw [List.length_reverse];lia
end
section
variable{κ : Type} [DecidableEq κ]
def valV(kvs:List (κ × V))(k : κ):Option V:=(kvs.find? λkv=>decide (kv.1=k)).map (·.2)
def putK(kvs:List (κ × V))(k : κ)(v:V):List (κ × V):=if (kvs.any λkv=>decide (kv.1=k))=true then kvs.map (λkv=>if kv.1=k then (kv.1,v) else kv) else kvs ++ [(k,v)]
theorem qB8{p : κ × V}{r:List (κ × V)}{k : κ}(e:p.1=k):valV (p::r) k=some p.2:=by simp [valV,dD,e]
theorem qB9{p : κ × V}{r:List (κ × V)}{k : κ}(e : ¬p.1=k):valV (p::r) k=valV r k:=by simp [valV,dD,e]
theorem qDd(k : κ):∀kvs:List (κ × V),(kvs.any λkv=>decide (kv.1=k))=(valV kvs k).isSome
 | []=>rfl
 | p::r=>by
  rw [List.any_cons];by_cases e:p.1=k
  ·simp only [qB8 e,decide_eq_true e,Bool.true_or,Option.isSome_some]
  ·rw [qB9 e,decide_eq_false e,Bool.false_or];exact qDd k r
theorem qIt(k j : κ)(y:V):∀kvs:List (κ × V),valV (kvs.map λkv=>if kv.1=k then (kv.1,y) else kv) j=(valV kvs j).map λx=>if j=k then y else x
 | []=>rfl
 | p::r=>by
  have ih:=qIt k j y r;rw [bJ];by_cases h:p.1=k
  ·rw [if_pos h];by_cases e:p.1=j
   ·rw [qB8 (p:=(p.1,y)) e,qB8 e,Option.map_some,if_pos (e.symm.trans h)]
   ·rw [qB9 (p:=(p.1,y)) e,qB9 e,ih]
  ·rw [if_neg h];by_cases e:p.1=j
   ·rw [qB8 (p:=p) e,qB8 e,Option.map_some,if_neg (λz=>h (e.trans z))]
   ·rw [qB9 (p:=p) e,qB9 e,ih]
theorem qGz(k j : κ)(y:V):∀kvs:List (κ × V),valV kvs k=none->valV (kvs ++ [(k,y)]) j=if j=k then some y else valV kvs j
 | [],_=>by
  by_cases e:k=j
  ·rw [if_pos e.symm];exact qB8 (p:=(k,y)) e
  ·rw [if_neg (λz=>e z.symm)];exact qB9 (p:=(k,y)) e
 | p::r,hn=>by
  rw [List.cons_append];have hk : ¬p.1=k:=λz=>by rw [qB8 z] at hn;cases hn
  rw [qB9 hk] at hn;have ih:=qGz k j y r hn;by_cases e:p.1=j
  ·rw [qB8 e,qB8 e,if_neg (λz=>hk (e.trans z))]
  ·rw [qB9 e,qB9 e,ih]
theorem qIs(kvs:List (κ × V))(k j : κ)(y:V):valV (putK kvs k y) j=if j=k then some y else valV kvs j:=by
 unfold putK;by_cases a:(kvs.any λkv=>decide (kv.1=k))=true
 ·rw [if_pos a,qIt];rw [qDd] at a;by_cases e:j=k
  ·obtain⟨x,hx⟩:=Option.isSome_iff_exists.mp a;rw [if_pos e,e,hx,Option.map_some,if_pos rfl]
  ·rw [if_neg e];cases valV kvs j with
   | none=>rfl
   | some x=>rw [Option.map_some,if_neg e]
 ·rw [if_neg a];refine qGz k j y kvs ?_;rw [qDd] at a;cases q:valV kvs k with
  | none=>rfl
  | some x=>rw [q] at a;exact (a rfl).elim
theorem qBl(kvs:List (κ × V))(k : κ)(v:V):(putK kvs k v).length<=kvs.length+1:=by
 unfold putK;split
 ·rw [aB];lia
 ·rw [aN,bA,dE];lia
theorem qOi{kvs:List (κ × V)}{k : κ}(v:V)(h:valV kvs k=none):putK kvs k v=kvs ++ [(k,v)]:=by
 unfold putK;rw [qDd,h];exact if_neg (by decide)
theorem RelO.isSome_eq{o:Option V}{u:Option Value}(r:RelO o u):o.isSome=u.isSome:=by
 cases o with
 | none=>cases u with
  | none=>rfl
  | some _=>exact (show False from r).elim
 | some _=>cases u with
  | none=>exact (show False from r).elim
  | some _=>rfl
theorem RelO.getD{o:Option V}{u:Option Value}{d:V}{d':Value}(r:RelO o u)(rd:RelV d d'):RelV (o.getD d) (u.getD d'):=by
 cases o with
 | none=>cases u with
  | none=>exact rd
  | some _=>exact (show False from r).elim
 | some _=>cases u with
  | none=>exact (show False from r).elim
  | some _=>exact r
theorem KV.val{kvs:List (κ × V)}{vs:List (κ × Value)}(r:KV kvs vs)(k : κ):RelO (valV kvs k) (valueAt vs k):=by
 unfold KV at r
 induction r with
 | nil=>exact True.intro
 | @cons p q ps qs h t ih =>
  obtain⟨h1,h2⟩:=h;by_cases e:p.1=k
  ·have e':q.1=k:=h1.symm.trans e;have b:valueAt (q::qs) k=some q.2:=by simp [valueAt,dD,e']
   rw [qB8 e,b];exact h2
  ·have e' : ¬q.1=k:=λz=>e (h1.trans z);have b:valueAt (q::qs) k=valueAt qs k:=by simp [valueAt,dD,e']
   rw [qB9 e,b];exact ih
theorem KV.any{kvs:List (κ × V)}{vs:List (κ × Value)}(r:KV kvs vs)(k : κ):(kvs.any λkv=>decide (kv.1=k))=vs.any λkv=>decide (kv.1=k):=by
 unfold KV at r
 induction r with
 | nil=>rfl
 | cons h t ih=>rw [List.any_cons,List.any_cons,ih,h.1]
theorem KV.repl{kvs:List (κ × V)}{vs:List (κ × Value)}(r:KV kvs vs)(k : κ){y:V}{u:Value}(ry:RelV y u):KV (kvs.map λkv=>if kv.1=k then (kv.1,y) else kv) (vs.map λkv=>if kv.1=k then (kv.1,u) else kv):=by
 unfold KV at r ⊢
 induction r with
 | nil=>exact .nil
 | @cons p q ps qs h t ih =>
  rw [bJ,bJ];refine .cons ?_ ih;obtain⟨h1,h2⟩:=h;by_cases e:p.1=k
  ·rw [if_pos e,if_pos (h1.symm.trans e)];exact⟨h1,ry⟩
  ·rw [if_neg e,if_neg (λz=>e (h1.trans z))];exact⟨h1,h2⟩
theorem KV.put{kvs:List (κ × V)}{vs:List (κ × Value)}(r:KV kvs vs)(k : κ){y:V}{u:Value}(ry:RelV y u):KV (putK kvs k y) (stored vs k u):=by
 unfold putK stored;rw [r.any k];by_cases e:(vs.any λkv=>decide (kv.1=k))=true
 ·rw [if_pos e,if_pos e];exact r.repl k ry
 ·rw [if_neg e,if_neg e];exact Paired.snoc r ⟨rfl,ry⟩
theorem KV.length{kvs:List (κ × V)}{vs:List (κ × Value)}(r:KV kvs vs):kvs.length=vs.length:=cV r
end
theorem qIj{P:Program}{w:World}{k:Key}{u:Value}(r:RelV (kV k) u):(qBe P w).is k u=true:=by
 cases k with
 | inl i=>obtain⟨t,e⟩:=(show ∃t,u=Value.int i t from r);subst e;exact qIg P w i t
 | inr x=>obtain⟨t,e⟩:=(show ∃t,u=Value.str x t from r);subst e;exact qIf P w x t
theorem qHn{P:Program}{w:World}:∀ {ks:List Key} {us:List Value},Vals (ks.map kV) us->ItemsAre (qBe P w) ks us
 | [],_,r=>by rw [List.map_nil] at r;cases r;exact .nil
 | k::ks,_,r=>by
  rw [bJ] at r;cases r with
  | cons h t=>exact .cons (qIj h) (qHn t)
abbrev KT(H:Hp):List (List Key×V)->List (List Key×Addr×Value)->Prop:=Paired λp q=>p.1=q.1/\H q.2.1=some (.tup (p.1.map kV))/\RelV p.2 q.2.2
theorem KT.val{H:Hp}{kvs:List (List Key×V)}{xs:List (List Key×Addr×Value)}(r:KT H kvs xs)(k:List Key):RelO (valV kvs k) ((atKey xs k).map (·.2)):=by
 induction r with
 | nil=>exact True.intro
 | @cons p q ps qs h t ih =>
  obtain⟨h1,_,h2⟩:=h;by_cases e:p.1=k
  ·have e':q.1=k:=h1.symm.trans e;have b:atKey (q::qs) k=some q.2:=by simp [atKey,dD,e']
   rw [qB8 e,b];exact h2
  ·have e' : ¬q.1=k:=λz=>e (h1.trans z);have b:atKey (q::qs) k=atKey qs k:=by simp [atKey,dD,e']
   rw [qB9 e,b];exact ih
theorem KT.repl{H:Hp}{kvs:List (List Key×V)}{xs:List (List Key×Addr×Value)}(r:KT H kvs xs)(k:List Key){y:V}{u:Value}(ry:RelV y u):KT H (kvs.map λkv=>if kv.1=k then (kv.1,y) else kv) (xs.map (putAt k u)):=by
 induction r with
 | nil=>exact .nil
 | @cons p q ps qs h t ih =>
  rw [bJ,bJ];refine .cons ?_ ih;obtain⟨h1,h2,h3⟩:=h;unfold putAt;by_cases e:p.1=k
  ·rw [if_pos e,if_pos (h1.symm.trans e)];exact⟨h1,h2,ry⟩
  ·rw [if_neg e,if_neg (λz=>e (h1.trans z))];exact⟨h1,h2,h3⟩
theorem KT.put{H:Hp}{kvs:List (List Key×V)}{xs:List (List Key×Addr×Value)}(r:KT H kvs xs)(k:List Key){b:Addr}{y:V}{u:Value}(hb:H b=some (.tup (k.map kV)))(ry:RelV y u):KT H (putK kvs k y) (storedH xs k b u):=by
 have e:(kvs.any λkv=>decide (kv.1=k))=(atKey xs k).isSome:=by
  rw [qDd,(r.val k).isSome_eq,Option.isSome_map]
 unfold putK storedH;rw [e];by_cases q:(atKey xs k).isSome=true
 ·rw [if_pos q,if_pos q];exact r.repl k ry
 ·rw [if_neg q,if_neg q];exact Paired.snoc r ⟨rfl,hb,ry⟩
theorem KT.keeps{H H':Hp}{kvs:List (List Key×V)}{xs:List (List Key×Addr×Value)}(r:KT H kvs xs)(ht:∀b ys,H b=some (.tup ys)->H' b=some (.tup ys)):KT H' kvs xs:=Paired.mapP r λ_ _ z=>⟨z.1,ht _ _ z.2.1,z.2.2⟩
section
variable{P:Program}{w:World}{H:Hp}{h:Heap}{a:Addr}
theorem qRw{u:HO}(ok:HOk P w H h)(e:Rd H a u):ObjOk P w H h a u:=e.ok ok
theorem qKx{kvs:List (Key×V)}(ok:HOk P w H h)(e:Rd H a (.dK kvs)):kvs.length<=sizeLine/\(a == sysModules)=false /\ ∃vs,KV kvs vs/\h.DictOf (qBe P w) a vs:=show ObjOk P w H h a (.dK kvs) from qRw ok e
theorem qPk{kvs:List (Key×V)}(ok:HOk P w H h)(e:H a=some (.dK kvs)):kvs.length<=sizeLine/\(a == sysModules)=false /\ ∃vs,KV kvs vs/\h.DictOf (qBe P w) a vs:=qKx ok (.inl e)
theorem qHl{ks:List Key}(ok:HOk P w H h)(e:H a=some (.tup (ks.map kV))):(tupleKind (qBe P w)).is h ks a:=by
 obtain⟨_,its,r,o,h1,h2,n,h3⟩:=(show ObjOk P w H h a (.tup (ks.map kV)) from ok a _ e);exact⟨o,its.toArray,n,h1,h2,h3,by simpa using qHn r⟩
theorem qN6{kvs:List (List Key×V)}(ok:HOk P w H h)(e:Rd H a (.dT kvs)):kvs.length<=sizeLine/\(a == sysModules)=false /\
  ∃xs,KT H kvs xs/\h.DictOfH (tupleKind (qBe P w)) a xs:=by
 obtain⟨z,y,xs,r,o,es,ep,h1,h2,h3,h4,h5⟩:=(show ObjOk P w H h a (.dT kvs) from qRw ok e);refine⟨z,y,xs,r,o,es,ep,h1,h2,h3,h4,λx hx=>?_,h5⟩;have all:∀ {l:List (List Key×V)} {m:List (List Key×Addr×Value)},KT H l m -> ∀x∈m,(tupleKind (qBe P w)).is h x.1 x.2.1:=by
  intro l m q
  induction q with
  | nil=>intro x hx;exact nomatch hx
  | @cons p q ps qs hq t ih =>
   intro x hx;rcases aJ.mp hx with e | hx
   ·subst e;exact qHl ok (by rw [<-hq.1];exact hq.2.1)
   ·exact ih x hx
 exact all r x hx
theorem qTa{kvs:List (List Key×V)}(ok:HOk P w H h)(e:H a=some (.dT kvs)):kvs.length<=sizeLine/\(a == sysModules)=false /\
  ∃xs,KT H kvs xs/\h.DictOfH (tupleKind (qBe P w)) a xs:=qN6 ok (.inl e)
end
def DGet(H:Hp)(a:Addr)(y:V)(r:Option V):Prop:=(∃kvs k,Rd H a (.dK kvs)/\y=kV k/\r=valV kvs k) \/ ∃kvs k b,Rd H a (.dT kvs)/\y = .ref b/\H b=some (.tup (k.map kV))/\r=valV kvs k
def DPut(H:Hp)(a:Addr)(y v:V)(H':Hp):Prop :=
 (∃kvs k,H a=some (.dK kvs)/\y=kV k/\kvs.length<sizeLine/\H'=upd H a (.dK (putK kvs k v))) \/
 ∃kvs k b,H a=some (.dT kvs)/\y = .ref b/\H b=some (.tup (k.map kV))/\kvs.length<sizeLine/\H'=upd H a (.dT (putK kvs k v))
theorem DGet.k{H:Hp}{a:Addr}{kvs:List (Key×V)}{k:Key}(e:H a=some (.dK kvs)):DGet H a (kV k) (valV kvs k) :=.inl ⟨kvs,k,.inl e,rfl,rfl⟩
theorem DPut.k{H:Hp}{a:Addr}{kvs:List (Key×V)}{k:Key}{v:V}(e:H a=some (.dK kvs))(hl:kvs.length<sizeLine):DPut H a (kV k) v (upd H a (.dK (putK kvs k v))) :=.inl ⟨kvs,k,e,rfl,hl,rfl⟩
section
variable{X:Cx}{pins:List (Addr×Obj)}{σ : St}{H:Hp}{s:Shared}{a:Addr}{y v:V}{u r:Value}{o:Option V}{A:Around}{E:Value->Shared->Prop}
theorem Inv.big(I:Inv X pins σ H s):sysModules<s.heap.objs.size:=by
 have h:mainGlobals<s.heap.objs.size:=(I.mod.glob.keeps I.bk).lt;exact Nat.lt_trans (by decide) h
theorem d_in{Q:Value->Shared->Prop}(hu:A.units+1<cLine)(I:Inv X pins σ H s)(g:DGet H a y o)(ry:RelV y u)(h:∀s',Inv X pins σ H s'->Q (.bool o.isSome) s'):wpAny (model X.prog X.w) A (compareOp .In u (.ref a)) Q E s:=by
 rcases g with ⟨kvs,k,e,ey,l⟩ | ⟨kvs,k,b,e,ey,eb,l⟩
 ·subst ey;obtain⟨z,hd,vs,rel,dd⟩:=qKx I.hok e;refine wpAny_in_of (qIj ry) hd dd.mapOf ?_;rw [<-(rel.val k).isSome_eq,<-l];exact h _ (I.tok _)
 ·subst ey;cases (show u=Value.ref b from ry);obtain⟨z,hd,xs,rel,dd⟩:=qN6 I.hok e;refine wpAny_in_heap (tupleKind_room_in1 hu) (qHl I.hok eb) hd dd ?_;have q:=(rel.val k).isSome_eq;rw [Option.isSome_map] at q;rw [<-q,<-l];exact h _ (I.tok _)
theorem qRf{Q:Value->Shared->Prop}(hu:A.units+1<cLine)(I:Inv X pins σ H s)(g:DGet H a y o)(ry:RelV y u)(h:∀s',Inv X pins σ H s'->Q (.bool (!o.isSome)) s'):wpAny (model X.prog X.w) A (compareOp .NotIn u (.ref a)) Q E s:=by
 rcases g with ⟨kvs,k,e,ey,l⟩ | ⟨kvs,k,b,e,ey,eb,l⟩
 ·subst ey;obtain⟨z,hd,vs,rel,dd⟩:=qKx I.hok e;refine wpAny_notIn_of (qIj ry) hd dd.mapOf ?_;rw [<-(rel.val k).isSome_eq,<-l];exact h _ (I.tok _)
 ·subst ey;cases (show u=Value.ref b from ry);obtain⟨z,hd,xs,rel,dd⟩:=qN6 I.hok e;refine wpAny_notIn_heap (tupleKind_room_in1 hu) (qHl I.hok eb) hd dd ?_;have q:=(rel.val k).isSome_eq;rw [Option.isSome_map] at q;rw [<-q,<-l];exact h _ (I.tok _)
theorem qGq{h':Heap}{t':Nat}{ob:HO}(I:Inv X pins σ H s)(mu:Mut (H a))(hs:Heap.SameBut a s.heap h')(he:∃q,h'.get? a=some q)(new:ObjOk X.prog X.w (upd H a ob) h' a ob):Inv X pins σ (upd H a ob) { s with heap:=h',toks:=t' } :=
 I.write (x:=a) (e:=a) mu (.inl rfl) (λb q hb z=>(hs.2 b hb).trans z) he new
theorem qN7{P:Program}{w:World}{H':Hp}{h':Heap}{kvs:List (Key×V)}{vs:List (Key×Value)}(z:kvs.length<=sizeLine)(hd:(a == sysModules)=false)(rel:KV kvs vs)(dd:h'.DictOf (qBe P w) a vs):ObjOk P w H' h' a (.dK kvs):=⟨z,hd,vs,rel,dd⟩
theorem qNd{H':Hp}{Q:Unit->Shared->Prop}(hu:A.units+1<cLine)(I:Inv X pins σ H s)(g:DPut H a y v H')(ry:RelV y u)(rv:RelV v r)(h:∀s',Inv X pins σ H' s'->Q () s'):wpAny (model X.prog X.w) A (setItem (.ref a) u r) Q E s:=by
 rcases g with ⟨kvs,k,e,ey,l,eH⟩ | ⟨kvs,k,b,e,ey,eb,l,eH⟩
 ·subst ey eH;obtain⟨z,hd,vs,rel,dd⟩:=qPk I.hok e;have hz:vs.length<=sizeLine:=by rw [<-rel.length];exact z
  have hl:(putK kvs k v).length<=sizeLine:=by have:=qBl kvs k v;lia
  refine wpAny_setItem_pairs (hsz:=hz) (qIj ry) dd λh' dd' hs=>h _ ?_;have he:∃q,h'.get? a=some q:=let ⟨q,_,_,hq,_⟩:=dd';⟨q,hq⟩
  exact qGq I (by rw [e];exact True.intro) hs he (qN7 hl hd (rel.put k rv) dd')
 ·subst ey eH;cases (show u=Value.ref b from ry);obtain⟨z,hd,xs,rel,dd⟩:=qTa I.hok e;have hz:xs.length<=sizeLine:=by rw [<-cV rel];exact z
  have hl:(putK kvs k v).length<=sizeLine:=by have:=qBl kvs k v;lia
  refine wpAny_setItem_heap (hsz:=hz) (tupleKind_room_in1 hu) (qHl I.hok eb) dd λh' dd' hs=>h _ ?_;obtain⟨q,es,ep,hq,h2,h3,h4,_,h5⟩:=dd';refine qGq I (by rw [e];exact True.intro) hs ⟨q,hq⟩ ⟨hl,hd,_,(rel.put k eb rv).keeps λc ys ec=>?_,q,es,ep,hq,h2,h3,h4,h5⟩;rw [qA5 (qKq ec e (λz=>nomatch z))];exact ec
end
section
variable{X:Cx}{pins:List (Addr×Obj)}{σ : St}{H:Hp}{s:Shared}{a:Addr}{kvs:List (Key×V)}{k:Key}{u:Value}{A:Around}{E:Value->Shared->Prop}
theorem qTb{Q:Value->Shared->Prop}(I:Inv X pins σ H s)(e:Rd H a (.dK kvs))(h:∀t s',Inv X pins σ H s'->Q (.int kvs.length t) s'):wpAny (model X.prog X.w) A (call (.builtin "len") [.ref a]) Q E s:=by
 obtain⟨z,hd,vs,rel,dd⟩:=qKx I.hok e;refine call_len_dict hd dd (by rw [<-rel.length];rw [bS] at z;lia) ?_;rw [<-rel.length];exact h _ _ (I.tok _)
end
def tDGet(td ty:TE):TE:=λσ H Q=>td σ H λx H1=>ty σ H1 λy H2 => ∃a v,x = .ref a/\DGet H2 a y (some v)/\Q v H2
def tDIn(ty td:TE):TE:=λσ H Q=>ty σ H λy H1=>td σ H1 λx H2 => ∃a o,x = .ref a/\DGet H2 a y o/\Q (.bl o.isSome) H2
def qLe(ty td:TE):TE:=λσ H Q=>ty σ H λy H1=>td σ H1 λx H2 => ∃a o,x = .ref a/\DGet H2 a y o/\Q (.bl (!o.isSome)) H2
def sDPut(td ty tv:TE):TS:=λD σ H=>tv σ H λv H1=>td σ H1 λx H2=>ty σ H2 λy H3 => ∃a H4,x = .ref a/\DPut H3 a y v H4/\D.nx σ H4
section
variable{X:Cx}{o i e value:Expr}{pos pos' tpos:Pos}{td ty tv:TE}
theorem qSc(hu:X.A.units+1<cLine)(hi:PE X i ty)(ho:PE X o td):PC X .In i o (tDIn ty td):=by
 intro pins s σ H Q I h;refine thn (hi pins s σ H _ I h) λiv s1 hq_=>?_;obtain⟨y,H1,I1,ry,q1⟩:=hq_;refine thn (ho pins s1 σ H1 _ I1 q1) λu s2 hq_=>?_;obtain⟨x,H2,I2,rx,a,ov,ex,g,q2⟩:=hq_;subst ex;obtain rfl:u=Value.ref a:=rx;exact d_in hu I2 g ry λs3 I3=>⟨.bl ov.isSome,H2,I3,rfl,q2⟩
theorem qM8(hu:X.A.units+1<cLine)(hi:PE X i ty)(ho:PE X o td):PC X .NotIn i o (qLe ty td):=by
 intro pins s σ H Q I h;refine thn (hi pins s σ H _ I h) λiv s1 hq_=>?_;obtain⟨y,H1,I1,ry,q1⟩:=hq_;refine thn (ho pins s1 σ H1 _ I1 q1) λu s2 hq_=>?_;obtain⟨x,H2,I2,rx,a,ov,ex,g,q2⟩:=hq_;subst ex;obtain rfl:u=Value.ref a:=rx;exact qRf hu I2 g ry λs3 I3=>⟨.bl (!ov.isSome),H2,I3,rfl,q2⟩
theorem qQr(hu:X.A.units+1<cLine)(ho:PE X o td)(hi:PE X i ty)(hv:PE X value tv)(hs:swapsWith value (some (.Subscript o i pos')) pos.line X.env=pure false):PS X (.Assign [.Subscript o i pos'] value pos) (sDPut td ty tv):=by
 intro pins s σ H D I h;refine wpAny_Assign_Subscript (thn (hv pins s σ H _ I h) λr s1 hq_=>?_) hs;obtain⟨v,H1,I1,rv,q1⟩:=hq_;refine thn (ho pins s1 σ H1 _ I1 q1) λu s2 hq_=>?_;obtain⟨x,H2,I2,rx,q2⟩:=hq_;refine thn (hi pins s2 σ H2 _ I2 q2) λiv s3 hq_=>?_;obtain⟨y,H3,I3,ry,a,H4,ex,g,q3⟩:=hq_;subst ex;obtain rfl:u=Value.ref a:=rx;exact qNd hu I3 g ry rv λs4 I4=>⟨σ,H4,I4,q3⟩
end
theorem qJz{P:Program}{w:World}{H:Hp}(h:Heap)(hb:sysModules<h.objs.size):ObjOk P w H (h.push { cls :=.type "dict",data :=.dict #[] }) h.objs.size (.dK []):=⟨aW _,beq_eq_false_iff_ne.mpr (dS (aY hb)),[],.nil,Heap.DictOf.new h⟩
def qPv:TE:=λ_ H Q => ∀p,H p=none->Q (.ref p) (upd H p (.dK []))
section
variable{X:Cx}{pos:Pos}
theorem qJn:PE X (.Dict [] [] pos) qPv:=λpins s σ H Q I h =>
 wpAny_Dict_empty ⟨.ref s.heap.objs.size,_,I.laid (a:=s.heap.objs.size) (o :=.dK []) (t':=s.toks) (λ_ _ q=>aE _ q) (aC _) (qJz s.heap I.big),rfl,h _ (I.hok.fresh (aC _))⟩
end
def qFo(kvs more:List (Key×V)):List (Key×V):=more.foldl (λacc kv=>putK acc kv.1 kv.2) kvs
theorem qDi:∀(more kvs:List (Key×V)),(qFo kvs more).length<=kvs.length+more.length
 | [],kvs=>by show kvs.length<=kvs.length+0;lia
 | p::r,kvs=>by
  have h1:=qDi r (putK kvs p.1 p.2);have h2:=qBl kvs p.1 p.2;show (qFo (putK kvs p.1 p.2) r).length<=_;rw [bA];lia
structure M2(X:Cx)(o:Expr)(m:Str)(apos:Pos)(e f:Expr)(cpos:Pos):Prop where
 base:attributeBase o m X.env (eval o X.env)=eval o X.env
 few:((backTo cpos (starEach [e,f] X.env)).all (λx => !x.1)&&(backToKw cpos (keywordEach [] X.env)).all (λx=>x.1.isSome)
  && decide (([e,f]:List Expr).length+([]:List Keyword).length+(if ([]:List Keyword).isEmpty then 0 else 1)<30))=true
 line:(apos.endLine == cpos.line)=true
 trees:backTo cpos (starEach [e,f] X.env) = [(false,eval e X.env),(false,eval f X.env)]
def IsD(H:Hp)(a:Addr):Prop:=(∃kvs,Rd H a (.dK kvs)) \/ ∃kvs,Rd H a (.dT kvs)
theorem qSq{X:Cx}{pins:List (Addr×Obj)}{σ : St}{H:Hp}{s:Shared}{a:Addr}(I:Inv X pins σ H s)(d:IsD H a):s.TypeIs (.ref a) "dict" /\ (∀b,Value.ref a = .ref b -> ∃ob,s.heap.get? b=some ob/\ob.dict=none)/\(a == sysModules)=false:=by
 rcases d with ⟨kvs,e⟩ | ⟨kvs,e⟩
 ·obtain⟨_,hd,vs,_,dd⟩:=qKx I.hok e;refine⟨dd.typeIs,λb q=>?_,hd⟩;cases q;obtain⟨ob,_,_,h1,h2,_⟩:=dd;exact⟨ob,h1,h2.2.1⟩
 ·obtain⟨_,hd,xs,_,dd⟩:=qN6 I.hok e;refine⟨dd.typeIs,λb q=>?_,hd⟩;cases q;obtain⟨ob,_,_,h1,h2,_⟩:=dd;exact⟨ob,h1,h2.2.1⟩
section
variable{X:Cx}{pins:List (Addr×Obj)}{σ : St}{H:Hp}{s:Shared}{a:Addr}{y d:V}{u r:Value}{o:Option V}{A:Around}{E:Value->Shared->Prop}
theorem qSt{Q:Value->Shared->Prop}(hu:A.units+1<cLine)(I:Inv X pins σ H s)(g:DGet H a y o)(ry:RelV y u)(rd:RelV d r)(h:∀w' s',Inv X pins σ H s'->RelV (o.getD d) w'->Q w' s'):wpAny (model X.prog X.w) A (call (.builtin "dict.get") [.ref a,u,r]) Q E s:=by
 rcases g with ⟨kvs,k,e,ey,l⟩ | ⟨kvs,k,b,e,ey,eb,l⟩
 ·subst ey;obtain⟨z,hd,vs,rel,dd⟩:=qKx I.hok e;refine call_meetsIn PySem.F.slot_dict_get dd.typeIs PySem.F.entry_dict_get (PySem.F.args_dict_get_3 _ _ _) (meets_dict_get_default (qBe X.prog X.w) a (qIj ry) hd r) ⟨_,dd.mapOf,h _ _ (I.tok _) ?_⟩;rw [l];exact (rel.val k).getD rd
 ·subst ey;cases (show u=Value.ref b from ry);obtain⟨z,hd,xs,rel,dd⟩:=qN6 I.hok e;refine call_meetsIn PySem.F.slot_dict_get dd.typeIs PySem.F.entry_dict_get (PySem.F.args_dict_get_3 _ _ _) (meetsH_dict_get_default (tupleKind (qBe X.prog X.w)) a b hd r) ⟨tupleKind_room_in1 hu,k,xs,qHl I.hok eb,dd,h _ _ (I.tok _) ?_⟩;rw [l];exact (rel.val k).getD rd
end
def qPw(td ty tx:TE):TE:=λσ H Q=>td σ H λx H1 => ∃a,x = .ref a/\IsD H1 a/\ty σ H1 λy H2=>tx σ H2 λz H3 => ∃o,DGet H3 a y o/\Q (o.getD z) H3
section
variable{X:Cx}{o e f:Expr}{apos cpos:Pos}{td ty tx:TE}
theorem qOm(hu:X.A.units+1<cLine)(ho:PE X o td)(he:PE X e ty)(hf:PE X f tx)(m:M2 X o "get" apos e f cpos):PE X (.Call (.Attribute o "get" apos) [e,f] [] cpos) (qPw td ty tx):=by
 intro pins s σ H Q I h;refine wpAny_Call_method m.base m.few m.line PySem.F.plainAttrs_dict PySem.F.slot_dict_get PySem.F.type_dict_get (thn (ho pins s σ H _ I h) λu s1 hq_=>?_);obtain⟨x,H1,I1,rx,a,ex,d,q1⟩:=hq_;subst ex;obtain rfl:u=Value.ref a:=rx;obtain⟨t1,t2,_⟩:=qSq I1 d;refine⟨t1,t2,?_⟩;rw [m.trees];refine Calls.callWith_builtin rfl (Calls.evalArgs_plain (Calls.spliced_cons (thn (he pins s1 σ H1 _ I1 q1) λiv s2 hq_=>?_)));obtain⟨y,H2,I2,ry,q2⟩:=hq_;refine Calls.spliced_cons (thn (hf pins s2 σ H2 _ I2 q2) λfv s3 hq_=>?_);obtain⟨z,H3,I3,rz,ov,g,q3⟩:=hq_;refine Calls.spliced_nil ?_;exact qSt hu I3 g ry rz λw' s4 I4 rw'=>⟨_,H3,I4,rw',q3⟩
end
end L2
namespace Att
open PySem PySem.W PySem.Calls PyProof.Rows
theorem qEr{P:Params}{h:Heap}:∀(ns:List Int) (vs:List Value),WellAll P h vs (ns.map WData.int)->IntsAre vs ns:=by
 intro ns
 induction ns with
 | nil =>
  intro vs w;rw [List.map_nil] at w;cases w;exact .nil
 | cons n ns ih =>
  intro vs w;rw [bJ] at w;cases w with
  | cons a b =>
   cases a;exact .cons _ _ (ih _ b)
theorem qLq{l:OpenLaw}{n:Nat}(hn:l.most=some n){P:Params}{h:Heap}{args:List WData}{vals:List Value}(hpre:l.row.toRowW.claim.pre args=true)(hwl:WellAll P h vals args):∃a vs ns,vals = [Value.ref a]/\args = [WData.list (ns.map WData.int)]/\h.get? a=some { cls :=.type "list",data :=.seq vs.toArray }/\IntsAre vs ns/\ns.length<=n:=by
 have hsh:WShape.hasAll [] args [.list .int]=true:=(pre_splitW hpre).1;have hc:l.pre.holds [] { args:=args }=true:=(pre_splitW hpre).2;obtain⟨d,r,rfl,h1,h2⟩:=hasAllW_cons hsh;obtain rfl:=hasAllW_nil h2;obtain⟨xs,rfl,h3⟩:=hasW_list h1;obtain⟨ns,rfl⟩:=items_int h3;have hlen:ns.length<=n:=by
  unfold OpenLaw.pre at hc;have h4:(WTm.not (.lt (.lit (.int (n:Int))) (.len (.arg 0)))).holds [] { args :=[.list (ns.map .int)] }=true:=by
   have h4:=(holds_andW hc).1;rw [hn] at h4;exact h4
  have h5:=condW_of h4 (w_not (w_lt w_lit (w_len_list (w_arg rfl))));rw [aB] at h5;refine Nat.le_of_not_lt λq=>?_;have q':(n:Int)<((ns.length:Nat):Int):=by lia
  first
   | (rw [decide_eq_true q'] at h5;exact absurd h5 (by decide))
   | (simp at h5;lia)
 cases hwl with
 | cons w1 w2 =>
  cases w2;cases w1 with
  | list ho hall=>exact⟨_,_,ns,rfl,rfl,ho,qEr ns _ hall,hlen⟩
theorem qM3(l:OpenLaw)(args:List WData):l.row.toRowW.claim.post args (.bool true) args=true :=
 postW_of (r:=l.row.toRowW) (X:=(true == true))
  (show WShape.has [] (.bool true) .bool=true by first | rfl | decide | simp [WShape.has,WShape.arms,WShape.armsAll])
  (show (WTm.eq .res (.lit (.bool true))).value [] { args:=args,res:=some (.bool true),after:=args }=some (.bool (true == true)) from w_eq_bool (w_res rfl) w_lit) rfl
theorem attach_call{l:OpenLaw}{n:Nat}{q:Program}{loose:List Str}{XP:(Str->Option Value)->Heap->Prop}{YP:World->Heap->Prop}{d:DefRec}(hn:l.most=some n)(hdf:d.params.defaults = [])(call:∀(w:World) (s₀ s₁ : Shared) (mg mb:Str->Option Value) (fa:Addr) (o:Obj) (pm cd doc:Value) (a:Addr) (vs:List Value) (ns:List Int),
   Ground q loose [] XP w s₀ mg mb s₁.heap->YP w s₁.heap ->
   s₁.heap.get? fa=some o->o.data = .func (docDef d.name d.params d.body d.scope pm cd doc)->s₁.heap.CodeRec cd d.name->mg d.name=some (.ref fa) ->
   s₁.heap.get? a=some { cls :=.type "list",data :=.seq vs.toArray }->IntsAre vs ns->ns.length<=n->s₁.gens = #[] ->
   codeAny (model l.prog w) callerA (.call (.ref fa) ⟨[.ref a],[]⟩) (λr s'=>r = .ok (.ret (.bool true))/\OldK s₁.heap s'.heap/\s'.os=s₁.os/\AllBare s'.gens) s₁) :
  WalkO q loose XP YP l.row.toRowW d [] (λf vs=>PySem.call f vs):=by
 intro w s₀ s₁ mg mb G Y fa o pm cd doc dV kV ho hd hcd hD hmg hg args vals as hpre hlay hrd hwl hlo;obtain rfl:dV = .none:=Dflts.none hD hdf;obtain rfl:kV = .none:=Dflts.noKw hD;obtain⟨a,vs,ns,rfl,rfl,hobj,hints,hlen⟩:=qLq hn hpre hwl;refine enter_call (codeAny_mono (call w s₀ s₁ mg mb fa o pm cd doc a vs ns G Y ho (fd_plain hd) hcd hmg hobj hints hlen hg) λr s' hq=>?_);obtain⟨rfl,h2,h3,h4⟩:=hq;exact⟨.inl ⟨.bool true,.bool true,[],rfl,λ_=>rfl,.bool true,qM3 l _,λ_=>⟨List.Pairwise.nil,λ_ hm=>(nomatch hm)⟩⟩,h2,h3,h4⟩
end Att
namespace L2
open PySem PySem.Spec PyProof.Rows
theorem qL5{vs:List Value}{ns:List Int}(h:IntsAre vs ns):Vals (ns.map V.int) vs:=by
 induction h with
 | nil=>exact .nil
 | cons n t _ ih=>exact .cons ⟨t,rfl⟩ ih
def Only(H:Hp):Prop := ∀b,H b=none \/ ∃o xs,H b=some (.frz o (.lst xs))
theorem qP9{P:Program}{w:World}{K:PySem.W.Frag}{mg mb:Str->Option Value}{CX:CXT}{k:Nat}{fa a:Addr}{fd:FuncData}{x:Str}{sp:Sp}{s₁ : Shared}{vs:List Value}{ns:List Int}
  (KX:K.In s₁.heap) (hns:s₁.heap.Ns mainGlobals mg) (hb:s₁.heap.Ns builtinsNs mb) (hbb:∀x:Str,x ≠ "__name__" -> mb x=bootBuiltins x) (hlim:s₁.heap.NoLimit) (hg:s₁.gens = #[])
  (ha:s₁.heap.get? a=some { cls :=.type "list",data :=.seq vs.toArray }) (hi:IntsAre vs ns) (hl:ns.length<=sizeLine) (hr:Room k callerA)
  (F:∀base:Heap,K.In base->base.Ns mainGlobals mg->FnOk P w K mg base CX k fa fd [x] sp) (hbind:∀(s:Shared) (u:Value),BindsTo s fd ⟨[u],[]⟩ [(x,u)])
  (hsp:∀H:Hp,Only H->SqL K H a (ns.map V.int)->sp [.ref a] H (λv _=>v = .bl true) λ_ _ _=>False)
  (hCX:∀H e s',CX [] H s₁ (λ_ _ _=>False) e s'->False) :
  codeAny (model P w) callerA (.call (.ref fa) ⟨[.ref a],[]⟩) (λr s'=>r = .ok (.ret (.bool true))/\OldK s₁.heap s'.heap/\s'.os=s₁.os/\AllBare s'.gens) s₁ :=by
 have rv:=qL5 hi;have lenV:=hi.length;have core:∀H:Hp,Only H->SqL K H a (ns.map V.int)->HOk P w H s₁.heap->(∀b,H b≠none->b=a)->(H a≠none->K.lookup a=none) ->
   codeAny (model P w) callerA (.call (.ref fa) ⟨[.ref a],[]⟩) (λr s'=>r = .ok (.ret (.bool true))/\OldK s₁.heap s'.heap/\s'.os=s₁.os/\AllBare s'.gens) s₁ :=by
  intro H hO hS hok hA hK;have base_of:∀ {b:Addr} {o:Obj},s₁.heap.get? b=some o->H b=none->(hidT s₁.heap H).get? b=some o:=λe n=>qPd e n;have noA:∀ {b:Addr} {o:Obj} {es:Array DictEntry} {ep:Nat},s₁.heap.get? b=some o->o.data = .dict es ep->H b=none:=λ{b o es ep} e d=>by
   cases q:H b with
   | none=>rfl
   | some u =>
    have e':b=a:=hA b (by rw [q];simp);subst e';rw [ha] at e;cases e;have d':Data.seq vs.toArray _=Data.dict es ep:=d;cases d'
  have nsK:∀ {b:Addr} {m:Str->Option Value},s₁.heap.Ns b m->(hidT s₁.heap H).Ns b m:=λ{b m} ⟨o,es,ep,e,d,r⟩=>⟨o,es,ep,base_of e (noA e d),d,r⟩
  have hKb:K.In (hidT s₁.heap H):=λb o e=>base_of (KX b o e) (by
   cases q:H b with
   | none=>rfl
   | some u =>
    have e':b=a:=hA b (by rw [q];simp);subst e'
    rw [hK (by rw [q];simp)] at e;cases e)
  have hM:Mod K mg (hidT s₁.heap H):=⟨hKb,nsK hns,⟨mb,nsK hb,hbb⟩,let ⟨mc,h1,h2⟩:=hlim;⟨mc,nsK h1,h2⟩⟩;have e0:Env0 P w K mg (hidT s₁.heap H) callerA [] s₁ H:=⟨rfl,hM,λb o e=>qR8 e,Nat.le_of_eq (qN3 _ _),trivial,λb hb=>absurd (show b∈([]:List Addr) from hb) (by simp),hok,.of_eq hg⟩;refine codeAny_mono ((F _ hKb (nsK hns)).run callerA [] s₁ H ⟨[.ref a],[]⟩ [.ref a] [.ref a] _ _ hr e0 (hbind s₁ (.ref a)) (.cons rfl .nil) (hsp H hO hS)) λr s' h=>?_;cases r with
  | error e=>exact (hCX H e s' h).elim
  | ok fl =>
   cases fl with
   | next=>exact False.elim h
   | brk=>exact False.elim h
   | cont=>exact False.elim h
   | ret u =>
    obtain⟨v,H',os,bare,un,hok',r',q⟩:=h;have q':v = .bl true:=q;subst q';obtain rfl:u=Value.bool true:=r';refine⟨rfl,OldK.of_keep λb o e=>?_,os,bare⟩;cases q:H b with
    | none=>exact un.keep b o e q (by intro z;exact absurd (show b∈([]:List Addr) from z) (by simp)) (by simp)
    | some u =>
     rcases hO b with z | ⟨ob,xs,z⟩
     ·rw [q] at z;cases z
     ·have z2:=un.frzs b ob _ z;obtain⟨e1,_⟩:=hok b _ z;obtain⟨e2,_⟩:=hok' b _ z2;rw [e] at e1;cases e1;exact e2
 cases hk:K.lookup a with
 | some o =>
  have e:=KX a o hk;rw [ha] at e;cases e;refine core (λ_=>none) (λ_ =>.inl rfl) (.inr ⟨_,vs.toArray,_,hk,rfl,rfl,rfl,by rw [aG,lenV];exact hl,by simpa using rv⟩) (λb u z=>by have z':(none:Option HO)=some u:=z;cases z') (λb z=>absurd rfl z) λz=>absurd rfl z
 | none =>
  refine core (λb=>if b=a then some (.frz { cls :=.type "list",data :=.seq vs.toArray } (.lst (ns.map V.int))) else none) (λb=>?_) (.inl (.inr ⟨{ cls :=.type "list",data :=.seq vs.toArray },if_pos rfl⟩)) (λb u z=>?_) (λb z=>?_) λ_=>hk
  ·by_cases hb:b=a
   ·exact .inr ⟨_,_,if_pos hb⟩
   ·exact .inl (if_neg hb)
  ·by_cases hb:b=a
   ·have z':=(if_pos hb).symm.trans z;cases z';subst hb;exact⟨ha,by rw [aB];exact hl,vs,_,rv,ha⟩
   ·have z':=(if_neg hb).symm.trans z;cases z'
  ·by_cases hb:b=a
   ·exact hb
   ·exact absurd (if_neg hb) z
theorem qQc{l:PySem.W.OpenLaw}{n k:Nat}{q:Program}{loose:List Str}{XP:(Str->Option Value)->Heap->Prop}{YP:World->Heap->Prop}{d:DefRec}{K:Params->PySem.W.Frag}{CX:World->CXT}{sp:World->Sp}{x:Str}(hn:l.most=some n)(hn2:n<=sizeLine)(hdf:d.params.defaults = [])(hr:Room k callerA)(hY:∀(w:World) (h:Heap),YP w h->(K w.params).In h)(F:∀(w:World) (mg:Str->Option Value) (fa:Addr) (h:Heap),(K w.params).In h->h.Ns mainGlobals mg->mg d.name=some (.ref fa) ->
   ∃fd:FuncData,(∀(s:Shared) (u:Value),BindsTo s fd ⟨[u],[]⟩ [(x,u)]) /\
    ∀base:Heap,(K w.params).In base->base.Ns mainGlobals mg->FnOk l.prog w (K w.params) mg base (CX w) k fa fd [x] (sp w))
  (hsp:∀(w:World) (H:Hp) (a:Addr) (ns:List Int),ns.length<=n->Only H->SqL (K w.params) H a (ns.map V.int)->sp w [.ref a] H (λv _=>v = .bl true) λ_ _ _=>False)
  (hCX:∀(w:World) (H:Hp) (s:Shared) (e:Value) (s':Shared),CX w [] H s (λ_ _ _=>False) e s'->False) :
  PySem.W.WalkO q loose XP YP l.row.toRowW d [] (λf vs=>PySem.call f vs):=by
 refine Att.attach_call hn hdf λw s₀ s₁ mg mb fa o pm cd doc a vs ns G Y ho hd hcd hmg hobj hints hlen hg=>?_;have KX:=hY w _ Y;obtain⟨fd,hb,hF⟩:=F w mg fa _ KX G.T.g hmg;exact qP9 KX G.T.g G.T.b G.T.builtins G.T.nolimit hg hobj hints (bH hlen hn2) hr hF hb (λH hO hS=>hsp w H a ns hlen hO hS) λH e s'=>hCX w H s₁ e s'
def qAe(s:Stmt):Arguments:=match s with
 | .FunctionDef _ a _ _ _ _ _ _ _ _=>a
 | _ =>{ posonlyargs :=[],args :=[],vararg:=none,kwonlyargs :=[],kw_defaults :=[],kwarg:=none,defaults :=[] }
def qAb(s:Stmt):List Stmt:=match s with
 | .FunctionDef _ _ b _ _ _ _ _ _ _=>b
 | _ =>[]
def qA7(s:Stmt):Scope:=match s with
 | .FunctionDef _ _ _ _ _ _ sc _ _ _=>sc
 | _ =>{ kind :=.function,names :=[],isGenerator:=false,isCoroutine:=false }
abbrev CX0:CXT:=λ_ _ _ _ _ _=>False
abbrev E0:XK:=λ_ _ _=>False
theorem pass0{X:Cx}:qNp CX0 X E0:=λ_ _ _ _ _ _ _ h=>h.elim
structure Fun(K:PySem.W.Frag)(x qual:Str)(st:Stmt)(f:Addr)(fd:FuncData):Prop where
 ex:∃(oc:Value) (od:Option Addr) (kV doc pm:Value) (an:Option Addr) (cdv ct:Value) (osl:Array (Option Value)),
  fd=PySem.W.fnOf x qual (qAe st) (qAb st) (qA7 st) .none kV doc pm an cdv ct/\K.lookup f=some ⟨oc,od,.func fd,osl⟩/\PySem.W.codeIn K cdv qual=true
 kp:PySem.W.keepIn K (.ref f)=true
section
variable{P:Program}{w:World}{K:PySem.W.Frag}{mg:Str->Option Value}{base:Heap}
theorem Fun.ok{x qual:Str}{st:Stmt}{f:Addr}{fd:FuncData}{N ps:List Str}{k:Nat}{sp:Sp}(F:Fun K x qual st f fd)(S:FnScope N ps (qA7 st))(len:∀vs H Q E,sp vs H Q E->vs.length=ps.length)(hbody:∀(cdv:Value) (A:Around) (outer:List Env) (s:Shared) (H:Hp) (vs:List V) (Q:VK) (E:XK),Room k (A.deeper (envOfC qual (qA7 st) s.heap.objs.size f cdv))->sp vs H Q E ->
   ∃t,PSs (cxOf CX0 P w K mg base N qual (qA7 st) f cdv A outer s H E).nox (qAb st) t/\t { nx:=λ_ H'=>Q .non H',rt:=Q } (start N vs) H):FnOk P w K mg base CX0 (k+1) f fd ps sp:=by
 obtain⟨oc,od,kV,doc,pm,an,cdv,ct,osl,rfl,lk,hcd⟩:=F.ex;refine qT9 lk hcd S len λA outer s H vs Q E hr hsp=>?_;obtain⟨t,h,q⟩:=hbody cdv A outer s H vs Q E hr hsp;exact⟨t,h.nox,q⟩
theorem Fun.binds{x qual:Str}{st:Stmt}{f:Addr}{fd:FuncData}{ps:List Str}(F:Fun K x qual st f fd)(h:∀(kV doc pm:Value) (an:Option Addr) (cdv ct:Value) (us:List Value),us.length=ps.length->bindArgs (PySem.W.fnOf x qual (qAe st) (qAb st) (qA7 st) .none kV doc pm an cdv ct) ⟨us,[]⟩=pure (ps.zip us)):Binds K fd ps []:=by
 obtain⟨oc,od,kV,doc,pm,an,cdv,ct,osl,rfl,lk,hcd⟩:=F.ex;exact .all (h kV doc pm an cdv ct)
theorem qQ7{x qual:Str}{st:Stmt}{f:Addr}{oc:Value}{od an:Option Addr}{osl:Array (Option Value)}{kV doc pm cdv ct:Value}(l:K.lookup f=some ⟨oc,od,.func (PySem.W.fnOf x qual (qAe st) (qAb st) (qA7 st) .none kV doc pm an cdv ct),osl⟩)(c:PySem.W.codeIn K cdv qual=true)(k:PySem.W.keepIn K (.ref f)=true):Fun K x qual st f (PySem.W.fnOf x qual (qAe st) (qAb st) (qA7 st) .none kV doc pm an cdv ct):=⟨⟨oc,od,kV,doc,pm,an,cdv,ct,osl,rfl,l,c⟩,k⟩
end
theorem qBu{A:Around}{k:Nat}(hr:Room k A):A.units+1<cLine:=Nat.lt_of_le_of_lt (Nat.add_le_add_left (by decide:1<=64) _) hr.units
theorem qAh{n:Nat}(h:n<=1000):n<sizeLine:=Nat.lt_of_le_of_lt h (by decide)
section
variable{X:Cx}
theorem pv(i:Nat){x:Str}{pos:Pos}(hN:X.N[i]? = some x:=by rfl)(hv:Vis X.env.scope x:=by first | exact Or.inl rfl | exact Or.inr (Or.inl rfl) | exact Or.inr (Or.inr rfl))(hd:(x == ("__debug__" : Str))=false:=by decide)
  (hcd:(x == ("__classdict__" : Str))=false:=by decide):PE X (.Name x pos) (tVar i):=qSa hN hv hd hcd
theorem qNm:CallR X (.builtin "len") (λxs H Q => ∃a kvs,xs = [V.ref a]/\H a=some (.dK kvs)/\Q (.int kvs.length) H):=by
 intro pins s σ H xs us Q I r h;obtain⟨a,kvs,rfl,ha,q⟩:=h;obtain⟨u,rfl,ru⟩:=vals1 r;cases ru;exact qTb I (.inl ha) λt s' I'=>⟨.int kvs.length,H,I',⟨t,rfl⟩,q⟩
end
theorem iteF{A B:Prop}(h:B):if false=true then A else B:=by
 rw [if_neg aH];exact h
theorem iteT{A B:Prop}(h:A):if true=true then A else B:=by
 rw [if_pos rfl];exact h
theorem ite2{c A B:Prop} [Decidable c] (h1:c->A)(h2 : ¬c->B):if c then A else B:=by
 by_cases h:c
 ·rw [if_pos h];exact h1 h
 ·rw [if_neg h];exact h2 h
def Same(H H':Hp):Prop := ∀b o,H b=some o->H' b=some o
theorem Same.trans{H H1 H2:Hp}(a:Same H H1)(b:Same H1 H2):Same H H2:=λc o h=>b c o (a c o h)
theorem Same.seq{K:PySem.W.Frag}{H H':Hp}{a:Addr}{xs:List V}(e:Same H H')(h:SqL K H a xs):SqL K H' a xs:=by
 rcases h with (h | ⟨o,h⟩) | h
 ·exact .inl (.inl (e _ _ h))
 ·exact .inl (.inr ⟨o,e _ _ h⟩)
 ·exact .inr h
end L2
set_option maxHeartbeats 4000000
namespace L2
open PySem PySem.Spec PyProof.Rows
abbrev TB:=St->Hp->(St->Hp->Prop)->Prop
def PB(X:Cx)(m:Sem Unit)(B:TB):Prop :=
 ∀(pins:List (Addr×Obj)) (s:Shared) (σ : St) (H:Hp) (Q:St->Hp->Prop),Inv X pins σ H s->B σ H Q ->
  wpAny (model X.prog X.w) X.A m (λ_ s' => ∃ σ' H',Inv X pins σ' H' s'/\Q σ' H') X.xe s
def tAll:List TT->TT
 | []=>λ_ H Q=>Q true H
 | t::r=>λσ H Q=>t σ H λb H1=>if b=true then tAll r σ H1 Q else Q false H1
inductive PTs(X:Cx):List Expr->List TT->Prop
 | nil:PTs X [] []
 | cons {e es t ts}:PT X e t->PTs X es ts->PTs X (e::es) (t::ts)
def qEd(ifs:List Expr)(env:Env)(b:Bool):Sem Bool:=forIn ifs b λc r=>if r=true then do let ok <-isTrue c env (eval c env);pure (ForInStep.yield ok) else pure (ForInStep.yield r)
theorem qEc{M:Model}{A:Around}{E:Value->Shared->Prop}{env:Env}{Q:Bool->Shared->Prop}{s:Shared}(h:Q false s):∀ifs:List Expr,wpAny M A (qEd ifs env false) Q E s
 | []=>aF h
 | c::r=>by
  unfold qEd;simp only [List.forIn_cons,Bool.false_eq_true,if_false];exact aA (aF (qEc h r))
theorem qIu{X:Cx}:∀ {ifs:List Expr} {ts:List TT},PTs X ifs ts -> ∀(pins:List (Addr×Obj)) (s:Shared) (σ : St) (H:Hp) (Q:Bool->Hp->Prop),Inv X pins σ H s->tAll ts σ H Q ->
  wpAny (model X.prog X.w) X.A (qEd ifs X.env true) (TP X pins σ Q) X.xe s
 | _,_,.nil,pins,s,σ,H,Q,I,h=>aF ⟨H,I,h⟩
 | _,_,.cons (es:=es) h1 h2,pins,s,σ,H,Q,I,h=>by
  unfold qEd;simp only [List.forIn_cons,if_true];refine aA (aA (thn (h1 pins s σ H _ I h) λb s1 hq_=>?_));obtain⟨H1,I1,q1⟩:=hq_;refine aF ?_;cases b with
  | true=>exact qIu h2 pins s1 σ H1 Q I1 q1
  | false=>exact qEc (show TP X pins σ Q false s1 from⟨H1,I1,q1⟩) es
def LoopT(J:It)(g:TG)(tt:TT)(B:TB):TB:=λσ H Q => ∃W:Nat->Nat->St->Hp->Prop,(∃m,W 0 m σ H) /\ ∀i m σ H,W i m σ H ->
 (J.stop i H/\Q σ H)\/(J.go i H /\ ∀x H',J.yld i H x H'->g x σ H' λσ2 H2=>tt σ2 H2 λb H3 =>
  if b=true then B σ2 H3 (λσ3 H4 => ∃m',m'<m/\W (i+1) m' σ3 H4) else ∃m',m'<m/\W (i+1) m' σ2 H3)
def CompR(X:Cx)(pins:List (Addr×Obj))(Q:St->Hp->Prop):Result->Shared->Prop
 | .ok _,s' => ∃ σ' H',Inv X pins σ' H' s'/\Q σ' H'
 | .error _,_=>False
structure ClauseAt(X:Cx)(e:Expr)(d:Nat)(acc:Value)(tg iter:Expr)(ifs:List Expr)(beh:Sem Unit):Prop where
 quiet:∀it,(Code.compLoop e d it acc X.env).quiet=true
 under:∀it,X.A.under (Code.compLoop e d it acc X.env)=X.A
 den:∀it,(model X.prog X.w).den (.compLoop e d it acc X.env)=(compTurn e d it acc X.env).onRaise (λx=>do noteFrame x X.env;theTreesLotGoes x)
 turn:∀it,compTurn e d it acc X.env=(do
   standAt iter.pos
   match <-pyNext it with
   | none=>pure (.done .next)
   | some v =>
    letOwnedTupleGo tg it v
    assign tg X.env v
    let ok <-qEd ifs X.env true
    if ok then beh
    again (.compLoop e d it acc X.env))
 start:∀(it:Value) (R:Result->Shared->Prop) (s:Shared),codeAny (model X.prog X.w) X.A (.compLoop e d it acc X.env) R s ->
  wpAny (model X.prog X.w) X.A (pyIter it) (λit' s'=>codeAny (model X.prog X.w) X.A (.compLoop e d it' acc X.env) R s') (λ_ _=>False) s->codeAny (model X.prog X.w) X.A (.compStart e d it acc X.env) R s
theorem qNe{X:Cx}{e:Expr}{d:Nat}{acc:Value}{tg iter:Expr}{ifs:List Expr}{beh:Sem Unit}{J:It}{fp:List Addr}{it:Addr}{tn:Nat->Heap->Prop}{g:TG}{tts:List TT}{B:TB}(hxe:X.xe=λ_ _=>False)(hc:X.calm=true)(C:ClauseAt X e d acc tg iter ifs beh)(T:Turn X.prog X.w X.K tg J fp it tn)(hg:PG X tg g)(ht:PTs X ifs tts)(hb:PB X beh B){pins:List (Addr×Obj)}{σ : St}{H:Hp}{s:Shared}{Q:St->Hp->Prop}(I:Inv X pins σ H s)(st:tn 0 s.heap)(f:∀b∈fp,FpOk X pins H b)(q:LoopT J g (tAll tts) B σ H Q):codeAny (model X.prog X.w) X.A (.compLoop e d (.ref it) acc X.env) (CompR X pins Q) s:=by
 obtain⟨W,⟨m0,w0⟩,turn⟩:=q;have stat:∀ {H':Hp},(∀b∈fp,H' b=none) -> ∀b∈fp,FpOk X pins H' b:=λhn b hb=>⟨hn b hb,(f b hb).2⟩;refine codeAny_loop (C.quiet _) (λn s' => ∃i σ' H',Inv X pins σ' H' s'/\tn i s'.heap/\(∀b∈fp,H' b=none)/\W i n σ' H') ?_ m0 ⟨0,σ,H,I,st,λb hb=>(f b hb).1,w0⟩;rintro n s3 ⟨i,σ3,H3,I3,st3,fr3,w3⟩;rw [C.under,C.den];refine wpAny_noted ?_;rw [C.turn];refine aA (wpAny_standAt ?_);have lift:∀ {α : Type} {t:Sem α} {R : α -> Shared->Prop} {s:Shared},wpAny (model X.prog X.w) X.A t R X.xe s->wpAny (model X.prog X.w) X.A t R (notedBy (model X.prog X.w) X.A X.env λx s'=>CompR X pins Q (.error x) s') s:=by
  intro α t R s h;rw [hxe] at h;exact wpAny_mono h (λ_ _ z=>z) λ_ _ z=>z.elim
 rcases turn i n σ3 H3 w3 with ⟨stop,qn⟩ | ⟨go,step⟩
 ·refine aA (lift (thn (T.done X rfl rfl rfl hc i pins s3 σ3 H3 X.xe I3 (stat fr3) st3 stop) λr s4 hq_=>?_));obtain⟨hr,I4⟩:=hq_;subst hr;exact aF ⟨σ3,H3,I4,qn⟩
 ·refine aA (lift (thn (T.item X rfl rfl rfl hc i pins s3 σ3 H3 X.xe I3 (stat fr3) st3 go) λr s4 hq_=>?_));obtain⟨u,hr,h4⟩:=hq_;subst hr;refine aA (lift (thn h4 λ_ s5 hq_=>?_));obtain⟨x,H5,I5,r5,y5,st5,fr5⟩:=hq_;have I5':=I5.pinned (stat fr5) (T.obj _ _ st5);refine aA (lift (thn (hg _ s5 σ3 H5 x u _ I5' r5 (step x H5 y5)) λ_ s6 hq_=>?_));obtain⟨σ6,H6,I6,q6⟩:=hq_;have again:∀ {σ7:St} {H7:Hp} {s7:Shared},Inv X (pins++qH9 fp s5.heap) σ7 H7 s7->(∃m',m'<n/\W (i+1) m' σ7 H7) -> ∃m,m<n /\ ∃i σ' H',Inv X pins σ' H' s7/\tn i s7.heap/\(∀b∈fp,H' b=none)/\W i m σ' H':=λ{σ7 H7 s7} I7 ⟨m',hm,w7⟩=>by
   refine⟨m',hm,i+1,σ7,H7,I7.unpinned,T.keep _ _ _ st5 λb hb o e=>(I7.pin (b,o) (aZ _ (aZ _ (qCz hb e)))).1,λb hb=>?_,w7⟩;obtain⟨o,e,_⟩:=T.obj _ _ st5 b hb;exact (I7.pin (b,o) (aZ _ (aZ _ (qCz hb e)))).2.1
  refine aA (lift (thn (qIu ht _ s6 σ6 H6 _ I6 q6) λok s7 hq_=>?_));obtain⟨H7,I7,q7⟩:=hq_;cases ok with
  | false =>
   exact aF ⟨rfl,again I7 q7⟩
  | true =>
   refine aA (lift (thn (hb _ s7 σ6 H7 _ I7 q7) λ_ s8 hq_=>?_));obtain⟨σ8,H8,I8,q8⟩:=hq_;exact aF ⟨rfl,again I8 q8⟩
theorem qDt(env:Env):∀(names:List (Str×NameKind)) (cs:List (Str×Addr)),(∀x∈names,x.2 = .free -> ∃c,env.cells.lookup x.1=some c) ->
  (∀x c,cs.lookup x=some c->env.cells.lookup x=some c) ->
  ∃cl,(forIn names cs λ(x:Str×NameKind) (r:List (Str×Addr))=>(if (x.2 == NameKind.free)=true then do let c <-cellOf env x.1;pure (ForInStep.yield ((x.1,c)::r)) else pure (ForInStep.yield r):Sem (ForInStep (List (Str×Addr)))))=pure cl /\
   (∀x c,cl.lookup x=some c->env.cells.lookup x=some c)/\(∀x,(x,NameKind.free)∈names\/(∃c,cs.lookup x=some c) -> ∃c,cl.lookup x=some c)
 | [],cs,_,h2=>⟨cs,rfl,h2,λx h=>h.elim (λz=>nomatch z) id⟩
 | (n,k)::r,cs,h1,h2=>by
  rw [List.forIn_cons];have hr:∀x∈r,x.2 = .free -> ∃c,env.cells.lookup x.1=some c:=λx hx=>h1 x (aV _ hx);by_cases hk:k = .free
  ·subst hk;obtain⟨c,hc⟩:=h1 (n,.free) bT rfl;have hcell:cellOf env n=pure c:=by unfold cellOf;rw [hc]
   obtain⟨cl,e,a,b⟩:=qDt env r ((n,c)::cs) hr (λx d hx=>by
    rw [dX] at hx;cases hxn:x == n with
    | true =>
     rw [hxn] at hx;have:x=n:=eq_of_beq hxn;cases hx;rw [this];exact hc
    | false=>rw [hxn] at hx;exact h2 x d hx)
   refine⟨cl,?_,a,λx hx=>b x ?_⟩
   ·rw [hcell];exact e
   ·by_cases hxn:x=n
    ·exact .inr ⟨c,by rw [dX,hxn,beq_self_eq_true]⟩
    ·rcases hx with hx | ⟨d,hx⟩
     ·rcases aJ.mp hx with z | z
      ·exact absurd (congrArg Prod.fst z) hxn
      ·exact .inl z
     ·refine .inr ⟨d,?_⟩;have:(x == n)=false:=by simpa using hxn
      rw [dX,this];exact hx
  ·have hb:(k == NameKind.free)=false:=by simpa using hk
   obtain⟨cl,e,a,b⟩:=qDt env r cs hr h2;refine⟨cl,?_,a,λx hx=>b x ?_⟩
   ·show (if (k == NameKind.free)=true then _ else _) >>= _=_;rw [hb];exact e
   ·rcases hx with hx | hx
    ·rcases aJ.mp hx with z | z
     ·exact absurd (congrArg Prod.snd z).symm hk
     ·exact .inl z
    ·exact .inr hx
theorem qFy{scope:Scope}{env:Env}(h:∀x∈scope.names,x.2 = .free -> ∃c,env.cells.lookup x.1=some c):∃cl,closureFor scope env=pure cl/\(∀x c,cl.lookup x=some c->env.cells.lookup x=some c) /\ ∀x,(x,NameKind.free)∈scope.names -> ∃c,cl.lookup x=some c:=by
 obtain⟨cl,e,a,b⟩:=qDt env scope.names [] h (λx c hx=>nomatch hx);refine⟨cl,?_,a,λx hx=>b x (.inl hx)⟩;unfold closureFor;show (forIn scope.names ([]:List (Str×Addr)) _) >>= _=_;have e2:(forIn scope.names ([]:List (Str×Addr)) λ(x:Str×NameKind) (r:List (Str×Addr))=>(match x with | (name,kind)=>if (kind == NameKind.free)=true then do let c <-cellOf env name;pure (ForInStep.yield ((name,c)::r)) else pure (ForInStep.yield r):Sem (ForInStep (List (Str×Addr)))))=pure cl:=e;rw [e2];rfl
def relK(env:Env)(x:Str)(k:NameKind):NameKind:=if (k == .free&&env.scope.kind == .function&&env.kindOf x == some .cell)=true then .cell else k
theorem qD4(env:Env)(x:Str):∀names:List (Str×NameKind),
  (names.map λ(n,k)=>if (k == NameKind.free&&env.scope.kind == .function&&env.kindOf n == some .cell) then (n,NameKind.cell) else (n,k)).lookup x=(names.lookup x).map (relK env x)
 | []=>rfl
 | (n,k)::r=>by
  have ih:=qD4 env x r;show List.lookup x ((if (k == NameKind.free&&env.scope.kind == .function&&env.kindOf n == some .cell)=true then (n,NameKind.cell) else (n,k))::_)=_;have e:(if (k == NameKind.free&&env.scope.kind == .function&&env.kindOf n == some .cell)=true then (n,NameKind.cell) else (n,k))=(n,relK env n k):=by
   unfold relK;split <;> rfl
  rw [e,dX,dX];cases hx:x == n with
  | true=>have:=eq_of_beq hx;subst this;rfl
  | false=>exact ih
theorem qDw(scope:Scope)(env:Env)(x:Str):(relabel scope env).names.lookup x=(scope.names.lookup x).map (relK env x):=qD4 env x scope.names
def qAk(X:Cx)(own:List Str)(cap:List Nat)(scope:Scope)(cl:List (Str×Addr))(s:Shared)(H:Hp)(ex:List Addr):Cx :=
 { X with N:=own++cap.map (λj=>X.N.getD j ""),env:=compEnvC scope cl s.heap.objs.size X.env,s₀ :=s,H₀ :=H,outer:=X.stack,ex:=ex,fn:=λ_=>false,pn :=[],xe:=λ_ _=>False }
def qHt(own:List Str)(cap:List Nat)(σ : St):St:=own.map (λ_=>none)++cap.map (λj=>(σ[j]?).join)
structure CompScope(X:Cx)(own:List Str)(cap:List Nat)(scope:Scope):Prop where
 kind:scope.kind = .function
 nocell:∀x∈scope.names,x.2 ≠ .cell
 names:∀x∈scope.names,x.2 = .local->scope.names.lookup x.1=some .local
 free:∀x∈scope.names,x.2 = .free->X.env.kindOf x.1=some .cell\/X.env.kindOf x.1=some .free
 own:∀x∈own,scope.names.lookup x=some .local
 caps:∀j∈cap,scope.names.lookup (X.N.getD j "")=some .free/\j<X.N.length
theorem qPn{X:Cx}{own:List Str}{cap:List Nat}{scope:Scope}{cl:List (Str×Addr)}{pins:List (Addr×Obj)}{σ : St}{H:Hp}{s:Shared}{fp:List Addr}{h':Heap}{tk:Nat}(S:CompScope X own cap scope)(I:Inv X pins σ H s)(hcl:∀x c,cl.lookup x=some c->X.env.cells.lookup x=some c)(hfr:∀x,(x,NameKind.free)∈scope.names -> ∃c,cl.lookup x=some c)(hf:∀b∈fp,FpOk X pins H b)(hlt:∀b∈fp,b<s.heap.objs.size)(hns:h'.Ns s.heap.objs.size (λx=>([]:List (Str×Value)).reverse.lookup x))(hk:∀b u,s.heap.get? b=some u->h'.get? b=some u):Inv (qAk X own cap scope cl s H fp) [] (qHt own cap σ) H { s with heap:=h',toks:=tk }:=by
 have kc:∀x k,(relabel scope X.env).names.lookup x=some k->(k = .cell\/k = .free)->(x,NameKind.free)∈scope.names:=by
  intro x k e hk;rw [qDw] at e;cases q:scope.names.lookup x with
  | none=>rw [q] at e;cases e
  | some k0 =>
   rw [q] at e;have e':relK X.env x k0=k:=bF e;have hm:=cE q;have h0:k0 ≠ .cell:=S.nocell _ hm;have:k0 = .free:=by
    unfold relK at e';by_cases hb:(k0 == NameKind.free&&X.env.scope.kind == .function&&X.env.kindOf x == some .cell)=true
    ·simp only [bE,beq_iff_eq] at hb;exact hb.1.1
    ·rw [if_neg hb] at e';rcases hk with z | z
     ·exact absurd (e'.trans z) h0
     ·exact e'.trans z
   rw [this] at hm;exact hm
 have ok:(qAk X own cap scope cl s H fp).Ok :={
  mod:=I.ok.mod
  kind:=S.kind
  glob:=I.ok.glob
  blt:=I.ok.blt
  above:=aC _
  inj:=λx y c e1 e2=>I.ok.inj x y c (hcl x c e1) (hcl y c e2)
  has:=λx hx=>by
   rcases hx with hx | hx
   ·exact hfr x (kc x _ hx (.inl rfl))
   ·exact hfr x (kc x _ hx (.inr rfl))
  cab:=λx c h=>absurd h (show ¬(false=true) from aH)
  hd:=I.ok.hd
  frames:=I.ok.frames
  stk :=.inl rfl
  exf:=λb hb=>⟨aY (hlt b hb),λx c e=>(hf b hb).2.2.2.2.1 x c (hcl x c e)⟩
  bs:=I.bs
  bsz:=bH I.ok.bsz I.sz
  noex:=λb o e hb=>by
   rcases (hf b hb).2.2.2.1 with z | z
   ·exact I.ok.noex b o e z
   ·exact absurd (aU (aK e) (bH I.ok.bsz z)) (cW _)
  exfs:=λb hb hm=>by
   rcases aJ.mp (I.stkSub b hm) with z | z
   ·exact (hf b hb).2.1 z
   ·exact (hf b hb).2.2.1 z
  funs:=I.stack
  frf:=I.stkFree }
 refine⟨ok,rfl,I.bare,Un.kept hk,⟨_,hns,λi x v e1 e2 e3=>?_⟩,λx c e=>?_,I.hok.fresh (aC _),λx c e=>I.freeC x c (hcl x c e),λp hp=>absurd (show p∈([]:List (Addr×Obj)) from hp) (by simp),I.hok.kept hk,?_⟩
 ·have e1:(own++cap.map (λj=>X.N.getD j ""))[i]? = some x:=e1;have e2:(own.map (λ_=>(none:Option V))++cap.map (λj=>(σ[j]?).join))[i]? = some (some v):=e2;by_cases hi:i<own.length
  ·rw [cF (by simpa using hi),bC] at e2;cases q:own[i]? with
   | none=>rw [q] at e2;cases e2
   | some y=>rw [q] at e2;cases e2
  ·rw [dR (by simpa using hi),bC] at e1;rw [dR (by simpa using hi),bC,aB] at e2;cases q:cap[i - own.length]? with
   | none=>rw [q] at e2;cases e2
   | some j =>
    rw [q] at e1 e2;have e1':X.N.getD j "" = x:=bF e1;have e2':(σ[j]?).join=some v:=bF e2;obtain⟨hj,hlj⟩:=S.caps j (aL q);rw [e1'] at hj;have hNj:X.N[j]? = some x:=by
     rw [aI hlj,<-e1',cJ,aI hlj];rfl
    have hσ : σ[j]? = some (some v):=by
     cases z : σ[j]? with
     | none=>rw [z] at e2';cases e2'
     | some o=>rw [z] at e2';rw [show o=some v from e2']
    obtain⟨m,hn,hl⟩:=I.loc;have hm:=cE hj;have hkx:=S.free _ hm rfl;have vis:Vis X.env.scope x:=by
     rcases hkx with z | z
     ·exact .inr (.inl z)
     ·exact .inr (.inr z)
    obtain⟨u,r,l⟩:=hl j x v hNj hσ vis;refine⟨u,r,.inr ?_⟩;rcases l with ⟨kl,_⟩ | ⟨_,c,hc,z⟩
    ·rcases hkx with z | z
     ·rw [kl] at z;cases z
     ·rw [kl] at z;cases z
    ·obtain⟨c',hc'⟩:=hfr x hm;have:=hcl x c' hc';rw [hc] at this;cases this;refine⟨?_,c,hc',?_⟩
     ·have q:(relabel scope X.env).names.lookup x=some (relK X.env x .free):=by rw [qDw,hj];rfl
      show (relabel scope X.env).names.lookup x=some .cell\/(relabel scope X.env).names.lookup x=some .free;rw [q];unfold relK;split
      ·exact .inl rfl
      ·exact .inr rfl
     ·obtain⟨o,ho,hd⟩:=z;exact⟨o,hk c o ho,hd⟩
 ·obtain⟨v,o,ho,hd⟩:=I.cell x c (hcl x c e);exact⟨v,o,hk c o ho,hd⟩
 ·show (own.map (λ_=>(none:Option V))++cap.map (λj=>(σ[j]?).join)).length=(own++cap.map (λj=>X.N.getD j "")).length;simp only [aN,aB]
def qI3(X:Cx)(m:Sem Value)(o:HO):Prop :=
 ∀(pins:List (Addr×Obj)) (s:Shared) (σ : St) (H:Hp) (E:Value->Shared->Prop) (Q:Value->Shared->Prop),Inv X pins σ H s ->
  (∀l s',s.heap.objs.size<=l->H l=none->Inv X pins σ (upd H l o) s'->(∀b u,s.heap.get? b=some u->s'.heap.get? b=some u)->Q (.ref l) s')->wpAny (model X.prog X.w) X.A m Q E s
theorem qK5{X:Cx}:qI3 X (newList []) (.lst []):=by
 intro pins s σ H E Q I h;exact wpAny_newList (h _ _ (aC _) I.fresh (I.lnew (its :=[]) (t':=s.toks) .nil (aW _)) λb u e=>aE _ e)
theorem qHs{X:Cx}{e:Expr}{tg iter:Expr}{ifs:List Expr}{scope:Scope}{own:List Str}{cap:List Nat}{newAcc:Sem Value}{o:HO}{cl:List (Str×Addr)}{behOf:Value->Env->Sem Unit}{g:TG}{tts:List TT}{Bof:Addr->TB}(hc:X.calm=true)(S:CompScope X own cap scope)(hcl:∀x c,cl.lookup x=some c->X.env.cells.lookup x=some c)(hfr:∀x,(x,NameKind.free)∈scope.names -> ∃c,cl.lookup x=some c)(hacc:qI3 X newAcc o)(hC:∀s H ex l,ClauseAt (qAk X own cap scope cl s H ex) e 0 (.ref l) tg iter ifs (behOf (.ref l) (qAk X own cap scope cl s H ex).env))(hg:∀s H ex,PG (qAk X own cap scope cl s H ex) tg g)(ht:∀s H ex,PTs (qAk X own cap scope cl s H ex) ifs tts)(hb:∀s H ex l,PB (qAk X own cap scope cl s H ex) (behOf (.ref l) (qAk X own cap scope cl s H ex).env) (Bof l)){pins:List (Addr×Obj)}{σ : St}{s2:Shared}{itv:Value}{Q:Addr->Hp->Prop}{E:Value->Shared->Prop}{R:Value->Addr->Result->Shared->Prop}(h:PIE X pins σ tg (λJ H1 => ∀l,H1 l=none->LoopT J g (tAll tts) (Bof l) (qHt own cap σ) (upd H1 l o) λ_ H2=>Q l H2) itv s2)(hR:∀l C s' H',Inv X pins σ H' s'->FpOk X pins H' C->(∃m,s'.heap.Ns C m)->Q l H'->R (.ref l) C (.ok .next) s')(hok:∀acc C f s',R acc C (.ok .next) s'->R acc C (.ok f) s'):wpAny (model X.prog X.w) X.A newAcc (λacc s₃ =>wpAny (model X.prog X.w) X.A (newFunctionEnv scope X.env.globals cl [] X.env.qual none .none (some X.env)) (λcenv s₄ =>
   codeAny (model X.prog X.w) X.A (.compStart e 0 itv acc { cenv with scope:=relabel scope X.env }) (R acc cenv.locals) s₄) E s₃) E s2:=by
 obtain⟨it,fp,tn,J,H2,rfl,I2,T,st2,f2,q⟩:=h;have lt2:∀b∈fp,b<s2.heap.objs.size:=λb hb=>by
  obtain⟨ob,e,_⟩:=T.obj _ _ st2 b hb;exact aK e
 refine hacc pins s2 σ H2 E _ I2 λl s3 hl hn I3 k3=>?_;have q':=q l hn;have f3:∀b∈fp,FpOk X pins (upd H2 l o) b:=λb hb=>by
  obtain⟨a1,a2⟩:=f2 b hb;refine⟨?_,a2⟩;rw [qA5 (aY (aU (lt2 b hb) hl))];exact a1
 have lt3:∀b∈fp,b<s3.heap.objs.size:=λb hb=>by
  obtain⟨ob,e,_⟩:=T.obj _ _ st2 b hb;exact aK (k3 b ob e)
 refine wpAny_newFunctionEnv S.nocell (by intro y hy;simp at hy) (λh1 hns hsb=>?_) S.kind;have k4:∀b u,s3.heap.get? b=some u->h1.get? b=some u:=λb u e=>by
  exact hsb.extBut b u (aY (aK e)) (aE _ e)
 have I4:Inv (qAk X own cap scope cl s3 (upd H2 l o) fp) [] (qHt own cap σ) (upd H2 l o) { s3 with heap:=h1,toks:=s3.toks+([]:List (Str×Value)).length }:=qPn S I3 hcl hfr f3 lt3 hns k4;have st4:tn 0 h1:=T.keep _ _ _ st2 λb hb ob e=>k4 b ob (k3 b ob e);have f4:∀b∈fp,FpOk (qAk X own cap scope cl s3 (upd H2 l o) fp) [] (upd H2 l o) b:=λb hb=>by
  obtain⟨a0,a1,a2,a3,a4,a5⟩:=f3 b hb;refine⟨a0,aY (lt3 b hb),λhm=>?_,.inl hb,λx c ex=>a4 x c (hcl x c ex),λp hp=>absurd (show p∈([]:List (Addr×Obj)) from hp) (by simp)⟩;rcases aJ.mp (I3.stkSub b hm) with z | z
  ·exact a1 z
  ·exact a2 z
 have fin:∀(r:Result) (s':Shared),CompR (qAk X own cap scope cl s3 (upd H2 l o) fp) [] (λ_ H2=>Q l H2) r s'->R (.ref l) s3.heap.objs.size r s':=by
  intro r s' hr;cases r with
  | error x=>exact (show False from hr).elim
  | ok f =>
   obtain⟨σ5,H5,I5,q5⟩:=(show ∃ σ' H',Inv (qAk X own cap scope cl s3 (upd H2 l o) fp) [] σ' H' s'/\Q l H' from hr);have I6:Inv X pins σ H5 s':=I3.call' (ch:=fp) I5.os I5.base I5.hok I5.bare λb hb=>(f3 b hb).2.2.2 |> λ⟨z1,z2,z3⟩=>⟨z1,(f3 b hb).2.1,z2,z3⟩
   refine hok _ _ _ _ (hR l _ s' H5 I6 (I3.fpOk (aC _) I5.free) ?_ q5);obtain⟨m,hm,_⟩:=I5.loc;exact⟨m,hm⟩
 have loop:∀s4:Shared,s4 = { s3 with heap:=h1,toks:=s3.toks+([]:List (Str×Value)).length } ->
   codeAny (model X.prog X.w) X.A (.compLoop e 0 (.ref it) (.ref l) (qAk X own cap scope cl s3 (upd H2 l o) fp).env) (R (.ref l) s3.heap.objs.size) s4:=by
  rintro s4 rfl;exact codeAny_mono (qNe (X:=qAk X own cap scope cl s3 (upd H2 l o) fp) rfl hc (hC _ _ _ _) T (hg _ _ _) (ht _ _ _) (hb _ _ _ l) I4 st4 f4 q') fin
 exact (hC s3 (upd H2 l o) fp l).start (.ref it) _ _ (loop _ rfl) (T.self _ 0 _ _ _ st4 (loop _ rfl))
section
variable{X:Cx}{e:Expr}{tg iter:Expr}{ifs:List Expr}{gs:List Comprehension}{scope:Scope}{own:List Str}{cap:List Nat}{newAcc:Sem Value}{o:HO}{behOf:Value->Env->Sem Unit}{wi:TI}{g:TG}{tts:List TT}{Bof:Addr->TB}{cpos:Pos}
def tComp(own:List Str)(cap:List Nat)(o:HO)(wi:TI)(g:TG)(tts:List TT)(Bof:Addr->TB):TE:=λσ H Q=>wi σ H λJ H1 => ∀l,H1 l=none->LoopT J g (tAll tts) (Bof l) (qHt own cap σ) (upd H1 l o) λ_ H2=>Q (.ref l) H2
theorem qK0(hc:X.calm=true)(S:CompScope X own cap scope)(hcl:clausesOf e=⟨tg,iter,ifs,0⟩::gs)(hi:PI X tg iter wi)(hacc:qI3 X newAcc o)(hC:∀cl s H ex l,ClauseAt (qAk X own cap scope cl s H ex) e 0 (.ref l) tg iter ifs (behOf (.ref l) (qAk X own cap scope cl s H ex).env))(hg:∀cl s H ex,PG (qAk X own cap scope cl s H ex) tg g)(ht:∀cl s H ex,PTs (qAk X own cap scope cl s H ex) ifs tts)(hb:∀cl s H ex l,PB (qAk X own cap scope cl s H ex) (behOf (.ref l) (qAk X own cap scope cl s H ex).env) (Bof l))(hs:∀x,foldedSetIterable iter X.env x=pure x):∀(pins:List (Addr×Obj)) (s:Shared) (σ : St) (H:Hp) (Q:VK),Inv X pins σ H s->tComp own cap o wi g tts Bof σ H Q ->
   wpAny (model X.prog X.w) X.A (comprehension e scope X.env cpos newAcc false (eval iter X.env)) (EP X pins σ Q) X.xe s:=by
 intro pins s σ H Q I h;obtain⟨cl,hclos,h1,h2⟩:=qFy (scope:=scope) (env:=X.env) λx hx hf=>I.ok.has x.1 (S.free x hx hf);refine wpAny_comprehension_free (use:=none) hcl hs hclos S.kind S.names (thn (hi pins s σ H _ I h) λv s1 q1=>thn q1 λitv s2 q2=>?_);refine qHs (R:=λacc C=>compPost (model X.prog X.w) X.A X.xe none (EP X pins σ Q) acc C) hc S h1 h2 hacc (hC cl) (hg cl) (ht cl) (hb cl) q2 (λl C s' H' I' fC hm q=>?_) (λacc C f s' z=>z);obtain⟨m,hm⟩:=hm;refine⟨m,hm,λh' sb=>⟨.ref l,H',I'.turned (t':=s'.toks) (λb o hb e=>(sb.2 b hb).trans e) fC.1 fC.2.1 fC.2.2.2.1 fC.2.2.2.2.1 fC.2.2.2.2.2,rfl,q⟩⟩
theorem qPm{i:Nat}{x:Str}{px:Pos}(hc:X.calm=true)(S:CompScope X own cap scope)(hcl:clausesOf e=⟨tg,iter,ifs,0⟩::gs)(hi:PI X tg iter wi)(hacc:qI3 X newAcc o)(hC:∀cl s H ex l,ClauseAt (qAk X own cap scope cl s H ex) e 0 (.ref l) tg iter ifs (behOf (.ref l) (qAk X own cap scope cl s H ex).env))(hg:∀cl s H ex,PG (qAk X own cap scope cl s H ex) tg g)(ht:∀cl s H ex,PTs (qAk X own cap scope cl s H ex) ifs tts)(hb:∀cl s H ex l,PB (qAk X own cap scope cl s H ex) (behOf (.ref l) (qAk X own cap scope cl s H ex).env) (Bof l))(hs:∀x,foldedSetIterable iter X.env x=pure x)(hN:X.N.Nodup)(hix:X.N[i]? = some x)(hx:Loc X.env.scope x)(hf:X.fn x=true\/X.env.scope.names.lookup x=some .local):∀(pins:List (Addr×Obj)) (s:Shared) (σ : St) (H:Hp) (D:Ends),Inv X pins σ H s->tComp own cap o wi g tts Bof σ H (λv H1=>D.nx (σ.set i (some v)) H1) ->
   wpAny (model X.prog X.w) X.A (comprehension e scope X.env cpos newAcc false (eval iter X.env) (some (assign (.Name x px) X.env))) (λ_ s'=>SP X pins D .next s') X.xe s:=by
 intro pins s σ H D I h;obtain⟨cl,hclos,h1,h2⟩:=qFy (scope:=scope) (env:=X.env) λx hx hf=>I.ok.has x.1 (S.free x hx hf);refine wpAny_comprehension_free (use:=some (assign (.Name x px) X.env)) hcl hs hclos S.kind S.names (thn (hi pins s σ H _ I h) λv s1 q1=>thn q1 λitv s2 q2=>?_);refine qHs (R:=λacc C=>compPost (model X.prog X.w) X.A X.xe (some (assign (.Name x px) X.env)) (λ_ s'=>SP X pins D .next s') acc C) hc S h1 h2 hacc (hC cl) (hg cl) (ht cl) (hb cl) q2 (λl C s' H' I' fC hm q=>?_) (λacc C f s' z=>z);obtain⟨m,hm⟩:=hm;show wpAny (model X.prog X.w) X.A (assign (.Name x px) X.env (.ref l)) _ X.xe s';refine wpAny_assign_Name (qH2 (v :=.ref l) I' hN hix hx rfl (λs'' I'' hq_=>?_) hf);obtain⟨a,sa,ha⟩:=hq_
 have hCa:C≠a:=by
  rcases ha with z | z
  ·rw [z];exact fC.2.1
  ·exact dS (fC.2.2.2.2.1 x a z)
 refine⟨m,hm.sameBut sa hCa,λh' sb=>⟨_,H',I''.turned (t':=s''.toks) (λb o hb e=>(sb.2 b hb).trans e) fC.1 fC.2.1 fC.2.2.2.1 fC.2.2.2.2.1 fC.2.2.2.2.2,q⟩⟩
end
def eApp(te:TE)(l:Addr):TB:=λσ H Q=>te σ H λv H1 => ∃vs,H1 l=some (.lst vs)/\vs.length<sizeLine/\Q σ (upd H1 l (.lst (vs ++ [v])))
def qGv(elt:Expr)(acc:Value)(env:Env):Sem Unit:=do let _ <-call (.builtin "list.append") [acc,<-eval elt env]
theorem qM9{X:Cx}{elt:Expr}{te:TE}{l:Addr}(he:PE X elt te):PB X (qGv elt (.ref l) X.env) (eApp te l):=by
 intro pins s σ H Q I h;refine aA (thn (he pins s σ H _ I h) λv s1 hq_=>?_);obtain⟨x,H1,I1,r1,vs,e,hz,q⟩:=hq_;refine aA (thn (qAs pins s1 σ H1 (.ref l) [x] (.ref l) [v] (λ_ H2=>Q σ H2) I1 rfl (.cons r1 .nil) ⟨l,vs,x,rfl,rfl,e,hz,q⟩) λu s2 hq_=>?_);obtain⟨z,H2,I2,_,q2⟩:=hq_;exact aF ⟨σ,H2,I2,q2⟩
theorem qEv{X:Cx}{elt tg iter:Expr}{ifs:List Expr}{scope:Scope}{pos:Pos}{acc:Value}:ClauseAt X (.ListComp elt [⟨tg,iter,ifs,0⟩] scope pos) 0 acc tg iter ifs (qGv elt acc X.env) where
 quiet:=λ_=>rfl
 under:=λ_=>rfl
 den:=λ_=>rfl
 turn:=λ_=>rfl
 start:=λit R s h0 h=>codeAny_compStart_list h0 (wpAny_mono h (λ_ _ z=>z) λ_ _ z=>z.elim)
theorem Inv.turnLaid{X:Cx}{pins:List (Addr×Obj)}{σ : St}{H:Hp}{s:Shared}{h':Heap}{t':Nat}{ch:List Addr}{p:Addr}{o:HO}(I:Inv X pins σ H s)(k:∀b u,b∉ch->s.heap.get? b=some u->h'.get? b=some u)(hth:∀b∈ch,∃u,h'.get? b=some u)(hf:∀b∈ch,FpOk X pins H b)(hp:s.heap.objs.size<=p)(new:ObjOk X.prog X.w (upd H p o) h' p o):Inv X pins σ (upd H p o) { s with heap:=h',toks:=t' }:=by
 have hn:H p=none:=I.hok.fresh hp;have nch:∀b u,H b=some u->b∉ch:=λb u e hb=>by rw [(hf b hb).1] at e;cases e
 refine I.step (g':=s.gens) (d':=s.drawn) (ch:=ch) (λb hb=>?_) (λb u _ _ hc e _=>k b u hc e) (λb u _ _ hc e _=>⟨u.slots,k b u hc e⟩) (λb u _ e n=>?_)
  (λb u hc e=>⟨u,k b u hc e⟩) (λb xs e=>?_) (λb ob xs e=>?_) (λb ps e=>?_) (λm hm=>?_) (λb u e=>?_) I.bare
 ·obtain⟨_,a1,_,a3,a4,a5⟩:=hf b hb;exact⟨a3,a1,a4,a5⟩
 ·rw [qA5 (aY (aU (aK e) hp))];exact n
 ·rw [qA5 (qA2 e hn)];exact e
 ·rw [qA5 (qA2 e hn)];exact e
 ·exact⟨#[],by rw [qA5 (qA2 e hn),e];simp⟩
 ·obtain⟨ob,es,ep,ho,r⟩:=hm;exact⟨ob,es,ep,k _ ob (λhb=>(hf _ hb).2.1 rfl) ho,r⟩
 ·by_cases hb:b=p
  ·subst hb;rw [qA1] at e;cases e;exact new
  ·rw [qA5 hb] at e;refine (I.hok b u e).stay (λc v hc q=>k c v ?_ q) (λc q=>by rw [qA5 (qA2 q hn)];exact q) λc xs q=>by rw [qA5 (qA2 q hn)];exact q
   rcases hc with z | z
   ·rw [z];exact nch b u e
   ·exact nch c _ z
def Ite(K:PySem.W.Frag)(a:Addr):It:=⟨λi H => ∃xs x,SqL K H a xs/\xs[i]? = some x,λi H x H' => ∃p y,x = .ref p/\H p=none/\(∀ys,SqL K H a ys->ys[i]? = some y)/\H'=upd H p (.tup [.int (i:Int),y]),λi H => ∃xs,SqL K H a xs/\xs.length<=i⟩
theorem qLa{P:Program}{w:World}{K:PySem.W.Frag}{elts:List Expr}{k:Nat}{pos:Pos}(a e it:Addr)(hne:e≠it):Turn P w K (.Tuple elts k pos) (Ite K a) [e,it] e (λi h=>(∃old,IsEnum h e it (i:Nat) old)/\h.IsListIter it a i) where
 mem:=by simp
 obj:=λi h st b hb=>by
  obtain⟨⟨old,he⟩,⟨o,h1,h2,h3⟩⟩:=st;rcases aJ.mp hb with z | z
  ·subst z
   exact⟨_,he,λv z=>by
    have z':Data.fields _=Data.cell v:=z
    cases z'⟩
  ·have z:b=it:=by simpa using z
   subst z;exact⟨o,h1,λv z=>by rw [h3] at z;cases z⟩
 keep:=λi h h' st kk=>by
  obtain⟨⟨old,he⟩,hi⟩:=st;exact⟨⟨old,kk e (by simp) _ he⟩,hi.at λo q=>kk it (by simp) o q⟩
 item:=by
  intro X hP hw hK hc i pins s σ H E I hf st hg;subst hP hw hK;obtain⟨xs,x,hq,hx⟩:=hg;obtain⟨⟨old,he⟩,hi⟩:=st;obtain⟨its,rv,p,hz⟩:=I.list hq;obtain⟨u,hu,ru⟩:=rv.get hx;refine wpAny_pyNext_enum_item he hi p.isList (x:=u) (by simpa using hu) hne λh1 heo hi1 ht hsz hk=>?_;refine⟨_,rfl,wpAny_letOwnedTupleGo_enum heo λh2 he2 hs2=>?_⟩;have helt:e<s.heap.objs.size:=aK he;have hs2':Heap.SameBut e h1 h2:=hs2;have I1:Inv X pins σ (upd H s.heap.objs.size (.tup [.int (i:Int),x])) { s with heap:=h2,toks:=s.toks+1 }:=by
   refine I.turnLaid (ch :=[e,it]) (λb o hb q=>?_) (λb hb=>?_) hf (aC _) ?_
   ·have h1':b≠e:=λz=>hb (by simp [z]);have h2':b≠it:=λz=>hb (by simp [z]);exact (hs2'.2 b h1').trans (hk b o h1' h2' q)
   ·rcases aJ.mp hb with z | z
    ·subst z;exact⟨_,he2⟩
    ·have z:b=it:=by simpa using z
     subst z;obtain⟨o,q,_⟩:=hi1;exact⟨o,(hs2'.2 _ (dS hne)).trans q⟩
   ·refine⟨by show 2<=sizeLine;decide,[.int (i:Int) s.toks,u],.cons ⟨_,rfl⟩ (.cons ru .nil),⟨_,(hs2'.2 _ (eC helt)).trans ht,rfl,_,rfl⟩⟩
  refine⟨.ref s.heap.objs.size,_,I1,rfl,⟨s.heap.objs.size,x,rfl,I.fresh,λys hy=>by rw [I.list_inj hy hq];exact hx,rfl⟩,⟨⟨_,by
   have:((i+1:Nat):Int)=(i:Int)+1:=by lia
   rw [this];exact he2⟩,hi1.extBut hs2'.extBut (dS hne)⟩,λb hb=>?_⟩
  have hlt:b<s.heap.objs.size:=by
   rcases aJ.mp hb with z | z
   ·rw [z];exact helt
   ·have z:b=it:=by simpa using z
    rw [z];obtain⟨o,q,_⟩:=hi;exact aK q
  rw [qA5 (aY hlt)];exact (hf b hb).1
 done:=by
  intro X hP hw hK hc i pins s σ H E I hf st hg;subst hP hw hK;obtain⟨xs,hq,hx⟩:=hg;obtain⟨⟨old,he⟩,hi⟩:=st;obtain⟨its,rv,p,hz⟩:=I.list hq;obtain⟨f0,f1,f2,f3,f4,f5⟩:=hf it (by simp);have hl:=rv.length;exact wpAny_pyNext_enum_end (I.ok.hd hc) he hi p.isList (by simp;lia) λh' eb=>⟨rfl,I.turned (t':=s.toks) (λb o hb q=>eb b o hb q) f0 f1 f3 f4 f5⟩
 self:=λ_ _ _ _ _ st h=>by
  obtain⟨⟨old,he⟩,_⟩:=st;exact wpAny_pyIter_enum he h
section
variable{X:Cx}{elts:List Expr}{k:Nat}{tpos:Pos}
def iEnum(K:PySem.W.Frag)(ta:TA):TI:=λσ H R=>ta σ H λvs H1 => ∃a,vs = [.ref a]/\(∃xs,SqL K H1 a xs)/\R (Ite K a) H1
theorem qM6{a:Expr}{ta:TA}{p pos:Pos}(hg:Gl X "enumerate")(hm:X.mg "enumerate" = none)(ha:PA X [a] ta)(hs:starEach [a] X.env = [(false,eval a X.env)]:=by rfl):PI X (.Tuple elts k tpos) (.Call (.Name "enumerate" p) [a] [] pos) (iEnum X.K ta):=by
 intro pins s σ H R I h;refine Call_ (qFr I hg hm boot_enumerate (cI (thn (ha pos pins s σ H _ I h) λus s1 hq_=>?_) hs rfl));obtain⟨vs,H1,I1,r1,q1⟩:=hq_;obtain⟨l,e,⟨xs,hq⟩,q⟩:=q1;subst e;obtain⟨u,rfl,ru⟩:=vals1 r1;cases ru;obtain⟨its,rv,pl,hz⟩:=I1.list hq;refine call_enumerate_list pl.isList λh' he hi hsz hk=>?_;refine wpAny_pyIter_enum he ?_;have I2:Inv X pins σ H1 { s1 with heap:=h' }:=I1.kept (t':=s1.toks) hk;refine⟨s1.heap.objs.size+1,[s1.heap.objs.size+1,s1.heap.objs.size],_,_,H1,rfl,I2,qLa l (s1.heap.objs.size+1) s1.heap.objs.size (eC (Nat.lt_succ_self _)),⟨⟨_,he⟩,hi⟩,λb hb=>?_,q⟩;have hge:s1.heap.objs.size<=b:=by
  rcases aJ.mp hb with z | z
  ·rw [z];exact Nat.le_succ _
  ·have z:b=s1.heap.objs.size:=by simpa using z
   rw [z];exact aC _
 exact I1.fpOk hge (I1.hok.fresh hge)
end
section
variable{X:Cx}{elt tg iter tg2 iter2:Expr}{ifs ifs2:List Expr}{scope:Scope}{own:List Str}{cap:List Nat}{wi wi2:TI}{g g2:TG}{tts tts2:List TT}{te:TE}{pos:Pos}
theorem qEk(own:List Str)(cap:List Nat)(hc:X.calm=true)(S:CompScope X own cap scope)(hi:PI X tg iter wi)(hg:∀cl s H ex,PG (qAk X own cap scope cl s H ex) tg g)(ht:∀cl s H ex,PTs (qAk X own cap scope cl s H ex) ifs tts)(he:∀cl s H ex,PE (qAk X own cap scope cl s H ex) elt te)(hs:∀x,foldedSetIterable iter X.env x=pure x:=by intro _;rfl):PE X (.ListComp elt [⟨tg,iter,ifs,0⟩] scope pos) (tComp own cap (.lst []) wi g tts (eApp te)):=by
 intro pins s σ H Q I h;exact qK0 (behOf:=qGv elt) hc S rfl hi qK5 (λ_ _ _ _ _=>qEv) hg ht (λcl s H ex l=>qM9 (he cl s H ex)) hs pins s σ H Q I h
theorem qS8{i:Nat}{x:Str}{px spos:Pos}(own:List Str)(cap:List Nat)(hc:X.calm=true)(S:CompScope X own cap scope)(hN:X.N.Nodup)(hix:X.N[i]? = some x)(hx:Loc X.env.scope x)(hi:PI X tg iter wi)(hg:∀cl s H ex,PG (qAk X own cap scope cl s H ex) tg g)(ht:∀cl s H ex,PTs (qAk X own cap scope cl s H ex) ifs tts)(he:∀cl s H ex,PE (qAk X own cap scope cl s H ex) elt te)(hsw:swapsWith (.ListComp elt [⟨tg,iter,ifs,0⟩] scope pos) (some (.Name x px)) spos.line X.env=pure true:=by rfl)(hs:∀x,foldedSetIterable iter X.env x=pure x:=by intro _;rfl)(hf:X.fn x=true\/X.env.scope.names.lookup x=some .local:=by first | exact .inl rfl | exact .inr rfl | assumption):PS X (.Assign [.Name x px] (.ListComp elt [⟨tg,iter,ifs,0⟩] scope pos) spos) (tAsg (tComp own cap (.lst []) wi g tts (eApp te)) (gName i)):=by
 intro pins s σ H D I h;rw [exec_Assign_Name_used _ _ _ _ hsw];refine aA (wpAny_standAt (aA ?_));show wpAny _ X.A (do let _ <-comprehension (.ListComp elt [⟨tg,iter,ifs,0⟩] scope pos) scope X.env _ (newList []) false (eval iter X.env) (some (assign (.Name x px) X.env))) _ _ s;refine aA (thn (qPm (behOf:=qGv elt) hc S rfl hi qK5 (λ_ _ _ _ _=>qEv) hg ht (λcl s H ex l=>qM9 (he cl s H ex)) hs hN hix hx hf pins s σ H D I h) λ_ s' hq=>?_);exact aF (aF hq)
end
end L2
namespace Srt
open PySem PySem.W PyProof.Rows
variable{lt:Nat->Nat->Bool}
end Srt
namespace L2
open PySem PySem.Spec PyProof.Rows
theorem HOk.gone{P:Program}{w:World}{H:Hp}{h:Heap}{D:Addr}(x:HOk P w H h)(hD:h.get? D=none):H D=none:=by
 cases q:H D with
 | none=>rfl
 | some u =>
  have z:∃ob,h.get? D=some ob:=by
   have:=x D u q;cases u with
   | lst xs=>obtain⟨_,_,_,_,e⟩:=this;exact⟨_,e⟩
   | tup xs=>obtain⟨_,_,_,ob,e,_⟩:=this;exact⟨_,e⟩
   | dK kvs=>obtain⟨_,_,_,_,o,_,_,e,_⟩:=this;exact⟨_,e⟩
   | dT kvs=>obtain⟨_,_,_,_,o,_,_,e,_⟩:=this;exact⟨_,e⟩
   | set S n=>obtain⟨o,_,_,_,e,_⟩:=this;exact⟨_,e⟩
   | ins C dx fs=>obtain⟨_,_,_,e,_⟩:=this;exact⟨_,e⟩
   | own y=>obtain⟨_,e⟩:=this;exact⟨_,e⟩
   | xd fs=>obtain⟨_,⟨_,_,_,e,_⟩,_⟩:=this;exact⟨_,e⟩
   | rng lo hi=>obtain⟨_,_,_,e⟩:=this;exact⟨_,e⟩
   | frz ob u=>obtain⟨e,_⟩:=this;exact⟨_,e⟩
   | tbl ps=>exact⟨_,this⟩
   | met f y=>exact⟨_,this⟩
   | ext φ =>obtain⟨_,⟨_,e⟩,_⟩:=this;exact⟨_,e⟩
  obtain⟨ob,z⟩:=z;rw [hD] at z;cases z
end L2
namespace Srt
open PySem PySem.W PyProof.Rows
end Srt
namespace L2
open PySem PySem.Spec PyProof.Rows
theorem Same.seqT{K:PySem.W.Frag}{H H':Hp}{a:Addr}{xs:List V}(e:Same H H')(h:SqT K H a xs):SqT K H' a xs:=by
 rcases h with (h | ⟨o,h⟩) | h
 ·exact .inl (.inl (e _ _ h))
 ·exact .inl (.inr ⟨o,e _ _ h⟩)
 ·exact .inr h
mutual
def Den(K:PySem.W.Frag)(G:Hp):PyData->V->Prop
 | .none,v=>v = .non
 | .bool b,v=>v = .bl b
 | .int i,v=>v = .int i
 | .str x,v=>v = .str x
 | .list ds,v => ∃a vs,v = .ref a/\SqL K G a vs/\DenL K G ds vs
 | .tuple ds,v => ∃a vs,v = .ref a/\SqT K G a vs/\DenL K G ds vs
 | .dict _,_=>False
def DenL(K:PySem.W.Frag)(G:Hp):List PyData->List V->Prop
 | [],vs=>vs = []
 | d::ds,vs => ∃v r,vs=v::r/\Den K G d v/\DenL K G ds r
end
section
variable{K:PySem.W.Frag}{G G':Hp}
mutual
theorem Den.mono(h:Same G G'):∀ {d:PyData} {v:V},Den K G d v->Den K G' d v
 | .none,_,e=>by simp only [Den] at e ⊢;exact e
 | .bool _,_,e=>by simp only [Den] at e ⊢;exact e
 | .int _,_,e=>by simp only [Den] at e ⊢;exact e
 | .str _,_,e=>by simp only [Den] at e ⊢;exact e
 | .list ds,_,e=>by
  simp only [Den] at e ⊢;obtain⟨a,vs,e1,e2,e3⟩:=e;exact⟨a,vs,e1,h.seq e2,DenL.mono h e3⟩
 | .tuple ds,_,e=>by
  simp only [Den] at e ⊢;obtain⟨a,vs,e1,e2,e3⟩:=e;exact⟨a,vs,e1,h.seqT e2,DenL.mono h e3⟩
 | .dict _,_,e=>by simp only [Den] at e
theorem DenL.mono(h:Same G G'):∀ {ds:List PyData} {vs:List V},DenL K G ds vs->DenL K G' ds vs
 | [],_,e=>by simp only [DenL] at e ⊢;exact e
 | d::ds,_,e=>by
  simp only [DenL] at e ⊢;obtain⟨v,r,e1,e2,e3⟩:=e;exact⟨v,r,e1,Den.mono h e2,DenL.mono h e3⟩
end
theorem DenL.len:∀ {ds:List PyData} {vs:List V},DenL K G ds vs->vs.length=ds.length
 | [],_,e=>by simp only [DenL] at e;rw [e];rfl
 | d::ds,_,e=>by
  simp only [DenL] at e;obtain⟨v,r,rfl,_,e3⟩:=e;simp [DenL.len e3]
theorem DenL.nil:DenL K G [] []:=by simp only [DenL]
theorem DenL.cons{d:PyData}{ds:List PyData}{v:V}{vs:List V}(h1:Den K G d v)(h2:DenL K G ds vs):DenL K G (d::ds) (v::vs):=by
 simp only [DenL];exact⟨v,vs,rfl,h1,h2⟩
theorem DenL.append:∀ {ds es:List PyData} {vs ws:List V},DenL K G ds vs->DenL K G es ws->DenL K G (ds++es) (vs++ws)
 | [],_,_,_,e,f=>by simp only [DenL] at e;subst e;exact f
 | d::ds,_,_,_,e,f=>by
  simp only [DenL] at e;obtain⟨v,r,rfl,e2,e3⟩:=e;exact .cons e2 (DenL.append e3 f)
theorem DenL.get:∀ {ds:List PyData} {vs:List V} {i:Nat} {v:V},DenL K G ds vs->vs[i]? = some v -> ∃d,ds[i]? = some d/\Den K G d v
 | [],_,_,_,e,h=>by simp only [DenL] at e;subst e;simp at h
 | d::ds,_,0,_,e,h=>by
  simp only [DenL] at e;obtain⟨v,r,rfl,e2,e3⟩:=e;simp at h;subst h;exact⟨d,rfl,e2⟩
 | d::ds,_,i+1,_,e,h=>by
  simp only [DenL] at e;obtain⟨v,r,rfl,e2,e3⟩:=e;exact DenL.get (i:=i) e3 (by simpa using h)
theorem Den.int{i:Int}:Den K G (.int i) (.int i):=by simp only [Den]
theorem Den.str{i:Str}:Den K G (.str i) (.str i):=by simp only [Den]
theorem Den.list{ds:List PyData}{a:Addr}{vs:List V}(h:SqL K G a vs)(e:DenL K G ds vs):Den K G (.list ds) (.ref a):=by simp only [Den];exact⟨a,vs,rfl,h,e⟩
theorem Den.tuple{ds:List PyData}{a:Addr}{vs:List V}(h:SqT K G a vs)(e:DenL K G ds vs):Den K G (.tuple ds) (.ref a):=by simp only [Den];exact⟨a,vs,rfl,h,e⟩
theorem Den.ofInt{i:Int}{v:V}(h:Den K G (.int i) v):v = .int i:=by simpa only [Den] using h
theorem Den.ofStr{i:Str}{v:V}(h:Den K G (.str i) v):v = .str i:=by simpa only [Den] using h
theorem Den.ofList{ds:List PyData}{v:V}(h:Den K G (.list ds) v):∃a vs,v = .ref a/\SqL K G a vs/\DenL K G ds vs:=by simpa only [Den] using h
theorem Den.ofTuple{ds:List PyData}{v:V}(h:Den K G (.tuple ds) v):∃a vs,v = .ref a/\SqT K G a vs/\DenL K G ds vs:=by simpa only [Den] using h
theorem DenL.ofCons{d:PyData}{ds:List PyData}{vs:List V}(h:DenL K G (d::ds) vs):∃v r,vs=v::r/\Den K G d v/\DenL K G ds r:=by simpa only [DenL] using h
theorem DenL.ofNil{vs:List V}(h:DenL K G [] vs):vs = []:=by simpa only [DenL] using h
theorem DenL.ints:∀ {ns:List Int} {vs:List V},DenL K G (ns.map PyData.int) vs->vs=ns.map V.int
 | [],_,e=>e.ofNil
 | n::ns,_,e=>by
  obtain⟨v,r,rfl,e2,e3⟩:=DenL.ofCons e;rw [e2.ofInt,DenL.ints e3];rfl
theorem DenL.ofInts:∀ns:List Int,DenL K G (ns.map PyData.int) (ns.map V.int)
 | [] =>.nil
 | n::ns =>.cons .int (DenL.ofInts ns)
end
section
variable{X:Cx}{pins:List (Addr×Obj)}{σ : St}{H:Hp}{s:Shared}
mutual
theorem Den.reads(I:Inv X pins σ H s):∀ {d:PyData} {v:V} {u:Value},Den X.K H d v->RelV v u -> ∃as,Reads s.heap u d as
 | .none,_,_,e,r=>by simp only [Den] at e;subst e;cases r;exact⟨_,.none⟩
 | .bool b,_,_,e,r=>by simp only [Den] at e;subst e;cases r;exact⟨_,.bool b⟩
 | .int i,_,_,e,r=>by simp only [Den] at e;subst e;obtain⟨t,rfl⟩:=r;exact⟨_,.int i t⟩
 | .str x,_,_,e,r=>by simp only [Den] at e;subst e;obtain⟨t,rfl⟩:=r;exact⟨_,.str x t⟩
 | .list ds,_,_,e,r=>by
  simp only [Den] at e;obtain⟨a,vs,rfl,e2,e3⟩:=e;cases r;obtain⟨its,rv,⟨o,n,h1,h2,h3,h4⟩,_⟩:=I.list e2;obtain⟨as,ra⟩:=DenL.reads I e3 rv;exact⟨_,.list h1 h2 h4 (by simpa using ra)⟩
 | .tuple ds,_,_,e,r=>by
  simp only [Den] at e;obtain⟨a,vs,rfl,e2,e3⟩:=e;cases r;obtain⟨its,rv,⟨o,h1,h2,n,h4⟩,_⟩:=I.tuple e2;obtain⟨as,ra⟩:=DenL.reads I e3 rv;exact⟨_,.tuple h1 h2 h4 (by simpa using ra)⟩
 | .dict _,_,_,e,_=>by simp only [Den] at e
theorem DenL.reads(I:Inv X pins σ H s):∀ {ds:List PyData} {vs:List V} {us:List Value},DenL X.K H ds vs->Vals vs us -> ∃as,ReadsAll s.heap us ds as
 | [],_,_,e,r=>by simp only [DenL] at e;subst e;cases r;exact⟨_,.nil⟩
 | d::ds,_,_,e,r=>by
  simp only [DenL] at e;obtain⟨v,vr,rfl,e2,e3⟩:=e;cases r with
  | cons r1 r2 =>
   obtain⟨as,ra⟩:=Den.reads I e2 r1;obtain⟨bs,rb⟩:=DenL.reads I e3 r2;exact⟨_,.cons ra rb⟩
end
end
mutual
theorem qFw{K:PySem.W.Frag}{G:Hp}:∀ {d:PyData} {v:V},Den K G d v->d.hasDict=false
 | .none,_,_=>by simp only [PyData.hasDict]
 | .bool _,_,_=>by simp only [PyData.hasDict]
 | .int _,_,_=>by simp only [PyData.hasDict]
 | .str _,_,_=>by simp only [PyData.hasDict]
 | .list ds,_,e=>by
  simp only [Den] at e;obtain⟨a,vs,rfl,e2,e3⟩:=e;simp only [PyData.hasDict];exact qDb e3
 | .tuple ds,_,e=>by
  simp only [Den] at e;obtain⟨a,vs,rfl,e2,e3⟩:=e;simp only [PyData.hasDict];exact qDb e3
 | .dict _,_,e=>by simp only [Den] at e
theorem qDb{K:PySem.W.Frag}{G:Hp}:∀ {ds:List PyData} {vs:List V},DenL K G ds vs->PyData.hasDictAll ds=false
 | [],_,_=>by simp only [PyData.hasDictAll]
 | d::ds,_,e=>by
  simp only [DenL] at e;obtain⟨v,vr,rfl,e2,e3⟩:=e;simp only [PyData.hasDictAll,qFw e2,qDb e3,Bool.or_false]
end
section
variable{X:Cx}{k:Nat}
def rRepr(K:PySem.W.Frag):List V->Hp->VK->Prop:=λxs H Q => ∃(a:Addr) (d:PyData),xs = [.ref a]/\Den K H d (.ref a)/\d.showable=true/\d.depth<=100/\d.shown.length<=sizeLine/\Q (.str d.shown) H
theorem qEx(hr:Room k X.A):CallR X (.builtin "repr") (rRepr X.K):=by
 intro pins s σ H xs us Q I r h;obtain⟨a,d,rfl,hd,h1,h2,h3,q⟩:=h;obtain⟨u,rfl,ru⟩:=vals1 r;cases ru;obtain⟨as,ra⟩:=Den.reads I hd (show RelV (.ref a) (Value.ref a) from rfl);have hu:=hr.un;exact repr_of_reads' ra h1 (λz=>by rw [qFw hd] at z;cases z) hr.gd (by lia) (λ_ _ e=>e) (λh' u tk kk=>⟨.str d.shown,H,I.kept (t':=tk) kk,⟨_,rfl⟩,q⟩) h3
def rEqD(K:PySem.W.Frag)(neg:Bool):R2:=λx y H Q => ∃da db,Den K H da x/\Den K H db y/\SeqAt.shaped da=true/\SeqAt.shaped db=true/\Q (.bl (if neg then !PyData.eqv da db else PyData.eqv da db)) H
theorem qSe(hr:Room k X.A):OpR X (compareOp .Eq) (rEqD X.K false):=by
 intro pins s σ H x y v u Q I rx ry h;obtain⟨da,db,ha,hb,h1,h2,q⟩:=h;obtain⟨as,ra⟩:=Den.reads I ha rx;obtain⟨bs,rb⟩:=Den.reads I hb ry;exact SeqAt.compareEq_shaped ra rb h1 h2 hr.units ⟨.bl _,H,I,rfl,q⟩
end
end L2
namespace Miss
open PySem PySem.Spec PyProof.Rows
theorem qRa:typeLookup (.type "list") "keys" = pure none:=am_miss_of_fast (by decide +kernel)
theorem qT8:typeLookup (.type "list") "__getattr__" = pure none:=am_miss_of_fast (by decide +kernel)
section
variable{prog:Program}{w:World}{A:Around}{E:Value->Shared->Prop}{a:Addr}{its:Array Value}{n:Nat}
theorem entry{u:Tok}:Meets (Builtin.«object.__getattribute__» ⟨[.ref a,.str "keys" u],[]⟩) (λA R s=>s.heap.get? a=some { cls :=.type "list",dict:=none,data :=.seq its n,slots := #[] }/\raisesAttr (.ref a) "keys" A R s) :=
 Meets.of_wp λprog w A R s hs=>by
  obtain⟨hp,g,d,tk,os⟩:=s;obtain⟨hx,hs⟩:=hs;have hT:(⟨hp,g,d,tk,os⟩:Shared).TypeIs (.ref a) "list" :=⟨_,hx,rfl⟩;have f4:=qRa;unfold Builtin.«object.__getattribute__»
  repeat (any_goals (first | assumption | wp_step))
  exact wpAny_raiseAttrError hs.1 hs.2 (attrMsg_fits (by decide +kernel) (by rw [bS];decide +kernel))
theorem no_keys{s:Shared}{Q:Option Value->Shared->Prop}(hA:A.handled=none)(hx:s.heap.get? a=some { cls :=.type "list",dict:=none,data :=.seq its n,slots := #[] })
  (h:∀h' tk,(∀b o,s.heap.get? b=some o->h'.get? b=some o)->Q none { s with heap:=h',toks:=tk }):wpAny (model prog w) A (getAttr? (.ref a) "keys") Q E s:=by
 obtain⟨hp,g,d,tk,os⟩:=s;have hT:∀tk,(⟨hp,g,d,tk,os⟩:Shared).TypeIs (.ref a) "list" :=λ_=>⟨_,hx,rfl⟩;have f1:=sub_AttributeError;have f3:=eD.lookup;have f4:=eD.bind (.ref a);have f5:=qT8;unfold getAttr? getAttrBy? getAttrBy
 repeat (any_goals (first | assumption | ((with_reducible show wpAny _ _ (call (Value.builtin "list.__getattribute__") _ _) _ _ _);refine dP eD (hT _) F.entry_list_ga (F.args_list_getattribute_2 _ _) (entry (its:=its) (n:=n)) ⟨hx,hA,λh' tk' e x=>?_⟩) | wp_step))
 obtain⟨t',u',he⟩:=x.there;show wpAny _ _ (getattributeRaised _ _ (Value.type "list") _ _ _ _) _ _ _;unfold getattributeRaised
 repeat (any_goals (first | assumption | wp_step))
 exact h _ _ x.keeps
theorem entry_loop:entryFor table "dict.update.loop" = some Builtin.«dict.update.loop» :=entryFor_of_tree (by kernel_rfl)
theorem plain_loop:plainId "dict.update.loop" = true:=by decide +kernel
end
end Miss
namespace L2
open PySem PySem.Spec PyProof.Rows
theorem qPr{X:Cx}:qI3 X newDict (.dK []):=by
 intro pins s σ H E Q I h;refine cD (h _ _ (aC _) I.fresh (I.laid (t':=s.toks) (λ_ _ q=>aE _ q) (aC _) (qJz s.heap I.big)) λb u e=>aE _ e) ?_
 first | trivial | size_fits | decide
def ePut(tk tv:TE)(l:Addr):TB:=λσ H Q=>tk σ H λx H1=>tv σ H1 λy H2 => ∃kvs k,x=kV k/\H2 l=some (.dK kvs)/\kvs.length<sizeLine/\Q σ (upd H2 l (.dK (putK kvs k y)))
def qIn(k v:Expr)(acc:Value)(env:Env):Sem Unit:=do
 let kv <-eval k env
 let vv <-holding [kv] (eval v env)
 match acc with
 | .ref d=>do
  standAt { k.pos with endLine:=v.pos.endLine,endCol:=v.pos.endCol }
  holding [kv,vv] (dictSet d kv vv)
 | _=>unsupported "internal:dictcomp"
theorem qQw{X:Cx}{k v:Expr}{tk tv:TE}{l:Addr}(hk:PE X k tk)(hv:PE X v tv):PB X (qIn k v (.ref l) X.env) (ePut tk tv l):=by
 intro pins s σ H Q I h;refine aA (thn (hk pins s σ H _ I h) λu s1 hq_=>?_);obtain⟨x,H1,I1,r1,q1⟩:=hq_;refine aA (bI (thn (hv pins s1 σ H1 _ I1 q1) λw2 s2 hq_=>?_));obtain⟨y,H2,I2,r2,kvs,kk,e,hd,hz,q⟩:=hq_;subst e;obtain⟨z,hs,vs,rel,dd⟩:=qPk I2.hok hd;have hl:(putK kvs kk y).length<=sizeLine:=by have:=qBl kvs kk y;lia
 refine aA (wpAny_standAt (bI (wpAny_dictSet_pairs (qIj r1) dd (λh' dd' sb=>?_) (by rw [<-rel.length];exact z))));have he:∃q,h'.get? l=some q:=let ⟨q,_,_,hq,_⟩:=dd';⟨q,hq⟩
 exact⟨σ,_,qGq I2 (by rw [hd];exact True.intro) sb he (qN7 hl hs (rel.put kk r2) dd'),q⟩
theorem qIl{X:Cx}{k v tg iter:Expr}{ifs:List Expr}{scope:Scope}{pos:Pos}{acc:Value}:ClauseAt X (.DictComp k v [⟨tg,iter,ifs,0⟩] scope pos) 0 acc tg iter ifs (qIn k v acc X.env) where
 quiet:=λ_=>rfl
 under:=λ_=>rfl
 den:=λ_=>rfl
 turn:=λ_=>rfl
 start:=λit R s h0 h=>codeAny_compStart_dict h0 (wpAny_mono h (λ_ _ z=>z) λ_ _ z=>z.elim)
section
variable{X:Cx}{ke ve tg iter:Expr}{ifs:List Expr}{scope:Scope}{own:List Str}{cap:List Nat}{wi:TI}{g:TG}{tts:List TT}{tk tv:TE}{pos:Pos}
theorem qT6(own:List Str)(cap:List Nat)(hc:X.calm=true)(S:CompScope X own cap scope)(hi:PI X tg iter wi)(hg:∀cl s H ex,PG (qAk X own cap scope cl s H ex) tg g)(ht:∀cl s H ex,PTs (qAk X own cap scope cl s H ex) ifs tts)(hk:∀cl s H ex,PE (qAk X own cap scope cl s H ex) ke tk)(hv:∀cl s H ex,PE (qAk X own cap scope cl s H ex) ve tv)(hs:∀x,foldedSetIterable iter X.env x=pure x:=by intro _;rfl):PE X (.DictComp ke ve [⟨tg,iter,ifs,0⟩] scope pos) (tComp own cap (.dK []) wi g tts (ePut tk tv)):=by
 intro pins s σ H Q I h;exact qK0 (behOf:=qIn ke ve) hc S rfl hi qPr (λ_ _ _ _ _=>qIl) hg ht (λcl s H ex l=>qQw (hk cl s H ex) (hv cl s H ex)) hs pins s σ H Q I h
end
def Itd(d:Addr)(o:Obj)(kvs:List (Key×V)):It:=⟨λi H=>H d=some (.frz o (.dK kvs))/\i<kvs.length,λi H x H'=>H'=H /\ ∃k v,kvs[i]? = some (k,v)/\x=kV k,λi H=>H d=some (.frz o (.dK kvs))/\kvs.length<=i⟩
section
variable{X:Cx}{tg:Expr}
def iDict(td:TE):TI:=λσ H R=>td σ H λx H1 => ∃d kvs,x = .ref d/\H1 d=some (.dK kvs) /\ ∀o,R (Itd d o kvs) (upd H1 d (.frz o (.dK kvs)))
end
def PairsAt(H:Hp):List V->List (Key×V)->Prop:=Paired λv kv => ∃a,v = .ref a/\H a=some (.tup [kV kv.1,kv.2])
theorem PairsAt.mono{H H':Hp}(h:∀b xs,H b=some (.tup xs)->H' b=some (.tup xs)){vs:List V}{kvs:List (Key×V)}(p:PairsAt H vs kvs):PairsAt H' vs kvs:=Paired.mapP p λ_ _ ⟨a,e,q⟩=>⟨a,e,h _ _ q⟩
theorem qPt{X:Cx}{pins:List (Addr×Obj)}{σ : St}{l d it:Addr}(hh:X.A.handled=none):∀ {more:List (Key×V)} {items:List V} {i:Nat} {A:Around} {H:Hp} {s:Shared} {kvs:List (Key×V)} {R:Result->Shared->Prop},A.handled=none->Inv X pins σ H s->s.heap.IsListIter it l i->FpOk X pins H it ->
  H l=some (.lst items)->H d=some (.dK kvs)->l≠d->PairsAt H (items.drop i) more->kvs.length+more.length<=sizeLine->(∀s',Inv X pins σ (upd H d (.dK (qFo kvs more))) s'->R (.ok (.ret .none)) s') ->
  codeAny (model X.prog X.w) A (.builtin "dict.update.loop" ⟨[.ref d,.ref it,rawInt i,.none],[]⟩) R s
 | [],items,i,A,H,s,kvs,R,hA,I,st,hf,hl,hd,hne,hp,hz,h=>by
  refine dG Miss.entry_loop ?_;rw [cR Miss.plain_loop _];obtain⟨its,n,r,ho,_⟩:=I.lst hl;have hlen:items.length<=i:=by
   have:=cV hp;rw [cZ] at this;have e:([]:List (Key×V)).length=0:=rfl;lia
  have hl2:=r.length;show wpAny _ _ (pyNext (.ref it) >>= _) _ _ s;obtain⟨f0,f1,f2,f3,f4,f5⟩:=hf;refine aA (wpAny_pyNext_list_end (show A.in1.handled=none from hA) st (l:=l) (items:=its.toArray) ⟨_,ho,rfl,n,rfl⟩ (by simp;lia) λh' eb=>?_);have I1:Inv X pins σ H { s with heap:=h' }:=I.turned (t':=s.toks) (λb ob hb e=>eb b ob hb e) f0 f1 f3 f4 f5;have e1:upd H d (.dK (qFo kvs []))=H:=by
   funext b
   by_cases hb:b=d
   ·subst hb;rw [qA1,hd];rfl
   ·rw [qA5 hb]
  rw [e1] at h;show wpAny _ _ (Builtin.Dict.addKeywords d [] >>= _) _ _ _;exact aA (aF (aF (h _ I1)))
 | (k,w)::more,items,i,A,H,s,kvs,R,hA,I,st,hf,hl,hd,hne,hp,hz,h=>by
  refine dG Miss.entry_loop ?_;rw [cR Miss.plain_loop _];obtain⟨its,n,r,ho,_⟩:=I.lst hl;have hl2:=r.length;cases e0:items.drop i with
  | nil=>rw [e0] at hp;cases hp
  | cons v rest =>
   rw [e0] at hp;cases hp with
   | cons hv hr =>
    obtain⟨a,rfl,ha⟩:=hv;have hi:items[i]? = some (.ref a):=by rw [<-List.head?_drop,e0];rfl
    obtain⟨u,hu,ru⟩:=r.get hi;cases ru;obtain⟨f0,f1,f2,f3,f4,f5⟩:=id hf;show wpAny _ _ (pyNext (.ref it) >>= _) _ _ s;refine aA (wpAny_pyNext_list_item st (l:=l) (items:=its.toArray) ⟨_,ho,rfl,n,rfl⟩ (x :=.ref a) (by simpa using hu) λh' st' sb=>?_);have I1:Inv X pins σ H { s with heap:=h' }:=I.turned (t':=s.toks) (λb ob hb e=>(sb.2 b hb).trans e) f0 f1 f3 f4 f5;obtain⟨_,its2,rt,ob,ho2,hc2,n2,hd2⟩:=(show ObjOk X.prog X.w H h' a (.tup [kV k,w]) from I1.hok a _ ha);obtain⟨uk,uw,rfl,rk,rw'⟩:=vals2 rt;refine aA (bI (aA (wpAny_tryCatch ?_)));unfold Builtin.Dict.pairItems;refine aA (wpAny_typeOf (T := "tuple") ⟨ob,ho2,hc2⟩ ?_);rw [if_pos (by decide)];refine aA (cP ho2 hd2 (aF ?_))
    show wpAny _ _ (holding [uk,uw] (dictSet d uk uw)) _ _ _;obtain⟨z,hs,vs,rel,dd⟩:=qPk I1.hok hd;have hz2:kvs.length+(more.length+1)<=sizeLine:=hz;have hl3:(putK kvs k w).length<=kvs.length+1:=qBl kvs k w;refine bI (wpAny_dictSet_pairs (qIj rk) dd (λh2 dd' sb2=>aF ?_) (by rw [<-rel.length];exact z));have he:∃q,h2.get? d=some q:=let ⟨q,_,_,hq,_⟩:=dd';⟨q,hq⟩
    have I2:Inv X pins σ (upd H d (.dK (putK kvs k w))) { s with heap:=h2,toks:=s.toks+1 }:=qGq (s :={ s with heap:=h' }) (t':=s.toks+1) I1 (by rw [hd];exact True.intro) sb2 he (qN7 (by lia) hs (rel.put k rw') dd');have hitd:it≠d:=λz=>by rw [z,hd] at f0;cases f0
    have tk:∀b xs,H b=some (.tup xs)->upd H d (.dK (putK kvs k w)) b=some (.tup xs):=λb xs q=>by
     rw [qA5 (qKq q hd (by intro z;cases z))];exact q
    refine⟨plainId_quiet Miss.plain_loop _,?_⟩;have e3:(i:Int)+1=((i+1:Nat):Int):=by lia
    rw [e3];refine qPt hh (more:=more) (items:=items) (i:=i+1) (kvs:=putK kvs k w) hA I2 (st'.extBut sb2.extBut hitd) ⟨by rw [qA5 hitd];exact f0,f1,f2,f3,f4,f5⟩ (by rw [qA5 hne];exact hl) qA1 hne ?_ (by lia) λs' I'=>h s' ?_
    ·have e4:items.drop (i+1)=rest:=by rw [<-List.tail_drop,e0];rfl
     rw [e4];exact PairsAt.mono tk hr
    ·rw [qQd] at I';exact I'
def qM1:V->List V->Hp->VK->Prop:=λx vs H Q => ∃d l kvs items more,x = .ref d/\vs = [.ref l]/\H d=some (.dK kvs)/\H l=some (.lst items)/\PairsAt H items more/\kvs.length+more.length<=sizeLine/\Q .non (upd H d (.dK (qFo kvs more)))
theorem qMn{X:Cx}(hc:X.calm=true):MtM X "dict.update" qM1:=by
 intro pins s σ H x vs v us Q I rx rv h;obtain⟨d,l,kvs,items,more,rfl,rfl,hd,hl,hp,hz,q⟩:=h;cases rx;obtain⟨u,rfl,ru⟩:=rv.one;cases ru;have hne:l≠d:=qKq hl hd (by intro z;cases z);obtain⟨z,hs,ws,rel,dd⟩:=qPk I.hok hd;obtain⟨its,n,r,ho,_⟩:=I.lst hl;have hA:=I.ok.hd hc;refine wpAny_call (codeAny_call_builtin eE.plain PySem.F.entry_dict_update (eE.check _ _ _ _ _ _ _ _ dd.typeIs (PySem.F.args_dict_update_2 _ _) ?_));unfold Builtin.«dict.update»;refine aA ?_;unfold Builtin.Dict.selfAndRest;refine aA (wpAny_notOrdered_dict dd.typeIs ?_);show wpAny _ _ (pure (d,[Value.ref l])) _ _ s;refine aF ?_;show wpAny _ _ (Builtin.Dict.updateFrom "dict.update" d (.ref l) [] .none) _ _ s
 unfold Builtin.Dict.updateFrom;refine aA (wpAny_typeOf (T := "list") ⟨_,ho,rfl⟩ ?_);rw [if_pos (by decide)];refine aA (Miss.no_keys hA ho λh' tk kp=>?_);have I1:Inv X pins σ H { s with heap:=h',toks:=tk }:=I.kept kp;show wpAny _ _ (if true=true then _ else _) _ _ _;rw [if_pos rfl];refine aA (eB ?_);refine aA (dO (l:=l) (items:=its.toArray) ⟨_,kp _ _ ho,rfl,n,rfl⟩ ?_);have I2:Inv X pins σ H { s with heap:=h'.push { cls :=.type "list_iterator",data :=.fields #[.ref l,.int 0 0] },toks:=tk }:=I1.kept (t':=tk) λb ob e=>aE _ e;refine aF ⟨plainId_quiet Miss.plain_loop _,?_⟩;exact qPt (i:=0) hA hA I2 ⟨_,aR _ rfl,rfl,rfl⟩ (I1.fpOk (aC _) (I1.hok.fresh (aC _))) hl hd hne hp hz λs' I'=>⟨.non,_,I',rfl,q⟩
def wo(ts:List Addr)(H:Hp):Hp:=λb=>if b∈ts then none else H b
theorem qGy{ts:List Addr}{H:Hp}{b:Addr}(h:b∈ts):wo ts H b=none:=if_pos h
theorem qBn{ts:List Addr}{H:Hp}{b:Addr}(h:b∉ts):wo ts H b=H b:=if_neg h
theorem qL4(ts:List Addr)(H:Hp):Same (wo ts H) H:=λb o e=>by
 by_cases h:b∈ts
 ·rw [qGy h] at e;cases e
 ·rw [qBn h] at e;exact e
def Ext(ts:List Addr)(H H':Hp):Prop := ∀b o,b∉ts->H b=some o->H' b=some o
theorem Ext.refl(ts:List Addr)(H:Hp):Ext ts H H:=λ_ _ _ h=>h
theorem Ext.trans{ts:List Addr}{H H1 H2:Hp}(a:Ext ts H H1)(b:Ext ts H1 H2):Ext ts H H2:=λc o h e=>b c o h (a c o h e)
theorem Ext.same{ts:List Addr}{H H':Hp}(a:Ext ts H H'):Same (wo ts H) (wo ts H'):=λb o e=>by
 by_cases h:b∈ts
 ·rw [qGy h] at e;cases e
 ·rw [qBn h] at e ⊢;exact a b o h e
theorem Ext.put{ts:List Addr}{H:Hp}{t:Addr}{o:HO}(h:t∈ts):Ext ts H (upd H t o):=λb u hb e=>by
 have ne:b≠t:=λz=>hb (by rw [z];exact h);rw [qA5 ne];exact e
theorem Ext.laid{ts:List Addr}{H:Hp}{l:Addr}{o:HO}(h:H l=none):Ext ts H (upd H l o):=λb u _ e=>by
 rw [qA5 (qA2 e h)];exact e
theorem Ext.mono{ts us:List Addr}{H H':Hp}(a:Ext ts H H')(h:∀b∈ts,b∈us):Ext us H H':=λb o hb e=>a b o (λz=>hb (h b z)) e
theorem Ext.drop{ts:List Addr}{l:Addr}{H H':Hp}(a:Ext (l::ts) H H')(h:H l=none):Ext ts H H':=λb o hb e=>a b o (λz=>by
 rcases aJ.mp z with y | y
 ·rw [y,h] at e;cases e
 ·exact hb y) e
theorem qQl{ts us:List Addr}{H:Hp}(h:∀b∈ts,b∈us):Same (wo us H) (wo ts H):=λb o e=>by
 by_cases hb:b∈us
 ·rw [qGy hb] at e;cases e
 ·rw [qBn hb] at e;rw [qBn (λz=>hb (h b z))];exact e
def yo(H0:Hp)(ts:List Addr)(H:Hp):Hp:=λb=>match H0 b with
 | some _=>none
 | none=>wo ts H b
theorem qBh{H0:Hp}{ts:List Addr}{H:Hp}{b:Addr}(h0:H0 b=none)(h:b∉ts):yo H0 ts H b=H b:=by
 unfold yo;rw [h0];exact qBn h
theorem qCh{H0:Hp}{ts:List Addr}{H:Hp}{b:Addr}{o:HO}(h:yo H0 ts H b=some o):H0 b=none/\b∉ts/\H b=some o:=by
 unfold yo at h;cases z:H0 b with
 | some _=>rw [z] at h;cases h
 | none =>
  rw [z] at h;have h:wo ts H b=some o:=h;by_cases hb:b∈ts
  ·rw [qGy hb] at h;cases h
  ·rw [qBn hb] at h;exact⟨rfl,hb,h⟩
theorem Ext.none{ts:List Addr}{H H':Hp}{b:Addr}(a:Ext ts H H')(h:b∉ts)(e:H' b=none):H b=none:=by
 cases z:H b with
 | none=>rfl
 | some o=>rw [a _ _ h z] at e;cases e
theorem Ext.young{H0:Hp}{ts:List Addr}{H H':Hp}(a:Ext ts H H'):Same (yo H0 ts H) (yo H0 ts H'):=λb o e=>by
 obtain⟨h0,h1,h2⟩:=qCh e;rw [qBh h0 h1];exact a b o h1 h2
theorem qL3{H0:Hp}{ts us:List Addr}{H:Hp}(h:∀b∈ts,b∈us):Same (yo H0 us H) (yo H0 ts H):=λb o e=>by
 obtain⟨h0,h1,h2⟩:=qCh e;rw [qBh h0 (λz=>h1 (h b z))];exact h2
theorem yo_same{H0:Hp}{ts:List Addr}{H:Hp}:Same (yo H0 ts H) H:=λb o e=>(qCh e).2.2
theorem qNt{H0 H1:Hp}{ts us:List Addr}{H:Hp}(a:Ext ts H0 H1)(h:∀b∈ts,b∈us):Same (yo H1 us H) (yo H0 us H):=λb o e=>by
 obtain⟨h0,h1,h2⟩:=qCh e;rw [qBh (a.none (λz=>h1 (h b z)) h0) h1];exact h2
theorem qIq{H0 H1:Hp}{ts us:List Addr}{H:Hp}(h:∀b∈us,b∈ts\/H1 b≠none):Same (yo H1 ts H) (yo H1 us H):=λb o e=>by
 obtain⟨h0,h1,h2⟩:=qCh e;rw [qBh h0 (λz=>(h b z).elim h1 (λy=>y h0))];exact h2
def Tape(H:Hp)(t:Addr)(k:Nat):Prop := ∃(a b c:Int),H t=some (.lst [.int a,.int b,.int c])/\0<=a/\0<=b/\b<2^62/\0<=c/\c<=k
theorem Tape.mono{H:Hp}{t:Addr}{k j:Nat}(h:Tape H t k)(hk:k<=j):Tape H t j:=by
 obtain⟨a,b,c,h1,h2,h3,h4,h5,h6⟩:=h;exact⟨a,b,c,h1,h2,h3,h4,h5,by lia⟩
theorem Tape.ext{H H':Hp}{t:Addr}{k:Nat}{ts:List Addr}(h:Tape H t k)(e:Ext ts H H')(ht:t∉ts):Tape H' t k:=by
 obtain⟨a,b,c,h1,r⟩:=h;exact⟨a,b,c,e _ _ ht h1,r⟩
theorem Tape.ne{H:Hp}{t l:Addr}{k:Nat}(h:Tape H t k)(hl:H l=none):l≠t:=by
 obtain⟨a,b,c,h1,_⟩:=h;exact (qA2 h1 hl).symm
def qCl:Sp:=λvs H Q _ => ∃(t:Addr) (k:Nat) (n:Int),vs = [.ref t,.int n]/\Tape H t k/\k<=2^40/\0<n/\n<2^24 /\ ∀(r:Int) (H':Hp),0<=r->r<n->Tape H' t (k+1)->Ext [t] H H'->(∀b,b≠t->H' b=H b)->Q (.int r) H'
section
variable{K:PySem.W.Frag}{σ : St}{H:Hp}{Q:VK}{p:Addr}{xs:List V}{i j:Int}{v:V}{ta tb te to ti:TE}{r:R2}{t u:TS}{D:Ends}{n m:Nat}{tt t2:TT}{tl tr:TA}
theorem qTc(h:ta σ H λx H1=>tb σ H1 λy H2=>r x y H2 Q):tOp r ta tb σ H Q:=h
theorem qGa(h : σ[n]? = some (some v))(q:Q v H):tVar n σ H Q:=⟨v,h,q⟩
theorem r_c(q:Q v H):tC v σ H Q:=q
theorem qT0{g:Int->Int->V}(q:Q (g i j) H):rI0 g (.int i) (.int j) H Q:=⟨i,j,rfl,rfl,q⟩
theorem qIc(c:(-(2^64)<i/\i<2^64)\/(-(2^64)<j/\j<2^64))(q:Q (.int (i*j)) H):rI CMul (λi j =>.int (i*j)) (.int i) (.int j) H Q:=⟨i,j,rfl,rfl,c,q⟩
theorem qKe(c1:0<=j)(c2:j<=1000000)(c3:i.natAbs<2^64)(q:Q (.int (i^j.toNat)) H):rI CPow (λi j =>.int (i^j.toNat)) (.int i) (.int j) H Q:=⟨i,j,rfl,rfl,⟨c1,c2,c3⟩,q⟩
theorem qS2(c1:0<j)(c2:j<1073741824)(q:Q (.int (i / j)) H):rI CDiv (λi j =>.int (i / j)) (.int i) (.int j) H Q:=⟨i,j,rfl,rfl,⟨c1,c2⟩,q⟩
theorem qEh(c:0<j)(q:Q (.int (i%j)) H):rI (λ_ j=>0<j) (λi j =>.int (i%j)) (.int i) (.int j) H Q:=⟨i,j,rfl,rfl,c,q⟩
theorem qSw{g:Int->V}(h:ta σ H λx H1=>rU g x H1 Q):tUn (rU g) ta σ H Q:=h
theorem r_u{g:Int->V}(q:Q (g i) H):rU g (.int i) H Q:=⟨i,rfl,q⟩
theorem qBo(h:SqL K H p xs)(e:atI xs i=some v)(q:Q v H):rIxL K (.ref p) (.int i) H Q:=⟨p,xs,i,v,rfl,rfl,h,e,q⟩
theorem qLz(h:SqT K H p xs)(e:atI xs i=some v)(q:Q v H):rIxT K (.ref p) (.int i) H Q:=⟨p,xs,i,v,rfl,rfl,h,e,q⟩
theorem qO4(h:t { D with nx:=u D } σ H):tSeq t u D σ H:=h
theorem qS3{g:TG}(h:te σ H λx H1=>g x σ H1 D.nx):tAsg te g D σ H:=h
theorem qH6{R:St->Hp->Prop}(q:R (σ.set n (some v)) H):gName n v σ H R:=q
theorem qRy(h:te σ H D.rt):tRet te D σ H:=h
theorem qJb(h:te σ H λ_ H1=>D.nx σ H1):tDrop te D σ H:=h
theorem qJ7(h:D.nx σ H):tNext D σ H:=h
theorem qT5(h:tt σ H λb H1=>if b=true then t D σ H1 else u D σ H1):tIfS tt t u D σ H:=h
theorem qJ2{R:Bool->Hp->Prop}(h:te σ H λx H' => ∃k,x = .bl k/\R k H'):tTest te σ H R:=h
theorem qSx{R:Bool->Hp->Prop}(h:te σ H λx H' => ∃k,x = .bl k/\R k H'):tB te σ H R:=h
theorem qQm{b:Bool}{R:Bool->Prop}(q:R b):∃k,V.bl b = .bl k/\R k:=⟨b,rfl,q⟩
theorem qJ9{ts:TSet}{R:St->Hp->Prop}(h:to σ H λo H1=>ti σ H1 λi H2=>ts o i v H2 λH3=>R σ H3):gSub to ti ts v σ H R:=h
theorem qPx{R:Hp->Prop}(h:H p=some (.lst xs))(e:ixN xs.length i=some n)(q:R (upd H p (.lst (xs.set n v)))):rSetL (.ref p) (.int i) v H R:=⟨p,xs,i,n,rfl,rfl,h,e,q⟩
theorem qKf{R:List V->Hp->Prop}(q:R [] H):tNil σ H R:=q
theorem qFi{R:List V->Hp->Prop}(h:ta σ H λx H1=>tr σ H1 λxs H2=>R (x::xs) H2):tCons ta tr σ H R:=h
theorem qO3(h:tl σ H λxs H1=>xs.length<=sizeLine /\ ∀p,H1 p=none->Q (.ref p) (upd H1 p (.tup xs))):tTup tl σ H Q:=h
theorem qO9(h:tl σ H λxs H1=>xs.length<=sizeLine /\ ∀p,H1 p=none->Q (.ref p) (upd H1 p (.lst xs))):tLst tl σ H Q:=h
theorem qJf{sp:Sp}{dvs:List V}{E:XK}(h:tl σ H λvs H1=>sp (vs++dvs) H1 Q E):tCall sp dvs E tl σ H Q:=h
theorem qT1{rr:List V->Hp->VK->Prop}(h:tl σ H λvs H1=>rr vs H1 Q):tCB rr tl σ H Q:=h
theorem qOa(h:tt σ H λb H1=>if b=true then ta σ H1 Q else tb σ H1 Q):tIf tt ta tb σ H Q:=h
theorem qOf{R:Bool->Hp->Prop}(h:tt σ H λc H1=>if c=true then t2 σ H1 R else R false H1):tAnd tt t2 σ H R:=h
theorem qSz{R:Bool->Hp->Prop}(h:tt σ H λc H1=>if c=true then R true H1 else t2 σ H1 R):tOr tt t2 σ H R:=h
theorem qO6{R:Bool->Hp->Prop}(h:tt σ H λc H1=>R (!c) H1):tNot tt σ H R:=h
theorem qO5(h:tl σ H λvs H1 => ∃v w,vs = [v,w]/\D.nx ((σ.set n (some v)).set m (some w)) H1):tPar n m tl D σ H:=h
end
section
variable{K:PySem.W.Frag}{σ : St}{H:Hp}{Q:VK}{l t:Addr}{xs:List V}{i j n:Int}{v y:V}{k:Nat}{E:XK}
theorem qAy(hT:Tape H t k)(hk:k<=2^40)(h0:0<n)(h1:n<2^24)(q:∀r H',0<=r->r<n->Tape H' t (k+1)->Ext [t] H H'->(∀b,b≠t->H' b=H b)->Q (.int r) H'):qCl ([.ref t,.int n] ++ []) H Q E:=⟨t,k,n,rfl,hT,hk,h0,h1,q⟩
theorem qD0(q:Q (.bl (decide (i=j))) H):rEq (.int i) (.int j) H Q:=⟨rfl,by
 have e:decide (V.int i=V.int j)=decide (i=j):=by rw [cA];simp
 rw [e];exact q⟩
theorem qO8(q:Q (.bl (!decide (i=j))) H):rNe (.int i) (.int j) H Q:=⟨rfl,by
 have e:decide (V.int i=V.int j)=decide (i=j):=by rw [cA];simp
 rw [e];exact q⟩
theorem qDr{a b:Str}(q:Q (.bl (decide (a=b))) H):rEq (.str a) (.str b) H Q:=⟨rfl,by
 have e:decide (V.str a=V.str b)=decide (a=b):=by rw [cA];simp
 rw [e];exact q⟩
theorem qKg{a b:Str}(q:Q (.bl (!decide (a=b))) H):rNe (.str a) (.str b) H Q:=⟨rfl,by
 have e:decide (V.str a=V.str b)=decide (a=b):=by rw [cA];simp
 rw [e];exact q⟩
theorem qBr{R:Prop}(h:H l=some (.lst xs))(q:R):tyV K "list" (.ref l) H/\R:=⟨.inl ⟨rfl,_,SqL.of h⟩,q⟩
theorem qC3(h:H l=some (.lst xs))(hz:xs.length<sizeLine)(q:Q .non (upd H l (.lst (xs ++ [y])))):qGf (.ref l) [y] H Q:=⟨l,xs,y,rfl,rfl,h,hz,q⟩
theorem bit01(b:Bool):0<=(if b=true then (1:Int) else 0)/\(if b=true then (1:Int) else 0)<=1:=by cases b <;> decide
end
theorem len2{n:Nat}(h:n<=1000):n<=sizeLine:=bH h (by decide)
theorem qBf{CX:CXT}{P:Program}{w:World}{K:PySem.W.Frag}{mg:Str->Option Value}{base:Heap}{N:List Str}{qual:Str}{scope:Scope}{f:Addr}{cd:Value}{A:Around}{outer:List Env}{s:Shared}{H:Hp}{E:XK}:(cxOf CX P w K mg base N qual scope f cd A outer s H E).nox.K=K:=rfl
theorem qB5{X:Cx}{own:List Str}{cap:List Nat}{scope:Scope}{cl:List (Str×Addr)}{s:Shared}{H:Hp}{ex:List Addr}:(qAk X own cap scope cl s H ex).K=X.K:=rfl
def Has(P:Program)(w:World)(K:PySem.W.Frag)(mg:Str->Option Value)(base:Heap)(x:Str)(k:Nat)(ps:List Str)(sp:Sp):Prop :=
 ∃f fd,FnOk P w K mg base CX0 k f fd ps sp/\mg x=some (.ref f)/\PySem.W.keepIn K (.ref f)=true/\Binds K fd ps []
theorem qAj{X:Cx}{x:Str}{k j:Nat}{ps:List Str}{sp:Sp}{e:Expr}{es:List Expr}{t:TA}{p pos:Pos}(h:Has X.prog X.w X.K X.mg X.base x k ps sp)(hr:Room j X.A)(hj:k<=j)(ha:PA X (e::es) t)(hg:Gl X x:=by rfl)
  (hdb:(x == ("__debug__" : Str))=false:=by decide) (he:starEach (e::es) X.env=(false,eval e X.env)::starEach es X.env:=by rfl) (hpl:(backTo pos (starEach es X.env)).any (·.1)=false:=by rfl) :
  PE X (.Call (.Name x p) (e::es) [] pos) (tCall sp [] E0 t):=by
 obtain⟨f,fd,G,hm,hk,hb⟩:=h;exact qQv G (hr.mono hj) hg hm hk hb .nil pass0 ha hdb he hpl
def qLk(K:PySem.W.Frag):Sp:=λvs H Q _ => ∃(a:Addr) (ns:List Int) (k:Nat),vs = [.ref a,.int k]/\SqL K H a (ns.map V.int)/\k<=100 /\ ∀(t:Addr) (H':Hp),H t=none->Tape H' t 0->Same H H'->Q (.ref t) H'
def qQf(c:Nat)(lo hi:Int):Sp:=λvs H Q _ => ∃(t:Addr) (k:Nat),vs = [.ref t]/\Tape H t k/\k+c<=2^40 /\ ∀(r:Int) (H':Hp),lo<=r->r<=hi->Tape H' t (k+c)->Ext [t] H H'->Q (.int r) H'
abbrev qLm:Sp:=qQf 3 1 12
abbrev qG1:Sp:=qQf 3 (-(10^12)) (10^12)
def chk(X:Cx)(own:List Str)(cap:List Nat)(scope:Scope):Bool :=
 decide (scope.kind = .function)&&(scope.names.all λx=>decide (x.2 ≠ .cell))&&(scope.names.all λx => !decide (x.2 = .local)||decide (scope.names.lookup x.1=some .local)) &&
 (scope.names.all λx => !decide (x.2 = .free)||(decide (X.env.scope.names.lookup x.1=some .cell)||decide (X.env.scope.names.lookup x.1=some .free)))&&(own.all λx=>decide (scope.names.lookup x=some .local)) &&
 (cap.all λj=>decide (scope.names.lookup (X.N.getD j "")=some .free)&&decide (j<X.N.length))
theorem CompScope.of{X:Cx}{own:List Str}{cap:List Nat}{scope:Scope}(h:chk X own cap scope=true):CompScope X own cap scope:=by
 unfold chk at h;simp only [bE,dY,decide_eq_true_eq,Bool.or_eq_true,Bool.not_eq_true',decide_eq_false_iff_not] at h;obtain⟨⟨⟨⟨⟨h1,h2⟩,h3⟩,h4⟩,h5⟩,h6⟩:=h;exact⟨h1,λx hx=>h2 x hx,λx hx e=>(h3 x hx).resolve_left (λz=>z e),λx hx e=>(h4 x hx).resolve_left (λz=>z e),h5,λj hj=>h6 j hj⟩
section
variable{K:PySem.W.Frag}{a:Addr}{xs:List V}{g:TG}{tt:TT}{B:TB}{σ : St}{H:Hp}{Q:St->Hp->Prop}
theorem qDs{J:It}{n:Nat}(Pv:Nat->St->Hp->Prop)(h0:Pv 0 σ H)(hgo:∀i σ H,i<n->Pv i σ H->J.go i H)(hst:∀ σ H,Pv n σ H->J.stop n H)(hs:∀i σ H (R:St->Hp->Prop),i<n->Pv i σ H->(∀ σ' H',Pv (i+1) σ' H'->R σ' H') -> ∀x H',J.yld i H x H'->g x σ H' λσ2 H2=>tt σ2 H2 λb H3=>if b=true then B σ2 H3 R else R σ2 H3)(hd:∀ σ H,Pv n σ H->Q σ H):LoopT J g tt B σ H Q:=by
 refine⟨λi m σ H=>m=n - i/\i<=n/\Pv i σ H,⟨n,by simp,aW _,h0⟩,?_⟩;rintro i m σ H ⟨rfl,hi,p⟩;by_cases hlt:i<n
 ·refine .inr ⟨hgo i σ H hlt p,λx H' y=>?_⟩;exact hs i σ H _ hlt p (λσ' H' p'=>⟨n - (i+1),by lia,rfl,hlt,p'⟩) x H' y
 ·have e:i=n:=by lia
  subst e;exact .inl ⟨hst σ H p,hd σ H p⟩
theorem qC7(Pv:Nat->St->Hp->Prop)(h0:Pv 0 σ H)(hl:∀i σ H,i<=xs.length->Pv i σ H->SqL K H a xs)(hs:∀i x σ H (R:St->Hp->Prop),xs[i]? = some x->Pv i σ H->(∀ σ' H',Pv (i+1) σ' H'->R σ' H')->g x σ H λσ2 H2=>tt σ2 H2 λb H3=>if b=true then B σ2 H3 R else R σ2 H3)(hd:∀ σ H,Pv xs.length σ H->Q σ H):LoopT (Itl K a) g tt B σ H Q:=by
 refine qDs (n:=xs.length) Pv h0 (λi σ H hi p=>⟨xs,xs[i],hl i σ H (bU hi) p,by simp [hi]⟩) (λσ H p=>⟨xs,hl _ σ H (aC _) p,aC _⟩) (λi σ H R hi p hR x H' y=>?_) hd;obtain⟨e,y⟩:=y;subst e;exact hs i x σ _ R (y xs (hl i σ _ (bU hi) p)) p hR
theorem qKt{lo:Int}{n:Nat}(Pv:Nat->St->Hp->Prop)(h0:Pv 0 σ H)(hs:∀i σ H (R:St->Hp->Prop),i<n->Pv i σ H->(∀ σ' H',Pv (i+1) σ' H'->R σ' H')->g (.int (lo+i)) σ H λσ2 H2=>tt σ2 H2 λb H3=>if b=true then B σ2 H3 R else R σ2 H3)(hd:∀ σ H,Pv n σ H->Q σ H):LoopT (Itr lo n) g tt B σ H Q:=by
 refine qDs (n:=n) Pv h0 (λi σ H hi p=>hi) (λσ H p=>aC _) (λi σ H R hi p hR x H' y=>?_) hd;obtain⟨e,y⟩:=y;subst e y;exact hs i σ _ R hi p hR
theorem qMq(Pv:Nat->St->Hp->Prop)(h0:Pv 0 σ H)(hl:∀i σ H,i<=xs.length->Pv i σ H->SqL K H a xs)(hs:∀i x σ H p (R:St->Hp->Prop),xs[i]? = some x->Pv i σ H->H p=none->(∀ σ' H',Pv (i+1) σ' H'->R σ' H')->g (.ref p) σ (upd H p (.tup [.int i,x])) λσ2 H2=>tt σ2 H2 λb H3=>if b=true then B σ2 H3 R else R σ2 H3)(hd:∀ σ H,Pv xs.length σ H->Q σ H):LoopT (Ite K a) g tt B σ H Q:=by
 refine qDs (n:=xs.length) Pv h0 (λi σ H hi p=>⟨xs,xs[i],hl i σ H (bU hi) p,by simp [hi]⟩) (λσ H p=>⟨xs,hl _ σ H (aC _) p,aC _⟩) (λi σ H R hi p hR x H' y=>?_) hd;obtain⟨q,y,e,hq,hy,e2⟩:=y;subst e e2;exact hs i y σ H q R (hy xs (hl i σ H (bU hi) p)) p hq hR
end
theorem qPg{K:PySem.W.Frag}{a:Addr}{xs:List V}{g:TG}{tb:TS}{D:Ends}{σ : St}{H:Hp}(Pv:Nat->St->Hp->Prop)(h0:Pv 0 σ H)(hl:∀i σ H,i<=xs.length->Pv i σ H->SqL K H a xs)(hs:∀i x σ H p,xs[i]? = some x->Pv i σ H->H p=none->g (.ref p) σ (upd H p (.tup [.int i,x])) λσ2 H2=>tb { D with nx:=Pv (i+1),ct:=Pv (i+1),bk:=D.nx } σ2 H2)(hd:∀ σ H,Pv xs.length σ H->D.nx σ H):∃W:Nat->Nat->St->Hp->Prop,(∃m,W 0 m σ H) /\ ∀i m σ H,W i m σ H ->
   ((Ite K a).stop i H/\D.nx σ H)\/((Ite K a).go i H /\ ∃N:St->Hp->Prop,(∀ σ' H',N σ' H' -> ∃m',m'<m/\W (i+1) m' σ' H') /\ ∀x H',(Ite K a).yld i H x H'->g x σ H' λσ2 H2=>tb { D with nx:=N,ct:=N,bk:=D.nx } σ2 H2):=by
 refine⟨λi m σ H=>m=xs.length - i/\i<=xs.length/\Pv i σ H,⟨xs.length,by simp,aW _,h0⟩,?_⟩;rintro i m σ H ⟨rfl,hi,p⟩;have q:=hl i σ H hi p;by_cases hlt:i<xs.length
 ·refine .inr ⟨⟨xs,xs[i],q,by simp [hlt]⟩,Pv (i+1),λσ' H' p'=>⟨xs.length - (i+1),by lia,rfl,hlt,p'⟩,λx H' y=>?_⟩;obtain⟨r,y,e,hr,hy,e2⟩:=y;subst e e2;exact hs i y σ H r (hy xs q) p hr
 ·have e:i=xs.length:=by lia
  subst e;exact .inl ⟨⟨xs,q,aC _⟩,hd σ H p⟩
abbrev intsD(ns:List Int):PyData :=.list (ns.map .int)
def NxOk(m:Int)(nx:List (List Int)):Prop:=(nx.length:Int)=m /\ ∀ns∈nx,ns = []\/(∃x,ns = [x]/\1<=x/\x<m) \/ ∃x y,ns = [x,y]/\x≠y/\1<=x/\x<m/\1<=y/\y<m
section
variable{K:PySem.W.Frag}{σ : St}{H:Hp}{Q:VK}{l d:Addr}{xs:List V}{i j:Int}{v y:V}{to ta tb te td ty tk tv tx:TE}{tl:TA}{wi:TI}{g:TG}{tts:List TT}{D:Ends}{tb2:TS}
theorem qRk{T:String}{r:V->List V->Hp->VK->Prop}(h:to σ H λx H1=>tyV K T x H1/\tl σ H1 λxs H2=>r x xs H2 Q):tBM K T r to tl σ H Q:=h
theorem qOe{T:String}{r:V->List V->Hp->VK->Prop}(h:to σ H λx H1=>tyV K T x H1/\r x [] H1 Q):tBM0 K T r to σ H Q:=h
theorem qT4{R:Prop}{kvs:List (Key×V)}(h:H d=some (.dK kvs))(q:R):tyV K "dict" (.ref d) H/\R:=⟨.inr (.inr (.inl ⟨rfl,.inl ⟨_,h⟩⟩)),q⟩
theorem qH7{own:List Str}{cap:List Nat}{o:HO}{Bof:Addr->TB}(h:wi σ H λJ H1 => ∀l,H1 l=none->LoopT J g (tAll tts) (Bof l) (qHt own cap σ) (upd H1 l o) λ_ H2=>Q (.ref l) H2):tComp own cap o wi g tts Bof σ H Q:=h
theorem qEi{R:It->Hp->Prop}(h:te σ H λx H1 => ∃a,x = .ref a/\(∃xs,SqL K H1 a xs)/\R (Itl K a) H1):iList K te σ H R:=h
theorem qGb{R:It->Hp->Prop}(h:tl σ H λvs H1 => ∃a,vs = [.ref a]/\(∃xs,SqL K H1 a xs)/\R (Ite K a) H1):iEnum K tl σ H R:=h
theorem qGc{R:It->Hp->Prop}(h:te σ H λx H1 => ∃d kvs,x = .ref d/\H1 d=some (.dK kvs) /\ ∀o,R (Itd d o kvs) (upd H1 d (.frz o (.dK kvs)))):iDict te σ H R:=h
theorem qJ8{R:It->Hp->Prop}(h:te σ H λx H1 => ∃a,x = .ref a/\(∃xs,SqT K H1 a xs)/\R (Itt K a) H1):iTup K te σ H R:=h
theorem qJ4{R:It->Hp->Prop}(h:tl σ H λvs H1 => ∃j:Int,vs = [.int j] /\ -(2^62)<=j/\j<2^62/\R (Itr 0 j.toNat) H1):iRng1 tl σ H R:=h
theorem qOc(h:wi σ H λJ H1 => ∃W:Nat->Nat->St->Hp->Prop,(∃m,W 0 m σ H1) /\ ∀i m σ H,W i m σ H ->
 (J.stop i H/\D.nx σ H)\/(J.go i H /\ ∃N:St->Hp->Prop,(∀ σ' H',N σ' H' -> ∃m',m'<m/\W (i+1) m' σ' H') /\ ∀x H',J.yld i H x H'->g x σ H' λσ2 H2=>tb2 { D with nx:=N,ct:=N,bk:=D.nx } σ2 H2)):tFor wi g tb2 D σ H:=h
theorem qM0(h:∀p,H p=none->Q (.ref p) (upd H p (.dK []))):qPv σ H Q:=h
theorem qOd(h:ty σ H λy H1=>td σ H1 λx H2 => ∃a o,x = .ref a/\DGet H2 a y o/\Q (.bl o.isSome) H2):tDIn ty td σ H Q:=h
theorem qE4(h:ty σ H λy H1=>td σ H1 λx H2 => ∃a o,x = .ref a/\DGet H2 a y o/\Q (.bl (!o.isSome)) H2):qLe ty td σ H Q:=h
theorem qJd(h:td σ H λx H1=>ty σ H1 λy H2 => ∃a v,x = .ref a/\DGet H2 a y (some v)/\Q v H2):tDGet td ty σ H Q:=h
theorem qGe(h:td σ H λx H1 => ∃a,x = .ref a/\IsD H1 a/\ty σ H1 λy H2=>tx σ H2 λz H3 => ∃o,DGet H3 a y o/\Q (o.getD z) H3):qPw td ty tx σ H Q:=h
theorem qJc(h:tv σ H λv H1=>td σ H1 λx H2=>ty σ H2 λy H3 => ∃a H4,x = .ref a/\DPut H3 a y v H4/\D.nx σ H4):sDPut td ty tv D σ H:=h
theorem qJg{R:St->Hp->Prop}(h:te σ H λv H1 => ∃vs,H1 l=some (.lst vs)/\vs.length<sizeLine/\R σ (upd H1 l (.lst (vs ++ [v])))):eApp te l σ H R:=h
theorem qJ5{R:St->Hp->Prop}(h:tk σ H λx H1=>tv σ H1 λy H2 => ∃kvs k,x=kV k/\H2 l=some (.dK kvs)/\kvs.length<sizeLine/\R σ (upd H2 l (.dK (putK kvs k y)))):ePut tk tv l σ H R:=h
theorem qJj{R:Bool->Hp->Prop}(h:R true H):tAll [] σ H R:=h
theorem qJi{tt:TT}{R:Bool->Hp->Prop}(h:tt σ H λb H1=>if b=true then R true H1 else R false H1):tAll [tt] σ H R:=h
theorem qDg{n:Nat}{t:TGs}{R:St->Hp->Prop}(h:SqT K H l xs)(hn:xs.length=n)(q:t xs σ H R):gTup K n t (.ref l) σ H R:=⟨l,xs,rfl,h,hn,q⟩
theorem qGd{t:TG}{u:TGs}{R:St->Hp->Prop}(h:t v σ H λσ' H'=>u xs σ' H' R):gCons t u (v::xs) σ H R:=⟨v,xs,rfl,h⟩
theorem qJa{R:St->Hp->Prop}(h:R σ H):gNil [] σ H R:=⟨rfl,h⟩
theorem qSy{r:V->Option Int->Option Int->Hp->VK->Prop}{t1 t2:TO}(h:te σ H λx H1=>t1 σ H1 λl H2=>t2 σ H2 λu H3=>r x l u H3 Q):tSl r te t1 t2 σ H Q:=h
theorem qO7{R:Option Int->Hp->Prop}(h:R none H):qLd σ H R:=h
theorem qJ6{R:Option Int->Hp->Prop}(h:te σ H λx H1 => ∃i,x = .int i/\R (some i) H1):tPart te σ H R:=h
end
def Nx(N A:St->Hp->Prop):Prop := ∀ σ H,A σ H->N σ H
theorem qBb{N A:St->Hp->Prop}{σ : St}{H:Hp}(h:Nx N A)(q:A σ H):N σ H:=h σ H q
def NxV(Q' Q:VK):Prop := ∀v H,Q v H->Q' v H
theorem qPf{Q' Q:VK}{v:V}{H:Hp}(h:NxV Q' Q)(q:Q v H):Q' v H:=h v H q
theorem qCp{K:PySem.W.Frag}{a:Addr}{xs:List V}{g:TG}{tb:TS}{D:Ends}{σ : St}{H:Hp}(Pv:Nat->St->Hp->Prop)(h0:Pv 0 σ H)(hl:∀i σ H,i<=xs.length->Pv i σ H->SqL K H a xs)(hs:∀i x σ H,xs[i]? = some x->Pv i σ H -> ∀(N B C:St->Hp->Prop) (R:VK),Nx N (Pv (i+1))->Nx C (Pv (i+1))->NxV R D.rt->g x σ H λσ2 H2=>tb ⟨N,R,B,C⟩ σ2 H2)(hd:∀ σ H,Pv xs.length σ H->D.nx σ H):∃W:Nat->Nat->St->Hp->Prop,(∃m,W 0 m σ H) /\ ∀i m σ H,W i m σ H ->
   ((Itl K a).stop i H/\D.nx σ H)\/((Itl K a).go i H /\ ∃N:St->Hp->Prop,(∀ σ' H',N σ' H' -> ∃m',m'<m/\W (i+1) m' σ' H') /\ ∀x H',(Itl K a).yld i H x H'->g x σ H' λσ2 H2=>tb { D with nx:=N,ct:=N,bk:=D.nx } σ2 H2) :=
 qGn Pv h0 hl (λi x σ H hx hp=>hs i x σ H hx hp _ _ _ _ (λ_ _ h=>h) (λ_ _ h=>h) (λ_ _ h=>h)) hd
theorem qC8{lo:Int}{n:Nat}{g:TG}{tb:TS}{D:Ends}{σ : St}{H:Hp}(Pv:Nat->St->Hp->Prop)(h0:Pv 0 σ H)(hs:∀i σ H,i<n->Pv i σ H -> ∀(N B C:St->Hp->Prop) (R:VK),Nx N (Pv (i+1))->Nx C (Pv (i+1))->NxV R D.rt->g (.int (lo+i)) σ H λσ2 H2=>tb ⟨N,R,B,C⟩ σ2 H2)(hd:∀ σ H,Pv n σ H->D.nx σ H):∃W:Nat->Nat->St->Hp->Prop,(∃m,W 0 m σ H) /\ ∀i m σ H,W i m σ H ->
   ((Itr lo n).stop i H/\D.nx σ H)\/((Itr lo n).go i H /\ ∃N:St->Hp->Prop,(∀ σ' H',N σ' H' -> ∃m',m'<m/\W (i+1) m' σ' H') /\ ∀x H',(Itr lo n).yld i H x H'->g x σ H' λσ2 H2=>tb { D with nx:=N,ct:=N,bk:=D.nx } σ2 H2) :=
 qHo Pv h0 (λi σ H hx hp=>hs i σ H hx hp _ _ _ _ (λ_ _ h=>h) (λ_ _ h=>h) (λ_ _ h=>h)) hd
theorem qN4{K:PySem.W.Frag}{a:Addr}{xs:List V}{g:TG}{tb:TS}{D:Ends}{σ : St}{H:Hp}(Pv:Nat->St->Hp->Prop)(h0:Pv 0 σ H)(hl:∀i σ H,i<=xs.length->Pv i σ H->SqL K H a xs)(hs:∀i x σ H p,xs[i]? = some x->Pv i σ H->H p=none -> ∀(N B C:St->Hp->Prop) (R:VK),Nx N (Pv (i+1))->Nx C (Pv (i+1))->NxV R D.rt->g (.ref p) σ (upd H p (.tup [.int i,x])) λσ2 H2=>tb ⟨N,R,B,C⟩ σ2 H2)(hd:∀ σ H,Pv xs.length σ H->D.nx σ H):∃W:Nat->Nat->St->Hp->Prop,(∃m,W 0 m σ H) /\ ∀i m σ H,W i m σ H ->
   ((Ite K a).stop i H/\D.nx σ H)\/((Ite K a).go i H /\ ∃N:St->Hp->Prop,(∀ σ' H',N σ' H' -> ∃m',m'<m/\W (i+1) m' σ' H') /\ ∀x H',(Ite K a).yld i H x H'->g x σ H' λσ2 H2=>tb { D with nx:=N,ct:=N,bk:=D.nx } σ2 H2) :=
 qPg Pv h0 hl (λi x σ H p hx hp hn=>hs i x σ H p hx hp hn _ _ _ _ (λ_ _ h=>h) (λ_ _ h=>h) (λ_ _ h=>h)) hd
theorem qJ3{t u:TS}{D:Ends}{σ : St}{H:Hp}(h:∀N:St->Hp->Prop,Nx N (u D)->t ⟨N,D.rt,D.bk,D.ct⟩ σ H):tSeq t u D σ H:=h _ λ_ _ h=>h
theorem qOb{tt:TT}{A B:TS}{D:Ends}{σ : St}{H:Hp}(h:∀A' B':St->Hp->Prop,Nx A' (A D)->Nx B' (B D)->tt σ H λc H1=>if c=true then A' σ H1 else B' σ H1):tIfS tt A B D σ H:=h _ _ (λ_ _ h=>h) λ_ _ h=>h
theorem hide{B:Prop}(h:∀G:Prop,(B->G)->G):B:=h B id
inductive Deed where
 | set (b n:Int)
 | add (b o:Int)
 | tell (b:Int)
 | call (c:Int)
 | save (b:Int)
 | back (b:Int)
def deedD:Deed->PyData
 | .set b n =>.tuple [.str "set",.int b,.int n]
 | .add b o =>.tuple [.str "add",.int b,.int o]
 | .tell b =>.tuple [.str "tell",.int b]
 | .call c =>.tuple [.str "call",.int c]
 | .save b =>.tuple [.str "save",.int b]
 | .back b =>.tuple [.str "back",.int b]
def qDz(works:Int):Deed->Prop
 | .set b n=>0<=b/\b<8 /\ -(10^12)<=n/\n<=10^12
 | .add b o=>0<=b/\b<8/\0<=o/\o<8
 | .tell b=>0<=b/\b<8
 | .call c=>0<=c/\c<works
 | .save b=>0<=b/\b<8
 | .back b=>0<=b/\b<8
def endD:List Int->PyData
 | [] =>.tuple [.str "out"]
 | [x] =>.tuple [.str "go",.int x]
 | x::y::_ =>.tuple [.str "fork",.int x,.int y]
structure Blk where
 ds:List Deed
 ns:List Int
def blkD(b:Blk):PyData :=.tuple [.list (b.ds.map deedD),endD b.ns]
def workD(w:List Blk):PyData :=.list (w.map blkD)
def NsOk(m:Int)(ns:List Int):Prop:=ns = []\/(∃x,ns = [x]/\1<=x/\x<m) \/ ∃x y,ns = [x,y]/\x≠y/\1<=x/\x<m/\1<=y/\y<m
structure BlkOk(m works:Int)(b:Blk):Prop where
 ns:NsOk m b.ns
 ds:∀d∈b.ds,qDz works d
 few:b.ds.length<=20
structure WorkOk(m works:Int)(w:List Blk):Prop where
 len:(w.length:Int)=m
 blk:∀b∈w,BlkOk m works b
structure BsOk(bs:List Int):Prop where
 one:1<=bs.length
 few:bs.length<=8
 all:∀b∈bs,0<=b/\b<8
theorem qS1{k c:Nat}{lo hi:Int}{t:Addr}{H:Hp}{Q:VK}{E:XK}(hT:Tape H t k)(hk:k+c<=2^40)(q:∀r H',lo<=r->r<=hi->Tape H' t (k+c)->Ext [t] H H'->Q (.int r) H'):qQf c lo hi ([.ref t] ++ []) H Q E:=⟨t,k,rfl,hT,hk,q⟩
theorem qGw{ns:List Int}{r:Int}(h0:0<=r)(h1:r<ns.length):∃n,n∈ns/\atI (ns.map V.int) r=some (.int n):=by
 obtain⟨j,rfl⟩:=Int.eq_ofNat_of_zero_le h0;have hj:j<ns.length:=by exact_mod_cast h1
 refine⟨ns[j],List.getElem_mem hj,?_⟩;have:=qDc (xs:=ns.map V.int) (j:=j) (by rw [bC,aI hj];rfl);exact this
section
variable{X:Cx}
def qS5:List V->Hp->VK->Prop:=λxs H Q => ∃j:Int,xs = [.int j] /\ ∀l,H l=none->Q (.ref l) (upd H l (.rng 0 j))
theorem qIm:CallR X (.type "range") qS5:=by
 intro pins s σ H xs us Q I r h;obtain⟨j,rfl,q⟩:=h;obtain⟨u,rfl,t,rfl⟩:=vals1 r;refine call_range_1 ⟨.ref s.heap.objs.size,_,?_,rfl,q _ (I.hok.fresh (aC _))⟩;exact I.laid (λb o e=>aE _ e) (aC _) ⟨_,_,_,aR _ rfl⟩
def qOh:List V->Hp->VK->Prop:=λxs H Q => ∃(p:Addr) (j:Nat),xs = [.ref p]/\H p=some (.rng 0 j)/\j<=1000 /\ ∀l,H l=none->Q (.ref l) (upd H l (.lst ((List.range j).map λ(i:Nat)=>V.int (i:Int))))
theorem qGr(hh:X.A.handled=none):CallR X (.type "list") qOh:=by
 intro pins s σ H xs us Q I r h;obtain⟨p,j,rfl,hp,hj,q⟩:=h;obtain⟨u,rfl,rx⟩:=vals1 r;cases rx;obtain⟨t,u,v,e⟩:∃t u v,s.heap.get? p=some { cls :=.type "range",data :=.fields #[.int 0 t,.int (j:Int) u,.int 1 v] }:=I.hok p _ hp;refine call_list_range hh e (small_one (by decide) (by decide) (by lia) (by lia)) (n:=j) (by rw [rangeSize_one];split <;> lia) (by lia) λh' tk acc c kp hS hI=>?_;refine⟨.ref s.heap.objs.size,_,I.laid (o :=.lst ((List.range j).map λ(i:Nat)=>V.int (i:Int))) kp (aC _) (show _/\_ from⟨?_,acc.toList,c,?_,?_⟩),rfl,q _ (I.hok.fresh (aC _))⟩
 ·rw [aB,List.length_range];exact len2 hj
 ·have hl:acc.toList.length=j:=by rw [bG];exact hI.1
  have hv:∀(i:Nat) v,acc.toList[i]? = some v -> ∃t,v=Value.int (i:Int) t:=λi v hv=>by
   obtain⟨t,h⟩:=hI.2 i v (by rw [<-hv,bK]);exact⟨t,by rw [h];congr 1;lia⟩
  generalize acc.toList=us at hl hv;subst hl;have key:∀(us:List Value) (k:Nat),(∀(i:Nat) v,us[i]? = some v -> ∃t,v=Value.int ((k+i:Nat):Int) t)->Vals ((List.range' k us.length).map λ(i:Nat)=>V.int (i:Int)) us:=by
   intro us
   induction us with
   | nil=>intro k _;exact .nil
   | cons u us ih =>
    intro k h;obtain⟨t,rfl⟩:=h 0 u rfl;refine .cons ⟨t,rfl⟩ (ih (k+1) λi v e=>?_);obtain⟨t,e⟩:=h (i+1) v e;exact⟨t,by rw [e];congr 1;lia⟩
  have:=key us 0 (λi v e=>by obtain⟨t,h⟩:=hv i v e;exact⟨t,by rw [h];congr 1;lia⟩)
  rwa [<-List.range_eq_range'] at this
 ·rw [Array.toArray_toList];exact hS
variable{K:PySem.W.Frag}
theorem qQg(K:PySem.W.Frag)(hK:X.K=K):SlR X (rSlT K):=hK▸qLp
theorem qJt(K:PySem.W.Frag)(hK:X.K=K):CallR X (.builtin "len") (λxs H Q => ∃p ys,xs = [.ref p]/\(SqL K H p ys\/SqT K H p ys)/\Q (.int ys.length) H):=hK▸qAf
theorem qP8(K:PySem.W.Frag)(hK:X.K=K):CallR X (.type "list") (λxs H Q => ∃p ys,xs = [.ref p]/\(SqL K H p ys\/SqT K H p ys) /\ ∀l,H l=none->Q (.ref l) (upd H l (.lst ys))):=hK▸qCr
theorem qGk(K:PySem.W.Frag)(hK:X.K=K){es:List Expr}{pos:Pos}{k:Nat}{t:TGs}{n:Nat}(hc:X.calm=true)(h:PGs X es t)(hn:(assignEach es X.env).length=n:=by rfl)(hst:(assignEach es X.env).findIdx? (·.1)=none:=by rfl):PG X (.Tuple es k pos) (gTup K n t):=hK▸qFk hc h hn hst
theorem qQ1(K:PySem.W.Frag)(hK:X.K=K){T:String}{name:Str}{id:String}{r:V->List V->Hp->VK->Prop}{o e:Expr}{es:List Expr}{to:TE}{t:TA}{apos cpos:Pos}(pa:PlainAttrs T)(slot:Slot T name id)(hty:typeOf (.builtin id)=pure (.type "method_descriptor"))(hm:MtR X id r)(ho:PE X o to)(ha:PA X (e::es) t)
  (hbase:attributeBase o name X.env (eval o X.env)=eval o X.env:=by rfl)
  (hfew:((backTo cpos (starEach (e::es) X.env)).all (λx => !x.1)&&(backToKw cpos (keywordEach [] X.env)).all (λx=>x.1.isSome)
   && decide ((e::es).length+([]:List Keyword).length+(if ([]:List Keyword).isEmpty then 0 else 1)<30))=true:=by rfl)
  (hline:(apos.endLine == cpos.line)=true:=by rfl) (hs:starEach (e::es) X.env=(false,eval e X.env)::starEach es X.env:=by rfl) (hplain:(backTo cpos (starEach es X.env)).any (·.1)=false:=by rfl) :
  PE X (.Call (.Attribute o name apos) (e::es) [] cpos) (tBM K T r to t):=hK▸qBp pa slot hty hm ho ha hbase hfew hline hs hplain
theorem qRq{j n:Nat}(h:j<n):seqIndex? (j:Int) n=some j:=by
 show (if (decide (0<=if (j:Int)<0 then (j:Int)+n else j)&&decide ((if (j:Int)<0 then (j:Int)+n else j)<n))=true then some (if (j:Int)<0 then (j:Int)+n else (j:Int)).toNat else none)=some j;have e:(if (j:Int)<0 then (j:Int)+n else (j:Int))=j:=if_neg (by lia);rw [e,decide_eq_true (show (0:Int)<=j by lia),decide_eq_true (show (j:Int)<n by lia)];rfl
theorem qHh{α β : Type}{f : α -> β}:∀(l:List α) (n:Nat),(l.eraseIdx n).map f=(l.map f).eraseIdx n
 | [],_=>rfl
 | _::_,0=>rfl
 | a::l,n+1=>congrArg (f a :: ·) (qHh l n)
end
theorem qRe{ns:List Int}(h:ns.length<=2):∃w:Str,endD ns = .tuple (.str w::ns.map .int):=by
 match ns,h with
 | [],_=>exact⟨_,rfl⟩
 | [x],_=>exact⟨_,rfl⟩
 | [x,y],_=>exact⟨_,rfl⟩
theorem Ext.toSame{H H':Hp}(e:Ext [] H H'):Same H H':=λb o h=>e b o (by simp) h
theorem NsOk.few{m:Int}{ns:List Int}(h:NsOk m ns):ns.length<=2:=by
 rcases h with h | ⟨x,h,_⟩ | ⟨x,y,h,_⟩ <;> subst h <;> simp
theorem NsOk.range{m:Int}{ns:List Int}(h:NsOk m ns):∀x∈ns,1<=x/\x<m:=by
 rcases h with h | ⟨x,h,h1,h2⟩ | ⟨x,y,h,_,h1,h2,h3,h4⟩ <;> subst h <;> intro z hz
 ·cases hz
 ·rw [aO.mp hz];exact⟨h1,h2⟩
 ·rcases aJ.mp hz with e | e
  ·rw [e];exact⟨h1,h2⟩
  ·rw [aO.mp e];exact⟨h3,h4⟩
theorem qSj{X:Cx}(K:PySem.W.Frag)(hK:X.K=K):OpR X (compareOp .NotIn) (rIn K true):=hK▸qHe
theorem inK{X:Cx}(K:PySem.W.Frag)(hK:X.K=K):OpR X (compareOp .In) (rIn K false):=hK▸qMd
theorem qRd{a b:Int}:eqV (.int a) (.int b)=decide (a=b):=by
 first | rfl | (unfold eqV;simp)
theorem qPc(x:Int):∀ns:List Int,inV (.int x) (ns.map V.int)=decide (x∈ns)
 | []=>rfl
 | n::r=>by
  have ih:=qPc x r;show (eqV (.int n) (.int x)||inV (.int x) (r.map V.int))=_;rw [ih,qRd];by_cases h1:n=x
  ·subst h1;simp
  ·by_cases h2:x∈r
   ·simp [h2]
   ·simp [h1,h2,dS h1]
theorem qHr:∀ns:List Int,(ns.map V.int).all flatV=true
 | []=>rfl
 | _::r=>qHr r
theorem qAz{α β : Type}{f : α -> β}{l:List α}{i:Nat}{y : β}(h:(l.map f)[i]? = some y):∃x,l[i]? = some x/\y=f x:=by
 rw [bC] at h;cases z:l[i]? with
 | none=>rw [z] at h;cases h
 | some x=>rw [z] at h;exact⟨x,rfl,(bF h).symm⟩
def nxt(w:List Blk)(i:Int):List Int:=if 0<=i then ((w[i.toNat]?).map Blk.ns).getD [] else []
inductive Reach(nx:Int->List Int)(a:Int):Int->Prop
 | refl:Reach nx a a
 | step {b c:Int}:Reach nx a b->c∈nx b->Reach nx a c
theorem qMl{w:List Blk}{i:Nat}{b:Blk}(h:w[i]? = some b):nxt w (i:Int)=b.ns:=by
 unfold nxt;rw [if_pos (by lia),Int.toNat_natCast,h];rfl
theorem qQ3{m works:Int}{w:List Blk}(h:WorkOk m works w)(i:Int):NsOk m (nxt w i):=by
 unfold nxt;split
 ·cases z:w[i.toNat]? with
  | none=>exact .inl rfl
  | some b=>exact (h.blk b (aL z)).ns
 ·exact .inl rfl
theorem Reach.range{m works a x:Int}{w:List Blk}(h:WorkOk m works w)(ha:0<=a/\a<m)(r:Reach (nxt w) a x):0<=x/\x<m:=by
 induction r with
 | refl=>exact ha
 | step _ hc _=>have:=(qQ3 h _).range _ hc;lia
def cnt(p:Int->Bool):Nat->Nat
 | 0=>0
 | m+1=>cnt p m+(if p (m:Int)=true then 1 else 0)
theorem qNf(p:Int->Bool):∀m,cnt p m<=m
 | 0=>aC _
 | m+1=>by
  have:=qNf p m;show cnt p m+_<=_;split <;> lia
theorem qK1{p q:Int->Bool}(h:∀i,p i=true->q i=true):∀m,cnt p m<=cnt q m
 | 0=>aC _
 | m+1=>by
  have:=qK1 h m;show cnt p m+_<=cnt q m+_;by_cases hp:p (m:Int)=true
  ·rw [if_pos hp,if_pos (h _ hp)];lia
  ·rw [if_neg hp];lia
theorem qQb{p q:Int->Bool}{x:Int}(h:∀i,p i=true->q i=true)(hq:q x=true)(hp:p x=false):∀m:Nat,0<=x->x<m->cnt p m<cnt q m
 | 0,h0,h1=>by lia
 | m+1,h0,h1=>by
  show cnt p m+_<cnt q m+_;by_cases e:x=(m:Int)
  ·subst e;have:=qK1 h m;rw [if_neg (by rw [hp];decide),if_pos hq];lia
  ·have:=qQb h hq hp m h0 (by lia);by_cases hp:p (m:Int)=true
   ·rw [if_pos hp,if_pos (h _ hp)];lia
   ·rw [if_neg hp];lia
section
variable(nx:Int->List Int)(a:Int)
variable{nx a}
end
theorem qAo{X:Cx}{a:Expr}{ta:TE}(K:PySem.W.Frag)(hK:X.K=K)(ha:PE X a ta)(he:∀whole,isTrue a X.env whole=(do let v <-whole;standAt a.pos;holding [v] (truthy v))):PT X a (λσ H Q=>ta σ H λx H' => ∃k,TruV K x H' k/\Q k H'):=hK▸qJk ha he
theorem qGu(xs:Array Nat)(j:Nat)(up:xs.toList.Pairwise (· < ·)):∀(fuel lo hi:Nat),lo<=hi->hi<=xs.size->hi - lo<=fuel->(∀(i x:Nat),xs[i]? = some x->i<lo->x<j)->(∀(i x:Nat),xs[i]? = some x->hi<=i->j<=x) ->
  (SetTable.below.go xs j fuel lo hi<=xs.size)/\(∀(i x:Nat),xs[i]? = some x->i<SetTable.below.go xs j fuel lo hi->x<j)/\(∀(i x:Nat),xs[i]? = some x->SetTable.below.go xs j fuel lo hi<=i->j<=x)
 | 0,lo,hi,h1,h2,h3,h4,h5=>by
  have e:lo=hi:=by lia
  subst e;exact⟨h2,h4,h5⟩
 | fuel+1,lo,hi,h1,h2,h3,h4,h5=>by
  unfold SetTable.below.go;by_cases hl:lo<hi
  ·rw [if_pos hl];dsimp only;have hm:(lo+hi) / 2<xs.size:=by lia
   have le:∀(i k x y:Nat),xs[i]? = some x->xs[k]? = some y->i<=k->x<=y:=by
    intro i k x y hx hy hik;rw [<-bK] at hx hy;obtain⟨hi',rfl⟩:=aD.mp hx;obtain⟨hk',rfl⟩:=aD.mp hy;rcases Nat.lt_or_eq_of_le hik with z | z
    ·exact bU (List.pairwise_iff_getElem.mp up i k hi' hk' z)
    ·subst z;exact aC _
   obtain⟨y,hy⟩:∃y,xs[(lo+hi) / 2]? = some y:=⟨_,dU hm⟩;have hg:xs.getD ((lo+hi) / 2) j=y:=by rw [Array.getD_eq_getD_getElem?,hy];rfl
   rw [hg];by_cases hy2:y<j
   ·rw [if_pos hy2];exact qGu xs j up fuel _ _ (by lia) h2 (by lia) (λi x hx hlt=>Nat.lt_of_le_of_lt (le i _ x y hx hy (by lia)) hy2) h5
   ·rw [if_neg hy2];exact qGu xs j up fuel _ _ (by lia) (by lia) (by lia) h4 (λi x hx hlt=>bH (Nat.le_of_not_lt hy2) (le _ i y x hy hx (by lia)))
  ·rw [if_neg hl];have e:lo=hi:=by lia
   subst e;exact⟨h2,h4,h5⟩
theorem qPo(xs:Array Nat)(j:Nat)(up:xs.toList.Pairwise (· < ·)):SetTable.below xs j<=xs.size/\(∀(i x:Nat),xs[i]? = some x->i<SetTable.below xs j->x<j)/\(∀(i x:Nat),xs[i]? = some x->SetTable.below xs j<=i->j<=x):=qGu xs j up xs.size 0 xs.size (aW _) (aC _) (Nat.sub_le _ _) (λ_ _ _ h=>absurd h (Nat.not_lt_zero _)) (λi x hx h=>absurd (Array.getElem?_eq_some_iff.mp hx).1 (by lia))
theorem qM2(xs:Array Nat)(j:Nat)(up:xs.toList.Pairwise (· < ·))(hj:xs[SetTable.below xs j]? ≠ some j):(SetTable.insertAt xs (SetTable.below xs j) j).toList.Pairwise (· < ·):=by
 obtain⟨h1,h2,h3⟩:=qPo xs j up;rw [SetTable.toList_insertAt];generalize SetTable.below xs j=b at *;have h4:∀x∈xs.toList.drop b,j<x:=by
  intro x hx;obtain⟨i,hi,e⟩:=bM hx;have hg:xs.toList[b+i]? = some x:=by rw [<-List.getElem?_drop,aI hi,e]
  rw [bK] at hg;have hle:=h3 _ _ hg (dA _ _);rcases Nat.lt_or_eq_of_le hle with z | z
  ·exact z
  ·subst z;by_cases hi0:i=0
   ·subst hi0;exact absurd hg hj
   ·have hbs:b<xs.toList.length:=by rw [cZ] at hi;lia
    have hb:xs[b]? = some xs.toList[b]:=by rw [<-bK,aI hbs]
    have z1:=h3 _ _ hb (aC _);rw [<-bK] at hg;obtain⟨hbi,e2⟩:=aD.mp hg;have z2:=List.pairwise_iff_getElem.mp up b (b+i) hbs hbi (by lia);lia
 refine List.pairwise_append.mpr ⟨up.sublist (List.take_sublist _ _),List.pairwise_cons.mpr ⟨h4,up.sublist (List.drop_sublist _ _)⟩,λx hx y hy=>?_⟩;obtain⟨i,hi,e⟩:=bM hx;have hib:i<b:=by rw [bN] at hi;lia
 have hg:xs.toList[i]? = some x:=by rw [<-List.getElem?_take_of_lt hib,aI hi,e]
 rw [bK] at hg;have hlt:=h2 _ _ hg hib;rcases aJ.mp hy with z | z
 ·subst z;exact hlt
 ·exact Nat.lt_trans hlt (h4 y z)
theorem qCd(n:Nat):(Array.range n).toList.Pairwise (· < ·):=by
 rw [Array.toList_range];exact List.pairwise_lt_range
def qNq(t:SetTable)(j:Nat):Prop:=t.place[SetTable.below t.place j]? ≠ some j
theorem qFm{t:SetTable}{j:Nat}(h:t.slot j = .empty\/t.slot j = .dummy):qNq t j:=by
 intro e;unfold SetTable.slot at h;dsimp only at h;rw [e] at h;simp at h
theorem qGh{t:SetTable}{f:Nat->Int}{h:Int}{j:Nat}{dm:Option Nat}:∀(fuel:Nat) (p:SetTable.Probe),SetTable.probe.go t f h fuel p=some (.empty j dm)->(∀d,p.dummy=some d->t.slot d = .dummy) ->
  t.slot j = .empty /\ ∀d,dm=some d->t.slot d = .dummy
 | 0,p,e,_=>by unfold SetTable.probe.go at e;cases e
 | fuel+1,p,e,hd=>by
  unfold SetTable.probe.go at e;have ha:∀q:SetTable.Probe,(t.advance q).dummy=q.dummy:=by
   intro q;unfold SetTable.advance;split <;> rfl
  cases hs:t.slot p.j with
  | empty=>rw [hs] at e;dsimp only at e;cases e;exact⟨hs,hd⟩
  | dummy=>rw [hs] at e;dsimp only at e;exact qGh fuel _ e (λd z=>by rw [ha] at z;cases z;exact hs)
  | live i =>
   rw [hs] at e;dsimp only at e;split at e
   ·cases e
   ·exact qGh fuel _ e (λd z=>by rw [ha] at z;exact hd d z)
theorem qIk{t:SetTable}{h:Int}{slot:Nat}{wd:Bool}(e:t.freeSlot h=some (slot,wd)):qNq t slot:=by
 unfold SetTable.freeSlot at e;split at e
 ·rename_i j dm hp;obtain⟨a,b⟩:=qGh _ _ hp (λd z=>by unfold SetTable.probeStart at z;cases z);cases e;cases dm with
  | none=>exact qFm (.inl a)
  | some d=>exact qFm (.inr (b d rfl))
 ·cases e
structure GoodT(b:Bool)(t:SetTable)(n:Nat):Prop where
 fits:t.fits n=true
 rise:t.place.toList.Pairwise (· < ·)
 led:t.led=b
theorem qIh{b:Bool}{t:SetTable}{es:Array (Int×Value)}{h:Int}{x:Value}(g:GoodT b t es.size):GoodT b (layNew t es h x).2.1 (layNew t es h x).1.size:=by
 refine⟨layNew_fits t es h x,?_,?_⟩
 ·unfold layNew;split
  ·rename_i slot wd hs;dsimp only;unfold SetTable.orStandIn;split
   ·exact qM2 _ _ g.rise (qIk hs)
   ·exact qCd _
  ·exact qCd _
 ·unfold layNew;split
  ·dsimp only;unfold SetTable.orStandIn;split
   ·exact g.led
   ·exact g.led
  ·exact g.led
theorem qG9{b:Bool}{t:SetTable}{es:Array (Int×Value)}{m:Nat}(g:GoodT b t es.size):GoodT b (relayAll t es m).2.1 (relayAll t es m).1.size:=by
 refine⟨relayAll_fits t es m,?_,?_⟩
 ·unfold relayAll;split
  ·rename_i t' order hr;dsimp only;split
   ·unfold SetTable.relaid SetTable.laid at hr;cases hl:SetTable.layClean (SetTable.sizeAbove m - 1) (es.map (·.1)) with
    | none=>rw [hl] at hr;cases hr
    | some owner =>
     rw [hl] at hr;cases hr;show (((List.range _).filterMap λj=>(owner.getD j none).map (j,·)).map (·.1)).Pairwise (· < ·);have hsub:∀l:List Nat,((l.filterMap λj=>(owner.getD j none).map (j,·)).map (·.1)).Sublist l:=by
      intro l
      induction l with
      | nil=>exact .slnil
      | cons a r ih =>
       rw [dZ];cases owner.getD a none with
       | none=>exact ih.cons _
       | some k=>exact ih.cons₂ a
     exact List.Pairwise.sublist (hsub _) List.pairwise_lt_range
   ·exact qCd _
  ·exact qCd _
 ·unfold relayAll;split
  ·rename_i t' order hr;dsimp only;split
   ·unfold SetTable.relaid SetTable.laid at hr;cases hl:SetTable.layClean (SetTable.sizeAbove m - 1) (es.map (·.1)) with
    | none=>rw [hl] at hr;cases hr
    | some owner=>rw [hl] at hr;cases hr;exact g.led
   ·exact g.led
  ·exact g.led
theorem GoodT.plainOff{b:Bool}{t:SetTable}{n:Nat}(g:GoodT b t n):GoodT b { t with plain:=false } n:=⟨SetTable.fits_plain_off g.fits,g.rise,g.led⟩
def keyI:Int×Value->Int
 | (_,.int n _)=>n
 | _=>0
def EI(e:Int×Value):Prop := ∃n t,e=(hashInt n,Value.int n t)
def qK4(w:World):Bool:=w.params.followText "set-order"
def SetI(w:World)(h:Heap)(a:Addr)(ns:List Int):Prop :=
 ∃o es ep t,h.get? a=some o/\o.ExactSet/\o.data = .set es ep t/\(∀e∈es.toList,EI e)/\(es.toList.map keyI).Perm ns/\ns.Nodup/\es.size<scanBound/\GoodT (!qK4 w) t es.size
theorem EI.elems{P:Program}{w:World}{l:List (Int×Value)}(h:∀e∈l,EI e):ElemsOf (intKind P w) l:=λe he=>by
 obtain⟨n,t,rfl⟩:=h e he;exact⟨⟨n,intKind_is P w n t,rfl⟩,rfl⟩
theorem qJs{P:Program}{w:World}{l:List (Int×Value)}(h:∀e∈l,EI e)(n:Int):n∈l.map keyI ↔ ∃e∈l,(intKind P w).is n e.2=true:=by
 constructor
 ·intro hm;obtain⟨e,he,q⟩:=cN.mp hm;obtain⟨m,t,rfl⟩:=h e he;cases q;exact⟨_,he,intKind_is P w m t⟩
 ·rintro⟨e,he,q⟩;obtain⟨m,t,rfl⟩:=h e he;have:n=m:=(intKind P w).inj _ _ _ q (intKind_is P w m t);subst this;exact cN.mpr ⟨_,he,rfl⟩
theorem SetI.stay{w:World}{h h':Heap}{a:Addr}{ns:List Int}(S:SetI w h a ns)(k:∀o,h.get? a=some o->h'.get? a=some o):SetI w h' a ns:=by
 obtain⟨o,es,ep,t,e,r⟩:=S;exact⟨o,es,ep,t,k o e,r⟩
def addN(ns:List Int)(n:Int):List Int:=if n∈ns then ns else ns ++ [n]
theorem qDu{ns:List Int}{n:Int}(h:ns.Nodup):(addN ns n).Nodup:=by
 unfold addN;split
 ·exact h
 ·rename_i hn;exact cU.mpr ⟨h,by simp,by intro x hx y hy;simp at hy;subst hy;intro e;subst e;exact hn hx⟩
theorem qPq{ns:List Int}{n:Int}:(addN ns n).length<=ns.length+1:=by
 unfold addN;split <;> simp
section
variable{P:Program}{w:World}{A:Around}{E:Value->Shared->Prop}{s:Shared}
theorem SetI.store{h:Heap}{a:Addr}{o:Obj}{es es':Array (Int×Value)}{ep:Nat}{t t':SetTable}{ns:List Int}(ho:h.get? a=some o)(hex:o.ExactSet)(hd:o.data = .set es ep t)(hel:∀e∈es'.toList,EI e)(hp:(es'.toList.map keyI).Perm ns)(hn:ns.Nodup)(hb:es'.size<scanBound)(g:GoodT (!qK4 w) t' es'.size):(h.update a (Obj.putSet es' t')).get? a=some { o with data :=.set es' (ep+1) t' }/\SetI w (h.update a (Obj.putSet es' t')) a ns:=by
 have hg:=Heap.get?_update_self (Obj.putSet es' t') ho (by rw [putSet_of es' t' hd];rfl);rw [putSet_of es' t' hd] at hg;exact⟨hg,_,es',ep+1,t',hg,hex,rfl,hel,hp,hn,hb,g⟩
theorem qI1{gw:Bool->Sem Unit}(hg:∀(b:Bool) (s₁ : Shared) (Q':Unit->Shared->Prop),Q' () s₁ -> wpAny (model P w) A (gw b) Q' E s₁){a:Addr}{o:Obj}{es:Array (Int×Value)}{ep:Nat}{t:SetTable}(ho:s.heap.get? a=some o)(hex:o.ExactSet)(hd:o.data = .set es ep t){es1:Array (Int×Value)}{t2:SetTable}{ns:List Int}(hel:∀e∈es1.toList,EI e)(hp:(es1.toList.map keyI).Perm ns)(hn:ns.Nodup)(hb:es1.size<scanBound)(g:GoodT (!qK4 w) t2 es1.size){wd:Bool}{R:Option Bool->Shared->Prop}(h:∀h',Heap.SameBut a s.heap h'->SetI w h' a ns->R (some true) { s with heap:=h' }):wpAny (model P w) A (do
    storeSet a es1 t2
    if (!wd&&t2.tooFull)=true then do
      gw (relayAll t2 es1 (SetTable.grown es1.size)).2.2
      storeSet a (relayAll t2 es1 (SetTable.grown es1.size)).1 (relayAll t2 es1 (SetTable.grown es1.size)).2.1
      pure (some true)
     else pure (some true)) R E s:=by
 refine aA (wpAny_storeSet_of ho hd ?_ (fits_of_scanBound hb));obtain⟨ho1,hS1⟩:=SetI.store (w:=w) ho hex hd hel hp hn hb g;have sb:=eA s.heap a (Obj.putSet es1 t2);split
 ·have hp2:=relayAll_perm t2 es1 (SetTable.grown es1.size);have g2:=qG9 (m:=SetTable.grown es1.size) g;generalize relayAll t2 es1 (SetTable.grown es1.size)=Rl at hp2 g2 ⊢;obtain⟨es2,t3,gv⟩:=Rl;dsimp only at hp2 g2 ⊢;have hz:es2.size=es1.size:=by rw [<-bG,hp2.length_eq,bG]
  have hb2:es2.size<scanBound:=by lia
  refine aA (hg _ _ _ (aA (wpAny_storeSet_of ho1 rfl ?_ (fits_of_scanBound hb2))));exact aF (h _ (sb.trans (eA _ a _)) (SetI.store (w:=w) ho1 hex rfl (λe he=>hel e (hp2.mem_iff.mp he)) ((hp2.map keyI).trans hp) hn hb2 g2).2)
 ·exact aF (h _ sb hS1)
theorem addI{a:Addr}{ns:List Int}{n:Int}{tk:Tok}{Q:Bool->Shared->Prop}(S:SetI w s.heap a ns)(hroom:ns.length+1<scanBound)(h:∀h',Heap.SameBut a s.heap h'->SetI w h' a (addN ns n)->Q (!decide (n∈ns)) { s with heap:=h',toks:=s.toks+1 }):wpAny (model P w) A (setAdd a (.int n tk)) Q E s:=by
 unfold setAdd;refine bI (aA ((intKind P w).pyHash (k:=n) (intKind_is _ _ _ _) ?_));obtain⟨o,es,ep,t,ho,hex,hd,hel,hp,hn,hb,g⟩:=S;have hlen:es.size=ns.length:=by rw [<-hp.length_eq,aB,bG]
 have he:=EI.elems (P:=P) (w:=w) hel;have hkey:=intKind_is P w n tk;unfold setAddHashed setAddHashedIn;refine bI (aA (wpAny_setState_of (s :={ s with toks:=s.toks+1 }) ho hd g.fits ?_));dsimp only;rw [byScan_of (knd:=intKind P w) (x :=.int n tk) rfl hb he];simp only [↓reduceIte];unfold setAddByScan;refine aA (aA (eB (aA (wpAny_setScan_of (knd:=intKind P w) (k:=n) hkey ho hd g.fits he ?_))));cases hr:List.findIdx? (λe=>(intKind P w).is n e.2) es.toList with
 | some j =>
  dsimp only;obtain⟨hj,hpj,_⟩:=List.findIdx?_eq_some_iff_getElem.mp hr;have hm:n∈ns:=hp.mem_iff.mp ((qJs (P:=P) (w:=w) hel n).mpr ⟨_,List.getElem_mem hj,hpj⟩);refine aF (aF ?_);have q:=h s.heap (Heap.SameBut.refl a s.heap) ⟨o,es,ep,t,ho,hex,hd,hel,by unfold addN;rw [if_pos hm];exact hp,qDu hn,hb,g⟩;rw [decide_eq_true hm] at q;exact q
 | none =>
  dsimp only;have hm:n∉ns:=λz=>by
   obtain⟨e,he,q⟩:=(qJs (P:=P) (w:=w) hel n).mp (hp.mem_iff.mpr z);have:=List.findIdx?_eq_none_iff.mp hr e he;rw [q] at this;cases this
  have hgw:∀(b:Bool) {s₁ : Shared} {Q':Unit->Shared->Prop},Q' () s₁ -> wpAny (model P w) A (match b with | true=>rule "set.scan.the-table-gave-way" | false=>pure ()) Q' E s₁ :=λb s₁ Q' hq=>by
   cases b
   ·exact aF hq
   ·exact eB hq
  have hp1:=layNew_perm t es ((intKind P w).hash n) (.int n tk);have g1:=qIh (h:=(intKind P w).hash n) (x :=.int n tk) g;generalize layNew t es ((intKind P w).hash n) (.int n tk)=L at hp1 g1 ⊢;obtain⟨es1,t1,wd,gave⟩:=L;dsimp only at hp1 g1 ⊢;rw [Array.toList_push] at hp1;have hel1:∀e∈es1.toList,EI e:=λe he=>by
   rcases aP.mp (hp1.mem_iff.mp he) with z | z
   ·exact hel e z
   ·rw [aO] at z;exact⟨n,tk,z⟩
  have hz1:es1.size=es.size+1:=by rw [<-bG,hp1.length_eq,aN,bG];rfl
  have hq1:(es1.toList.map keyI).Perm (addN ns n):=by
   unfold addN;rw [if_neg hm];refine (hp1.map keyI).trans ?_;rw [aQ];exact hp.append_right _
  have fin:∀h',Heap.SameBut a s.heap h'->SetI w h' a (addN ns n)->Q true { s with heap:=h',toks:=s.toks+1 }:=λh' sb S'=>by
   have q:=h h' sb S';rw [decide_eq_false hm] at q;exact q
  refine aA (hgw _ ?_);have gw2:∀(b:Bool) (s₁ : Shared) (Q':Unit->Shared->Prop),Q' () s₁ -> wpAny (model P w) A (match b with | true=>rule "set.scan.the-table-gave-way" | false=>pure ()) Q' E s₁ :=λb s₁ Q' hq=>hgw b hq;split
  ·refine aA ?_;rw [hashByValue_scannable 8 (x :=.int n tk) rfl];refine aF ?_;refine qI1 (s :={ s with toks:=s.toks+1 }) (λb s₁ Q' hq=>?_) ho hex hd hel1 hq1 (qDu hn) (by lia) ?_ (λh' sb S'=>?_)
   ·cases b
    ·exact aF hq
    ·exact eB hq
   ·split
    ·exact g1
    ·exact g1.plainOff
   ·dsimp only;exact aF (fin h' sb S')
  ·refine aA (aF ?_);simp only [↓reduceIte];refine qI1 (s :={ s with toks:=s.toks+1 }) (λb s₁ Q' hq=>?_) ho hex hd hel1 hq1 (qDu hn) (by lia) g1 (λh' sb S'=>?_)
   ·cases b
    ·exact aF hq
    ·exact eB hq
   ·dsimp only;exact aF (fin h' sb S')
end
def setO(w:World)(ns:List Int):HO :=.ext λa h=>SetI w h a ns
section
variable{X:Cx}
theorem qQh{w:World}{P:Program}{w':World}{H:Hp}{h:Heap}{a:Addr}{ns:List Int}(S:SetI w h a ns):ObjOk P w' H h a (setO w ns):=by
 refine⟨S,?_,λh1 h2 S1 k=>S1.stay k⟩;obtain⟨o,_,_,_,e,_⟩:=S;exact⟨o,e⟩
end
def newS(w:World):Obj :={ cls :=.type "set",dict:=none,data :=.set #[] 0 (.fresh 0 0 (!qK4 w)) }
theorem qR9{w:World}{h:Heap}{a:Addr}(e:h.get? a=some (newS w)):SetI w h a []:=⟨_,#[],0,_,e,⟨rfl,rfl,rfl⟩,rfl,λe he=>by simp at he,.refl _,.nil,by decide,⟨rfl,.nil,rfl⟩⟩
def qCu(ms:List Int):List Int:=ms.foldl addN []
theorem qIp(ms:List Int)(n:Int):qCu (ms ++ [n])=addN (qCu ms) n:=by unfold qCu;rw [dQ];rfl
theorem qEy:∀(ms ns:List Int),(ms.foldl addN ns).length<=ns.length+ms.length
 | [],ns=>aC _
 | m::r,ns=>by
  have h1:=qEy r (addN ns m);have h2:=qPq (ns:=ns) (n:=m);rw [dH,bA];lia
theorem qKz(ms:List Int):(qCu ms).length<=ms.length:=by have h:=qEy ms [];rw [dE,Nat.zero_add] at h;exact h
section
variable{P:Program}{w:World}{A:Around}{R:Result->Shared->Prop}{I:Addr}{fp wr:List Addr}{G:Array GenState->Array GenState->Prop}{n:Nat}{T:Nat->Value->Prop}{St:Nat->Shared->Prop}
theorem qN5(W:WalksS P w A.in1 I fp wr G n T St)(S:Addr)(hSf:S∉fp)(ms:List Int)(hms:ms.length=n)(hval:∀i v,T i v -> ∃t,v = .int (ms.getD i 0) t)(hb:n+1<scanBound):∀(k i:Nat) (s:Shared),n - i=k->i<=n->St i s->SetI w s.heap S (qCu (ms.take i))->(∀s',Moved (S::wr) G s s'->SetI w s'.heap S (qCu ms)->R (.ok (.ret .none)) s') ->
   codeAny (model P w) A (.builtin "set.update.loop" ⟨[.ref S,.ref I],[]⟩) R s:=by
 have hSw:S∉wr:=λh=>hSf (W.sub _ h);have hsub:∀b∈wr,b∈S::wr:=λb hb=>aV _ hb;intro k
 induction k with
 | zero =>
  intro i s hk hi hst hS hR;have hin:i=n:=by lia
  subst hin;refine dG F.entry_set_update_loop ?_;rw [cR F.plain_set_update_loop _];show wpAny _ A.in1 (pyNext (.ref I) >>= _) _ _ s;refine aA (W.done s _ _ hst λs' hm=>?_);show wpAny _ A.in1 (ret Value.none) _ _ s';rw [<-hms,cM] at hS;exact aF (hR s' (hm.mono hsub) (hS.stay λo e=>hm.heap S _ hSw e))
 | succ k ih =>
  intro i s hk hi hst hS hR;have hlt:i<n:=by lia
  refine dG F.entry_set_update_loop ?_;rw [cR F.plain_set_update_loop _];show wpAny _ A.in1 (pyNext (.ref I) >>= _) _ _ s;refine aA (W.item i s _ _ hlt hst λv s' hP hst' hm=>?_);obtain⟨t,rfl⟩:=hval i v hP;have hS':SetI w s'.heap S (qCu (ms.take i)):=hS.stay λo e=>hm.heap S _ hSw e;show wpAny _ A.in1 (holding [Value.int (ms.getD i 0) t] (setAdd S (.int (ms.getD i 0) t)) >>= _) _ _ s';have hlen:=qKz (ms.take i);rw [bN] at hlen;refine aA (bI (addI hS' (by lia) λh' sb S2=>?_));have ht:ms.take (i+1)=ms.take i ++ [ms.getD i 0]:=by
   have h1:ms[i]? = some (ms.getD i 0):=by
    have:i<ms.length:=by lia
    rw [cJ,aI this];rfl
   rw [bO,h1];rfl
  rw [<-qIp,<-ht] at S2;refine aF ⟨plainId_quiet F.plain_set_update_loop _,ih (i+1) _ (by lia) hlt (W.frame _ s' _ _ hst' (Nat.le_succ _) λb hb o e=>?_) S2 λs'' hm'' hS''=>?_⟩
  ·rw [sb.2 b (λh:b=S=>hSf (by rw [<-h];exact hb))];exact e
  ·refine hR s'' (Moved.trans W.gtrans ((hm.mono hsub).then_heap (Nat.le_succ _) λb o hb e=>?_) hm'') hS'';rw [sb.2 b (λh:b=S=>hb (by rw [h];exact bT))];exact e
end
section
variable{P:Program}{w:World}{A:Around}{E:Value->Shared->Prop}{s:Shared}
theorem qKc(a:Value){Q₁ : Value->Shared->Prop}(h:Q₁ (.ref s.heap.objs.size) { s with heap:=s.heap.push (newS w) }):codeAny (model P w) A (.call (.builtin "set.__new__") ⟨[.type "set",a],[]⟩) (wants Q₁ E) s:=by
 refine codeAny_of_tree ?_;show wpAny _ A.in1 (do checkBuiltinCall "set.__new__" ⟨[.type "set",a],[]⟩;again (.builtin "set.__new__" ⟨[.type "set",a],[]⟩)) _ _ s;refine aA (wpAny_of_eq (F.newCall_set_1 a) (aF ⟨plainId_quiet F.plain_set_new _,dG F.entry_set_new ?_⟩));rw [cR F.plain_set_new _];unfold Builtin.«set.__new__» Builtin.Frozenset.newClass;have hsub:=sub_set_self;obtain⟨hp,g,d,tk,os⟩:=s;dsimp only
 wp_walk
 refine wpAny_askSetting (aF ?_);dsimp only;simp only [newObj];exact aA (wpAny_alloc (aF (aF h)))
end
section
variable{X:Cx}
def qQp:V->List V->Hp->VK->Prop:=λx vs H Q => ∃l xs i y,x = .ref l/\vs = [.int i,y]/\H l=some (.lst xs)/\0<=i/\i<=xs.length/\xs.length<1000/\Q .non (upd H l (.lst (xs.take i.toNat++y::xs.drop i.toNat)))
theorem qMp:MtM X "list.insert" qQp:=by
 intro pins s σ H x vs v us Q I rx rv h;obtain⟨l,xs,i,y,rfl,rfl,hH,h0,h1,hz,q⟩:=h;cases rx;obtain⟨u1,u2,rfl,r1,r2⟩:=rv.two;obtain⟨tk,rfl⟩:=r1;obtain⟨z,its,n,r,hl,e⟩:=I.lstM hH;have hfit : ¬(!Builtin.List.listFitsIndex i)=true:=by
  have:=fitsIndex_both (k:=i) (by lia) (by lia);simpa using this
 refine dP F.slot_list_insert ⟨_,e,rfl⟩ F.entry_list_insert (F.args_list_insert_3 _ _ _) (AutoSeq1.list_insert_list_int_val_1 l its.toArray n i tk u2 hfit (by rw [aG,bS];lia)) ⟨e,?_⟩;refine⟨.non,_,I.lset (its':=its.take i.toNat++u2::its.drop i.toNat) hH e ?_ (Vals.append (r.take _) (.cons r2 (r.drop _))) ?_,rfl,q⟩
 ·dsimp only;rw [if_neg (by lia),aG,Nat.min_eq_left (by lia)];apply Array.ext';simp [List.extract_eq_take_drop];exact bD (by simp)
 ·rw [bS];simp;lia
end
def WorksAt(K:PySem.W.Frag)(G H:Hp)(as:List Addr)(ws:List (List Blk)):Prop:=Paired (λa w => ∃bs,H a=some (.lst bs)/\DenL K G (w.map blkD) bs) as ws
theorem WorksAt.len{K:PySem.W.Frag}{G H:Hp}{as:List Addr}{ws:List (List Blk)}(h:WorksAt K G H as ws):as.length=ws.length:=cV h
theorem WorksAt.mono{K:PySem.W.Frag}{G G' H H':Hp}(g:Same G G'):∀ {as:List Addr} {ws:List (List Blk)},WorksAt K G H as ws->(∀a∈as,∀o,H a=some o->H' a=some o)->WorksAt K G' H' as ws
 | _,_,.nil,_ =>.nil
 | _,_,.cons ⟨bs,e,d⟩ r,k =>.cons ⟨bs,k _ (by simp) _ e,d.mono g⟩ (WorksAt.mono g r λa ha o e=>k a (by simp [ha]) o e)
theorem WorksAt.get{K:PySem.W.Frag}{G H:Hp}:∀ {as:List Addr} {ws:List (List Blk)} {i:Nat} {a:Addr},WorksAt K G H as ws->as[i]? = some a -> ∃w bs,ws[i]? = some w/\H a=some (.lst bs)/\DenL K G (w.map blkD) bs
 | _,_,_,_,.nil,e=>by simp at e
 | _,_,0,_,.cons ⟨bs,e,d⟩ _,h=>by simp at h;subst h;exact⟨_,bs,rfl,e,d⟩
 | _,_,i+1,a,.cons _ r,h=>by
  obtain⟨w,bs,h1,h2⟩:=WorksAt.get (i:=i) (a:=a) r (by simpa using h);exact⟨w,bs,by simpa using h1,h2⟩
theorem WorksAt.snoc{K:PySem.W.Frag}{G H:Hp}{a:Addr}{w:List Blk}{bs:List V}:∀ {as:List Addr} {ws:List (List Blk)},WorksAt K G H as ws->H a=some (.lst bs)->DenL K G (w.map blkD) bs->WorksAt K G H (as ++ [a]) (ws ++ [w])
 | _,_,.nil,e,d =>.cons ⟨bs,e,d⟩ .nil
 | _,_,.cons h r,e,d =>.cons h (WorksAt.snoc r e d)
structure AllOk(works:Int)(ws:List (List Blk)):Prop where
 all:∀w∈ws,∃m:Int,1<=m/\m<=12/\WorkOk m works w
 one:1<=ws.length
 few:ws.length<=10
section
variable{K:PySem.W.Frag}{a:Addr}{xs:List V}{g:TG}{tt:TT}{B:TB}{σ : St}{H:Hp}{Q:St->Hp->Prop}
theorem qGm(Pv:Nat->St->Hp->Prop)(h0:Pv 0 σ H)(hl:∀i σ H,i<=xs.length->Pv i σ H->SqT K H a xs)(hs:∀i x σ H (R:St->Hp->Prop),xs[i]? = some x->Pv i σ H->(∀ σ' H',Pv (i+1) σ' H'->R σ' H')->g x σ H λσ2 H2=>tt σ2 H2 λb H3=>if b=true then B σ2 H3 R else R σ2 H3)(hd:∀ σ H,Pv xs.length σ H->Q σ H):LoopT (Itt K a) g tt B σ H Q:=by
 refine qDs (n:=xs.length) Pv h0 (λi σ H hi p=>⟨xs,xs[i],hl i σ H (bU hi) p,by simp [hi]⟩) (λσ H p=>⟨xs,hl _ σ H (aC _) p,aC _⟩) (λi σ H R hi p hR x H' y=>?_) hd;obtain⟨e,y⟩:=y;subst e;exact hs i x σ _ R (y xs (hl i σ _ (bU hi) p)) p hR
end
def wr:Deed->Option Int
 | .set b _=>some b
 | .add b _=>some b
 | _=>none
mutual
def tame:PyData->Bool
 | .int i=>decide (i.natAbs<10^13)
 | .str x=>x.cps.all (· < 0x110000)&&decide (x.cps.size<=10)
 | .list xs=>qAw xs
 | .tuple xs=>qAw xs
 | .none=>false
 | .bool _=>false
 | .dict _=>false
def qAw:List PyData->Bool
 | []=>true
 | x::xs=>tame x&&qAw xs
end
mutual
def cells:PyData->Nat
 | .list xs=>qB0 xs
 | .tuple xs=>qB0 xs
 | .int _=>0
 | .str _=>0
 | .none=>0
 | .bool _=>0
 | .dict _=>0
def qB0:List PyData->Nat
 | []=>0
 | x::xs=>cells x+1+qB0 xs
end
theorem qQ4{n:Nat}(h:n<10^13):n.log2<44:=by
 by_cases hn:n=0
 ·subst hn;decide
 ·exact (Nat.log2_lt hn).mpr (aU h (by decide))
mutual
theorem qH0:∀d:PyData,tame d=true->PyData.showable d=true
 | .int i,h=>by
  have h1:i.natAbs<10^13:=by simpa only [tame,decide_eq_true_eq] using h
  have:=qQ4 h1;simp only [PyData.showable,decide_eq_true_eq];lia
 | .str x,_=>rfl
 | .list xs,h=>qCj xs (by simpa only [tame] using h)
 | .tuple xs,h=>qCj xs (by simpa only [tame] using h)
theorem qCj:∀ds:List PyData,qAw ds=true->PyData.showableAll ds=true
 | [],_=>rfl
 | x::xs,h=>by
  have h1:(tame x&&qAw xs)=true:=by simpa only [qAw] using h
  rw [bE] at h1;simp only [PyData.showableAll,qH0 x h1.1,qCj xs h1.2,Bool.and_self]
end
mutual
theorem qIv:∀d:PyData,tame d=true->PyData.canLay0 d=true
 | .int i,h=>rfl
 | .str x,h=>by
  have h1:(x.cps.all (· < 0x110000)&&decide (x.cps.size<=10))=true:=by simpa only [tame] using h
  rw [bE] at h1;simpa only [PyData.canLay0,PyData.strOk] using h1.1
 | .list xs,h=>qD6 xs (by simpa only [tame] using h)
 | .tuple xs,h=>qD6 xs (by simpa only [tame] using h)
theorem qD6:∀ds:List PyData,qAw ds=true->PyData.canLayAll0 ds=true
 | [],_=>rfl
 | x::xs,h=>by
  have h1:(tame x&&qAw xs)=true:=by simpa only [qAw] using h
  rw [bE] at h1;simp only [PyData.canLayAll0,qIv x h1.1,qD6 xs h1.2,Bool.and_self]
end
mutual
theorem qF2:∀d:PyData,tame d=true->PyData.intsShort 14 d=true
 | .int i,h=>by
  have h1:i.natAbs<10^13:=by simpa only [tame,decide_eq_true_eq] using h
  have e:=int_text_length_le10 (k:=13) (by decide) h1;simp only [PyData.intsShort,decide_eq_true_eq];show (Str.ofString (toString i)).length<=14;rw [PySem.ofString_length];exact e
 | .str x,h=>rfl
 | .list xs,h=>qCa xs (by simpa only [tame] using h)
 | .tuple xs,h=>qCa xs (by simpa only [tame] using h)
theorem qCa:∀ds:List PyData,qAw ds=true->PyData.intsShortAll 14 ds=true
 | [],_=>rfl
 | x::xs,h=>by
  have h1:(tame x&&qAw xs)=true:=by simpa only [qAw] using h
  rw [bE] at h1;simp only [PyData.intsShortAll,qF2 x h1.1,qCa xs h1.2,Bool.and_self]
end
mutual
theorem qEe:∀d:PyData,tame d=true->PyData.weight d<=46*cells d+45
 | .int i,h=>by
  have h1:i.natAbs<10^13:=by simpa only [tame,decide_eq_true_eq] using h
  have:=qQ4 h1;simp only [PyData.weight,cells];split <;> lia
 | .str x,h=>by
  have h1:(x.cps.all (· < 0x110000)&&decide (x.cps.size<=10))=true:=by simpa only [tame] using h
  rw [bE,decide_eq_true_eq] at h1;simp only [PyData.weight,cells];lia
 | .list xs,h=>by
  have:=qC2 xs (by simpa only [tame] using h);simp only [PyData.weight,cells];lia
 | .tuple xs,h=>by
  have:=qC2 xs (by simpa only [tame] using h);simp only [PyData.weight,cells];lia
theorem qC2:∀ds:List PyData,qAw ds=true->PyData.weightAll ds<=46*qB0 ds
 | [],_=>aC _
 | x::xs,h=>by
  have h1:(tame x&&qAw xs)=true:=by simpa only [qAw] using h
  rw [bE] at h1;have h2:=qEe x h1.1;have h3:=qC2 xs h1.2;simp only [PyData.weightAll,qB0];lia
end
theorem qCb{α : Type}{f : α -> PyData}:∀ {l:List α},(∀x∈l,tame (f x)=true)->qAw (l.map f)=true
 | [],_=>rfl
 | x::r,h=>by
  simp only [bJ,qAw,h x (bT ..),qCb λy hy=>h y (aV _ hy),Bool.and_self]
theorem qC0{α : Type}{f : α -> PyData}{n:Nat}:∀ {l:List α},(∀x∈l,cells (f x)<=n)->qB0 (l.map f)<=(n+1)*l.length
 | [],_=>aW _
 | x::r,h=>by
  have h1:=h x (bT ..);have h2:=qC0 (l:=r) λy hy=>h y (aV _ hy);simp only [bJ,qB0,bA,Nat.mul_add];lia
theorem qBz{α : Type}{f : α -> PyData}{n:Nat}:∀ {l:List α},(∀x∈l,(f x).depth<=n)->PyData.depthAll (l.map f)<=n
 | [],_=>aW _
 | x::r,h=>by
  have h1:=h x (bT ..);have h2:=qBz (l:=r) λy hy=>h y (aV _ hy);simp only [bJ,PyData.depthAll];lia
theorem qBi{s:Str}(h:(s.cps.all (λx=>decide (x<0x110000))&&decide (s.cps.size<=10))=true):tame (.str s)=true:=by simpa only [tame] using h
theorem qEs{works:Int}{d:Deed}(hw:works<=100)(h:qDz works d):tame (deedD d)=true/\cells (deedD d)<=3/\(deedD d).depth<=1:=by
 have key:∀(s:Str) (b:Int),tame (.str s)=true -> -(10^12)<=b->b<=10^12->tame (.tuple [.str s,.int b])=true:=λs b hs h1 h2=>by
  simp only [tame,qAw,Bool.and_true] at hs ⊢;rw [hs];simp only [Bool.true_and,decide_eq_true_eq];lia
 have key3:∀(s:Str) (b c:Int),tame (.str s)=true -> -(10^12)<=b->b<=10^12 -> -(10^12)<=c->c<=10^12->tame (.tuple [.str s,.int b,.int c])=true:=λs b c hs h1 h2 h3 h4=>by
  simp only [tame,qAw,Bool.and_true] at hs ⊢;rw [hs];simp only [Bool.true_and,bE,decide_eq_true_eq];lia
 cases d with
 | set b n=>obtain⟨h1,h2,h3,h4⟩:=h;exact⟨key3 _ _ _ (qBi (by decide +kernel)) (by lia) (by lia) h3 h4,by simp [deedD,cells,qB0],aC _⟩
 | add b n=>obtain⟨h1,h2,h3,h4⟩:=h;exact⟨key3 _ _ _ (qBi (by decide +kernel)) (by lia) (by lia) (by lia) (by lia),by simp [deedD,cells,qB0],aC _⟩
 | tell b=>obtain⟨h1,h2⟩:=h;exact⟨key _ _ (qBi (by decide +kernel)) (by lia) (by lia),by simp [deedD,cells,qB0],aC _⟩
 | call b=>obtain⟨h1,h2⟩:=h;exact⟨key _ _ (qBi (by decide +kernel)) (by lia) (by lia),by simp [deedD,cells,qB0],aC _⟩
 | save b=>obtain⟨h1,h2⟩:=h;exact⟨key _ _ (qBi (by decide +kernel)) (by lia) (by lia),by simp [deedD,cells,qB0],aC _⟩
 | back b=>obtain⟨h1,h2⟩:=h;exact⟨key _ _ (qBi (by decide +kernel)) (by lia) (by lia),by simp [deedD,cells,qB0],aC _⟩
theorem qPj{m:Int}{ns:List Int}(hm:m<=12)(h:NsOk m ns):tame (endD ns)=true/\cells (endD ns)<=3/\(endD ns).depth<=1:=by
 have hs:∀s:Str,tame (.str s)=true->(s.cps.all (λx=>decide (x<0x110000))&&decide (s.cps.size<=10))=true:=λs h=>by simpa only [tame] using h
 rcases h with z | ⟨x,z,h1,h2⟩ | ⟨x,y,z,_,h1,h2,h3,h4⟩ <;> subst z
 ·refine⟨?_,by simp [endD,cells,qB0],aC _⟩;simp only [endD,tame,qAw,Bool.and_true];exact hs "out" (qBi (by decide +kernel))
 ·refine⟨?_,by simp [endD,cells,qB0],aC _⟩;simp only [endD,tame,qAw,Bool.and_true];rw [hs "go" (qBi (by decide +kernel))];simp only [Bool.true_and,decide_eq_true_eq];lia
 ·refine⟨?_,by simp [endD,cells,qB0],aC _⟩;simp only [endD,tame,qAw,Bool.and_true];rw [hs "fork" (qBi (by decide +kernel))];simp only [Bool.true_and,bE,decide_eq_true_eq];lia
theorem qGt{m works:Int}{b:Blk}(hm:m<=12)(hw:works<=100)(h:BlkOk m works b):tame (blkD b)=true/\cells (blkD b)<=100/\(blkD b).depth<=3:=by
 obtain⟨e1,e2,e3⟩:=qPj hm h.ns;have d1:=qCb (l:=b.ds) (f:=deedD) λd hd=>(qEs hw (h.ds d hd)).1;have d2:=qC0 (l:=b.ds) (f:=deedD) (n:=3) λd hd=>(qEs hw (h.ds d hd)).2.1;have d3:=qBz (l:=b.ds) (f:=deedD) (n:=1) λd hd=>(qEs hw (h.ds d hd)).2.2;have hf:=h.few;refine⟨?_,?_,?_⟩
 ·simp only [blkD,tame,qAw,d1,e1,Bool.and_self]
 ·simp only [blkD,cells,qB0];lia
 ·show max (PyData.depthAll (b.ds.map deedD)+1) (max (endD b.ns).depth 0)+1<=3;lia
abbrev qCi(ws:List (List Blk)):PyData :=.list (ws.map workD)
structure WsOk(ws:List (List Blk)):Prop where
 all:∀w∈ws,∃m:Int,1<=m/\m<=12/\WorkOk m (ws.length:Int) w
 one:1<=ws.length
 few:ws.length<=25
def qRg(X:Cx)(own:List Str)(cap:List Nat)(scope:Scope)(y:Str)(cl:List (Str×Addr))(s:Shared)(H:Hp)(ex:List Addr):Cx :=
 { qAk X own cap scope ((y,s.heap.objs.size+1)::cl) s H ex with fn:=λx=>x == y }
theorem qB1{X:Cx}{own:List Str}{cap:List Nat}{scope:Scope}{y:Str}{cl:List (Str×Addr)}{s:Shared}{H:Hp}{ex:List Addr}:(qRg X own cap scope y cl s H ex).K=X.K:=rfl
theorem qI4{d:PyData}(h:tame d=true)(hc:cells d<=20000)(hd:d.depth<=64):d.showable=true/\d.depth<=100/\d.shown.length<=sizeLine:=by
 refine⟨qH0 d h,by lia,?_⟩;have h1:=PyData.shown_le 14 (by decide) d (PyData.leavesShort_of_canLay0 14 d (qIv d h) (qF2 d h));have h2:=qEe d h;have e:sizeLine=16777216:=by decide
 have h3:(14+2)*d.weight<=16*(46*20000+45):=Nat.mul_le_mul (by decide) (by lia);lia
theorem qK6{ws:List (List Blk)}(h:WsOk ws):tame (qCi ws)=true/\cells (qCi ws)<=1216*ws.length/\(qCi ws).depth<=64:=by
 have hw:(ws.length:Int)<=100:=by have:=h.few;lia
 have one:∀w∈ws,tame (workD w)=true/\cells (workD w)<=1215/\(workD w).depth<=4:=λw hm=>by
  obtain⟨m,h1,h2,h3⟩:=h.all w hm;have d1:=qCb (l:=w) (f:=blkD) λb hb=>(qGt h2 hw (h3.blk b hb)).1;have d2:=qC0 (l:=w) (f:=blkD) (n:=100) λb hb=>(qGt h2 hw (h3.blk b hb)).2.1;have d3:=qBz (l:=w) (f:=blkD) (n:=3) λb hb=>(qGt h2 hw (h3.blk b hb)).2.2;have hl:=h3.len;refine⟨?_,?_,?_⟩
  ·simp only [workD,tame,d1]
  ·simp only [workD,cells];lia
  ·show PyData.depthAll (w.map blkD)+1<=4;lia
 have d1:=qCb (l:=ws) (f:=workD) λb hb=>(one b hb).1;have d2:=qC0 (l:=ws) (f:=workD) (n:=1215) λb hb=>(one b hb).2.1;have d3:=qBz (l:=ws) (f:=workD) (n:=4) λb hb=>(one b hb).2.2;have:=h.few;refine⟨?_,?_,?_⟩
 ·simp only [qCi,tame,d1]
 ·simp only [qCi,cells];lia
 ·show PyData.depthAll (ws.map workD)+1<=64;lia
def Nex(H:Hp)(nd:Addr)(w:List Blk):Prop := ∃kvs:List (Key×V),H nd=some (.dK kvs) /\ ∀k:Int,0<=k->k<w.length -> ∃c,valV kvs (Sum.inl k)=some (.ref c)/\H c=some (.lst ((nxt w k).map V.int))
theorem valV_ks(y:Int):∀ks:List Int,valV (ks.map λk=>((Sum.inl k:Key),V.bl true)) (Sum.inl y)=if y∈ks then some (V.bl true) else none
 | []=>rfl
 | k::r=>by
  have ih:=valV_ks y r;by_cases e:k=y
  ·subst e;rw [bJ,qB8 rfl,if_pos (bT ..)]
  ·rw [bJ,qB9 (λz=>e (Sum.inl.inj z)),ih];have:(y∈k::r)↔y∈r:=by simp [dS e]
   simp only [this]
structure LedI(H:Hp)(st nd d du:Addr)(wk:List Blk)(ss:List Int)(ks due:List Int)(H':Hp):Prop where
 ext:Ext [] H H'
 hd:H' d=some (.dK (ks.map λk=>((Sum.inl k:Key),V.bl true)))
 hdu:H' du=some (.lst (due.map V.int))
 nod:ks.Nodup
 rk:∀x∈ks,∃s∈ss,Reach (nxt wk) s x
 rd:∀x∈due,∃s∈ss,Reach (nxt wk) s x
 clo:∀k∈ks,∀c∈nxt wk k,c∈ks\/c∈due
 one:∀s∈ss,s∈ks\/s∈due
 few:ks.length<=cnt (λx=>decide (x∈ks)) wk.length
 fewd:due.length<=500+2*cnt (λx=>decide (x∈ks)) wk.length
def LedW(H:Hp)(st nd d du:Addr)(wk:List Blk)(ss:List Int)(μ : Nat)(σ':St)(H':Hp):Prop := ∃(ks due:List Int) (o4:Option V),μ = (wk.length - cnt (λx=>decide (x∈ks)) wk.length)*3+due.length /\ σ' = [some (.ref st),some (.ref nd),some (.ref d),some (.ref du),o4]/\LedI H st nd d du wk ss ks due H'
theorem LedI.end_{H H':Hp}{st nd d du:Addr}{wk:List Blk}{ss:List Int}{ks:List Int}(h:LedI H st nd d du wk ss ks [] H')(x:Int):x∈ks ↔ ∃s∈ss,Reach (nxt wk) s x:=by
 have key:∀s∈ss,∀y,Reach (nxt wk) s y->y∈ks:=by
  intro s hs y r
  induction r with
  | refl=>exact (h.one s hs).elim id λz=>absurd z (by simp)
  | step _ hc ih=>exact (h.clo _ ih _ hc).elim id λz=>absurd z (by simp)
 exact⟨h.rk x,λ⟨s,hs,r⟩=>key s hs x r⟩
structure Fr where
 n:Nat
 w0:Int
 w1:Int
 pos:Int
 bx:List Int
 as:List (Int×Int)
structure Ms where
 held:List Int
 told:List Int
 flt:List (Int×Int)
 sv:Int
 bk:Int
 steps:Int
 taken:Int
 log:List (Int×Int×Int)
 st:List Fr
structure Gv where
 mean:Bool
 ws:List (List Blk)
 ch:List Int
 most:Int
abbrev K3:=Int×Int×Int
section
variable{P:Program}{w:World}
variable{A:Around}{E:Value->Shared->Prop}{s:Shared}
end
structure RA where
 self:Addr
 dx:Addr
 wa:Addr
 ba:Addr
 ca:Addr
 ta:Addr
 fa:Addr
 ga:Addr
 C:Addr
 CC:Addr
def cntL(log:List K3)(k:K3):Option Int:=if log.count k=0 then none else some (log.count k:Int)
def PrsAt(H:Hp):List V->List (Int×Int)->Prop:=Paired λv p => ∃a,v = .ref a/\H a=some (.tup [.int p.1,.int p.2])
def asD(as:List (Int×Int)):List (Key×V):=as.map λp=>((Sum.inl p.1:Key),V.int p.2)
theorem qC6{CX:CXT}{P:Program}{w:World}{K:PySem.W.Frag}{mg:Str->Option Value}{base:Heap}{N:List Str}{qual:Str}{scope:Scope}{f:Addr}{cd:Value}{A:Around}{outer:List Env}{s:Shared}{H:Hp}{E:XK}:(cxOf CX P w K mg base N qual scope f cd A outer s H E).nox.w=w:=rfl
theorem qFx{CX:CXT}{P:Program}{w:World}{K:PySem.W.Frag}{mg:Str->Option Value}{base:Heap}{N:List Str}{qual:Str}{scope:Scope}{f:Addr}{cd:Value}{A:Around}{outer:List Env}{s:Shared}{H:Hp}{E:XK}:(cxOf CX P w K mg base N qual scope f cd A outer s H E).w=w:=rfl
def nowD(hd td fd mv:Addr)(st tk:Int):List (Key×V) :=[(.inr "held",.ref hd),(.inr "told",.ref td),(.inr "faults",.ref fd),(.inr "moves",.ref mv),(.inr "steps",.int st),(.inr "taken",.int tk)]
theorem qH5{K:PySem.W.Frag}{H:Hp}{p:Addr}{xs:List V}{Q:List V->Prop}(h:SqL K H p xs)(q:Q xs):∃p' ys,[V.ref p] = [.ref p']/\(SqL K H p' ys\/SqT K H p' ys)/\Q ys:=⟨p,xs,rfl,.inl h,q⟩
structure FA where
 fa:Addr
 wy:Addr
 bx:Addr
 as:Addr
def FrAt(H:Hp)(f:Fr)(a:FA):Prop:=H a.fa=some (.lst [.int (f.n:Int),.ref a.wy,.int f.pos,.ref a.bx,.ref a.as])/\H a.wy=some (.tup [.int f.w0,.int f.w1])/\H a.bx=some (.lst (f.bx.map V.int))/\H a.as=some (.dK (asD f.as))
structure LR where
 now:Addr
 hd:Addr
 td:Addr
 fd:Addr
 mv:Addr
 sk:Addr
 gn:Addr
 gs:List Addr
def adrs(fas:List FA):List Addr:=fas.flatMap λa =>[a.fa,a.bx,a.as]
def LR.all(l:LR)(fas:List FA):List Addr:=l.now::l.hd::l.td::l.fd::l.mv::l.sk::l.gn::(adrs fas++l.gs)
def WayAt(H:Hp)(x:Addr)(log:List K3)(i:Nat):Prop := ∃kvs:List (List Key×V),H x=some (.dT kvs)/\kvs.length<=log.length /\ ∀a b:Int,valV kvs [Sum.inl a,Sum.inl b]=(cntL log ((i:Int),a,b)).map V.int
structure LawAt(g:Gv)(l:LR)(G0 H:Hp)(m:Ms)(fas:List FA):Prop where
 now:H l.now=some (.dK (nowD l.hd l.td l.fd l.mv m.steps m.taken))
 held:H l.hd=some (.lst (m.held.map V.int))
 told:H l.td=some (.lst (m.told.map V.int))
 flt:∃fl,H l.fd=some (.lst fl)/\PrsAt H fl m.flt
 mv:H l.mv=some (.lst [.int m.sv,.int m.bk])
 sk:H l.sk=some (.lst (fas.reverse.map λa =>.ref a.fa))
 gn:H l.gn=some (.lst (l.gs.map V.ref))
 gl:l.gs.length=g.ws.length
 gw:∀i x,l.gs[i]? = some x->WayAt H x m.log i
 frs:Paired (FrAt H) m.st fas
 nd:(l.all fas).Nodup
 old:Ext [] G0 H
 ng:∀x∈l.all fas,G0 x=none
def psi(f:Fr):Nat:=if f.pos<0 then 2 else (23 - f.pos).toNat
def mu(g:Gv)(m:Ms):Nat:=(g.most - m.steps).toNat*1000+(m.st.map psi).sum
def lim(m:Ms):Nat:=10^12*2^m.steps.toNat
theorem qRm{K:PySem.W.Frag}{b:Bool}{H:Hp}{R:Bool->Prop}(q:R b):∃k,TruV K (.bl b) H k/\R k:=⟨b,by simp [TruV],q⟩
theorem qRx{t u:TS}{D:Ends}{σ : St}{H:Hp}(C:St->Hp->Prop)(h2:∀ σ' H',C σ' H'->u D σ' H')(h1:(∀ σ' H',C σ' H'->u D σ' H')->t { D with nx:=u D } σ H):tSeq t u D σ H:=h1 h2
section
variable{g:Gv}{m:Ms}{f:Fr}{rest:List Fr}{wk:List Blk}{b:Blk}(est:m.st=f::rest)(hwk:g.ws[f.n]? = some wk)
include est hwk
variable(hne : ¬f.w1=(wk.length:Int))(hbk:wk[f.w1.toNat]? = some b)
include hne hbk
end
def DeedP(works:Int):Deed->Prop
 | .set b n=>0<=b/\b<8 /\ -(10^12)<=n/\n<=10^12
 | .add b o=>0<=b/\b<8/\0<=o/\o<8
 | .tell b=>0<=b/\b<8
 | .call c=>0<=c/\c<works
 | .save _=>False
 | .back _=>False
theorem DeedP.ok{works:Int}{d:Deed}(h:DeedP works d):qDz works d:=by
 cases d <;> first | exact h | exact h.elim
def Fw(works:Int)(b:Blk):Prop:=b.ds.length<=12 /\ ∀d∈b.ds,DeedP works d
def qE3(K:PySem.W.Frag):Sp:=λvs H Q _ => ∃(t b:Addr) (k:Nat) (most first works:Int) (bs:List Int),vs = [.ref t,.int most,.ref b,.int first,.int works]/\Tape H t k/\k+130<=2^40/\0<=most/\most<=12/\0<=first/\first<=100/\1<=works/\works<=100 /\
 H b=some (.lst (bs.map V.int))/\b≠t/\BsOk bs /\ ∀(l:Addr) (ds:List Deed) (H':Hp),H l=none->Tape H' t (k+130)->Ext [t] H H'->(∀d∈ds,DeedP works d)->ds.length<=12->Den K (yo H [t] H') (.list (ds.map deedD)) (.ref l)->Q (.ref l) H'
theorem qF1{K:PySem.W.Frag}{G H:Hp}{as:List Addr}{ws:List (List Blk)}(h:WorksAt K G H as ws)(g:Same G H):DenL K H (ws.map workD) (as.map V.ref):=by
 unfold WorksAt at h
 induction h with
 | nil=>exact .nil
 | cons r _ ih =>
  obtain⟨bs,e,d⟩:=r;exact .cons (.list (SqL.of e) (d.mono g)) ih
def Ledx(nx:List (List Int)):Prop := ∀j:Nat,1<=j->j<nx.length -> ∃i ns,i<j/\nx[i]? = some ns/\(j:Int)∈ns
def Lp(m:Int)(nx:List (List Int)):Prop := ∀j:Nat,1<=j->j<=nx.length->(j:Int)<m -> ∃i ns,i<j/\nx[i]? = some ns/\(j:Int)∈ns
def Kp(nx:List (List Int))(kvs:List (Key×V)):Prop := ∀n:Int,valV kvs (Sum.inl n)≠none -> ∃(i:Nat) (ns:List Int),nx[i]? = some ns/\n∈ns
theorem Lp.nil{m:Int}:Lp m []:=λj h1 h2=>by simp at h2;lia
theorem Kp.nil:Kp [] []:=λn h=>absurd rfl h
theorem Lp.led{m:Int}{nx:List (List Int)}(h:Lp m nx)(e:(nx.length:Int)=m):Ledx nx:=λj h1 h2=>h j h1 (by lia) (by lia)
theorem Lp.snoc{m:Int}{nx:List (List Int)}{kvs:List (Key×V)}{ns:List Int}{j:Int}(hj:j=0+(nx.length:Int)+1)(h:Lp m nx)(hk:Kp nx kvs)(hl:j<m->j∈ns\/valV kvs (Sum.inl j)≠none):Lp m (nx ++ [ns]):=by
 intro i h1 h2 h3;rw [aN] at h2;by_cases c:i<=nx.length
 ·obtain⟨i',ns',a,b,d⟩:=h i h1 c h3;exact⟨i',ns',a,by rw [cF (aD.mp b).1];exact b,d⟩
 ·have e:(i:Int)=j:=by simp at h2;lia
  rcases hl (by lia) with z | z
  ·exact⟨nx.length,ns,by lia,by simp,by rw [e];exact z⟩
  ·obtain⟨i',ns',b,d⟩:=hk j z;have b1:=(aD.mp b).1;exact⟨i',ns',by lia,by rw [cF b1];exact b,by rw [e];exact d⟩
theorem Kp.snoc{nx:List (List Int)}{kvs kvs':List (Key×V)}{ns:List Int}(h:Kp nx kvs)(hv:∀n:Int,valV kvs' (Sum.inl n)≠none->valV kvs (Sum.inl n)≠none\/n∈ns):Kp (nx ++ [ns]) kvs':=by
 intro n z;rcases hv n z with y | y
 ·obtain⟨i,ns',b,d⟩:=h n y;exact⟨i,ns',by rw [cF (aD.mp b).1];exact b,d⟩
 ·exact⟨nx.length,ns,by simp,y⟩
theorem qL6{κ : Type} [DecidableEq κ] {kvs:List (κ × V)}{k k' : κ}{v:V}(h:valV (putK kvs k v) k'≠none):valV kvs k'≠none\/k'=k:=by
 by_cases c:k'=k
 ·exact .inr c
 ·refine .inl λz=>h ?_;rw [qIs,if_neg c];exact z
theorem qFn:∀(ns:List Int) (kvs:List (Key×V)) (n:Int),valV (qFo kvs (ns.map λn=>((Sum.inl n:Key),V.bl true))) (Sum.inl n)≠none->valV kvs (Sum.inl n)≠none\/n∈ns
 | [],_,_,h =>.inl h
 | x::ns,kvs,n,h=>by
  rcases qFn ns _ n h with z | z
  ·rcases qL6 z with y | y
   ·exact .inl y
   ·cases y;exact .inr (by simp)
  ·exact .inr (aV _ z)
def Led(w:List Blk):Prop:=Ledx (w.map (·.ns))
def FwL(works:Int)(w:List Blk):Prop:=(∀b∈w,Fw works b)/\Led w
def qG2(K:PySem.W.Frag):Sp:=λvs H Q _ => ∃(t:Addr) (k:Nat) (m:Int),vs = [.ref t,.int m]/\Tape H t k/\k+30<=2^40/\1<=m/\m<=12 /\
 ∀(l:Addr) (nx:List (List Int)) (H':Hp),H l=none->Tape H' t (k+30)->Ext [t] H H'->(NxOk m nx/\Ledx nx)->Den K (yo H [t] H') (.list (nx.map intsD)) (.ref l)->Q (.ref l) H'
def qI6(K:PySem.W.Frag):Sp:=λvs H Q _ => ∃(t:Addr) (k:Nat) (m most first works:Int),vs = [.ref t,.int m,.int most,.int first,.int works]/\Tape H t k/\k+2000<=2^40/\1<=m/\m<=12/\0<=most/\most<=12/\0<=first/\first<=100/\1<=works/\works<=100 /\
 ∀(l:Addr) (w:List Blk) (bs:List V) (H':Hp),H l=none->l≠t->Tape H' t (k+2000)->Ext [t] H H'->WorkOk m works w->FwL works w->H' l=some (.lst bs)->DenL K (yo H [l,t] H') (w.map blkD) bs->Q (.ref l) H'
def qG0(K:PySem.W.Frag):Sp:=λvs H Q _ => ∃(t:Addr) (k:Nat) (most:Int),vs = [.ref t,.int most]/\Tape H t k/\k+21000<=2^40/\0<=most/\most<=12 /\
 ∀(l:Addr) (as:List Addr) (ws:List (List Blk)) (H':Hp),H l=none->l≠t->l∉as->(∀a∈as,H a=none/\a≠t)->as.Nodup->Tape H' t (k+21000)->Ext [t] H H'->H' l=some (.lst (as.map V.ref))->WorksAt K (yo H (l::t::as) H') H' as ws->AllOk (ws.length:Int) ws->(∀w∈ws,FwL (ws.length:Int) w)->Q (.ref l) H'
def qG3(K:PySem.W.Frag):Sp:=λvs H Q _ => ∃(t l0:Addr) (k:Nat) (as0:List Addr) (ws0:List (List Blk)) (works:Int),vs = [.ref t,.ref l0]/\Tape H t k/\k+5000<=2^40/\H l0=some (.lst (as0.map V.ref))/\l0≠t/\t∉as0/\WorksAt K (wo [t] H) H as0 ws0/\AllOk works ws0/\(∀w∈ws0,∀b∈w,b.ds.length<=12)/\(∀w∈ws0,Led w) /\
 ∀(l:Addr) (as:List Addr) (ws:List (List Blk)) (H':Hp),H l=none->l≠t->l∉as->(∀a∈as,H a=none/\a≠t)->as.Nodup->Tape H' t (k+5000)->Ext [t] H H'->H' l=some (.lst (as.map V.ref))->WorksAt K (wo (l::t::as) H') H' as ws->(AllOk works ws /\ ∀w∈ws,Led w)->as.length=as0.length->Q (.ref l) H'
section
variable{X:Cx}
theorem qLv{bs:List Bool}{f:Nat->Bool}(hf:∀i b,bs[i]? = some b->f i=b):(List.range bs.length).all f=bs.all id:=by
 rw [cA,dY,dY];constructor
 ·intro h b hb;obtain⟨i,hi,e⟩:=bM hb;have:=h i (List.mem_range.mpr hi);rw [hf i b (by rw [aI hi,e])] at this;exact this
 ·intro h i hi;have hi:=List.mem_range.mp hi;rw [hf i bs[i] (aI hi)];exact h _ (List.getElem_mem hi)
def rAllB(K:PySem.W.Frag):List V->Hp->VK->Prop:=λxs H Q => ∃(a:Addr) (bs:List Bool),xs = [.ref a]/\SqL K H a (bs.map V.bl)/\Q (.bl (bs.all id)) H
theorem qC9(hh:X.A.handled=none):CallR X (.builtin "all") (rAllB X.K):=by
 intro pins s σ H xs us Q I r h;obtain⟨a,bs,rfl,hq,q⟩:=h;obtain⟨u,rfl,ru⟩:=vals1 r;cases ru;obtain⟨its,rv,pl,_⟩:=I.list hq;have hlen:=rv.length;rw [aB] at hlen;have hl:=pl.isList;have hne:a≠s.heap.objs.size:=by obtain⟨o,e,_⟩:=hl;exact aY (aK e)
 have hval:∀(i:Nat) (v:Value),its.toArray[i]? = some v->v = .bool (bs.getD i false):=λi v e=>by
  rw [List.getElem?_toArray] at e;have hi:i<bs.length:=by rw [hlen];exact (aD.mp e).1
  obtain⟨u,e2,r2⟩:=rv.get (i:=i) (x:=V.bl bs[i]) (by rw [bC,aI hi];rfl);rw [e] at e2;cases e2;have r2:v=Value.bool bs[i]:=r2;rw [r2,cJ,aI hi];rfl
 refine call_all_walk (dO hl ⟨_,_,_,_,_,_,λi=>bs.getD i false,rfl,Walks.list (by exact hh) _ a hne its.toArray,⟨⟨_,aR _ rfl,rfl,rfl⟩,hl.push _⟩,λi v s Q E hP hQ=>?_,λh' tk k=>?_⟩)
 ·rw [hval i v hP];exact bQ hQ
 ·have e:(List.range its.toArray.size).all (λi=>bs.getD i false)=bs.all id:=by
   rw [aG,<-hlen];exact qLv λi b hb=>by rw [cJ,hb];rfl
  rw [e];exact⟨.bl (bs.all id),H,I.kept (t':=tk) (λb o e=>k b o (by simpa using aY (aK e)) (aE _ e)),rfl,q⟩
def rIsI(K:PySem.W.Frag):List V->Hp->VK->Prop:=λxs H Q => ∃(x:V) (n:String) (t:Value) (b:Bool),xs = [x,.ty n]/\TyOf K H x t/\PySem.W.kitOne K t (.type n)=some b/\Q (.bl b) H
theorem qGs:CallR X (.builtin "isinstance") (rIsI X.K):=by
 intro pins s σ H xs us Q I r h;obtain⟨x,n,t,b,rfl,ty,e,q⟩:=h;obtain⟨u,u2,rfl,ru,ru2⟩:=vals2 r;cases (show u2=Value.type n from ru2);exact qN1 I ru ty e λtk=>⟨.bl b,H,I.tok _,rfl,q⟩
theorem qIi(K:PySem.W.Frag):PySem.W.kitOne K (.type "int") (.type "int")=some true:=by rfl
theorem qHk(K:PySem.W.Frag):PySem.W.kitOne K (.type "int") (.type "bool")=some false:=by rfl
theorem qPa(K:PySem.W.Frag):PySem.W.kitOne K (.type "list") (.type "list")=some true:=by rfl
end
theorem Inv.laidN{X:Cx}{pins:List (Addr×Obj)}{σ : St}{H:Hp}{s:Shared}{h':Heap}{t':Nat}{D:Addr}{o:HO}(I:Inv X pins σ H s)(k:∀b u,s.heap.get? b=some u->h'.get? b=some u)(hD:s.heap.get? D=none)(new:ObjOk X.prog X.w (upd H D o) h' D o):Inv X pins σ (upd H D o) { s with heap:=h',toks:=t' }:=by
 have hn:H D=none:=I.hok.gone hD;have neD:∀b u,s.heap.get? b=some u->b≠D:=λb u e z=>by rw [z,hD] at e;cases e
 refine I.step (g':=s.gens) (d':=s.drawn) (ch :=[]) (λ_ z=>nomatch z) (λb u _ _ _ e _=>k b u e) (λb u _ _ _ e _=>⟨u.slots,k b u e⟩) (λb u _ e n=>by rw [qA5 (neD b u e)];exact n)
  (λb u _ e=>⟨u,k b u e⟩) (λb xs e=>by rw [qA5 (qA2 e hn)];exact e) (λb ob xs e=>by rw [qA5 (qA2 e hn)];exact e) (λb ps e=>⟨#[],by rw [qA5 (qA2 e hn),e];simp⟩) (λm' hm=>?_) (λb u e=>?_) I.bare
 ·obtain⟨ob,es,ep,ho,r⟩:=hm;exact⟨ob,es,ep,k _ ob ho,r⟩
 ·by_cases hb:b=D
  ·subst hb;rw [qA1] at e;cases e;exact new
  ·rw [qA5 hb] at e;exact (I.hok b u e).stay (λc v _ q=>k c v q) (λc q=>by rw [qA5 (qA2 q hn)];exact q) λc xs q=>by rw [qA5 (qA2 q hn)];exact q
theorem qJh{ta tb:TE}{σ : St}{H:Hp}{Q:VK}(h:ta σ H λx H1 => ∃c,x = .bl c/\if c=true then tb σ H1 Q else Q (.bl false) H1):tAndV ta tb σ H Q:=h
theorem qLx{ta:TE}{σ : St}{H:Hp}{Q:VK}(h:ta σ H λx H1 => ∃c,x = .bl c/\Q (.bl (!c)) H1):tNotV ta σ H Q:=h
theorem qJe{r r':R2}{ta tb tc:TE}{σ : St}{H:Hp}{Q:VK}(h:ta σ H λx H1=>tb σ H1 λy H2=>r x y H2 λz H3 => ∃k,z = .bl k/\(if k=true then tc σ H3 λw' H4=>r' y w' H4 Q else Q (.bl false) H3)):qLf r r' ta tb tc σ H Q:=h
theorem qFj{K:PySem.W.Frag}{lc:Addr}{G:Hp}{m:Nat}{Q:VK}(h:G lc=some (.lst (List.replicate m (V.bl true))))(q:Q (.bl true) G):rAllB K [.ref lc] G Q:=by
 have e:∀m:Nat,(List.replicate m true).all id=true:=λm=>by simp
 exact⟨lc,List.replicate m true,rfl,SqL.of (by rw [List.map_replicate];exact h),by rw [e];exact q⟩
def qG6:Sp:=λvs H Q _ => ∃n:Int,vs = [.int n]/\Q (.bl true) H
def qE2:Sp:=λvs H Q _ => ∃n lo hi:Int,vs = [.int n,.int lo,.int hi]/\lo<=n/\n<hi/\Q (.bl true) H
section
variable{X:Cx}
def rStr:List V->Hp->VK->Prop:=λxs H Q=>(∃x,xs = [.str x]/\Q (.str x) H) \/ ∃i:Int,xs = [.int i]/\i.natAbs.log2<1920/\Q (.str (toString i)) H
theorem qEw:CallR X (.type "str") rStr:=by
 intro pins s σ H xs us Q I r h;rcases h with ⟨x,rfl,q⟩ | h
 ·obtain⟨u,rfl,t,rfl⟩:=vals1 r;exact PySem.P.str_of_str ⟨.str x,H,I,⟨_,rfl⟩,q⟩
 ·exact qHu pins s σ H xs us Q I r h
theorem qLg:∀ {ts:List Str} {its:List Value},Vals (ts.map V.str) its -> ∃l:List (Str×Tok),its=strValues l/\l.map (·.1)=ts
 | [],_,.nil=>⟨[],rfl,rfl⟩
 | x::ts,_,.cons r t=>by
  obtain⟨l,e1,e2⟩:=qLg t;obtain⟨k,rfl⟩:=r;exact⟨(x,k)::l,by rw [e1];rfl,by rw [bJ,e2]⟩
theorem qH1:∀(l:List (Str×Tok)),Vals ((l.map (·.1)).map V.str) (strValues l)
 | [] =>.nil
 | (x,k)::l =>.cons ⟨k,rfl⟩ (qH1 l)
def rJoin(K:PySem.W.Frag):V->List V->Hp->VK->Prop:=λx xs H Q => ∃(sep:Str) (a:Addr) (ts:List Str),x = .str sep/\xs = [.ref a]/\SqL K H a (ts.map V.str)/\JoinOk sep ts=true/\Q (.str (Str.join sep ts)) H
theorem qGl:MtR X "str.join" (rJoin X.K):=by
 intro pins s σ H x args v us Q I rx ra h;obtain⟨sep,a,ts,rfl,rfl,hl,hz,q⟩:=h;obtain⟨t,rfl⟩:=rx;obtain⟨u1,rfl,r1⟩:=vals1 ra;cases r1;obtain⟨its,r,pl,_⟩:=I.list hl;obtain⟨l,rfl,e2⟩:=qLg r;refine SC.join pl.isList e2 hz λt' k=>⟨.str _,H,I.tok _,⟨_,rfl⟩,?_⟩;rw [show Txt.join sep ts=Str.join sep ts from StrLaws.glued_eq_join sep ts];exact q
def qS4:V->List V->Hp->VK->Prop:=λx xs H Q => ∃(z y:Str),x = .str z/\xs = [.str y]/\y.length≠0/\z.length<=1000000 /\ ∀l,H l=none->Q (.ref l) (upd H l (.lst ((Txt.split z y).map V.str)))
theorem qJr:MtR X "str.split" qS4:=by
 intro pins s σ H x args v us Q I rx ra h;obtain⟨z,y,rfl,rfl,hy,hz,q⟩:=h;obtain⟨t,rfl⟩:=rx;obtain⟨u1,rfl,t1,rfl⟩:=vals1 ra;have hn:(Builtin.Str.partsBetween z (Builtin.Str.occurrences z y 0 z.length (z.length+1)) y.length).length<=z.length+2:=by
  rw [length_partsBetween];have:=StrLaws.occ_length_le z y 0 z.length (z.length+1);lia
 have fin:∀(l:List (Str×Tok)) (k:Nat),l.map (·.1)=Txt.split z y->(Txt.split z y).length<=sizeLine->EP X pins σ Q (.ref s.heap.objs.size) { s with heap:=s.heap.push { cls :=.type "list",data :=.seq (strValues l).toArray },toks:=k }:=λl k e hs=>by
  refine⟨.ref s.heap.objs.size,_,I.laid (o :=.lst ((Txt.split z y).map V.str)) (λb o e=>aE _ e) (aC _) (show _/\_ from⟨?_,strValues l,0,?_,aR _ rfl⟩),rfl,q _ (I.hok.fresh (aC _))⟩
  ·rw [aB];exact hs
  ·rw [<-e];exact qH1 l
 have hy':(y.length == 0)=false:=by simpa using hy
 cases c1:(decide (z.length<y.length)||decide (Builtin.Str.strKind z<Builtin.Str.strKind y))
 ·cases c2:(Builtin.Str.occurrences z y 0 z.length (z.length+1)).isEmpty
  ·have e:Txt.split z y=Builtin.Str.partsBetween z (Builtin.Str.occurrences z y 0 z.length (z.length+1)) y.length:=by
    unfold Txt.split;rw [c1,c2];rfl
   refine dP F.slot_str_split (typeIs_str _ _ _) F.entry_str_split (F.args_str_split_2 _ _) (meets_str_split_sep z y t t1 c1 hy' c2 (by rw [bS];lia) (by rw [bS];lia)) ?_;rw [strsFrom_eq];exact fin (numbered s.toks _) _ (by rw [e];exact numbered_texts _ _) (by rw [e,bS];lia)
  ·have e:Txt.split z y = [z]:=by unfold Txt.split;rw [c1,c2];rfl
   exact dP F.slot_str_split (typeIs_str _ _ _) F.entry_str_split (F.args_str_split_2 _ _) (meets_str_split_not_found z y t t1 c1 hy' c2) (fin [(z,t)] _ e.symm (by rw [e,bS];show 1<=16777216;decide))
 ·have e:Txt.split z y = [z]:=by unfold Txt.split;rw [c1];rfl
  exact dP F.slot_str_split (typeIs_str _ _ _) F.entry_str_split (F.args_str_split_2 _ _) (meets_str_split_cannot_occur z y t t1 c1) (fin [(z,t)] _ e.symm (by rw [e,bS];show 1<=16777216;decide))
def qQn:V->List V->Hp->VK->Prop:=λx xs H Q => ∃(z y:Str),x = .str z/\xs = [.str y]/\Q (.bl (Txt.startswith z y)) H
theorem qMo:MtR X "str.startswith" qQn:=by
 intro pins s σ H x args v us Q I rx ra h;obtain⟨z,y,rfl,rfl,q⟩:=h;obtain⟨t,rfl⟩:=rx;obtain⟨u1,rfl,t1,rfl⟩:=vals1 ra;exact SC.startswith ⟨.bl _,H,I,rfl,q⟩
def rIntT:List V->Hp->VK->Prop:=λxs H Q => ∃(x:Str) (n:Int),xs = [.str x]/\PySem.intText? x=some n/\x.length<=640/\Q (.int n) H
theorem qNn:CallR X (.type "int") rIntT:=by
 intro pins s σ H xs us Q I r h;obtain⟨x,n,rfl,hn,hl,q⟩:=h;obtain⟨u,rfl,t,rfl⟩:=vals1 r;exact PySem.W.KIN.call_text hn hl ⟨.int n,H,I.tok _,⟨_,rfl⟩,q⟩
def rSlS:V->Option Int->Option Int->Hp->VK->Prop:=λx lo hi H Q => ∃z,x = .str z/\z.length<=sizeLine/\Q (.str (Txt.slice z lo hi)) H
theorem qRp:SlR X rSlS:=by
 intro pins s σ H x v vl vu lo hi sl Q I rx hs pl pu h;obtain⟨z,rfl,hz,q⟩:=h;obtain⟨t,rfl⟩:=rx;refine⟨"str",_,F.slot_str_getitem.lookup,typeIs_str _ _ _,?_⟩;have fin:=λ(l u:Option Int) (q:Q (.str (Txt.slice z l u)) H)=>(⟨bH (Txt.slice_le z l u) hz,λt' k=>⟨.str _,H,I.tok _,⟨_,rfl⟩,q⟩⟩:(Txt.slice z l u).length<=sizeLine /\ ∀t' k,EP X pins σ Q (.str (Txt.slice z l u) t') { s with toks:=k });obtain⟨o,ho,hc,hd⟩:=hs;cases pl with
 | none =>
  cases pu with
  | none=>exact cX (l:=none) (u:=none) (st:=none) ⟨o,ho,hc,hd⟩ rfl (post_val_or_str (fin _ _ q))
  | int j tj=>exact cX (l:=none) (u:=some (j,tj)) (st:=none) ⟨o,ho,hc,hd⟩ rfl (post_val_or_str (fin _ _ q))
 | int i ti =>
  cases pu with
  | none=>exact cX (l:=some (i,ti)) (u:=none) (st:=none) ⟨o,ho,hc,hd⟩ rfl (post_val_or_str (fin _ _ q))
  | int j tj=>exact cX (l:=some (i,ti)) (u:=some (j,tj)) (st:=none) ⟨o,ho,hc,hd⟩ rfl (post_val_or_str (fin _ _ q))
def Its(x:Str):It:=⟨λi _=>i<x.cps.size,λi H v H'=>H'=H /\ ∃c,x.cps[i]? = some c/\v = .str ⟨#[c]⟩,λi _=>x.cps.size<=i⟩
theorem qNu{P:Program}{w:World}{K:PySem.W.Frag}{tg:Expr}(x:Str)(t:Tok)(it:Addr):Turn P w K tg (Its x) [it] it (λi h=>h.IsStrIter it "str_ascii_iterator" x t i) where
 mem:=by simp
 obj:=λi h st b hb=>by
  have e:b=it:=by simpa using hb
  subst e;obtain⟨o,e,c,d⟩:=st;exact⟨o,e,λv z=>by rw [d] at z;cases z⟩
 keep:=λi h h' st k=>let ⟨o,ho,r⟩:=st;⟨o,k it (by simp) o ho,r⟩
 item:=by
  intro X hP hw hK hc i pins s σ H E I hf st hg;subst hP hw hK;have hg:i<x.cps.size:=hg;obtain⟨f0,f1,f2,f3,f4,f5⟩:=hf it (by simp);refine wpAny_pyNext_ascii_item st (c:=x.cps[i]) (dU hg) λh' st' sb=>?_;have I1:Inv X pins σ H { s with heap:=h',toks:=s.toks+1 }:=I.turned (t':=s.toks+1) (λb o hb e=>(sb.2 b hb).trans e) f0 f1 f3 f4 f5;obtain⟨o,e,c,d⟩:=id st';exact⟨_,rfl,qPe (s :={ s with heap:=h',toks:=s.toks+1 }) e c d (by decide) ⟨.str ⟨#[x.cps[i]]⟩,H,I1,⟨_,rfl⟩,⟨rfl,_,dU hg,rfl⟩,st',λb hb=>(hf b hb).1⟩⟩
 done:=by
  intro X hP hw hK hc i pins s σ H E I hf st hg;subst hP hw hK;have hg:x.cps.size<=i:=hg;obtain⟨f0,f1,f2,f3,f4,f5⟩:=hf it (by simp);exact wpAny_pyNext_ascii_end (I.ok.hd hc) st (Array.getElem?_eq_none hg) λh' eb=>⟨rfl,I.turned (t':=s.toks) (λb o hb e=>eb b o hb e) f0 f1 f3 f4 f5⟩
 self:=λ_ _ _ _ _ st h=>wpAny_pyIter_striter_ascii st h
def iStr(tl:TE):TI:=λσ H R=>tl σ H λx H1 => ∃z:Str,x = .str z/\z.cps.all (· < 128)=true/\R (Its z) H1
theorem qS9{tg l:Expr}{tl:TE}(hl:PE X l tl):PI X tg l (iStr tl):=by
 intro pins s σ H R I h;refine thn (hl pins s σ H _ I h) λv s1 hq_=>?_;obtain⟨x,H1,I1,r1,q1⟩:=hq_;obtain⟨z,e,ha,q⟩:=q1;subst e;obtain⟨t,rfl⟩:=r1;refine wpAny_pyIter_ascii ha ?_;refine⟨s1.heap.objs.size,[s1.heap.objs.size],_,_,H1,rfl,I1.kept (t':=s1.toks) λb o e=>aE _ e,qNu z t _,⟨_,aR _ rfl,rfl,rfl⟩,λb hb=>?_,q⟩;have e:b=s1.heap.objs.size:=by simpa using hb
 subst e;exact I1.fpOk (aC _) (I1.hok.fresh (aC _))
theorem qP7{x:Str}{g:TG}{σ : St}{H:Hp}{tt:TT}{B:TB}{Q:St->Hp->Prop}(Pv:Nat->St->Hp->Prop)(h0:Pv 0 σ H)(hs:∀i c σ H (R:St->Hp->Prop),x.cps[i]? = some c->Pv i σ H->(∀ σ' H',Pv (i+1) σ' H'->R σ' H')->g (.str ⟨#[c]⟩) σ H λσ2 H2=>tt σ2 H2 λb H3=>if b=true then B σ2 H3 R else R σ2 H3)(hd:∀ σ H,Pv x.cps.size σ H->Q σ H):LoopT (Its x) g tt B σ H Q:=by
 refine qDs (n:=x.cps.size) Pv h0 (λi σ H hi p=>hi) (λσ H p=>aC _) (λi σ H R hi p hR v H' y=>?_) hd;obtain⟨e,c,hk,e2⟩:=y;subst e e2;exact hs i c σ _ R hk p hR
end
def TabK(K:PySem.W.Frag)(a:Addr)(D:List (Str×V)):Prop:=(a == sysModules)=false /\ ∃(o:Obj) (es:Array DictEntry) (ep:Nat),K.lookup a=some o/\o.ExactDict/\o.data = .dict es ep/\KTD.Rows RelV es.toList D
theorem TabK.at{K:PySem.W.Frag}{a:Addr}{D:List (Str×V)}{h:Heap}(T:TabK K a D)(k:K.In h):KTD.TabOf RelV h a D:=by
 obtain⟨h1,o,es,ep,h2,h3,h4,h5⟩:=T;exact⟨h1,o,es,ep,k _ _ h2,h3,h4,h5⟩
section
variable{prog:Program}{w:World}{A:Around}{E:Value->Shared->Prop}{s:Shared}{a:Addr}{D:List (Str×V)}{x:Str}{t:Tok}
theorem qFz(T:KTD.TabOf RelV s.heap a D):s.TypeIs (.ref a) "dict" :=by
 obtain⟨_,o,_,_,ho,hx,_⟩:=T;exact⟨o,ho,hx.1⟩
theorem qIx{Q:Option Value->Shared->Prop}(T:KTD.TabOf RelV s.heap a D)(q1:∀v u,KTD.datumAt x D=some v->RelV v u->Q (some u) { s with toks:=s.toks+1 })(q0:KTD.datumAt x D=none->Q none { s with toks:=s.toks+1 }):wpAny (model prog w) A (dictGet a (.str x t)) Q E s:=by
 obtain⟨_,o,ents,ep,ho,_,hd,rows⟩:=T;have q:Q (findBy (λk v=>v.isStr k) ents x) { s with toks:=s.toks+1 }:=by
  have e:findBy (λk v=>v.isStr k) ents x=(ents.toList.find? λe=>e.key.isStr x).map (·.val):=by cases ents;simp [findBy]
  rw [e];cases c:KTD.datumAt x D with
  | none=>rw [rows.find_none c];exact q0 c
  | some v =>
   obtain⟨u,e1,r⟩:=rows.find_some c;rw [e1];exact q1 v u c r
 unfold dictGet
 try with_reducible refine bI ?_
 refine aA (wpAny_pyHash_str (aA (KTD.kt_dictFind_strs (s :={ s with toks:=s.toks+1 }) ho hd (by cases ents;simpa using rows.exact) ?_)));rw [findBy_of_findIdx?] at q;cases c:ents.findIdx? λe=>e.key.isStr x with
 | some i=>rw [c] at q;exact aA (wpAny_dictEntries (s :={ s with toks:=s.toks+1 }) ho hd (aF q))
 | none=>rw [c] at q;exact aF q
theorem qNw{Q:Value->Shared->Prop}{v:V}(T:KTD.TabOf RelV s.heap a D)(hv:KTD.datumAt x D=some v)(q:∀u,RelV v u->Q u { s with toks:=s.toks+1 }):wpAny (model prog w) A (getItem (.ref a) (.str x t)) Q E s:=by
 have ty:=qFz T;unfold getItem
 try with_reducible refine bI ?_
 refine aA (wpAny_sequenceKey ty (by decide) (aA (cC (name:=Str.ofString "__getitem__") ty slot_dict_getitem
  (cL slot_dict_getitem ty entry_dict_getitem ?_ (args_dict_getitem _ _)))))
 show wpAny _ _ (dictGet a (.str x t) >>= _) _ _ s;refine aA (qIx T (λv' u c r=>?_) λc=>by rw [hv] at c;cases c);rw [hv] at c;cases c;exact aF ⟨u,rfl,aF (q u r)⟩
theorem qLc{Q:Bool->Shared->Prop}(T:KTD.TabOf RelV s.heap a D)(q:Q (KTD.datumAt x D).isSome { s with toks:=s.toks+1 }):wpAny (model prog w) A (contains (.ref a) (.str x t)) Q E s:=by
 have ty:=qFz T;unfold contains
 try with_reducible refine bI ?_
 refine aA (wpAny_specialOf ty slot_dict_contains.lookup ?_);show wpAny _ _ (if (some (Value.builtin "dict.__contains__") == some Value.none)=true then _ else _) _ E s;rw [if_neg (by rw [beq_builtin_none];exact aH)]
 refine aA (wpAny_callSpecialUnlessNone?_slot (name:=Str.ofString "__contains__") ty slot_dict_contains (cL slot_dict_contains ty entry_dict_contains ?_
  (args_dict_contains _ _)))
 show wpAny _ _ (dictGet a (.str x t) >>= _) _ _ s;refine aA (qIx T (λv u c _=>?_) λc=>?_)
 ·rw [c] at q;show wpAny _ _ (ret (.bool true)) _ _ _;exact aF ⟨_,rfl,bQ (by first | exact q | exact aF q)⟩
 ·rw [c] at q;exact aA (wpAny_pendingKey_other T.1 (aF ⟨_,rfl,bQ (by first | exact q | exact aF q)⟩))
end
section
variable{X:Cx}
def qD2(D:List (Str×V))(x:Str):Bool:=(KTD.datumAt x D).isSome
def qPy(K:PySem.W.Frag)(neg:Bool):R2:=λx y H Q => ∃(k:Str) (a:Addr) (D:List (Str×V)),x = .str k/\y = .ref a/\TabK K a D/\Q (.bl (if neg then !qD2 D k else qD2 D k)) H
theorem qJp:OpR X (compareOp .In) (qPy X.K false):=by
 intro pins s σ H x y v u Q I rx ry h;obtain⟨k,a,D,rfl,rfl,T,q⟩:=h;obtain⟨t,rfl⟩:=rx;cases ry;show wpAny _ _ (do return Value.bool (<-contains (.ref a) (.str k t))) _ _ s;exact aA (qLc (T.at I.kIn) (aF ⟨.bl _,H,I.tok _,rfl,q⟩))
theorem qDa:OpR X (compareOp .NotIn) (qPy X.K true):=by
 intro pins s σ H x y v u Q I rx ry h;obtain⟨k,a,D,rfl,rfl,T,q⟩:=h;obtain⟨t,rfl⟩:=rx;cases ry;show wpAny _ _ (do return Value.bool (!(<-contains (.ref a) (.str k t)))) _ _ s;exact aA (qLc (T.at I.kIn) (aF ⟨.bl _,H,I.tok _,rfl,q⟩))
def qS7(K:PySem.W.Frag):R2:=λx y H Q => ∃(k:Str) (a:Addr) (D:List (Str×V)) (v:V),x = .ref a/\y = .str k/\TabK K a D/\KTD.datumAt k D=some v/\Q v H
theorem qHm:IxR X (qS7 X.K):=by
 intro value slice pins s σ H x y v u Q I rx ry h hs;obtain⟨k,a,D,z,rfl,rfl,T,hv,q⟩:=h;obtain⟨t,rfl⟩:=ry;cases rx;exact tail_any (qFz (T.at I.kIn)) slot_dict_getitem.lookup (qNw (T.at I.kIn) hv λu r=>⟨z,H,I.tok _,r,q⟩) hs
end
section
variable{prog:Program}{w:World}{A:Around}{E:Value->Shared->Prop}{s:Shared}
theorem qKa{a:Addr}{u:Value}{us:List Value}{Q:List Value->Shared->Prop}(hl:s.heap.IsList a (u::us).toArray)(hh:A.handled=none)(hz:us.length<=1000)
  (q:∀(h':Heap) (tk:Nat),(∀b o,s.heap.get? b=some o->h'.get? b=some o)->Q [u,.ref h'.objs.size] { s with heap:=h'.push { cls :=.type "list",data :=.seq us.toArray },toks:=tk }):wpAny (model prog w) A (unpackItems (.ref a) 2 (some 1)) Q E s:=by
 obtain⟨oa,hoa,_⟩:=id hl;have hne:a≠s.heap.objs.size:=aY (aK hoa);have hsz:(u::us).toArray.size=us.length+1:=by simp
 unfold unpackItems notIterableAtAll;refine aA (aA (wpAny_specialOf hl.typeIs slot_list_iter.lookup (aF ?_)));simp only [Bool.false_eq_true,if_false];refine aA (bI (dO hl (aA (bI (PySem.W.kun_draw hne 1 0 _ _ ⟨_,aR _ rfl,rfl,rfl⟩ (hl.push _) (by lia) λh1 it1 k1=>?_)))));have l1:h1.IsList a (u::us).toArray:=(hl.push _).extBut k1.extBut hne;obtain⟨oi,hoi,_⟩:=id it1;obtain⟨ol,hol,_⟩:=id l1;rw [if_neg (by simp)]
 refine aA (bI (PySem.W.kun_collect (s :={ s with heap:=h1 }) (T := "list_iterator") (.inr (.inr (.inl rfl))) (Walks.list (A:=A.in1) hh s.heap.objs.size a hne _) (λj v st=>st.1.typeIs) (k:=1) (by lia) ⟨it1,l1⟩ (aK hoi)
  (aK hol) (λh2 tk k2=>?_) (by rw [bS];lia)))
 have keep:∀b o,s.heap.get? b=some o->h2.get? b=some o:=λb o e=>by
  have hb:b≠s.heap.objs.size:=aY (aK e);exact k2 b o hb (k1.extBut b o hb (aE _ e))
 have ed:(u::us).toArray.toList.drop 1=us:=by simp
 rw [ed];show wpAny _ _ (if us.length<2 - 1 - 1 then _ else _) _ _ _;rw [if_neg (by lia)];show wpAny _ _ (newList (us.take (us.length - 0)) >>= λd=>pure ([u] ++ [d]++us.drop (us.length - 0))) _ _ _;rw [Nat.sub_zero,cM,List.drop_length];exact aA (wpAny_newList (aF (q h2 tk keep)) (by rw [bS];lia))
end
section
variable{X:Cx}
def gStar(K:PySem.W.Frag)(t0 t1:TG):TG:=λv σ H Q => ∃a x xs,v = .ref a/\SqL K H a (x::xs)/\xs.length<=1000 /\ ∀l,H l=none->t0 x σ (upd H l (.lst xs)) λσ1 H1=>t1 (.ref l) σ1 H1 Q
theorem qQt{e0 e1:Expr}{p0 pos:Pos}{k:Nat}{t0 t1:TG}(hc:X.calm=true)(h0:PG X e0 t0)(h1:PG X e1 t1)(hn:(assignEach [e0,.Starred e1 p0] X.env).length=2:=by rfl)(hst:(assignEach [e0,.Starred e1 p0] X.env).findIdx? (·.1)=some 1:=by rfl)(hm:(assignEach [e0,.Starred e1 p0] X.env).map (·.2) = [assign e0 X.env,assign e1 X.env]:=by rfl):PG X (.Tuple [e0,.Starred e1 p0] k pos) (gStar X.K t0 t1):=by
 intro pins s σ H v u Q I r h;obtain⟨a,x,xs,rfl,hq,hz,q⟩:=h;cases r;obtain⟨its,rv,pl,_⟩:=I.list hq;cases rv with
 | cons r1 rr =>
  rename_i u1 us;rw [assign_Tuple];refine aA (wpAny_standAt ?_);unfold unpack;rw [hn,hst,hm];have hl:=rr.length;refine aA (bI (qKa pl.isList (I.ok.hd hc) (by lia) λh' tk keep=>?_));have hD:s.heap.get? h'.objs.size=none:=by
   cases e:s.heap.get? h'.objs.size with
   | none=>rfl
   | some o=>exact absurd (aK (keep _ o e)) (cW _)
  have I1:Inv X pins σ (upd H h'.objs.size (.lst xs)) { s with heap:=h'.push { cls :=.type "list",data :=.seq us.toArray },toks:=tk }:=I.laidN (t':=tk) (o :=.lst xs) (λb o e=>aE _ (keep b o e)) hD (show _/\_ from⟨by rw [bS];lia,us,0,rr,aR _ rfl⟩);refine dB (thn (h0 pins _ σ _ x u1 _ I1 r1 (q _ (I.hok.gone hD))) λ_ s1 hq_=>?_);obtain⟨σ1,H1,I2,q1⟩:=hq_;refine dB (thn (h1 pins s1 σ1 H1 (.ref _) _ _ I2 rfl q1) λ_ s2 hq_=>?_);obtain⟨σ2,H2,I3,q2⟩:=hq_;exact assignInOrder_nil ⟨σ2,H2,I3,q2⟩
end
section
variable{P:Program}{w:World}{A:Around}{E:Value->Shared->Prop}{s:Shared}
theorem qKb{l:Addr}{items:Array Value}{ns:List Int}{Q:Value->Shared->Prop}(hh:A.handled=none)(hl:IsTup s.heap l items)(hi:IntsAre items.toList ns)(hb:items.size+1<scanBound)(h:∀(h':Heap) (tk:Nat),SetI w h' s.heap.objs.size (qCu ns)->(∀b o,b<s.heap.objs.size->s.heap.get? b=some o->h'.get? b=some o)->Q (.ref s.heap.objs.size) { s with heap:=h',toks:=tk }):wpAny (model P w) A (call (.type "set") [.ref l]) Q E s:=by
 obtain⟨c,tl,hmro⟩:=dI.mro;have hmade:=dI.made;have hsub:=dI.sub;refine wpAny_call (codeAny_of_tree ?_);show wpAny _ _ (callAny (.type "set") _) _ _ _;refine aF ⟨Code.quiet_builtin _ (by decide +kernel),dG F.entry_type_call ?_⟩;rw [Around.under_plain (weight_type_call_type "set" [.ref l] []) rfl];have h1:=dI.notType;have h2:=dI.canCreate;have hct:=F.typeCall_set_1 (.ref l)
 repeat (any_goals (first | assumption | wp_step))
 refine codeAny_mono (qKc (.ref l) (E:=E) (Q₁ :=λobj s₁ =>obj = .ref s.heap.objs.size/\s₁ = { s with heap:=s.heap.push (newS w) }) ⟨rfl,rfl⟩) λr s₁ hr=>?_;cases r with
 | error e=>exact hr
 | ok fl =>
  cases fl with
  | ret obj =>
   obtain⟨rfl,rfl⟩:=hr;have hS:(s.heap.push (newS w)).get? s.heap.objs.size=some (newS w):=aR _ rfl;have hT:Shared.TypeIs { s with heap:=s.heap.push (newS w) } (.ref s.heap.objs.size) "set" :=⟨_,hS,rfl⟩;have hli:=dI.init.lookup;have hbi:=dI.init.bind (.ref s.heap.objs.size)
   repeat (any_goals (first | assumption | wp_step))
   refine codeAny_mono (codeAny_call_builtin (R:=wants (λr s₂ =>r = .none /\ ∃h' tk,s₂ = { s with heap:=h',toks:=tk }/\SetI w h' s.heap.objs.size (qCu ns)/\(∀b o,b<s.heap.objs.size->s.heap.get? b=some o->h'.get? b=some o)) E) dI.init.plain F.entry_set_init (check_set_init_1 hT ?_)) λr₂ s₂ hr₂=>?_
   ·obtain⟨ol,hol,hcl,nl,hdl⟩:=hl;obtain⟨ocls,odict,odata,oslots⟩:=ol;simp only at hcl hdl;subst hcl;subst hdl;have hol':(s.heap.push (newS w)).get? l=some { cls :=.type "tuple",dict:=odict,data :=.seq items nl,slots:=oslots }:=aE _ hol;have hsls:=F.sub_tuple_set;have hslf:=F.sub_tuple_frozenset;have hne:(Value.type "tuple" == Value.type "dict")=false:=by decide
    have hl1:(s.heap.push (newS w)).IsTuple l items:=⟨_,hol',rfl,nl,rfl⟩;unfold Builtin.«set.__init__» noKeywords Builtin.Frozenset.updateFrom;generalize hPI:pyIter=PI
    wp_walk
    subst hPI;refine wpAny_pyIter_tuple hl1 (aA (wpAny_runValue ?_));have hlS:l<s.heap.objs.size:=aK hol;have hh3:A.in1.in1.in1.handled=none:=hh;have hneI:l≠(s.heap.push (newS w)).objs.size:=by rw [cQ];exact aY (Nat.lt_succ_of_lt hlS)
    have hSf:s.heap.objs.size ∉ [(s.heap.push (newS w)).objs.size,l]:=by
     rw [cQ];simp only [aJ,aO,bX,or_false,not_or];exact⟨aY (Nat.lt_succ_self _),eC hlS⟩
    have hlen:ns.length=items.size:=by rw [<-IntsAre.length hi,bG]
    refine qN5 ((Walks.tuple hh3 _ l hneI items).toS) s.heap.objs.size hSf ns hlen (λi v hv=>IntsAre.int_at hi i v (by rw [bK];exact hv)) hb (items.size - 0) 0 _ (by lia) (aW _) ⟨⟨_,aR _ rfl,rfl,rfl⟩,(hl1.push _)⟩ (qR9 (aE _ hS)) ?_;intro s' hm hS';obtain⟨h',g',d',tk',os'⟩:=s';have eg:g'=s.gens:=hm.gens;have ed:d'=s.drawn:=hm.drawn;have eo:os'=s.os:=hm.os;subst eg;subst ed;subst eo;show wpAny _ _ _ _ _ _;refine aF ?_;show wpAny _ _ (ret Value.none) _ _ _;refine aF ⟨rfl,h',tk',rfl,hS',λb o hb e=>?_⟩;refine hm.heap b o (λz=>?_) (aE _ (aE _ e));rcases aJ.mp z with z | z
    ·exact aY hb z
    ·have z2:b=(s.heap.push (newS w)).objs.size:=by simpa using z
     rw [cQ] at z2;exact aY (Nat.lt_succ_of_lt hb) z2
   ·cases r₂ with
    | error e=>exact hr₂
    | ok fl₂ =>cases fl₂ with
     | ret r=>obtain⟨rfl,h',tk,rfl,hS',hk'⟩:=hr₂;(repeat (any_goals (first | assumption | wp_step)));exact h _ _ hS' hk'
     | _=>exact hr₂.elim
  | _=>exact hr.elim
end
section
variable{X:Cx}
def qQo(w:World)(K:PySem.W.Frag):List V->Hp->VK->Prop:=λxs H Q => ∃(a:Addr) (ns:List Int),xs = [.ref a]/\SqT K H a (ns.map V.int)/\ns.length+1<4096 /\ ∀l,H l=none->Q (.ref l) (upd H l (setO w (qCu ns)))
theorem qNj(hh:X.A.handled=none):CallR X (.type "set") (qQo X.w X.K):=by
 intro pins s σ H xs us Q I r h;obtain⟨a,ns,rfl,hq,hz,q⟩:=h;obtain⟨u,rfl,ru⟩:=vals1 r;cases ru;obtain⟨its,rv,pl,_⟩:=I.tuple hq;have hl:=rv.length;rw [aB] at hl;refine qKb hh pl (qKv rv) (by rw [aG];show its.length+1<4096;lia) λh' tk S' k=>?_;exact⟨.ref s.heap.objs.size,_,I.laid (t':=tk) (λb u e=>k b u (aK e) e) (aC _) (qQh S'),rfl,q _ (I.hok.fresh (aC _))⟩
def rLenS(w:World):List V->Hp->VK->Prop:=λxs H Q => ∃(a:Addr) (ns:List Int),xs = [.ref a]/\H a=some (setO w ns)/\Q (.int ns.length) H
theorem qNl:CallR X (.builtin "len") (rLenS X.w):=by
 intro pins s σ H xs us Q I r h;obtain⟨a,ns,rfl,ha,q⟩:=h;obtain⟨u,rfl,ru⟩:=vals1 r;cases ru;obtain⟨S,_⟩:=id (I.hok a _ ha);obtain⟨o,es,ep,t,ho,hx,hd,_,hp,_,hz,hg⟩:=S;have e:es.size=ns.length:=by rw [<-hp.length_eq,aB,bG]
 have hs:es.size<4096:=hz;refine call_len_set ho hx hd hg.fits (by lia) ⟨.int ns.length,H,I.tok _,⟨_,by rw [e]⟩,q⟩
def rIsSq(K:PySem.W.Frag):List V->Hp->VK->Prop:=λxs H Q => ∃(a:Addr) (ys:List V) (n:String),xs = [.ref a,.ty n]/\((SqL K H a ys/\n = "list")\/(SqT K H a ys/\n = "tuple"))/\Q (.bl true) H
theorem qCs:CallR X (.builtin "isinstance") (rIsSq X.K):=by
 intro pins s σ H xs us Q I r h;obtain⟨a,ys,n,rfl,hs,q⟩:=h;obtain⟨u,u2,rfl,ru,ru2⟩:=vals2 r;cases (show u2=Value.type n from ru2);cases ru;rcases hs with ⟨hs,rfl⟩ | ⟨hs,rfl⟩
 ·obtain⟨its,rv,pl,_⟩:=I.list hs;obtain⟨o,h1,h2,_⟩:=pl.isList;exact bP (t :=.type "list") PySem.W.kitx_list I.kIn ⟨o,h1,h2⟩ (qPa _) (λz=>nomatch z) λtk=>⟨.bl true,H,I.tok _,rfl,q⟩
 ·obtain⟨its,rv,pl,_⟩:=I.tuple hs;obtain⟨o,h1,h2,_⟩:=id pl;exact bP (t :=.type "tuple") PySem.W.kitx_tuple I.kIn ⟨o,h1,h2⟩ (show PySem.W.kitOne X.K (.type "tuple") (.type "tuple")=some true by rfl) (λz=>nomatch z) λtk=>⟨.bl true,H,I.tok _,rfl,q⟩
theorem qRb(K:PySem.W.Frag):PySem.W.kitOne K (.type "str") (.type "str")=some true:=by rfl
end
theorem Inv.turnMany{X:Cx}{pins:List (Addr×Obj)}{σ : St}{H:Hp}{s:Shared}{h':Heap}{t':Nat}{ch:List Addr}(I:Inv X pins σ H s)(k:∀b u,b∉ch->s.heap.get? b=some u->h'.get? b=some u)(hf:∀b∈ch,FpOk X pins H b):Inv X pins σ H { s with heap:=h',toks:=t' }:=by
 have nch:∀b u,H b=some u->b∉ch:=λb u e hb=>by rw [(hf b hb).1] at e;cases e
 refine I.step (g':=s.gens) (d':=s.drawn) (ch:=ch) (λb hb=>?_) (λb u _ _ hc e _=>k b u hc e) (λb u _ _ hc e _=>⟨u.slots,k b u hc e⟩) (λ_ _ _ _ n=>n)
  (λb u hc e=>⟨u,k b u hc e⟩) (λ_ _ e=>e) (λ_ _ _ e=>e) (λb ps e=>⟨#[],by rw [e];simp⟩) (λm hm=>?_) (λb u e=>?_) I.bare
 ·obtain⟨_,a1,_,a3,a4,a5⟩:=hf b hb;exact⟨a3,a1,a4,a5⟩
 ·obtain⟨ob,es,ep,ho,r⟩:=hm;exact⟨ob,es,ep,k _ ob (λhb=>(hf _ hb).2.1 rfl) ho,r⟩
 ·refine (I.hok b u e).stay (λc v hc q=>k c v ?_ q) (λ_ q=>q) λ_ _ q=>q;rcases hc with z | z
  ·rw [z];exact nch b u e
  ·exact nch c _ z
def SqIt(tp:Bool)(h:Heap)(it l:Addr)(k:Nat):Prop:=match tp with | true=>h.IsTupleIter it l k | false=>h.IsListIter it l k
def SqOb(tp:Bool)(h:Heap)(l:Addr)(xs:Array Value):Prop:=match tp with | true=>h.IsTuple l xs | false=>h.IsList l xs
def itO(tp:Bool)(l:Addr):Obj :={ cls :=.type (match tp with | true => "tuple_iterator" | false => "list_iterator"),data :=.fields #[.ref l,.int 0 0] }
theorem SqIt.at{tp:Bool}{h h':Heap}{it l:Addr}{k:Nat}(y:SqIt tp h it l k)(e:∀o,h.get? it=some o->h'.get? it=some o):SqIt tp h' it l k:=by
 cases tp <;> (obtain⟨o,ho,r⟩:=y;exact⟨o,e o ho,r⟩)
theorem SqOb.at{tp:Bool}{h h':Heap}{l:Addr}{xs:Array Value}(y:SqOb tp h l xs)(e:∀o,h.get? l=some o->h'.get? l=some o):SqOb tp h' l xs:=by
 cases tp <;> (obtain⟨o,ho,r⟩:=y;exact⟨o,e o ho,r⟩)
theorem SqIt.ob{tp:Bool}{h:Heap}{it l:Addr}{k:Nat}(y:SqIt tp h it l k):∃o,h.get? it=some o/\o.data = .fields #[.ref l,.int k 0]:=by
 cases tp <;> (obtain⟨o,ho,_,r⟩:=y;exact⟨o,ho,r⟩)
theorem SqOb.ob{tp:Bool}{h:Heap}{l:Addr}{xs:Array Value}(y:SqOb tp h l xs):∃o,h.get? l=some o:=by
 cases tp <;> (obtain⟨o,ho,_⟩:=y;exact⟨o,ho⟩)
theorem SqIt.new(tp:Bool)(h:Heap)(l:Addr):SqIt tp (h.push (itO tp l)) h.objs.size l 0:=by
 cases tp <;> exact⟨_,aR _ rfl,rfl,rfl⟩
section
variable{prog:Program}{w:World}{A:Around}{E:Value->Shared->Prop}{s:Shared}
theorem qMz{tp:Bool}{l:Addr}{xs:Array Value}{Q:Value->Shared->Prop}(y:SqOb tp s.heap l xs)(q:Q (.ref s.heap.objs.size) { s with heap:=s.heap.push (itO tp l) }):wpAny (model prog w) A (pyIter (.ref l)) Q E s:=by
 cases tp
 ·exact dO y q
 ·exact wpAny_pyIter_tuple y q
theorem qMm{tp:Bool}{it l:Addr}{k:Nat}{xs:Array Value}{x:Value}{Q:Value->Shared->Prop}(y:SqIt tp s.heap it l k)(z:SqOb tp s.heap l xs)(hx:xs[k]? = some x)(q:∀h',SqIt tp h' it l (k+1)->Heap.SameBut it s.heap h'->Q x { s with heap:=h' }):wpAny (model prog w) A (Builtin.SmallTypes.nextOf (.ref it)) Q E s:=by
 cases tp
 ·exact wpAny_nextOf_list_item y z hx q
 ·have y:s.heap.IsTupleIter it l k:=y;obtain⟨oi,hoi,hci,hdi⟩:=id y;obtain⟨ot,hot,_,nt,hdt⟩:=(show s.heap.IsTuple l xs from z);unfold Builtin.SmallTypes.nextOf;refine aA (cC (name:=Str.ofString "__next__") y.typeIs cK (cL cK y.typeIs F.entry_tuple_iterator_next ?_ (F.args_tuple_iterator_next_1 _)));refine aA (m:=field (.ref it) 0) (cB hoi hdi (x :=.ref l) rfl ?_);refine (if_neg (show ¬((Value.ref l == Value.none)=true) from aH)).symm ▸ ?_;refine aA (m:=field (.ref it) 1) (cB hoi hdi (x :=.int k 0) rfl (aA (m:=seqItems? (.ref l)) (cP hot hdt ?_)))
  simp only [Int.toNat_natCast,hx];refine aA (wpAny_setField hoi hdi (by simp) (aF ⟨x,rfl,aF (q _ ?_ (eA ..))⟩));exact⟨_,Heap.get?_update_self _ hoi (Obj.isFreed_of_fields (Obj.data_mapFields hdi _)),(Obj.cls_mapFields ..).trans hci,by rw [Obj.data_mapFields hdi];simp [rawInt]⟩
theorem qSi{tp:Bool}{it l:Addr}{k:Nat}{xs:Array Value}{Q:Value->Shared->Prop}(hh:A.handled=none)(y:SqIt tp s.heap it l k)(z:SqOb tp s.heap l xs)(hx:xs[k]? = none)
  (q:∀h' e,Heap.ExtBut it s.heap h'->(∃o,h'.get? e=some o/\o.cls = .type "StopIteration")->E (.ref e) { s with heap:=h' }):wpAny (model prog w) A (Builtin.SmallTypes.nextOf (.ref it)) Q E s:=by
 cases tp
 ·exact wpAny_nextOf_list_end hh y z hx q
 ·have y:s.heap.IsTupleIter it l k:=y;obtain⟨oi,hoi,hci,hdi⟩:=id y;obtain⟨ot,hot,_,nt,hdt⟩:=(show s.heap.IsTuple l xs from z);unfold Builtin.SmallTypes.nextOf;refine aA (cC (name:=Str.ofString "__next__") y.typeIs cK (cL cK y.typeIs F.entry_tuple_iterator_next ?_ (F.args_tuple_iterator_next_1 _)));refine aA (m:=field (.ref it) 0) (cB hoi hdi (x :=.ref l) rfl ?_);refine (if_neg (show ¬((Value.ref l == Value.none)=true) from aH)).symm ▸ ?_;refine aA (m:=field (.ref it) 1) (cB hoi hdi (x :=.int k 0) rfl (aA (m:=seqItems? (.ref l)) (cP hot hdt ?_)))
  simp only [Int.toNat_natCast,hx];refine aA (eB (aA (wpAny_setField hoi hdi (by simp) (aA (m:=newExc (.type "StopIteration") []) ?_))));simp only [newExc,newTuple];refine aA (cD (aA (m:=firstArgMember _ _) (wpAny_of_eq (a:=Value.none) (by first | rfl | (simp only [firstArgMember];rfl)) (cD ?_ (by size_fits)))) (by size_fits));simp only [raiseNew];refine aA (wpAny_handled ?_)
  first | rw [show A.in1.handled=none from hh] | rw [hh]
  exact aA (aF (wpAny_throw (q _ _ (((eA ..).extBut.push _).push _) ⟨_,aR _ rfl,rfl⟩)))
theorem qL2{tp tq:Bool}{zz TI TO i1 i2 l1 l2:Addr}{j k:Nat}{xs ys:Array Value}{x y p q:Value}{Q:Value->Shared->Prop}(D:ZipApart zz TI TO i1 i2 l1 l2)(hz:IsZip s.heap zz TI TO .none)(hI:IsPair s.heap TI (.ref i1) (.ref i2))(hO:IsPair s.heap TO p q)(y1:SqIt tp s.heap i1 l1 j)(y2:SqIt tq s.heap i2 l2 k)(o1:SqOb tp s.heap l1 xs)(o2:SqOb tq s.heap l2 ys)(hx:xs[j]? = some x)(hy:ys[k]? = some y)(hQ:∀h',IsZip h' zz TI TO (rawInt s.heap.objs.size)->IsPair h' TO x y->SqIt tp h' i1 l1 (j+1)->SqIt tq h' i2 l2 (k+1)->IsPair h' s.heap.objs.size x y->h'.objs.size=s.heap.objs.size+1 ->
   (∀c o,c≠zz->c≠TO->c≠i1->c≠i2->s.heap.get? c=some o->h'.get? c=some o)->Q (.ref s.heap.objs.size) { s with heap:=h' }):wpAny (model prog w) A (Builtin.«zip.__next__» ⟨[.ref zz],[]⟩) (λfin s' => ∃v,fin = .done (.ret v)/\Q v s') E s:=by
 refine aA (m:=field (.ref zz) 2) (cB hz rfl (x :=.bool false) rfl ?_);refine aA (m:=field (.ref zz) 3) (cB hz rfl (x :=.ref TI) rfl (aA (cP hI rfl (aA (m:=Builtin.SmallTypes.ownedTupleIsFree (.ref zz)) ?_))));unfold Builtin.SmallTypes.ownedTupleIsFree;refine aA (cB hz rfl (x :=.none) rfl (aF ?_));simp only [if_true];refine aA (eB (aA (cB hz rfl (x :=.ref TO) rfl (aA (dC hz (by simp) λha za ka=>aA ?_)))));replace za:IsZip ha zz TI TO .ellipsis:=za;simp only [List.zipIdx_cons,List.zipIdx_nil,List.forIn_cons,List.forIn_nil];refine aA (aA (wpAny_onRaise (aA (m:=Builtin.SmallTypes.nextOf (.ref i1)) (qMm (y1.at λo e=>ka.extBut _ o D.i1z e) (o1.at λo e=>ka.extBut _ o D.l1z e) hx λhb yb kb=>aF ?_))))
 have Ob:IsPair hb TO p q:=kb.extBut _ _ D.TOi1 (ka.extBut _ _ D.TOz hO);refine aA (cP Ob rfl (aA (wpAny_updateSeq_pair Ob λhc Oc kc=>aA (wpAny_letGo (aF ?_)))));replace Oc:IsPair hc TO x q:=Oc;refine aA (aA (wpAny_onRaise (aA (m:=Builtin.SmallTypes.nextOf (.ref i2)) (qMm (y2.at λo e=>kc.extBut _ o D.TOi2.symm (kb.extBut _ o D.i12.symm (ka.extBut _ o D.i2z e))) (o2.at λo e=>kc.extBut _ o D.l2TO (kb.extBut _ o D.l2i1 (ka.extBut _ o D.l2z e))) hy λhd yd kd=>aF ?_))));have Od:IsPair hd TO x q:=kd.extBut _ _ D.TOi2 Oc;refine aA (cP Od rfl (aA (wpAny_updateSeq_pair Od λhe Oe ke=>aA (wpAny_letGo (aF (aF ?_))))))
 replace Oe:IsPair he TO x y:=Oe;refine aA (cP Oe rfl (aA (wpAny_newTuple ?_)));have sz:he.objs.size=s.heap.objs.size:=by rw [ke.1,kd.1,kc.1,kb.1,ka.1]
 have ze:IsZip he zz TI TO .ellipsis:=ke.extBut _ _ D.TOz.symm (kd.extBut _ _ D.i2z.symm (kc.extBut _ _ D.TOz.symm (kb.extBut _ _ D.i1z.symm za)));have kk:∀c o,c≠zz->c≠TO->c≠i1->c≠i2->s.heap.get? c=some o->he.get? c=some o:=λc o c1 c2 c3 c4 e=>ke.extBut _ _ c2 (kd.extBut _ _ c4 (kc.extBut _ _ c2 (kb.extBut _ _ c3 (ka.extBut _ _ c1 e))));have ye1:SqIt tp he i1 l1 (j+1):=yb.at λo e=>ke.extBut _ o D.TOi1.symm (kd.extBut _ o D.i12 (kc.extBut _ o D.TOi1.symm e));have ye2:SqIt tq he i2 l2 (k+1):=yd.at λo e=>ke.extBut _ o D.TOi2.symm e;have zlt:zz<he.objs.size:=aK ze;refine aA (m:=Builtin.SmallTypes.ownedTupleHandOut (.ref zz) (.ref he.objs.size)) ?_;unfold Builtin.SmallTypes.ownedTupleHandOut
 have zf:IsZip (he.push { cls :=.type "tuple",data :=.seq #[x,y] }) zz TI TO .ellipsis:=aE _ ze;refine aA (dC zf (by simp) λhg zg kg=>?_);replace zg:IsZip hg zz TI TO (rawInt he.objs.size):=zg;refine dC zg (by simp) λhi zi ki=>?_;replace zi:IsZip hi zz TI TO (rawInt he.objs.size):=zi;have up:∀c o,c≠zz->he.get? c=some o->hi.get? c=some o:=λc o c1 e=>ki.extBut _ _ c1 (kg.extBut _ _ c1 (aE _ e));have Ti:IsPair hi he.objs.size x y:=ki.extBut _ _ (eC zlt) (kg.extBut _ _ (eC zlt) (aR _ rfl));have si:hi.objs.size=he.objs.size+1:=by rw [ki.1,kg.1,cQ]
 rw [sz] at zi Ti si;refine aF ⟨_,rfl,(show Q (.ref he.objs.size) _ from ?_)⟩;rw [sz];exact hQ hi zi (up _ _ D.TOz Oe) (ye1.at λo e=>up _ o D.i1z e) (ye2.at λo e=>up _ o D.i2z e) Ti si λc o c1 c2 c3 c4 e=>up c o c1 (kk c o c1 c2 c3 c4 e)
theorem qNs{tp tq:Bool}{zz TI TO i1 i2 l1 l2:Addr}{j k:Nat}{xs ys:Array Value}{p q:Value}{Q:Fin->Shared->Prop}(hh:A.handled=none)(D:ZipApart zz TI TO i1 i2 l1 l2)(hz:IsZip s.heap zz TI TO .none)(hI:IsPair s.heap TI (.ref i1) (.ref i2))(hO:IsPair s.heap TO p q)(y1:SqIt tp s.heap i1 l1 j)(y2:SqIt tq s.heap i2 l2 k)(o1:SqOb tp s.heap l1 xs)(o2:SqOb tq s.heap l2 ys)(hend:xs[j]? = none)
  (hE:∀h' e,(∀c o,c≠zz->c≠TO->c≠i1->c≠i2->s.heap.get? c=some o->h'.get? c=some o)->(∃o,h'.get? e=some o/\o.cls = .type "StopIteration")->E (.ref e) { s with heap:=h' }):wpAny (model prog w) A (Builtin.«zip.__next__» ⟨[.ref zz],[]⟩) Q E s:=by
 refine aA (m:=field (.ref zz) 2) (cB hz rfl (x :=.bool false) rfl ?_);refine aA (m:=field (.ref zz) 3) (cB hz rfl (x :=.ref TI) rfl (aA (cP hI rfl (aA (m:=Builtin.SmallTypes.ownedTupleIsFree (.ref zz)) ?_))));unfold Builtin.SmallTypes.ownedTupleIsFree;refine aA (cB hz rfl (x :=.none) rfl (aF ?_));simp only [if_true];refine aA (eB (aA (cB hz rfl (x :=.ref TO) rfl (aA (dC hz (by simp) λha za ka=>aA ?_)))));replace za:IsZip ha zz TI TO .ellipsis:=za;simp only [List.zipIdx_cons,List.zipIdx_nil,List.forIn_cons,List.forIn_nil];refine aA (aA (wpAny_onRaise (aA (m:=Builtin.SmallTypes.nextOf (.ref i1)) (qSi hh (y1.at λo e=>ka.extBut _ o D.i1z e) (o1.at λo e=>ka.extBut _ o D.l1z e) hend λhb e kb he=>?_))))
 obtain⟨oe,hoe,hce⟩:=he;have zb:IsZip hb zz TI TO .ellipsis:=kb _ _ D.i1z.symm za;have ne:e≠zz:=λx=>by subst x;rw [zb] at hoe;cases hoe;simp at hce
 exact dC zb (by simp) λhc _ kc=>hE hc e (λc o c1 _ c3 _ x=>kc.extBut _ _ c1 (kb _ _ c3 (ka.extBut _ _ c1 x))) ⟨oe,kc.extBut _ _ ne hoe,hce⟩
theorem qL1{tp tq:Bool}{zz TI TO i1 i2 l1 l2:Addr}{j k:Nat}{xs ys:Array Value}{x y p q:Value}{Q:Option Value->Shared->Prop}(D:ZipApart zz TI TO i1 i2 l1 l2)(hz:IsZip s.heap zz TI TO .none)(hI:IsPair s.heap TI (.ref i1) (.ref i2))(hO:IsPair s.heap TO p q)(y1:SqIt tp s.heap i1 l1 j)(y2:SqIt tq s.heap i2 l2 k)(o1:SqOb tp s.heap l1 xs)(o2:SqOb tq s.heap l2 ys)(hx:xs[j]? = some x)(hy:ys[k]? = some y)(hQ:∀h',IsZip h' zz TI TO (rawInt s.heap.objs.size)->IsPair h' TO x y->SqIt tp h' i1 l1 (j+1)->SqIt tq h' i2 l2 (k+1)->IsPair h' s.heap.objs.size x y->h'.objs.size=s.heap.objs.size+1 ->
   (∀c o,c≠zz->c≠TO->c≠i1->c≠i2->s.heap.get? c=some o->h'.get? c=some o)->Q (some (.ref s.heap.objs.size)) { s with heap:=h' }):wpAny (model prog w) A (pyNext (.ref zz)) Q E s:=by
 have ty:s.TypeIs (.ref zz) "zip" :=⟨_,hz,rfl⟩;unfold pyNext;refine aA (wpAny_attempt (cC (name:=Str.ofString "__next__") ty F.slot_zip_next (cL F.slot_zip_next ty F.entry_zip_next ?_ (F.args_zip_next_1 _))));exact qL2 D hz hI hO y1 y2 o1 o2 hx hy λh' a1 a2 a3 a4 a5 a6 a7=>aF (hQ h' a1 a2 a3 a4 a5 a6 a7)
theorem qL0{tp tq:Bool}{zz TI TO i1 i2 l1 l2:Addr}{j k:Nat}{xs ys:Array Value}{p q:Value}{Q:Option Value->Shared->Prop}(hh:A.handled=none)(D:ZipApart zz TI TO i1 i2 l1 l2)(hz:IsZip s.heap zz TI TO .none)(hI:IsPair s.heap TI (.ref i1) (.ref i2))(hO:IsPair s.heap TO p q)(y1:SqIt tp s.heap i1 l1 j)(y2:SqIt tq s.heap i2 l2 k)(o1:SqOb tp s.heap l1 xs)(o2:SqOb tq s.heap l2 ys)(hend:xs[j]? = none)(hQ:∀h',(∀c o,c≠zz->c≠TO->c≠i1->c≠i2->s.heap.get? c=some o->h'.get? c=some o)->Q none { s with heap:=h' }):wpAny (model prog w) A (pyNext (.ref zz)) Q E s:=by
 have ty:s.TypeIs (.ref zz) "zip" :=⟨_,hz,rfl⟩;unfold pyNext;refine aA (wpAny_attempt (cC (name:=Str.ofString "__next__") ty F.slot_zip_next (cL F.slot_zip_next ty F.entry_zip_next ?_ (F.args_zip_next_1 _))));refine qNs hh D hz hI hO y1 y2 o1 o2 hend λh' e kk hq_=>?_;obtain⟨o,ho,hc⟩:=hq_;exact aA (wpAny_isInstance (T := "StopIteration") (b:=true) ⟨o,ho,hc⟩ isSubtype_stop (aF (hQ _ kk)))
end
abbrev zg1(tp:Bool)(h:Heap)(l1:Addr):Heap:=h.push (itO tp l1)
abbrev zg2(tp tq:Bool)(h:Heap)(l1 l2:Addr):Heap:=(zg1 tp h l1).push (itO tq l2)
abbrev zg3(tp tq:Bool)(h:Heap)(l1 l2:Addr):Heap:=(zg2 tp tq h l1 l2).push { cls :=.type "tuple",data :=.seq #[.ref h.objs.size,.ref (zg1 tp h l1).objs.size] }
abbrev zg4(tp tq:Bool)(h:Heap)(l1 l2:Addr):Heap:=(zg3 tp tq h l1 l2).push { cls :=.type "tuple",data :=.seq #[.none,.none] }
abbrev zg5(tp tq:Bool)(h:Heap)(l1 l2:Addr):Heap:=(zg4 tp tq h l1 l2).push { cls :=.type "zip",data :=.fields #[.none,.bool false,.bool false,.ref (zg2 tp tq h l1 l2).objs.size,.ref (zg3 tp tq h l1 l2).objs.size] }
theorem qNr(tp tq:Bool)(l1 l2:Addr)(xs ys:Array Value):Meets (Builtin.«zip.__new__» ⟨[.type "zip",.ref l1,.ref l2],[]⟩) (λ_ R s=>SqOb tp s.heap l1 xs/\SqOb tq s.heap l2 ys/\R (.ok (.ret (.ref (zg4 tp tq s.heap l1 l2).objs.size))) { s with heap:=zg5 tp tq s.heap l1 l2 }) :=
 .of_wp λprog w A R s h=>by
  obtain⟨hp,g,d,tk,os⟩:=s;obtain⟨a1,a2,h⟩:=h;have hsub:=sub_zip;have b1:SqOb tp (Shared.heap ⟨hp,g,d,tk,os⟩) l1 xs:=a1;have b2:SqOb tq (Shared.heap ⟨hp.push (itO tp l1),g,d,tk,os⟩) l2 ys:=a2.at λo e=>aE _ e
  wp_walk using qMz b1,qMz b2
  exact⟨_,rfl,h⟩
def SqV(tp:Bool)(K:PySem.W.Frag)(H:Hp)(a:Addr)(xs:List V):Prop:=match tp with | true=>SqT K H a xs | false=>SqL K H a xs
theorem Inv.sqv{X:Cx}{pins:List (Addr×Obj)}{σ : St}{H:Hp}{s:Shared}{tp:Bool}{a:Addr}{xs:List V}(I:Inv X pins σ H s)(h:SqV tp X.K H a xs):∃its:List Value,Vals xs its/\SqOb tp s.heap a its.toArray:=by
 cases tp
 ·obtain⟨its,r,p,_⟩:=I.list h;exact⟨its,r,p.isList⟩
 ·obtain⟨its,r,p,_⟩:=I.tuple h;exact⟨its,r,p⟩
theorem Inv.sqv_inj{X:Cx}{pins:List (Addr×Obj)}{σ : St}{H:Hp}{s:Shared}{tp:Bool}{a:Addr}{xs ys:List V}(I:Inv X pins σ H s)(h:SqV tp X.K H a xs)(h':SqV tp X.K H a ys):xs=ys:=by
 cases tp
 ·exact I.list_inj h h'
 ·exact I.tuple_inj h h'
section
variable{prog:Program}{w:World}{A:Around}{E:Value->Shared->Prop}{s:Shared}
theorem qNh{tp tq:Bool}{l1 l2:Addr}{xs ys:Array Value}{Q:Value->Shared->Prop}(a1:SqOb tp s.heap l1 xs)(a2:SqOb tq s.heap l2 ys)(q:∀h',IsZip h' (s.heap.objs.size+4) (s.heap.objs.size+2) (s.heap.objs.size+3) .none->IsPair h' (s.heap.objs.size+2) (.ref s.heap.objs.size) (.ref (s.heap.objs.size+1))->IsPair h' (s.heap.objs.size+3) .none .none ->
   SqIt tp h' s.heap.objs.size l1 0->SqIt tq h' (s.heap.objs.size+1) l2 0->(∀c o,s.heap.get? c=some o->h'.get? c=some o)->Q (.ref (s.heap.objs.size+4)) { s with heap:=h' }):wpAny (model prog w) A (call (.type "zip") [.ref l1,.ref l2]) Q E s:=by
 refine callType_new F.called_zip (by decide) (F.typeCall_zip_2 _ _) (F.newCall_zip_2 _ _) (λobj=>F.args_object_init_3 obj _ _) F.entry_zip_new (qNr tp tq l1 l2 xs ys) ⟨a1,a2,?_⟩;have up:∀(h:Heap) (o:Obj) (c:Addr) (u:Obj),h.get? c=some u->(h.push o).get? c=some u:=λh o c u e=>aE _ e;have s1:(zg1 tp s.heap l1).objs.size=s.heap.objs.size+1:=cQ ..;have s2:(zg2 tp tq s.heap l1 l2).objs.size=s.heap.objs.size+2:=by rw [cQ,s1]
 have s3:(zg3 tp tq s.heap l1 l2).objs.size=s.heap.objs.size+3:=by rw [cQ,s2]
 have s4:(zg4 tp tq s.heap l1 l2).objs.size=s.heap.objs.size+4:=by rw [cQ,s3]
 have g5:(zg5 tp tq s.heap l1 l2).get? (zg4 tp tq s.heap l1 l2).objs.size=some _:=aR _ rfl;have g4:(zg5 tp tq s.heap l1 l2).get? (zg3 tp tq s.heap l1 l2).objs.size=some _:=up _ _ _ _ (aR _ rfl);have g3:(zg5 tp tq s.heap l1 l2).get? (zg2 tp tq s.heap l1 l2).objs.size=some _:=up _ _ _ _ (up _ _ _ _ (aR _ rfl));have g2:SqIt tq (zg5 tp tq s.heap l1 l2) (zg1 tp s.heap l1).objs.size l2 0:=(SqIt.new tq (zg1 tp s.heap l1) l2).at λo e=>up _ _ _ _ (up _ _ _ _ (up _ _ _ _ e));have g1:SqIt tp (zg5 tp tq s.heap l1 l2) s.heap.objs.size l1 0:=(SqIt.new tp s.heap l1).at λo e=>up _ _ _ _ (up _ _ _ _ (up _ _ _ _ (up _ _ _ _ e)));show _/\_;rw [s2,s3,s4] at g5;rw [s1,s2] at g3
 rw [s3] at g4;rw [s1] at g2;rw [s4];exact⟨⟨_,g5,rfl⟩,q _ g5 g3 g4 g1 g2 λc o x=>up _ _ _ _ (up _ _ _ _ (up _ _ _ _ (up _ _ _ _ (up _ _ _ _ x))))⟩
end
def Itzg(K:PySem.W.Frag)(tp tq:Bool)(a b:Addr):It :=
 ⟨λi H => ∃xs ys x y,SqV tp K H a xs/\SqV tq K H b ys/\xs[i]? = some x/\ys[i]? = some y,
   λi H v H' => ∃p x y,v = .ref p/\H p=none/\(∀us,SqV tp K H a us->us[i]? = some x)/\(∀us,SqV tq K H b us->us[i]? = some y)/\H'=upd H p (.tup [x,y]),
   λi H => ∃xs ys,SqV tp K H a xs/\SqV tq K H b ys/\xs.length<=i⟩
theorem qL8{P:Program}{w:World}{K:PySem.W.Frag}{elts:List Expr}{k:Nat}{pos:Pos}{tp tq:Bool}{z TI TO i1 i2 l1 l2:Addr}(D:ZipApart z TI TO i1 i2 l1 l2):Turn P w K (.Tuple elts k pos) (Itzg K tp tq l1 l2) [z,TI,TO,i1,i2] z (λi h=>IsZip h z TI TO .none/\IsPair h TI (.ref i1) (.ref i2)/\(∃a b,IsPair h TO a b)/\SqIt tp h i1 l1 i/\SqIt tq h i2 l2 i) where
 mem:=by simp
 obj:=λi h st b hb=>by
  obtain⟨hz,hTI,⟨a,c,hTO⟩,y1,y2⟩:=st;obtain⟨o1,e1,d1⟩:=y1.ob;obtain⟨o2,e2,d2⟩:=y2.ob;simp only [aJ,bX,or_false] at hb;rcases hb with x | x | x | x | x <;> subst x
  ·exact⟨_,hz,λv q=>by have q:Data.fields _=Data.cell v:=q;cases q⟩
  ·exact⟨_,hTI,λv q=>by have q:Data.seq _ _=Data.cell v:=q;cases q⟩
  ·exact⟨_,hTO,λv q=>by have q:Data.seq _ _=Data.cell v:=q;cases q⟩
  ·exact⟨o1,e1,λv q=>by rw [d1] at q;cases q⟩
  ·exact⟨o2,e2,λv q=>by rw [d2] at q;cases q⟩
 keep:=λi h h' st kk=>by
  obtain⟨hz,hTI,⟨a,c,hTO⟩,h1,h2⟩:=st;exact⟨kk z (by simp) _ hz,kk TI (by simp) _ hTI,⟨a,c,kk TO (by simp) _ hTO⟩,h1.at λo q=>kk i1 (by simp) o q,h2.at λo q=>kk i2 (by simp) o q⟩
 item:=by
  intro X hP hw hK hc i pins s σ H E I hf st hg;subst hP hw hK;obtain⟨xs,ys,x,y,hq1,hq2,hx,hy⟩:=hg;obtain⟨hz,hTI,⟨a,c,hTO⟩,h1,h2⟩:=st;obtain⟨its,rv,p⟩:=I.sqv hq1;obtain⟨its2,rv2,p2⟩:=I.sqv hq2;obtain⟨u,hu,ru⟩:=rv.get hx;obtain⟨u2,hu2,ru2⟩:=rv2.get hy;refine qL1 D hz hTI hTO h1 h2 p p2 (x:=u) (y:=u2) (by simpa using hu) (by simpa using hu2) λh' a1 a2 a3 a4 a5 a6 hk=>?_;have hzlt:z<s.heap.objs.size:=aK hz;refine⟨_,rfl,wpAny_letOwnedTupleGo_zip a1 λh3 hz3 hs3=>?_⟩;have hs3:Heap.SameBut z h' h3:=hs3;have I1:Inv X pins σ (upd H s.heap.objs.size (.tup [x,y])) { s with heap:=h3,toks:=s.toks }:=by
   refine I.turnLaid (ch :=[z,TI,TO,i1,i2]) (λb o hb q=>?_) (λb hb=>?_) hf (aC _) ?_
   ·simp only [aJ,bX,or_false,not_or] at hb;exact hs3.extBut b o hb.1 (hk b o hb.1 hb.2.2.1 hb.2.2.2.1 hb.2.2.2.2 q)
   ·simp only [aJ,bX,or_false] at hb;rcases hb with e | e | e | e | e <;> subst e
    ·exact⟨_,hz3⟩
    ·exact⟨_,hs3.extBut _ _ D.TIz (hk _ _ D.TIz D.TITO D.TIi1 D.TIi2 hTI)⟩
    ·exact⟨_,hs3.extBut _ _ D.TOz a2⟩
    ·obtain⟨o,q,_⟩:=a3.ob;exact⟨o,hs3.extBut _ _ D.i1z q⟩
    ·obtain⟨o,q,_⟩:=a4.ob;exact⟨o,hs3.extBut _ _ D.i2z q⟩
   ·exact⟨by show 2<=sizeLine;decide,[u,u2],.cons ru (.cons ru2 .nil),⟨_,hs3.extBut _ _ (eC hzlt) a5,rfl,_,rfl⟩⟩
  refine⟨.ref s.heap.objs.size,_,I1,rfl,⟨s.heap.objs.size,x,y,rfl,I.fresh,(λus hs=>by rw [I.sqv_inj hs hq1];exact hx),(λus hs=>by rw [I.sqv_inj hs hq2];exact hy),rfl⟩,⟨hz3,hs3.extBut _ _ D.TIz (hk _ _ D.TIz D.TITO D.TIi1 D.TIi2 hTI),⟨_,_,hs3.extBut _ _ D.TOz a2⟩,a3.at λo e=>hs3.extBut _ o D.i1z e,a4.at λo e=>hs3.extBut _ o D.i2z e⟩,λb hb=>?_⟩;have hlt:b<s.heap.objs.size:=by
   simp only [aJ,bX,or_false] at hb;rcases hb with e | e | e | e | e <;> subst e
   ·exact hzlt
   ·exact aK hTI
   ·exact aK hTO
   ·obtain⟨o,q,_⟩:=h1.ob;exact aK q
   ·obtain⟨o,q,_⟩:=h2.ob;exact aK q
  rw [qA5 (aY hlt)];exact (hf b hb).1
 done:=by
  intro X hP hw hK hc i pins s σ H E I hf st hg;subst hP hw hK;obtain⟨xs,ys,hq1,hq2,hend⟩:=hg;obtain⟨hz,hTI,⟨a,c,hTO⟩,h1,h2⟩:=st;obtain⟨its,rv,p⟩:=I.sqv hq1;obtain⟨its2,rv2,p2⟩:=I.sqv hq2;have hl1:=rv.length;have hl2:=rv2.length;refine qL0 (I.ok.hd hc) D hz hTI hTO h1 h2 p p2 (by simp;lia) λh' hk=>⟨rfl,I.turnMany (t':=s.toks) (ch :=[z,TI,TO,i1,i2]) (λb o hb q=>?_) hf⟩;simp only [aJ,bX,or_false,not_or] at hb;exact hk b o hb.1 hb.2.2.1 hb.2.2.2.1 hb.2.2.2.2 q
 self:=λ_ _ _ _ _ st h=>wpAny_pyIter_zip st.1 h
section
variable{X:Cx}{elts:List Expr}{k:Nat}{tpos:Pos}
def iZipg(K:PySem.W.Frag)(tp tq:Bool)(ta:TA):TI:=λσ H R=>ta σ H λvs H1 => ∃a b,vs = [.ref a,.ref b]/\(∃xs,SqV tp K H1 a xs)/\(∃ys,SqV tq K H1 b ys)/\R (Itzg K tp tq a b) H1
theorem qM4(tp tq:Bool){a b:Expr}{ta:TA}{p pos:Pos}(hg:Gl X "zip")(hm:X.mg "zip" = none)(ha:PA X [a,b] ta)(hs:starEach [a,b] X.env=(false,eval a X.env)::starEach [b] X.env:=by rfl)(hs2:∀pos,(backTo pos (starEach [b] X.env)).any (·.1)=false:=by intro _;rfl):PI X (.Tuple elts k tpos) (.Call (.Name "zip" p) [a,b] [] pos) (iZipg X.K tp tq ta):=by
 intro pins s σ H R I h;refine Call_ (qFr I hg hm boot_zip (cI (thn (ha pos pins s σ H _ I h) λus s1 hq_=>?_) hs (hs2 _)));obtain⟨vs,H1,I1,r1,q1⟩:=hq_;obtain⟨l1,l2,e,⟨xs,hq1⟩,⟨ys,hq2⟩,q⟩:=q1;subst e;obtain⟨u,u2,rfl,ru,ru2⟩:=vals2 r1;cases ru;cases ru2;obtain⟨its,rv,p1⟩:=I1.sqv hq1;obtain⟨its2,rv2,p2⟩:=I1.sqv hq2;have a1:l1<s1.heap.objs.size:=by obtain⟨_,e⟩:=p1.ob;exact aK e
 have a2:l2<s1.heap.objs.size:=by obtain⟨_,e⟩:=p2.ob;exact aK e
 refine qNh p1 p2 λh' hz hTI hTO hi1 hi2 hk=>?_;refine wpAny_pyIter_zip hz ?_;have I2:Inv X pins σ H1 { s1 with heap:=h' }:=I1.kept (t':=s1.toks) hk;refine⟨_,_,_,_,H1,rfl,I2,qL8 (zipApart_new a1 a2),⟨hz,hTI,⟨_,_,hTO⟩,hi1,hi2⟩,λc hc=>?_,q⟩;have hge:s1.heap.objs.size<=c:=by
  simp only [aJ,bX,or_false] at hc;rcases hc with e | e | e | e | e <;> subst e
  ·exact dA _ _
  ·exact dA _ _
  ·exact dA _ _
  ·exact aC _
  ·exact dA _ _
 exact I1.fpOk hge (I1.hok.fresh hge)
theorem qLy{K:PySem.W.Frag}{tp tq:Bool}{tl:TA}{σ : St}{H:Hp}{R:It->Hp->Prop}(h:tl σ H λvs H1 => ∃a b,vs = [.ref a,.ref b]/\(∃xs,SqV tp K H1 a xs)/\(∃ys,SqV tq K H1 b ys)/\R (Itzg K tp tq a b) H1):iZipg K tp tq tl σ H R:=h
end
theorem qHi{K:PySem.W.Frag}{tp tq:Bool}{a b:Addr}{xs ys:List V}{g:TG}{tt:TT}{B:St->Hp->(St->Hp->Prop)->Prop}{σ : St}{H:Hp}{Q:St->Hp->Prop}(hxy:xs.length=ys.length)(Pv:Nat->St->Hp->Prop)(h0:Pv 0 σ H)(hl:∀i σ H,i<=xs.length->Pv i σ H->SqV tp K H a xs/\SqV tq K H b ys)(hs:∀i x y σ H p (R:St->Hp->Prop),xs[i]? = some x->ys[i]? = some y->Pv i σ H->H p=none->(∀ σ' H',Pv (i+1) σ' H'->R σ' H')->g (.ref p) σ (upd H p (.tup [x,y])) λσ2 H2=>tt σ2 H2 λb H3=>if b=true then B σ2 H3 R else R σ2 H3)(hd:∀ σ H,Pv xs.length σ H->Q σ H):LoopT (Itzg K tp tq a b) g tt B σ H Q:=by
 refine qDs (n:=xs.length) Pv h0 (λi σ H hi p=>⟨xs,ys,xs[i],ys[i],(hl i σ H (bU hi) p).1,(hl i σ H (bU hi) p).2,by simp [hi],by simp [hxy▸hi]⟩) (λσ H p=>⟨xs,ys,(hl _ σ H (aC _) p).1,(hl _ σ H (aC _) p).2,aC _⟩) (λi σ H R hi p hR x H' y=>?_) hd;obtain⟨r,x1,y1,e,hr,hx,hy,e2⟩:=y;subst e e2;exact hs i x1 y1 σ H r R (hx xs (hl i σ H (bU hi) p).1) (hy ys (hl i σ H (bU hi) p).2) p hr hR
def TupK(K:PySem.W.Frag)(a:Addr)(xs:List V):Prop := ∃(o:Obj) (its:Array Value) (n:Nat),K.lookup a=some o/\o.cls = .type "tuple" /\ o.data = .seq its n/\its.size<=sizeLine/\Vals xs its.toList
theorem TupK.sq{K:PySem.W.Frag}{H:Hp}{a:Addr}{xs:List V}(h:TupK K a xs):SqT K H a xs :=.inr h
def Parts(K:PySem.W.Frag)(dp:Addr):Prop := ∃b1 b2 b3 b4 b5 b6:Addr,TabK K dp [("set",.ref b1),("add",.ref b2),("tell",.ref b3),("call",.ref b4),("save",.ref b5),("back",.ref b6)] /\
 TupK K b1 [.str "box",.str "number"]/\TupK K b2 [.str "box",.str "box"]/\TupK K b3 [.str "box"]/\TupK K b4 [.str "work"]/\TupK K b5 [.str "box"]/\TupK K b6 [.str "box"]
def Blocks(K:PySem.W.Frag)(eb:Addr):Prop:=TabK K eb [("out",.int 0),("go",.int 1),("fork",.int 2)]
def qD1:Deed->Str
 | .set _ _ => "set" | .add _ _ => "add" | .tell _ => "tell" | .call _ => "call" | .save _ => "save" | .back _ => "back"
def qBj:Deed->List Int
 | .set b n =>[b,n] | .add b o =>[b,o] | .tell b =>[b] | .call c =>[c] | .save b =>[b] | .back b =>[b]
def qFl:Deed->List Str
 | .set _ _ =>["box","number"] | .add _ _ =>["box","box"] | .tell _ =>["box"] | .call _ =>["work"] | .save _ =>["box"] | .back _ =>["box"]
theorem qE9(d:Deed):deedD d = .tuple (.str (qD1 d)::(qBj d).map .int):=by cases d <;> rfl
theorem qHa(d:Deed):(qBj d).length=(qFl d).length:=by cases d <;> rfl
theorem qHb(d:Deed):(qBj d).length<=2/\1<=(qBj d).length:=by cases d <;> simp [qBj]
theorem Parts.at{K:PySem.W.Frag}{dp:Addr}(h:Parts K dp)(d:Deed):∃b D,TabK K dp D/\KTD.datumAt (qD1 d) D=some (.ref b)/\TupK K b ((qFl d).map V.str):=by
 obtain⟨b1,b2,b3,b4,b5,b6,T,t1,t2,t3,t4,t5,t6⟩:=h;cases d
 ·exact⟨b1,_,T,rfl,t1⟩
 ·exact⟨b2,_,T,rfl,t2⟩
 ·exact⟨b3,_,T,rfl,t3⟩
 ·exact⟨b4,_,T,rfl,t4⟩
 ·exact⟨b5,_,T,rfl,t5⟩
 ·exact⟨b6,_,T,rfl,t6⟩
def endW:List Int->Str
 | [] => "out" | [_] => "go" | _ => "fork"
theorem qGp{ns:List Int}(h:ns.length<=2):endD ns = .tuple (.str (endW ns)::ns.map .int):=by
 match ns,h with
 | [],_=>rfl
 | [x],_=>rfl
 | [x,y],_=>rfl
theorem Blocks.at{K:PySem.W.Frag}{eb:Addr}(h:Blocks K eb){ns:List Int}(hl:ns.length<=2):∃D,TabK K eb D/\KTD.datumAt (endW ns) D=some (.int ns.length):=by
 refine⟨_,h,?_⟩
 match ns,hl with
 | [],_=>rfl
 | [x],_=>rfl
 | [x,y],_=>rfl
theorem NsOk.all{m:Int}{ns:List Int}(h:NsOk m ns):∀x∈ns,1<=x/\x<m:=by
 rcases h with h | ⟨x,h,h1,h2⟩ | ⟨x,y,h,_,h1,h2,h3,h4⟩ <;> subst h
 ·simp
 ·intro z hz;simp at hz;subst hz;exact⟨h1,h2⟩
 ·intro z hz;simp at hz;rcases hz with rfl | rfl
  ·exact⟨h1,h2⟩
  ·exact⟨h3,h4⟩
theorem NsOk.set{m:Int}{ns:List Int}(h:NsOk m ns):(qCu ns).length=ns.length:=by
 rcases h with h | ⟨x,h,_⟩ | ⟨x,y,h,hne,_⟩ <;> subst h
 ·rfl
 ·rfl
 ·show (addN (addN [] x) y).length=2;simp [addN,hne,dS hne]
def qI2(works n:Int)(kind:Str):Prop:=(kind = "box" -> 0<=n/\n<8)/\(kind = "work" -> 0<=n/\n<works)
theorem qOo{works:Int}{d:Deed}(h:qDz works d):∀(j:Nat) (n:Int) (k:Str),(qBj d)[j]? = some n->(qFl d)[j]? = some k->qI2 works n k:=by
 have box:∀n:Int,0<=n/\n<8->qI2 works n "box" :=λn h=>⟨λ_=>h,λe=>absurd e (by decide)⟩;have num:∀n:Int,qI2 works n "number" :=λn=>⟨λe=>absurd e (by decide),λe=>absurd e (by decide)⟩;have wk:∀n:Int,0<=n/\n<works->qI2 works n "work" :=λn h=>⟨λe=>absurd e (by decide),λ_=>h⟩;intro j n k hn hk;cases d <;> rcases j with _ | _ | j <;> simp [qBj,qFl] at hn hk <;> subst hn hk
 ·exact box _ ⟨h.1,h.2.1⟩
 ·exact num _
 ·exact box _ ⟨h.1,h.2.1⟩
 ·exact box _ ⟨h.2.2.1,h.2.2.2⟩
 ·exact box _ h
 ·exact wk _ h
 ·exact box _ h
 ·exact box _ h
def qDe(K:PySem.W.Frag):Sp:=λvs H Q _ => ∃(a:Addr) (s:Str) (xs:List V),vs = [.ref a]/\SqT K H a (.str s::xs)/\Q (.bl true) H
def qG5:Sp:=λvs H Q _ => ∃(n works:Int) (k:Str),vs = [.int n,.str k,.int works]/\qI2 works n k/\Q (.bl true) H
def qG7(K:PySem.W.Frag):Sp:=λvs H Q _ => ∃(a:Addr) (works:Int) (d:Deed),vs = [.ref a,.int works]/\Den K H (deedD d) (.ref a)/\qDz works d /\ ∀H',Ext [] H H'->Q (.bl true) H'
def qI9(K:PySem.W.Frag):Sp:=λvs H Q _ => ∃(a:Addr) (m:Int) (ns:List Int),vs = [.ref a,.int m]/\Den K H (endD ns) (.ref a)/\NsOk m ns /\ ∀H',Ext [] H H'->Q (.bl true) H'
def qEg(K:PySem.W.Frag):Sp:=λvs H Q _ => ∃(a:Addr) (m works:Int) (b:Blk),vs = [.ref a,.int m,.int works]/\Den K H (blkD b) (.ref a)/\BlkOk m works b /\ ∀H',Ext [] H H'->Q (.bl true) H'
def qG4(K:PySem.W.Frag):Sp:=λvs H Q _ => ∃(a:Addr) (m works:Int) (w:List Blk),vs = [.ref a,.int works]/\Den K H (workD w) (.ref a)/\WorkOk m works w/\1<=m/\m<=12/\Led w /\ ∀H',Ext [] H H'->Q (.bl true) H'
def qDl(K:PySem.W.Frag):Sp:=λvs H Q _ => ∃(a:Addr) (ws:List (List Blk)),vs = [.ref a]/\Den K H (.list (ws.map workD)) (.ref a)/\AllOk (ws.length:Int) ws/\(∀w∈ws,Led w) /\ ∀H',Ext [] H H'->Q (.bl true) H'
theorem Led.reach{w:List Blk}(h:Led w):∀(j:Nat),j<w.length->Reach (nxt w) 0 (j:Int):=by
 intro j
 induction j using Nat.strongRecOn with
 | _ j ih =>
  intro hj;by_cases c:j=0
  ·subst c;exact .refl
  ·obtain⟨i,ns,hi,hn,hm⟩:=h j (by lia) (by rw [aB];exact hj);rw [bC] at hn;cases z:w[i]? with
   | none=>rw [z] at hn;cases hn
   | some b =>
    rw [z] at hn;cases hn;exact .step (ih i hi (aD.mp z).1) (by rw [qMl z];exact hm)
theorem qMu{m works:Int}{w:List Blk}{ks:List Int}(h:WorkOk m works w)(hm:1<=m)(hl:Led w)(hn:ks.Nodup)(hk:∀x,x∈ks↔Reach (nxt w) 0 x):ks.length=w.length:=by
 have e:=h.len;have hp:ks.Perm ((List.range w.length).map λ(i:Nat)=>(i:Int)):=by
  rw [List.perm_ext_iff_of_nodup hn (by rw [List.nodup_iff_pairwise_ne,List.pairwise_map];exact List.nodup_range.imp λ{a b} z y=>z (by lia))];intro x;rw [hk,cN];constructor
  ·intro r;have:=Reach.range h ⟨by lia,by lia⟩ r;exact⟨x.toNat,List.mem_range.mpr (by lia),by lia⟩
  ·rintro⟨i,hi,rfl⟩;exact hl.reach i (List.mem_range.mp hi)
 rw [hp.length_eq,aB,List.length_range]
theorem qRz{ta tb:TE}{σ : St}{H:Hp}{Q:VK}(h:ta σ H λx H1 => ∃c,x = .bl c/\if c=true then Q (.bl true) H1 else tb σ H1 Q):tOrV ta tb σ H Q:=h
theorem qSu(v:V)(xs:List V):cutV (v::xs) (some 1) none=xs:=by
 unfold cutV HT.sIx;simp
theorem qKo(v:V)(xs:List V) : ¬(HT.sIx (v::xs).length 0 (some 1)=0/\HT.sIx (v::xs).length (v::xs).length none=(v::xs).length):=by
 unfold HT.sIx;simp
theorem qLw{K:PySem.W.Frag}{H:Hp}{Q:VK}{a:Addr}{v:V}{xs:List V}(h:SqT K H a (v::xs))(q:∀p,H p=none->Q (.ref p) (upd H p (.tup xs))):rSlT K (.ref a) (some 1) none H Q:=⟨a,_,rfl,h,qKo v xs,λp hp=>by rw [qSu];exact q p hp⟩
theorem qDv{K:PySem.W.Frag}{H:Hp}{Q:VK}{a:Addr}{v:V}{xs:List V}(h:SqT K H a (v::xs))(q:Q v H):rIxT K (.ref a) (.int 0) H Q:=qLz h (qDc (j:=0) rfl) q
theorem qFh{K:PySem.W.Frag}{H:Hp}{p:Addr}{xs:List V}{Q:List V->Prop}(h:SqT K H p xs)(q:Q xs):∃p' ys,[V.ref p] = [.ref p']/\(SqL K H p' ys\/SqT K H p' ys)/\Q ys:=⟨p,xs,rfl,.inr h,q⟩
abbrev numT(n:Int):Str:=Str.ofString (toString n)
def digs(m:Nat):List Nat:=(Nat.toDigits 10 m).map Char.toNat
theorem qE6(m:Nat):(numT (m:Int)).cps.toList=digs m:=PySem.W.KIN.signs_num m
theorem qCy(m:Nat):(numT (Int.negSucc m)).cps.toList=45::digs (m+1):=by
 rw [signs_ofString];show ("-" ++ Nat.repr (m+1)).toList.map Char.toNat=_;rw [String.toList_append,aQ,Nat.toList_repr];rfl
theorem qBm{m:Nat}(h:m<10):digs m = [48+m]:=by
 unfold digs;rw [Nat.toDigits_of_lt_base h];revert m;decide
theorem qE8{m:Nat}(h:10<=m):digs m=digs (m / 10) ++ [48+m%10]:=by
 have hm:m%10<10:=Nat.mod_lt m (by decide);have t:Nat.toDigits 10 (m / 10)++Nat.toDigits 10 (m%10)=Nat.toDigits 10 (10*(m / 10)+m%10):=Nat.toDigits_append_toDigits (by decide) (by lia) hm;rw [Nat.div_add_mod] at t;rw [<-qBm hm];unfold digs;rw [<-t,aQ]
theorem qDk(m:Nat):∀c∈digs m,48<=c/\c<=57:=by
 induction m using Nat.strongRecOn with
 | _ m ih =>
  by_cases h:m<10
  ·rw [qBm h];intro c hc;simp at hc;lia
  ·rw [qE8 (by lia)];intro c hc;rcases aP.mp hc with z | z
   ·exact ih (m / 10) (by lia) c z
   ·simp at z;lia
theorem qN8(m:Nat):digs m ≠ []:=by
 by_cases h:m<10
 ·rw [qBm h];simp
 ·rw [qE8 (by lia)];simp
theorem qCf:∀(k m:Nat),m<10^(k+1)->(digs m).length<=k+1
 | 0,m,h=>by rw [qBm (by simpa using h)];simp
 | k+1,m,h=>by
  by_cases c:m<10
  ·rw [qBm c];simp
  ·rw [qE8 (by lia),aN];have:=qCf k (m / 10) (by rw [Nat.div_lt_iff_lt_mul (by decide)];rw [Nat.pow_succ] at h;exact h);simp;lia
theorem qN9{m:Nat}(h:m≠0):∃c r,digs m=c::r/\49<=c:=by
 induction m using Nat.strongRecOn with
 | _ m ih =>
  by_cases c:m<10
  ·exact⟨48+m,[],qBm c,by lia⟩
  ·obtain⟨d,r,e,hd⟩:=ih (m / 10) (by lia) (by lia);exact⟨d,r ++ [48+m%10],by rw [qE8 (by lia),e];rfl,hd⟩
theorem qPl(m:Nat):PySem.NumText.digitsVal (digs m)=m:=PySem.W.KIN.val_back m
theorem qI5{x y:Str}(h:x.cps.toList=y.cps.toList):x=y:=Str.ext' (Array.toList_inj.mp h)
theorem qCc(x:Str):x.length=x.cps.toList.length:=bG.symm
theorem qLu{x:Str}{m:Nat}(h:x.cps.toList=digs m)(hm:m<10^20):PySem.intText? x=some (m:Int)/\x.length<=20:=by
 have hl:x.length<=20:=by rw [qCc,h];exact qCf 19 m hm
 refine⟨?_,hl⟩;have:=PySem.intText_digits (x:=x) (by rw [h];exact qDk m) (by rw [h];exact qN8 m) (by lia);rw [h,qPl] at this;exact this
theorem qCo(c:Nat)(x y:Str)(r:List Str):(Str.join ⟨#[c]⟩ (x::y::r)).cps.toList=x.cps.toList++c::(Str.join ⟨#[c]⟩ (y::r)).cps.toList:=by
 show (x++⟨#[c]⟩++Str.join ⟨#[c]⟩ (y::r)).cps.toList=_;show ((x.cps ++ #[c])++(Str.join ⟨#[c]⟩ (y::r)).cps).toList=_;simp
theorem qQa{c:Nat}:∀ {p q a b:List Nat},c∉p->c∉q->p++c::a=q++c::b->p=q/\a=b
 | [],[],a,b,_,_,e=>by simpa using e
 | [],x::q,a,b,_,hq,e=>by
  simp at e;exact absurd e.1 (λz=>hq (by simp [z]))
 | x::p,[],a,b,hp,_,e=>by
  simp at e;exact absurd e.1 (λz=>hp (by simp [z]))
 | x::p,y::q,a,b,hp,hq,e=>by
  simp at e;obtain⟨rfl,e⟩:=e;obtain⟨e1,e2⟩:=qQa (λz=>hp (by simp [z])) (λz=>hq (by simp [z])) e;exact⟨by rw [e1],e2⟩
theorem qJw{c:Nat}:∀ {ps qs:List Str},ps ≠ []->qs ≠ []->(∀p∈ps,c∉p.cps.toList)->(∀q∈qs,c∉q.cps.toList)->Str.join ⟨#[c]⟩ ps=Str.join ⟨#[c]⟩ qs->ps=qs
 | [],_,h,_,_,_,_=>absurd rfl h
 | _::_,[],_,h,_,_,_=>absurd rfl h
 | [p],[q],_,_,_,_,e=>by
  have e:p=q:=e;rw [e]
 | [p],q::q2::qs,_,_,hp,hq,e=>by
  have e2:p.cps.toList=q.cps.toList++c::(Str.join ⟨#[c]⟩ (q2::qs)).cps.toList:=by
   rw [<-qCo,<-e];rfl
  exact absurd (show c∈p.cps.toList by rw [e2];simp) (hp p (by simp))
 | p::p2::ps,[q],_,_,hp,hq,e=>by
  have e2:q.cps.toList=p.cps.toList++c::(Str.join ⟨#[c]⟩ (p2::ps)).cps.toList:=by
   rw [<-qCo,e];rfl
  exact absurd (show c∈q.cps.toList by rw [e2];simp) (hq q (by simp))
 | p::p2::ps,q::q2::qs,_,_,hp,hq,e=>by
  have e1:p.cps.toList++c::(Str.join ⟨#[c]⟩ (p2::ps)).cps.toList=q.cps.toList++c::(Str.join ⟨#[c]⟩ (q2::qs)).cps.toList:=by
   rw [<-qCo,<-qCo,e]
  obtain⟨a,b⟩:=qQa (hp p (by simp)) (hq q (by simp)) e1;rw [qI5 a,qJw (by simp) (by simp) (λz hz=>hp z (aV _ hz)) (λz hz=>hq z (aV _ hz)) (qI5 b)]
theorem qNx(x y:Str):Txt.split x y ≠ []:=by
 unfold Txt.split;split
 ·simp
 ·split
  ·simp
  ·intro z;have:=congrArg List.length z;rw [length_partsBetween] at this;simp at this
theorem qF4{c:Nat}{ts:List Str}(h:ts ≠ [])(hf:∀t∈ts,c∉t.cps.toList):Txt.split (Str.join ⟨#[c]⟩ ts) ⟨#[c]⟩=ts:=qJw (qNx _ _) h (StrLaws.split_free _ c) hf (StrLaws.join_split _ _)
theorem qQ6{sep:Str}{ts:List Str}{B:Nat}(hB:∀y∈ts,y.length<=B)(h:ts.length*B+ts.length*sep.length<=16777216):JoinOk sep ts=true:=by
 unfold JoinOk;rw [Bool.not_eq_true'];exact StrLaws.joinFits hB h
theorem qJv{sep:Str}{ts:List Str}{B:Nat}(hB:∀y∈ts,y.length<=B):(Str.join sep ts).length<=ts.length*B+ts.length*sep.length:=by
 have h1:=StrLaws.join_length_le sep ts;have h2:=StrLaws.sumLen_le ts hB;lia
inductive Item where
 | work
 | block
 | deed (d:Deed)
 | fin (ns:List Int)
def itemW:Item->Str
 | .work => "work" | .block => "block" | .deed d=>qD1 d | .fin ns=>endW ns
def itemN:Item->List Int
 | .work =>[] | .block =>[] | .deed d=>qBj d | .fin ns=>ns
def rowT(w:Str)(ns:List Int):Str:=Str.join ⟨#[32]⟩ (w::ns.map numT)
def itemT(i:Item):Str:=rowT (itemW i) (itemN i)
def qAt(b:Blk):List Item :=.block::(b.ds.map .deed ++ [.fin b.ns])
def qCg(w:List Blk):List Item :=.work::w.flatMap qAt
def items(ws:List (List Blk)):List Item:=ws.flatMap qCg
def rows(ws:List (List Blk)):List Str:=(items ws).map itemT
def qEb(ws:List (List Blk)):Str:=Str.join ⟨#[10]⟩ (rows ws)
def rowKs:Item->List Str
 | .work =>[] | .block =>[]
 | .deed (.set _ _) =>["BOX","N"] | .deed (.add _ _) =>["BOX","OTHER"] | .deed (.tell _) =>["BOX"] | .deed (.call _) =>["WORK"] | .deed (.save _) =>["BOX"] | .deed (.back _) =>["BOX"]
 | .fin [] =>[] | .fin [_] =>["TO"] | .fin _ =>["TO","OTHER"]
def ReadOk(n:Int)(k:Str):Prop:=(k = "BOX" /\ 0<=n/\n<8)\/(k = "N" /\ -(10^12)<=n/\n<=10^12)\/(k ≠ "BOX" /\ k ≠ "N" /\ 0<=n/\n<10^9)
structure ItemOk(i:Item):Prop where
 len:(itemN i).length=(rowKs i).length
 few:(itemN i).length<=2
 ok:∀(j:Nat) (n:Int) (k:Str),(itemN i)[j]? = some n->(rowKs i)[j]? = some k->ReadOk n k
theorem qEt{works:Int}(hw:works<=100){d:Deed}(h:qDz works d):ItemOk (.deed d):=by
 have box:∀n:Int,0<=n/\n<8->ReadOk n "BOX" :=λn h =>.inl ⟨rfl,h⟩;have oth:∀n:Int,0<=n/\n<8->ReadOk n "OTHER" :=λn h =>.inr (.inr ⟨by decide,by decide,by lia,by lia⟩);have num:∀n:Int,-(10^12)<=n/\n<=10^12->ReadOk n "N" :=λn h =>.inr (.inl ⟨rfl,h⟩);have wk:∀n:Int,0<=n/\n<works->ReadOk n "WORK" :=λn h =>.inr (.inr ⟨by decide,by decide,by lia,by lia⟩);refine⟨by cases d <;> rfl,(qHb d).1,?_⟩;intro j n k hn hk;cases d <;> rcases j with _ | _ | j <;> simp [qBj,itemN,rowKs] at hn hk <;> subst hn hk
 ·exact box _ ⟨h.1,h.2.1⟩
 ·exact num _ h.2.2
 ·exact box _ ⟨h.1,h.2.1⟩
 ·exact oth _ ⟨h.2.2.1,h.2.2.2⟩
 ·exact box _ h
 ·exact wk _ h
 ·exact box _ h
 ·exact box _ h
theorem qGo{m:Int}(hm:m<=12){ns:List Int}(h:NsOk m ns):ItemOk (.fin ns):=by
 have to:∀(n:Int) (k:Str),k ≠ "BOX" -> k ≠ "N" -> 1<=n/\n<m->ReadOk n k:=λn k h1 h2 h =>.inr (.inr ⟨h1,h2,by lia,by lia⟩);rcases h with h | ⟨x,h,h1,h2⟩ | ⟨x,y,h,_,h1,h2,h3,h4⟩ <;> subst h
 ·exact⟨rfl,by simp [itemN],λj n k hn=>by simp [itemN] at hn⟩
 ·refine⟨rfl,by simp [itemN],λj n k hn hk=>?_⟩;rcases j with _ | j <;> simp [itemN,rowKs] at hn hk
  subst hn hk;exact to _ _ (by decide) (by decide) ⟨h1,h2⟩
 ·refine⟨rfl,by simp [itemN],λj n k hn hk=>?_⟩;rcases j with _ | _ | j <;> simp [itemN,rowKs] at hn hk <;> subst hn hk
  ·exact to _ _ (by decide) (by decide) ⟨h1,h2⟩
  ·exact to _ _ (by decide) (by decide) ⟨h3,h4⟩
theorem qJx{works:Int}(hw:works<=100){ws:List (List Blk)}(h:AllOk works ws):∀i∈items ws,ItemOk i:=by
 intro i hi;unfold items at hi;obtain⟨w,hw',hi⟩:=List.mem_flatMap.mp hi;obtain⟨m,_,hm,hW⟩:=h.all w hw';unfold qCg at hi;rcases aJ.mp hi with rfl | hi
 ·exact⟨rfl,by simp [itemN],λj n k hn=>by simp [itemN] at hn⟩
 ·obtain⟨b,hb,hi⟩:=List.mem_flatMap.mp hi;have hB:=hW.blk b hb;unfold qAt at hi;rcases aJ.mp hi with rfl | hi
  ·exact⟨rfl,by simp [itemN],λj n k hn=>by simp [itemN] at hn⟩
  ·rcases aP.mp hi with hi | hi
   ·obtain⟨d,hd,rfl⟩:=cN.mp hi;exact qEt hw (hB.ds d hd)
   ·rw [aO.mp hi];exact qGo hm hB.ns
theorem qCq{α β : Type}{f : α -> List β}{k:Nat}:∀(l:List α),(∀x∈l,(f x).length<=k)->(l.flatMap f).length<=l.length*k
 | [],_=>by simp
 | x::l,h=>by
  rw [List.flatMap_cons,aN,bA,Nat.succ_mul];have:=h x (by simp);have:=qCq l λy hy=>h y (by simp [hy]);lia
theorem qDj{works:Int}{ws:List (List Blk)}(h:AllOk works ws):(items ws).length<=2650:=by
 have:=h.few;refine bH (qCq (k:=265) ws λw hw=>?_) (by lia);obtain⟨m,_,hm,hW⟩:=h.all w hw;have:=hW.len;unfold qCg;rw [bA];have:=qCq (k:=22) (f:=qAt) w λb hb=>by
  have:=(hW.blk b hb).few;unfold qAt;simp;lia
 lia
theorem qPb{works:Int}{ws:List (List Blk)}(h:AllOk works ws):items ws ≠ []:=by
 have:=h.one;cases ws with
 | nil=>simp at this
 | cons w r=>unfold items qCg;simp
theorem qKn(n:Int):∀c∈(numT n).cps.toList,c=45\/(48<=c/\c<=57):=by
 intro c hc;cases n with
 | ofNat m=>rw [show numT (Int.ofNat m)=numT (m:Int) from rfl,qE6] at hc;exact .inr (qDk m c hc)
 | negSucc m =>
  rw [qCy] at hc;rcases aJ.mp hc with z | z
  ·exact .inl z
  ·exact .inr (qDk _ c z)
theorem qP2{n:Int}(h:n.natAbs<10^20):(numT n).length<=21:=by
 rw [qCc];cases n with
 | ofNat m=>rw [show numT (Int.ofNat m)=numT (m:Int) from rfl,qE6];exact bH (qCf 19 m h) (by decide)
 | negSucc m =>
  rw [qCy,bA];exact Nat.succ_le_succ (qCf 19 (m+1) h)
theorem qEq(i:Item):(∀c∈(itemW i).cps.toList,97<=c/\c<=122)/\(itemW i).length<=5:=by
 cases i with
 | work=>decide
 | block=>decide
 | deed d=>cases d <;> (simp only [itemW,qD1];decide)
 | fin ns =>
  match ns with
  | []=>simp only [itemW,endW];decide
  | [x]=>simp only [itemW,endW];decide
  | x::y::r=>simp only [itemW,endW];decide
theorem ReadOk.abs{n:Int}{k:Str}(h:ReadOk n k):n.natAbs<10^20:=by
 rcases h with ⟨_,h1,h2⟩ | ⟨_,h1,h2⟩ | ⟨_,_,h1,h2⟩ <;> lia
theorem ItemOk.abs{i:Item}(h:ItemOk i):∀n∈itemN i,n.natAbs<10^20:=by
 intro n hn;obtain⟨j,hj,e⟩:=bM hn;have hk:j<(rowKs i).length:=by rw [<-h.len];exact hj
 exact (h.ok j n _ (by rw [aI hj,e]) (aI hk)).abs
theorem qIr(i:Item):∀t∈itemW i::(itemN i).map numT,32∉t.cps.toList/\10∉t.cps.toList:=by
 intro t ht;rcases aJ.mp ht with rfl | ht
 ·have:=(qEq i).1;exact⟨λz=>by have:=this _ z;lia,λz=>by have:=this _ z;lia⟩
 ·obtain⟨n,_,rfl⟩:=cN.mp ht;have:=qKn n;exact⟨λz=>by have:=this _ z;lia,λz=>by have:=this _ z;lia⟩
theorem qLt(i:Item):Txt.split (itemT i) ⟨#[32]⟩=itemW i::(itemN i).map numT:=qF4 (by simp) λt ht=>(qIr i t ht).1
theorem qFs{c d:Nat}(hcd:d≠c):∀(ts:List Str),(∀t∈ts,d∉t.cps.toList)->d∉(Str.join ⟨#[c]⟩ ts).cps.toList
 | [],_=>by simp [Str.join,Str.empty]
 | [t],h=>h t (by simp)
 | t::u::r,h=>by
  rw [qCo];intro z;rcases aP.mp z with z | z
  ·exact h t (by simp) z
  ·rcases aJ.mp z with z | z
   ·exact hcd z
   ·exact qFs hcd (u::r) (λt ht=>h t (aV _ ht)) z
theorem qN0(i:Item):10∉(itemT i).cps.toList:=qFs (by decide) _ λt ht=>(qIr i t ht).2
theorem qK9{works:Int}{ws:List (List Blk)}(h:AllOk works ws):Txt.split (qEb ws) ⟨#[10]⟩=rows ws:=by
 refine qF4 (λz=>qPb h (List.map_eq_nil_iff.mp z)) λt ht=>?_;obtain⟨i,_,rfl⟩:=cN.mp ht;exact qN0 i
theorem qD5{i:Item}(h:ItemOk i):∀t∈itemW i::(itemN i).map numT,t.length<=21:=by
 intro t ht;rcases aJ.mp ht with rfl | ht
 ·exact bH (qEq i).2 (by decide)
 ·obtain⟨n,hn,rfl⟩:=cN.mp ht;exact qP2 (h.abs n hn)
theorem qJy{i:Item}(h:ItemOk i):(itemT i).length<=66:=by
 have h1:=qJv (sep:=⟨#[32]⟩) (qD5 h);have h2:=h.few;rw [bA,aB] at h1;have e:(⟨#[32]⟩:Str).length=1:=rfl;rw [e] at h1;show (Str.join ⟨#[32]⟩ _).length<=66;generalize (itemN i).length=k at *;lia
theorem qEp{i:Item}(h:ItemOk i):JoinOk ⟨#[32]⟩ (itemW i::(itemN i).map numT)=true:=by
 refine qQ6 (qD5 h) ?_;have h2:=h.few;have e:(⟨#[32]⟩:Str).length=1:=rfl;rw [e,bA,aB];lia
theorem qJ0{works:Int}(hw:works<=100){ws:List (List Blk)}(h:AllOk works ws):∀t∈rows ws,t.length<=66:=by
 intro t ht;obtain⟨i,hi,rfl⟩:=cN.mp ht;exact qJy (qJx hw h i hi)
theorem qEa{works:Int}(hw:works<=100){ws:List (List Blk)}(h:AllOk works ws):JoinOk ⟨#[10]⟩ (rows ws)=true:=by
 refine qQ6 (qJ0 hw h) ?_;have:=qDj h;have e:(⟨#[10]⟩:Str).length=1:=rfl;rw [e,show (rows ws).length=(items ws).length from aB ..];lia
theorem qNv{works:Int}(hw:works<=100){ws:List (List Blk)}(h:AllOk works ws):(qEb ws).length<=1000000:=by
 have h1:=qJv (sep:=⟨#[10]⟩) (qJ0 hw h);have:=qDj h;have e:(⟨#[10]⟩:Str).length=1:=rfl;rw [e,show (rows ws).length=(items ws).length from aB ..] at h1;show (Str.join ⟨#[10]⟩ _).length<=_;lia
section
variable{X:Cx}{elts:List Expr}{k:Nat}{tpos:Pos}
variable{X:Cx}{elt tg iter tg2 iter2:Expr}{ifs ifs2:List Expr}{scope:Scope}{own:List Str}{cap:List Nat}{wi wi2:TI}{g g2:TG}{tts tts2:List TT}{te:TE}{pos:Pos}
end
end L2
namespace Miss
open PySem PySem.Spec PyProof.Rows
end Miss
namespace L2
open PySem PySem.Spec PyProof.Rows
end L2
namespace L2
open PySem PySem.W PyProof.Rows
end L2
namespace L2
open PySem PySem.Spec PyProof.Rows
section
variable{X:Cx}
def rTupL(K:PySem.W.Frag):List V->Hp->VK->Prop:=λxs H Q => ∃(a:Addr) (ys:List V),xs = [.ref a]/\SqL K H a ys /\ ∀p,H p=none->Q (.ref p) (upd H p (.tup ys))
theorem qNi:CallR X (.type "tuple") (rTupL X.K):=by
 intro pins s σ H xs us Q I r h;obtain⟨a,ys,rfl,ha,q⟩:=h;obtain⟨u,rfl,ru⟩:=vals1 r;cases ru;obtain⟨its,rv,pl,hz⟩:=I.list ha;have hl:=rv.length;refine call_tuple_list pl.isList (λh' k=>?_) (by rw [aG];lia);have hD:s.heap.get? h'.objs.size=none:=by
  cases e:s.heap.get? h'.objs.size with
  | none=>rfl
  | some o=>exact absurd (aK (k _ o e)) (cW _)
 exact⟨.ref h'.objs.size,_,I.laidN (t':=s.toks) (o :=.tup ys) (λb o e=>aE _ (k b o e)) hD ⟨by lia,its,rv,IsTup.new _ _⟩,rfl,q _ (I.hok.gone hD)⟩
end
theorem qS0{te:TE}{σ : St}{H:Hp}{R:It->Hp->Prop}(h:te σ H λx H1 => ∃z:Str,x = .str z/\z.cps.all (· < 128)=true/\R (Its z) H1):iStr te σ H R:=h
theorem qIb{K:PySem.W.Frag}{H:Hp}{x:Str}{R:Prop}(q:R):tyV K "str" (.str x) H/\R:=⟨rfl,q⟩
theorem joinK{X:Cx}(K:PySem.W.Frag)(hK:X.K=K):MtR X "str.join" (rJoin K):=hK▸qGl
def qI7(K:PySem.W.Frag):Sp:=λvs H Q _ => ∃(a:Addr) (i:Item),vs = [.ref a]/\SqT K H a (.str (itemW i)::(itemN i).map V.int)/\ItemOk i /\ ∀H',Ext [] H H'->Q (.str (itemT i)) H'
def qLj(K:PySem.W.Frag):Sp:=λvs H Q _ => ∃(a:Addr) (ws:List (List Blk)) (works:Int),vs = [.ref a]/\Den K H (.list (ws.map workD)) (.ref a)/\AllOk works ws/\works<=100 /\ ∀H',Ext [] H H'->Q (.str (qEb ws)) H'
def qLl(K:PySem.W.Frag):Sp:=λvs H Q _ => ∃(a:Addr) (ws:List (List Blk)) (works:Int),vs = [.ref a]/\Den K H (.list (ws.map workD)) (.ref a)/\AllOk works ws/\works<=100 /\ ∀l H',H l=none->Ext [] H H'->H' l=some (.lst ((rows ws).map V.str))->Q (.ref l) H'
def qDf:Sp:=λvs H Q _ => ∃(x:Str) (most:Int) (m:Nat),vs = [.str x,.int most]/\x.cps.toList=digs m/\m<10^20/\(x.length:Int)<=most /\ ∀H',Ext [] H H'->Q (.int m) H'
def qIy:Sp:=λvs H Q _ => ∃(x:Str) (m:Nat),vs = [.str x]/\x.cps.toList=digs m/\m<10^9 /\ ∀H',Ext [] H H'->Q (.int m) H'
def qLo:Sp:=λvs H Q _ => ∃(x:Str) (m:Nat),vs = [.str x]/\x.cps.toList=digs m/\m<8 /\ ∀H',Ext [] H H'->Q (.int m) H'
def qIa:Sp:=λvs H Q _ => ∃n:Int,vs = [.str (numT n)] /\ -(10^12)<=n/\n<=10^12 /\ ∀H',Ext [] H H'->Q (.int n) H'
def qI8:Sp:=λvs H Q _ => ∃(n:Int) (k:Str),vs = [.str (numT n),.str k]/\ReadOk n k /\ ∀H',Ext [] H H'->Q (.int n) H'
def qEf:Sp:=λvs H Q _ => ∃i:Item,vs = [.str (itemT i)]/\ItemOk i /\ ∀p H',H p=none->Ext [] H H'->H' p=some (.tup (.str (itemW i)::(itemN i).map V.int))->Q (.ref p) H'
def kindOf:Item->Str
 | .work => "work" | .block => "block" | .deed _ => "deed" | .fin _ => "end"
def qLn:Sp:=λvs H Q _ => ∃i:Item,vs = [.str (itemW i)]/\Q (.str (kindOf i)) H
def RowTab(K:PySem.W.Frag)(rp:Addr):Prop := ∃b1 b2 b3 b4 b5 b6 b7 b8 b9 b10 b11:Addr,TabK K rp [("work",.ref b1),("block",.ref b2),("set",.ref b3),("add",.ref b4),("tell",.ref b5),("call",.ref b6),("save",.ref b7),("back",.ref b8),("out",.ref b9),("go",.ref b10),("fork",.ref b11)] /\
 TupK K b1 []/\TupK K b2 []/\TupK K b3 [.str "BOX",.str "N"]/\TupK K b4 [.str "BOX",.str "OTHER"]/\TupK K b5 [.str "BOX"]/\TupK K b6 [.str "WORK"]/\TupK K b7 [.str "BOX"]/\TupK K b8 [.str "BOX"]/\TupK K b9 []/\TupK K b10 [.str "TO"]/\TupK K b11 [.str "TO",.str "OTHER"]
theorem RowTab.at{K:PySem.W.Frag}{rp:Addr}(h:RowTab K rp)(i:Item):∃b D,TabK K rp D/\KTD.datumAt (itemW i) D=some (.ref b)/\TupK K b ((rowKs i).map V.str):=by
 obtain⟨b1,b2,b3,b4,b5,b6,b7,b8,b9,b10,b11,T,t1,t2,t3,t4,t5,t6,t7,t8,t9,t10,t11⟩:=h
 match i with
 | .work=>exact⟨b1,_,T,rfl,t1⟩
 | .block=>exact⟨b2,_,T,rfl,t2⟩
 | .deed (.set _ _)=>exact⟨b3,_,T,rfl,t3⟩
 | .deed (.add _ _)=>exact⟨b4,_,T,rfl,t4⟩
 | .deed (.tell _)=>exact⟨b5,_,T,rfl,t5⟩
 | .deed (.call _)=>exact⟨b6,_,T,rfl,t6⟩
 | .deed (.save _)=>exact⟨b7,_,T,rfl,t7⟩
 | .deed (.back _)=>exact⟨b8,_,T,rfl,t8⟩
 | .fin []=>exact⟨b9,_,T,rfl,t9⟩
 | .fin [_]=>exact⟨b10,_,T,rfl,t10⟩
 | .fin (_::_::_)=>exact⟨b11,_,T,rfl,t11⟩
def qC1:Item->List Str
 | .work =>["nothing","end"] | .block =>["work","end"] | .deed _ =>["block","deed"] | .fin _ =>["block","deed"]
def Behind(K:PySem.W.Frag)(bh:Addr):Prop := ∃b1 b2 b3 b4:Addr,TabK K bh [("work",.ref b1),("block",.ref b2),("deed",.ref b3),("end",.ref b4)]/\TupK K b1 [.str "nothing",.str "end"]/\TupK K b2 [.str "work",.str "end"]/\TupK K b3 [.str "block",.str "deed"]/\TupK K b4 [.str "block",.str "deed"]
theorem Behind.at{K:PySem.W.Frag}{bh:Addr}(h:Behind K bh)(i:Item):∃b D,TabK K bh D/\KTD.datumAt (kindOf i) D=some (.ref b)/\TupK K b ((qC1 i).map V.str):=by
 obtain⟨b1,b2,b3,b4,T,t1,t2,t3,t4⟩:=h
 match i with
 | .work=>exact⟨b1,_,T,rfl,t1⟩
 | .block=>exact⟨b2,_,T,rfl,t2⟩
 | .deed _=>exact⟨b3,_,T,rfl,t3⟩
 | .fin _=>exact⟨b4,_,T,rfl,t4⟩
theorem Behind.has{K:PySem.W.Frag}{bh:Addr}(h:Behind K bh)(i:Item):∃D,TabK K bh D/\qD2 D (itemW i)=(match i with | .work=>true | .block=>true | _=>false):=by
 obtain⟨b1,b2,b3,b4,T,t1,t2,t3,t4⟩:=h;refine⟨_,T,?_⟩
 match i with
 | .work=>rfl
 | .block=>rfl
 | .deed d=>cases d <;> rfl
 | .fin []=>rfl
 | .fin [_]=>rfl
 | .fin (_::_::_)=>rfl
theorem Blocks.has{K:PySem.W.Frag}{eb:Addr}(h:Blocks K eb)(i:Item):∃D,TabK K eb D/\qD2 D (itemW i)=(match i with | .fin _=>true | _=>false):=by
 refine⟨_,h,?_⟩
 match i with
 | .work=>rfl
 | .block=>rfl
 | .deed d=>cases d <;> rfl
 | .fin []=>rfl
 | .fin [_]=>rfl
 | .fin (_::_::_)=>rfl
theorem qSr{c:Nat}(h:48<=c/\c<=57):(!(Builtin.Str.occurrences (Str.ofString "0123456789") ⟨#[c]⟩ 0 (Str.ofString "0123456789").length 1).isEmpty)=true:=by
 have:c=48\/c=49\/c=50\/c=51\/c=52\/c=53\/c=54\/c=55\/c=56\/c=57:=by lia
 rcases this with z | z | z | z | z | z | z | z | z | z <;> subst z <;> decide +kernel
theorem qF3(x:Str)(c:Nat):Txt.startswith x ⟨#[c]⟩=decide (x.cps.toList[0]? = some c):=by
 rw [cA,decide_eq_true_eq,<-StrLaws.subAt_one x c 0];unfold Txt.startswith;rw [bE,decide_eq_true_eq]
theorem qKp(m:Nat):Txt.startswith (numT (Int.negSucc m)) ⟨#[45]⟩=true:=by
 rw [qF3,qCy];rfl
theorem qKh{x:Str}{m:Nat}(h:x.cps.toList=digs m):Txt.startswith x ⟨#[45]⟩=false:=by
 rw [qF3,h];refine decide_eq_false λz=>?_;have:=qDk m 45 (aL z);lia
theorem qLb(x:Str)(h:1<=x.length):(Txt.slice x (some 1) none).cps.toList=x.cps.toList.drop 1:=by
 have e:Builtin.Str.strSliceIndices (some 1) none 1 x.length=Builtin.Str.strSliceIndices (some ((1:Nat):Int)) (some ((x.length:Nat):Int)) 1 x.length:=StrLaws.sliceIdx_none_hi _ _;unfold Txt.slice
 rw [e,if_neg (by
  rw [StrLaws.strSliceIndices_plain h (aC _),aB,List.length_range]
  simp;lia)]
 have:=StrLaws.sliced_plain x (a:=1) (b:=x.length) h (aC _);show ((Builtin.Str.strSliceIndices (some ((1:Nat):Int)) (some ((x.length:Nat):Int)) 1 x.length).filterMap (x.cps[·]?)).toArray.toList=_;rw [this,bD];rw [cZ,<-qCc];exact aC _
theorem qP5(m:Nat):(Txt.slice (numT (Int.negSucc m)) (some 1) none).cps.toList=digs (m+1):=by
 rw [qLb _ (by rw [qCc,qCy];simp),qCy];rfl
section
variable{X:Cx}
def rCatL(K:PySem.W.Frag):R2:=λx y H Q => ∃l b xs zs,x = .ref l/\y = .ref b/\SqL K H l xs/\SqL K H b zs/\xs.length+zs.length<=sizeLine /\ ∀p,H p=none->Q (.ref p) (upd H p (.lst (xs++zs)))
theorem qId:OpR X (binaryOp .Add) (rCatL X.K):=by
 intro pins s σ H x y v u Q I rx ry h;obtain⟨l,b,xs,zs,rfl,rfl,hl,hb,hz,q⟩:=h;cases rx;cases ry;obtain⟨its,r,p,_⟩:=I.list hl;obtain⟨its2,r2,p2,_⟩:=I.list hb;obtain⟨⟨c1,d1,t1,s1⟩,e1,k1,n1,m1⟩:=id p.isList;obtain⟨⟨c2,d2,t2,s2⟩,e2,k2,n2,m2⟩:=id p2.isList;simp only at k1 m1 k2 m2;subst k1 m1 k2 m2;have f1:=r.length;have f2:=r2.length;refine concat_meets ⟨_,e1,rfl⟩ ⟨_,e2,rfl⟩ noFill_list_add seq_list_add PySem.F.slot_list_add PySem.F.entry_list_add (PySem.F.args_list_add_2 _ _) (list_addW l b its.toArray its2.toArray n1 n2 d1 d2 s1 s2 (by simp;lia)) ⟨e1,e2,?_⟩;rw [show its.toArray++its2.toArray=(its++its2).toArray by simp];exact⟨.ref _,_,I.lnew (t':=s.toks) (r.append r2) (by rw [aN];lia),rfl,q _ I.fresh⟩
theorem qQs(K:PySem.W.Frag)(hK:X.K=K){tg l:Expr}{tl:TE}(hl:PE X l tl):PI X tg l (iTup K tl):=hK▸qM5 hl
end
theorem qHc{b:Blk}(hf:b.ns.length<=2):(b.ds.map deedD ++ [endD b.ns])=(b.ds.map Item.deed ++ [Item.fin b.ns]).map λi=>PyData.tuple (.str (itemW i)::(itemN i).map .int):=by
 rw [aQ,List.map_map,List.map_singleton,qGp hf]
 congr 1
 exact List.map_congr_left λd _=>qE9 d
theorem qH4{ws:List (List Blk)}{i:Nat}{w:List Blk}(h:ws[i]? = some w):rows (ws.take (i+1))=rows (ws.take i)++(qCg w).map itemT:=by
 unfold rows items;rw [bO,h,List.flatMap_append,aQ];simp
theorem qHw{w:List Blk}{j:Nat}{b:Blk}(h:w[j]? = some b):(w.take (j+1)).flatMap qAt=(w.take j).flatMap qAt++qAt b:=by
 rw [bO,h,List.flatMap_append];simp
theorem qJ1{works:Int}{ws:List (List Blk)}(h:AllOk works ws)(i:Nat):(rows (ws.take i)).length<=2650:=by
 have h1:=qDj h;have e:items ws=items (ws.take i)++items (ws.drop i):=by
  unfold items;rw [<-List.flatMap_append,List.take_append_drop]
 rw [e,aN] at h1;rw [show (rows (ws.take i)).length=(items (ws.take i)).length from aB ..];lia
theorem qBa{n:Nat}(h:n<=100000):n<sizeLine:=by rw [bS];lia
structure Rs where
 W0:List (List Blk)
 cur:Option (List Blk)
 D:List Deed
 last:Str
def Rs.all(s:Rs):List (List Blk):=s.W0++s.cur.toList
def stepI(s:Rs):Item->Rs
 | .work=>⟨s.all,some [],s.D,"work"⟩
 | .block=>⟨s.W0,s.cur,[],"block"⟩
 | .deed d=>⟨s.W0,s.cur,s.D ++ [d],"deed"⟩
 | .fin ns=>⟨s.W0,s.cur.map (· ++ [⟨s.D,ns⟩]),s.D,"end"⟩
def rs0:Rs:=⟨[],none,[],"nothing"⟩
theorem qLi(s:Rs)(i:Item):(stepI s i).last=kindOf i:=by cases i <;> rfl
def Legal:Str->List Item->Prop
 | _,[]=>True
 | p,i::r=>p∈qC1 i/\Legal (kindOf i) r
theorem qJu:∀ {its:List Item} {s:Rs} {n:Nat} {x:Item},Legal s.last its->its[n]? = some x->((its.take n).foldl stepI s).last∈qC1 x
 | [],_,_,_,_,h=>by simp at h
 | i::r,s,0,x,hl,h=>by cases h;exact hl.1
 | i::r,s,n+1,x,hl,h=>by
  rw [List.take_succ_cons,dH];exact qJu (s:=stepI s i) (by rw [qLi];exact hl.2) (by simpa using h)
theorem qEn{ns:List Int}{rest:List Item}(hr:Legal "end" rest):∀(ds:List Deed) (p:Str),p = "block" \/ p = "deed" -> Legal p (ds.map Item.deed++(Item.fin ns::rest))
 | [],p,h=>⟨by rcases h with rfl | rfl <;> simp [qC1],hr⟩
 | d::ds,p,h=>⟨by rcases h with rfl | rfl <;> simp [qC1],qEn hr ds _ (.inr rfl)⟩
theorem qMt{b:Blk}{rest:List Item}(hr:Legal "end" rest){p:Str}(h:p = "work" \/ p = "end"):Legal p (qAt b++rest):=by
 unfold qAt;rw [List.cons_append,List.append_assoc];exact⟨by rcases h with rfl | rfl <;> simp [qC1],qEn hr b.ds _ (.inl rfl)⟩
theorem qFq{rest:List Item}(hr:Legal "end" rest):∀(bl:List Blk) (p:Str),p = "end" \/ (p = "work" /\ bl ≠ [])->Legal p (bl.flatMap qAt++rest)
 | [],p,h=>by
  rcases h with rfl | ⟨_,h⟩
  ·exact hr
  ·exact absurd rfl h
 | b::bl,p,h=>by
  rw [List.flatMap_cons,List.append_assoc];exact qMt (qFq hr bl "end" (.inl rfl)) (by rcases h with h | h;exact .inr h;exact .inl h.1)
theorem qEm:∀(ws:List (List Blk)) (p:Str),p = "nothing" \/ p = "end" -> (∀w∈ws,w ≠ [])->Legal p (items ws)
 | [],_,_,_=>trivial
 | w::ws,p,h,hw=>by
  show Legal p (qCg w++items ws);unfold qCg;refine⟨by rcases h with rfl | rfl <;> simp [qC1],?_⟩;exact qFq (qEm ws "end" (.inr rfl) λx hx=>hw x (aV _ hx)) w "work" (.inr ⟨rfl,hw w (by simp)⟩)
theorem qFv:∀(ds:List Deed) (s:Rs),∃p,(ds.map Item.deed).foldl stepI s=⟨s.W0,s.cur,s.D++ds,p⟩
 | [],s=>⟨s.last,by simp⟩
 | d::ds,s=>by
  obtain⟨p,e⟩:=qFv ds (stepI s (.deed d));exact⟨p,by rw [bJ,dH,e];simp [stepI]⟩
theorem qPh(b:Blk)(W0:List (List Blk))(c:List Blk)(D:List Deed)(p:Str):(qAt b).foldl stepI ⟨W0,some c,D,p⟩=⟨W0,some (c ++ [b]),b.ds,"end"⟩:=by
 unfold qAt;rw [dH,dQ];obtain⟨q,e⟩:=qFv b.ds (stepI ⟨W0,some c,D,p⟩ .block);rw [e];simp [stepI]
theorem qHq:∀(bl:List Blk) (W0:List (List Blk)) (c:List Blk) (D:List Deed) (p:Str),∃D',(bl.flatMap qAt).foldl stepI ⟨W0,some c,D,p⟩=⟨W0,some (c++bl),D',if bl = [] then p else "end"⟩
 | [],W0,c,D,p=>⟨D,by simp⟩
 | b::bl,W0,c,D,p=>by
  obtain⟨D',e⟩:=qHq bl W0 (c ++ [b]) b.ds "end";exact⟨D',by rw [List.flatMap_cons,dQ,qPh,e];simp⟩
theorem qFu:∀(ws:List (List Blk)) (s:Rs),(∀w∈ws,w ≠ [])->((items ws).foldl stepI s).all=s.all++ws/\(ws ≠ []->((items ws).foldl stepI s).last = "end")
 | [],s,_=>⟨by simp [items],λh=>absurd rfl h⟩
 | w::ws,s,hw=>by
  have e0:items (w::ws)=qCg w++items ws:=rfl;obtain⟨D',e⟩:=qHq w s.all [] s.D "work";have e1:(qCg w).foldl stepI s=⟨s.all,some w,D',"end"⟩:=by
   unfold qCg;rw [dH];show (w.flatMap qAt).foldl stepI ⟨s.all,some [],s.D,"work"⟩=_;rw [e,if_neg (hw w (by simp)),List.nil_append]
  obtain⟨h1,h2⟩:=qFu ws ⟨s.all,some w,D',"end"⟩ λx hx=>hw x (aV _ hx);rw [e0,dQ,e1];refine⟨by rw [h1];simp [Rs.all],λ_=>?_⟩;by_cases c:ws = []
  ·subst c;rfl
  ·exact h2 c
theorem qPi{works:Int}{ws:List (List Blk)}(h:AllOk works ws):((items ws).foldl stepI rs0).all=ws/\((items ws).foldl stepI rs0).last = "end" :=by
 have h1:=h.one;obtain⟨e1,e2⟩:=qFu ws rs0 λw hw z=>by
  obtain⟨m,hm,_,hW⟩:=h.all w hw;have:=hW.len;rw [z] at this;simp at this;lia
 exact⟨by rw [e1];rfl,e2 (λz=>by rw [z] at h1;simp at h1)⟩
mutual
theorem Den.anyK{K:PySem.W.Frag}{G:Hp}:∀ {d:PyData} {v:V},Den [] G d v->Den K G d v
 | .none,_,e=>by simp only [Den] at e ⊢;exact e
 | .bool _,_,e=>by simp only [Den] at e ⊢;exact e
 | .int _,_,e=>by simp only [Den] at e ⊢;exact e
 | .str _,_,e=>by simp only [Den] at e ⊢;exact e
 | .list ds,_,e=>by
  simp only [Den] at e ⊢;obtain⟨a,vs,e1,e2,e3⟩:=e;rcases e2 with e2 | ⟨o,_,_,z,_⟩
  ·exact⟨a,vs,e1,.inl e2,DenL.anyK e3⟩
  ·cases z
 | .tuple ds,_,e=>by
  simp only [Den] at e ⊢;obtain⟨a,vs,e1,e2,e3⟩:=e;rcases e2 with e2 | ⟨o,_,_,z,_⟩
  ·exact⟨a,vs,e1,.inl e2,DenL.anyK e3⟩
  ·cases z
 | .dict _,_,e=>by simp only [Den] at e
theorem DenL.anyK{K:PySem.W.Frag}{G:Hp}:∀ {ds:List PyData} {vs:List V},DenL [] G ds vs->DenL K G ds vs
 | [],_,e=>by simp only [DenL] at e ⊢;exact e
 | d::ds,_,e=>by
  simp only [DenL] at e ⊢;obtain⟨v,r,e1,e2,e3⟩:=e;exact⟨v,r,e1,Den.anyK e2,DenL.anyK e3⟩
end
def Sup(H G G0:Hp)(ts:List Addr):Prop := ∀b o,G0 b=some o->G b=some o/\H b=none/\b∉ts /\ ∀u v,o ≠ .frz u v
def Live(s:Rs):Prop:=s.last = "block" \/ s.last = "deed"
def ReadAt(H G:Hp)(l:Addr)(v:V)(s:Rs):Prop := ∃(as:List Addr) (G0:Hp),(H l=none/\l∉as/\(∀a∈as,H a=none)/\as.Nodup/\G l=some (.lst (as.map V.ref)))/\Sup H G G0 (l::as)/\WorksAt [] G0 G as s.all /\
 (Live s -> ∃dl dv,v = .ref dl/\H dl=none/\dl≠l/\dl∉as/\G0 dl=none/\G dl=some (.lst dv)/\DenL [] G0 (s.D.map deedD) dv)
theorem WorksAt.some{K:PySem.W.Frag}{G H:Hp}{as:List Addr}{ws:List (List Blk)}(h:WorksAt K G H as ws):∀a∈as,∃bs,H a=some (.lst bs):=by
 intro a ha;obtain⟨i,hi,e⟩:=bM ha;obtain⟨w,bs,_,hb,_⟩:=h.get (i:=i) (a:=a) (by rw [aI hi,e]);exact⟨bs,hb⟩
theorem Sup.gone{H G G0:Hp}{ts:List Addr}(h:Sup H G G0 ts){b:Addr}(e:G b=none):G0 b=none:=by
 cases z:G0 b with
 | none=>rfl
 | some o=>rw [(h b o z).1] at e;cases e
theorem ReadAt.ext{H G G':Hp}{l:Addr}{v:V}{s:Rs}(h:ReadAt H G l v s)(k:Same G G'):ReadAt H G' l v s:=by
 obtain⟨as,G0,⟨h1,h2,h3,h4,h5⟩,hS,hW,hL⟩:=h;refine⟨as,G0,⟨h1,h2,h3,h4,k _ _ h5⟩,λb o e=>?_,hW.mono (λ_ _ e=>e) λa _ o e=>k _ _ e,λz=>?_⟩
 ·obtain⟨a1,a2⟩:=hS b o e;exact⟨k _ _ a1,a2⟩
 ·obtain⟨dl,dv,a1,a2,a3,a4,a5,a6,a7⟩:=hL z;exact⟨dl,dv,a1,a2,a3,a4,a5,k _ _ a6,a7⟩
theorem ReadAt.work{H G:Hp}{l:Addr}{v:V}{s:Rs}(h:ReadAt H G l v s)(e:Same H G):∃xs,G l=some (.lst xs)/\xs.length=s.all.length /\ ∀n,G n=none->ReadAt H (upd (upd G n (.lst [])) l (.lst (xs ++ [.ref n]))) l v (stepI s .work):=by
 obtain⟨as,G0,⟨h1,h2,h3,h4,h5⟩,hS,hW,hL⟩:=h;refine⟨_,h5,by rw [aB,hW.len],λn hn=>?_⟩;have nnl:n≠l:=(qA2 h5 hn).symm;have nas:n∉as:=λz=>by obtain⟨bs,q⟩:=hW.some n z;rw [hn] at q;cases q
 have hnH:H n=none:=by
  cases z:H n with
  | none=>rfl
  | some o=>rw [e _ _ z] at hn;cases hn
 have key:∀b o,b≠l->b≠n->G b=some o->(upd (upd G n (.lst [])) l (.lst (as.map V.ref ++ [.ref n]))) b=some o:=λb o hb hb2 q=>by rw [qA5 hb,qA5 hb2];exact q
 refine⟨as ++ [n],G0,⟨h1,by simp [h2,nnl.symm],λa ha=>?_,?_,by rw [qA1,aQ];rfl⟩,λb o q=>?_,?_,λz=>by rcases z with z | z <;> (have z:(Str.ofString "work")=_:=z;exfalso;revert z;decide)⟩
 ·rcases aP.mp ha with z | z
  ·exact h3 a z
  ·rw [aO.mp z];exact hnH
 ·exact cU.mpr ⟨h4,by simp,by intro x hx y hy;simp at hy;subst hy;intro z;subst z;exact nas hx⟩
 ·obtain⟨a1,a2,a3,a4⟩:=hS b o q;have hb1:b≠l:=λz=>a3 (by simp [z]);have hb2:b≠n:=λz=>by rw [z,hn] at a1;cases a1
  exact⟨key b o hb1 hb2 a1,a2,by
   intro z;rcases aJ.mp z with z | z
   ·exact hb1 z
   ·rcases aP.mp z with z | z
    ·exact a3 (by simp [z])
    ·exact hb2 (aO.mp z),a4⟩
 ·refine (WorksAt.snoc (w :=[]) (bs :=[]) (hW.mono (λ_ _ q=>q) λa ha o q=>key a o (λz=>h2 (z▸ha)) (λz=>nas (z▸ha)) q) ?_ .nil);rw [qA5 nnl,qA1]
theorem ReadAt.block{H G:Hp}{l:Addr}{v:V}{s:Rs}{n:Addr}(h:ReadAt H G l v s)(e:Same H G)(hn:G n=none):ReadAt H (upd G n (.lst [])) l (.ref n) (stepI s .block):=by
 obtain⟨as,G0,⟨h1,h2,h3,h4,h5⟩,hS,hW,hL⟩:=h;have key:Same G (upd G n (.lst [])):=λb o q=>by rw [qA5 (qA2 q hn)];exact q
 have hnH:H n=none:=by
  cases z:H n with
  | none=>rfl
  | some o=>rw [e _ _ z] at hn;cases hn
 refine⟨as,G0,⟨h1,h2,h3,h4,key _ _ h5⟩,λb o q=>⟨key _ _ (hS b o q).1,(hS b o q).2⟩,hW.mono (λ_ _ q=>q) λa _ o q=>key _ _ q,λ_=>⟨n,[],rfl,hnH,(qA2 h5 hn).symm,λz=>?_,hS.gone hn,qA1,.nil⟩⟩;obtain⟨bs,q⟩:=hW.some n z;rw [hn] at q;cases q
theorem Same.gone{G G':Hp}(h:Same G G'){b:Addr}(e:G' b=none):G b=none:=by
 cases z:G b with
 | none=>rfl
 | some o=>rw [h _ _ z] at e;cases e
theorem Sup.add{H G G0:Hp}{ts:List Addr}{p:Addr}{o:HO}(h:Sup H G G0 ts)(h1:G p=some o)(h2:H p=none)(h3:p∉ts)(h4:∀u v,o ≠ .frz u v):Sup H G (upd G0 p o) ts:=by
 intro b u e;by_cases c:b=p
 ·subst c;rw [qA1] at e;cases e;exact⟨h1,h2,h3,h4⟩
 ·rw [qA5 c] at e;exact h b u e
theorem Sup.keep{H G G' G0:Hp}{ts:List Addr}(h:Sup H G G0 ts)(k:∀b o,G0 b=some o->G b=some o->G' b=some o):Sup H G' G0 ts:=λb o e=>by
 obtain⟨a1,a2⟩:=h b o e;exact⟨k b o e a1,a2⟩
theorem ReadAt.deed{H G G':Hp}{l p:Addr}{v:V}{s:Rs}{d:Deed}(h:ReadAt H G l v s)(hv:Live s)(e:Same H G)(k:Same G G')(hp:G p=none)(hp':G' p=some (.tup (.str (qD1 d)::(qBj d).map V.int))):∃dl dv,v = .ref dl/\H dl=none/\G' dl=some (.lst dv)/\dv.length=s.D.length/\ReadAt H (upd G' dl (.lst (dv ++ [.ref p]))) l v (stepI s (.deed d)):=by
 obtain⟨as,G0,⟨h1,h2,h3,h4,h5⟩,hS,hW,hL⟩:=h;obtain⟨dl,dv,rfl,a2,a3,a4,a5,a6,a7⟩:=hL hv;have hl:=a7.len;rw [aB] at hl;have npd:p≠dl:=(qA2 a6 hp).symm;have npl:p≠l:=(qA2 h5 hp).symm;have nas:p∉as:=λz=>by obtain⟨bs,q⟩:=hW.some p z;rw [hp] at q;cases q
 have g0p:G0 p=none:=hS.gone hp;have same0:Same G0 (upd G0 p (.tup (.str (qD1 d)::(qBj d).map V.int))):=λb o q=>by rw [qA5 (qA2 q g0p)];exact q
 have key:∀b o,b≠dl->G b=some o->(upd G' dl (.lst (dv ++ [.ref p]))) b=some o:=λb o hb q=>by rw [qA5 hb];exact k _ _ q
 refine⟨dl,dv,rfl,a2,k _ _ a6,hl,as,upd G0 p (.tup (.str (qD1 d)::(qBj d).map V.int)),⟨h1,h2,h3,h4,key _ _ (dS a3) h5⟩,?_,hW.mono same0 λa ha o q=>key a o (λz=>a4 (z▸ha)) q,λ_=>⟨dl,_,rfl,a2,a3,a4,by rw [qA5 npd.symm];exact a5,qA1,?_⟩⟩
 ·refine Sup.add (hS.keep λb o q q'=>key b o (λz=>by rw [z,a5] at q;cases q) q') (by rw [qA5 npd];exact hp') (e.gone hp) (by simp [npl,nas]) (λu v z=>by cases z)
 ·show DenL [] _ ((s.D ++ [d]).map deedD) _;rw [aQ];refine DenL.append (a7.mono same0) (.cons ?_ .nil);rw [qE9];exact .tuple (SqT.of qA1) (.cons .str (DenL.ofInts _))
theorem qEz{α β : Type}{R : α -> β -> Prop}:∀ {as:List α} {bs:List β} {b : β},Paired R as (bs ++ [b]) -> ∃as' a,as=as' ++ [a]/\Paired R as' bs/\R a b
 | _,[],b,.cons h .nil=>⟨[],_,rfl,.nil,h⟩
 | _,x::bs,b,.cons h r=>by
  obtain⟨as',a,e,p,q⟩:=qEz r;exact⟨_::as',a,by rw [e];rfl,.cons h p,q⟩
theorem ReadAt.fin{H G G':Hp}{l p:Addr}{v:V}{s:Rs}{c:List Blk}{ns:List Int}(h:ReadAt H G l v s)(hv:Live s)(hc:s.cur=some c)(hf:ns.length<=2)(e:Same H G)(k:Same G G')(hp:G p=none)(hp':G' p=some (.tup (.str (endW ns)::ns.map V.int))):∃xs a bs dl,v = .ref dl/\H a=none/\G' l=some (.lst (xs ++ [.ref a]))/\G' a=some (.lst bs)/\bs.length=c.length /\ ∀q,G' q=none->ReadAt H (upd (upd G' q (.tup [.ref dl,.ref p])) a (.lst (bs ++ [.ref q]))) l v (stepI s (.fin ns)):=by
 obtain⟨as,G0,⟨h1,h2,h3,h4,h5⟩,hS,hW,hL⟩:=h;obtain⟨dl,dv,rfl,a2,a3,a4,a5,a6,a7⟩:=hL hv;have eall:s.all=s.W0 ++ [c]:=by unfold Rs.all;rw [hc];rfl
 rw [eall] at hW;have nas:p∉as:=λz=>by obtain⟨bs,q⟩:=hW.some p z;rw [hp] at q;cases q
 obtain⟨as',a,rfl,hW',bs,hb,hden⟩:=qEz hW;have hW':WorksAt [] G0 G as' s.W0:=hW';have hbl:=hden.len;rw [aB] at hbl;refine⟨as'.map V.ref,a,bs,dl,rfl,h3 a (by simp),by rw [k _ _ h5,aQ];rfl,k _ _ hb,hbl,λq hq=>?_⟩;have hqG:=k.gone hq;have npd:p≠dl:=(qA2 a6 hp).symm;have npl:p≠l:=(qA2 h5 hp).symm;have nqp:q≠p:=(qA2 hp' hq).symm;have nqd:q≠dl:=(qA2 a6 hqG).symm;have nql:q≠l:=(qA2 h5 hqG).symm;have nqa:q≠a:=(qA2 hb hqG).symm;have npa:p≠a:=(qA2 hb hp).symm;have nqas:q∉as' ++ [a]:=λz=>by obtain⟨bs,y⟩:=hW.some q z;rw [hqG] at y;cases y
 have nda:dl≠a:=λz=>a4 (by simp [z]);have nla:l≠a:=λz=>h2 (by simp [z]);have g0p:G0 p=none:=hS.gone hp;have g0q:G0 q=none:=hS.gone hqG;have key:∀b o,b≠a->G' b=some o->(upd (upd G' q (.tup [.ref dl,.ref p])) a (.lst (bs ++ [.ref q]))) b=some o:=λb o hb y=>by
  rw [qA5 hb,qA5 (qA2 y hq)];exact y
 have qat:(upd (upd G' q (.tup [.ref dl,.ref p])) a (.lst (bs ++ [.ref q]))) q=some (.tup [.ref dl,.ref p]):=by rw [qA5 nqa,qA1]
 have s1:Same G0 (upd G0 p (.tup (.str (endW ns)::ns.map V.int))):=λb o y=>by rw [qA5 (qA2 y g0p)];exact y
 have s2:Same (upd G0 p (.tup (.str (endW ns)::ns.map V.int))) (upd (upd G0 p (.tup (.str (endW ns)::ns.map V.int))) dl (.lst dv)):=λb o y=>by
  rw [qA5 (qA2 y (by rw [qA5 npd.symm];exact a5))];exact y
 have s3:Same (upd (upd G0 p (.tup (.str (endW ns)::ns.map V.int))) dl (.lst dv)) (upd (upd (upd G0 p (.tup (.str (endW ns)::ns.map V.int))) dl (.lst dv)) q (.tup [.ref dl,.ref p])):=λb o y=>by
  rw [qA5 (qA2 y (by rw [qA5 nqd,qA5 nqp];exact g0q))];exact y
 have dlAt:(upd (upd (upd G0 p (.tup (.str (endW ns)::ns.map V.int))) dl (.lst dv)) q (.tup [.ref dl,.ref p])) dl=some (.lst dv):=by rw [qA5 nqd.symm,qA1]
 have pAt:(upd (upd (upd G0 p (.tup (.str (endW ns)::ns.map V.int))) dl (.lst dv)) q (.tup [.ref dl,.ref p])) p=some (.tup (.str (endW ns)::ns.map V.int)):=by rw [qA5 nqp.symm,qA5 npd,qA1]
 refine⟨as' ++ [a],upd (upd (upd G0 p (.tup (.str (endW ns)::ns.map V.int))) dl (.lst dv)) q (.tup [.ref dl,.ref p]),⟨h1,h2,h3,h4,key _ _ nla (k _ _ h5)⟩,?_,?_,λz=>by rcases z with z | z <;> (have z:(Str.ofString "end")=_:=z;exfalso;revert z;decide)⟩
 ·refine Sup.add (Sup.add (Sup.add (hS.keep λb o y y'=>key b o (λz=>?_) (k _ _ y')) (key _ _ npa hp') (e.gone hp) (by simp only [aJ,not_or];exact⟨npl,nas⟩) (λu v z=>by cases z)) (key _ _ nda (k _ _ a6)) a2 (by simp only [aJ,not_or];exact⟨a3,a4⟩) (λu v z=>by cases z)) qat (e.gone hqG) (by simp only [aJ,not_or];exact⟨nql,nqas⟩) (λu v z=>by cases z);exact (hS b o y).2.2.1 (by simp [z])
 ·have ea:(stepI s (.fin ns)).all=s.W0 ++ [c ++ [⟨s.D,ns⟩]]:=by
   show s.W0++(s.cur.map (· ++ [⟨s.D,ns⟩])).toList=_;rw [hc];rfl
  rw [ea];refine WorksAt.snoc (bs:=bs ++ [.ref q]) (hW'.mono ((s1.trans s2).trans s3) λb hb' o y=>key b o (λz=>?_) (k _ _ y)) qA1 ?_
  ·have hd:=cU.mp h4;exact hd.2.2 b hb' a (by simp) z
  ·rw [aQ];refine DenL.append (hden.mono ((s1.trans s2).trans s3)) (.cons ?_ .nil);refine .tuple (SqT.of qA1) (.cons (.list (SqL.of dlAt) (a7.mono ((s1.trans s2).trans s3))) (.cons ?_ .nil));rw [qGp hf];exact .tuple (SqT.of pAt) (.cons .str (DenL.ofInts _))
def Rs.size(s:Rs):Nat:=s.all.length+s.D.length+(s.cur.getD []).length
theorem qLh(s:Rs)(i:Item):(stepI s i).size<=s.size+1:=by
 unfold Rs.size Rs.all;cases i with
 | work=>simp [stepI,Rs.all];lia
 | block=>simp [stepI];lia
 | deed d=>simp [stepI];lia
 | fin ns=>cases h:s.cur <;> simp [stepI,h] <;> lia
theorem qHp:∀(its:List Item) (s:Rs),(its.foldl stepI s).size<=s.size+its.length
 | [],s=>by simp
 | i::its,s=>by
  rw [dH,bA];have:=qHp its (stepI s i);have:=qLh s i;lia
def qCk(K:PySem.W.Frag):Sp:=λvs H Q _ => ∃(a:Addr) (ws:List (List Blk)) (works:Int),vs = [.ref a]/\SqL K H a ((rows ws).map V.str)/\AllOk works ws/\works<=100 /\ ∀l v s H',Ext [] H H'->ReadAt H H' l v s->s.all=ws->Q (.ref l) H'
def qD7:Sp:=λvs H Q _ => ∃(ws:List (List Blk)),vs = [.str (qEb ws)]/\AllOk (ws.length:Int) ws/\(∀w∈ws,Led w) /\ ∀l v s H',Ext [] H H'->ReadAt H H' l v s->s.all=ws->Q (.ref l) H'
theorem ReadAt.den{K:PySem.W.Frag}{H G:Hp}{l:Addr}{v:V}{s:Rs}(h:ReadAt H G l v s):Den K G (.list (s.all.map workD)) (.ref l):=by
 obtain⟨as,G0,⟨h1,h2,h3,h4,h5⟩,hS,hW,hL⟩:=h;refine .list (SqL.of h5) ?_;have k:Same G0 G:=λb o e=>(hS b o e).1;clear hL hS h4 h3 h2 h1 h5;generalize s.all=ws at hW;unfold WorksAt at hW
 induction hW with
 | nil=>exact .nil
 | cons hd _ ih =>
  obtain⟨bs,hb,hden⟩:=hd;exact .cons (.list (SqL.of hb) (hden.mono k).anyK) ih
theorem ReadAt.less{H H0 G:Hp}{l:Addr}{v:V}{s:Rs}(h:ReadAt H0 G l v s)(k:Same H H0):ReadAt H G l v s:=by
 obtain⟨as,G0,⟨h1,h2,h3,h4,h5⟩,hS,hW,hL⟩:=h;refine⟨as,G0,⟨k.gone h1,h2,λa ha=>k.gone (h3 a ha),h4,h5⟩,λb o e=>?_,hW,λz=>?_⟩
 ·obtain⟨a1,a2,a3⟩:=hS b o e;exact⟨a1,k.gone a2,a3⟩
 ·obtain⟨dl,dv,a1,a2,a3⟩:=hL z;exact⟨dl,dv,a1,k.gone a2,a3⟩
theorem qRh{xs:List V}{x:V}:atI (xs ++ [x]) (-1)=some x:=by
 unfold atI ixN;rw [if_neg (by decide),if_pos (by simp;lia)];show (xs ++ [x])[(-1+((xs ++ [x]).length:Int)).toNat]? = some x;rw [show (-1+((xs ++ [x]).length:Int)).toNat=xs.length by simp;lia];simp
theorem qFp{s:Rs}{i:Item}(h:s.last∈qC1 i)(hi:(∃d,i = .deed d) \/ ∃ns,i = .fin ns):Live s:=by
 rcases hi with ⟨d,rfl⟩ | ⟨d,rfl⟩ <;> (simp [qC1] at h;exact h)
theorem qEo{s:Rs}{i:Item}(h:s.last∈qC1 i)(hc:s.cur=none->s.last = "nothing")(hi:i ≠ .work):∃c,s.cur=some c:=by
 cases z:s.cur with
 | some c=>exact⟨c,rfl⟩
 | none =>
  rw [hc z] at h;cases i with
  | work=>exact absurd rfl hi
  | block=>exfalso;revert h;simp only [qC1];decide
  | deed d=>exfalso;revert h;simp only [qC1];decide
  | fin ns=>exfalso;revert h;simp only [qC1];decide
theorem Sup.lst{H G G0:Hp}{ts:List Addr}{a:Addr}{xs:List V}(h:Sup H G G0 ts)(e:SqL [] G0 a xs):G a=some (.lst xs)/\H a=none/\a∉ts:=by
 rcases e with (e | ⟨o,e⟩) | ⟨o,_,_,z,_⟩
 ·obtain⟨a1,a2,a3,_⟩:=h _ _ e;exact⟨a1,a2,a3⟩
 ·exact absurd rfl ((h _ _ e).2.2.2 o (.lst xs))
 ·cases z
theorem Sup.tup{H G G0:Hp}{ts:List Addr}{a:Addr}{xs:List V}(h:Sup H G G0 ts)(e:SqT [] G0 a xs):G a=some (.tup xs)/\H a=none/\a∉ts:=by
 rcases e with (e | ⟨o,e⟩) | ⟨o,_,_,z,_⟩
 ·obtain⟨a1,a2,a3,_⟩:=h _ _ e;exact⟨a1,a2,a3⟩
 ·exact absurd rfl ((h _ _ e).2.2.2 o (.tup xs))
 ·cases z
theorem ReadAt.first{works:Int}{H G:Hp}{l:Addr}{v:V}{s:Rs}(h:ReadAt H G l v s)(hok:AllOk works s.all):∃a0 b0 d0 rest brest ve dvs,G l=some (.lst (.ref a0::rest))/\H l=none/\G a0=some (.lst (.ref b0::brest))/\G b0=some (.tup [.ref d0,ve])/\G d0=some (.lst dvs)/\H d0=none/\d0≠l/\dvs.length<=20:=by
 obtain⟨as,G0,⟨h1,h2,h3,h4,h5⟩,hS,hW,_⟩:=h;have hone:=hok.one;have hal:=hW.len;obtain _ | ⟨a0,as'⟩:=as
 ·simp at hal;lia
 obtain⟨w,bs,hw,hb,hden⟩:=hW.get (i:=0) (a:=a0) rfl;obtain⟨m,hm,_,hWk⟩:=hok.all w (aL hw);have hwl:=hWk.len;obtain _ | ⟨b,w'⟩:=w
 ·simp at hwl;lia
 obtain⟨vb,r,rfl,hDb,_⟩:=hden.ofCons;obtain⟨b0,ts,rfl,hT,hTs⟩:=hDb.ofTuple;obtain⟨vd,r1,rfl,hd1,hr1⟩:=hTs.ofCons;obtain⟨ve,r2,rfl,hd2,hr2⟩:=hr1.ofCons;have hr3:=hr2.ofNil;subst hr3;obtain⟨d0,dvs,rfl,hdl,hdvs⟩:=hd1.ofList;obtain⟨t1,t2,t3⟩:=hS.tup hT;obtain⟨l1,l2,l3⟩:=hS.lst hdl;have hlen:=hdvs.len;rw [aB] at hlen;have:=(hWk.blk b (by simp)).few;exact⟨a0,b0,d0,as'.map V.ref,r,ve,dvs,h5,h1,hb,t1,l1,l2,λz=>l3 (by simp [z]),by lia⟩
theorem qIw{K:PySem.W.Frag}{a:Addr}{D:List (Str×V)}{o:Obj}{es:Array DictEntry}{ep:Nat}(h1:(a == sysModules)=false)(h2:K.lookup a=some o)(h3:o.ExactDict)(h4:o.data = .dict es ep)(h5:KTD.Rows RelV es.toList D):TabK K a D:=⟨h1,o,es,ep,h2,h3,h4,h5⟩
theorem qOp{K:PySem.W.Frag}{dp b1 b2 b3 b4 b5 b6:Addr}(T:TabK K dp [("set",.ref b1),("add",.ref b2),("tell",.ref b3),("call",.ref b4),("save",.ref b5),("back",.ref b6)])
  (t1:TupK K b1 [.str "box",.str "number"]) (t2:TupK K b2 [.str "box",.str "box"]) (t3:TupK K b3 [.str "box"]) (t4:TupK K b4 [.str "work"]) (t5:TupK K b5 [.str "box"]) (t6:TupK K b6 [.str "box"]):Parts K dp:=⟨b1,b2,b3,b4,b5,b6,T,t1,t2,t3,t4,t5,t6⟩
theorem qLs{K:PySem.W.Frag}{rp b1 b2 b3 b4 b5 b6 b7 b8 b9 b10 b11:Addr}(T:TabK K rp [("work",.ref b1),("block",.ref b2),("set",.ref b3),("add",.ref b4),("tell",.ref b5),("call",.ref b6),("save",.ref b7),("back",.ref b8),("out",.ref b9),("go",.ref b10),("fork",.ref b11)])
  (t1:TupK K b1 []) (t2:TupK K b2 []) (t3:TupK K b3 [.str "BOX",.str "N"]) (t4:TupK K b4 [.str "BOX",.str "OTHER"]) (t5:TupK K b5 [.str "BOX"]) (t6:TupK K b6 [.str "WORK"]) (t7:TupK K b7 [.str "BOX"]) (t8:TupK K b8 [.str "BOX"]) (t9:TupK K b9 []) (t10:TupK K b10 [.str "TO"]) (t11:TupK K b11 [.str "TO",.str "OTHER"]):RowTab K rp :=
 ⟨b1,b2,b3,b4,b5,b6,b7,b8,b9,b10,b11,T,t1,t2,t3,t4,t5,t6,t7,t8,t9,t10,t11⟩
theorem qNo{K:PySem.W.Frag}{bh b1 b2 b3 b4:Addr}(T:TabK K bh [("work",.ref b1),("block",.ref b2),("deed",.ref b3),("end",.ref b4)])(t1:TupK K b1 [.str "nothing",.str "end"])(t2:TupK K b2 [.str "work",.str "end"])(t3:TupK K b3 [.str "block",.str "deed"])(t4:TupK K b4 [.str "block",.str "deed"]):Behind K bh:=⟨b1,b2,b3,b4,T,t1,t2,t3,t4⟩
theorem qPp{ws:List (List Blk)}(h:AllOk (ws.length:Int) ws):WsOk ws:=⟨h.all,h.one,by have:=h.few;lia⟩
end L2
local macro_rules | `(tactic| walk_at "qa") => `(tactic| first | refine L2.qTc ?_ | refine L2.qS3 ?_ | refine L2.qH6 ?_ | refine L2.qRy ?_ | refine L2.qJb ?_ | refine L2.qJ7 ?_)
local macro_rules | `(tactic| walk_at "qb") => `(tactic| first | refine L2.qJ2 ?_ | refine L2.qSx ?_ | refine L2.qQm ?_ | refine L2.qJ9 ?_ | refine L2.qKf ?_ | refine L2.qFi ?_ | refine L2.qO3 ?_ | refine L2.qO9 ?_ | refine L2.qJf ?_ | refine L2.qT1 ?_ | refine L2.qOa ?_ | refine L2.qSw ?_ | refine L2.r_u ?_ | refine L2.qOf ?_ | refine L2.qSz ?_ | refine L2.qO6 ?_ | refine L2.qO5 ?_ | refine L2.r_c ?_ | refine L2.qT0 ?_ | refine L2.qRk ?_ | refine L2.qOe ?_ | refine L2.qH7 ?_ | refine L2.qEi ?_ | refine L2.qGb ?_ | refine L2.qGc ?_ | refine L2.qJ8 ?_ | refine L2.qJ4 ?_ | refine L2.qOc ?_ | refine L2.qOd ?_ | refine L2.qE4 ?_ | refine L2.qJd ?_ | refine L2.qGe ?_ | refine L2.qJc ?_ | refine L2.qJg ?_ | refine L2.qJ5 ?_ | refine L2.qJj ?_ | refine L2.qJi ?_ | refine L2.qGd ?_ | refine L2.qJa ?_ | refine L2.qSy ?_ | refine L2.qO7 ?_ | refine L2.qJ6 ?_ | refine L2.qGa (by with_unfolding_all rfl) ?_ | refine L2.qBo (by assumption) (by with_unfolding_all rfl) ?_ | refine L2.qLz (by assumption) (by with_unfolding_all rfl) ?_)
local macro_rules | `(tactic| walk_at "rd") => `(tactic| repeat (with_reducible first | refine L2.qO4 ?_ | walk_at "qa" | refine L2.qT5 ?_ | walk_at "qb"))
namespace Fs
open PySem L2
def top(i:Nat):Stmt:=PySem.Challenge.pw_fewsaves_k50_works_written.main.body.getD i (.Pass ⟨0,0,0,0⟩)
abbrev sDraw:Stmt:=top 40
section
variable{P:Program}{w:World}{K:PySem.W.Frag}{mg:Str->Option Value}{base:Heap}
theorem scDraw:FnScope ["_law_tape_here","_law_many_here","_law_found","_law_once","_law_twice"] ["_law_tape_here","_law_many_here"] (qA7 sDraw):=⟨rfl,rfl,rfl,by decide +kernel,rfl,by decide +kernel,by decide +kernel⟩
theorem qR6{f:Addr}{fd:FuncData}(F:Fun K "_law_draw" "_law_draw" sDraw f fd):FnOk P w K mg base CX0 1 f fd ["_law_tape_here","_law_many_here"] qCl:=by
 refine F.ok scDraw (λvs H Q E h=>?_) (λcdv A outer s H vs Q E hr h=>?_)
 ·refine hide λG_ hG_=>?_;obtain⟨t,k,n,rfl,_⟩:=h;refine hG_ ?_;rfl
 ·refine hide λG_ hG_=>?_;obtain⟨t,k,n,rfl,⟨a,b,c,ht,ha,hb,hb2,hc,hc2⟩,hk,hn,hn2,q⟩:=h;refine hG_ ?_
  refine⟨_,qA4 (qBc (qAa qOq (qB3 qAm (pv 0) qA6 (λ_ _=>rfl)) qA6 (qAi _))
    (qA4 (qAg (i:=2) scDraw.nd rfl (Or.inl rfl) (qAp qDh (qB3 qAm (pv 0) qA6 (λ_ _=>rfl)) (pv 1)))
    (qA4 (qJm (qAp qMe (qB3 qAm (pv 0) qA6 (λ_ _=>rfl)) (pv 1)) (qQ0 (pv 0) qA6 qIz))
    (qA8 (qAc (pv 2))))) qAl)
   (qA4 (qJm (qAp qB7 (qB3 qAm (pv 0) qA6 (λ_ _=>rfl)) qA6) (qQ0 (pv 0) qA6 qIz))
   (qA4 (qAg (i:=3) scDraw.nd rfl (Or.inl rfl) (qAp qDh (qAp qHd (qAp qB7 (qB3 qAm (pv 0) qA6 (λ_ _=>rfl)) (qAp qHf qA6 (qB3 qAm (pv 0) qA6 (λ_ _=>rfl)))) qA6) qA6))
   (qA4 (qAg (i:=4) scDraw.nd rfl (Or.inl rfl) (qAp qDh (qAp qHf (qAp qB7 (pv 3) (qB3 qAm (pv 0) qA6 (λ_ _=>rfl))) (qAp qB7 (qAp qB7 (qAp qDh (pv 3) qA6) qA6) (qB3 qAm (pv 0) qA6 (λ_ _=>rfl)))) qA6))
   (qA8 (qAc (qAp qDh (qAp qMe (qAp qDh (qAp qB7 (qAp qHf (pv 4) qA6) (pv 3)) qA6) qA6) (pv 1))))))),?_⟩
  dsimp only [qBf];have hS:SqL K H t [.int a,.int b,.int c]:=SqL.of ht;walk_at "rd";refine ite2 (λg=>?_) (λg=>?_)
  ·walk_at "rd";refine qEh hn ?_;walk_at "rd";refine qS2 hn (by lia) ?_;walk_at "rd";refine qPx (n:=0) ht rfl ?_;walk_at "rd";exact q _ _ (dJ _ (by lia)) (cO _ hn) ⟨a / n,b,c,qA1,Int.ediv_nonneg ha (by lia),hb,hb2,hc,by lia⟩ (.put (by simp)) (λb hb=>qA5 hb)
  ·walk_at "rd";refine qPx (n:=2) ht rfl ?_;have hS':SqL K (upd H t (.lst ([V.int a,V.int b,V.int c].set 2 (.int (c+1))))) t [.int a,.int b,.int (c+1)]:=SqL.of qA1;walk_at "rd";refine qIc (.inl ⟨by decide,by decide⟩) ?_;walk_at "rd";refine qKe (by decide) (by decide) (by lia) ?_;walk_at "rd";refine qEh (by decide) ?_;generalize ho:(b+39373*(c+1))^(5:Int).toNat%2147483647=o;have ho1:0<=o:=by rw [<-ho];exact dJ _ (by decide)
   have ho2:o<2147483647:=by rw [<-ho];exact cO _ (by decide)
   walk_at "rd";refine qEh (by decide) ?_;have hm1:0<=o%40009:=dJ _ (by decide);have hm2:o%40009<40009:=cO _ (by decide);walk_at "rd";refine qIc (.inl ⟨by lia,by lia⟩) ?_;walk_at "rd";refine qEh (by decide) ?_;generalize hp:(o+(c+1))*(o%40009+7+(c+1))%2147483629=p2;have hp1:0<=p2:=by rw [<-hp];exact dJ _ (by decide)
   have hp2:p2<2147483629:=by rw [<-hp];exact cO _ (by decide)
   walk_at "rd";refine qIc (.inl ⟨by lia,by lia⟩) ?_;walk_at "rd";refine qEh (by decide) ?_;walk_at "rd";refine qS2 (by decide) (by decide) ?_;walk_at "rd";refine qEh hn ?_;exact q _ _ (dJ _ (by lia)) (cO _ hn) ⟨a,b,c+1,qA1,ha,hb,hb2,by lia,by lia⟩ (.put (by simp)) (λb hb=>qA5 hb)
end
end Fs
local macro_rules | `(tactic| walk_at "re") => `(tactic| repeat (with_reducible first | refine L2.qO4 ?_ | walk_at "qa" | refine L2.qBb (by assumption) ?_ | refine L2.qPf (by assumption) ?_ | refine L2.qT5 ?_ | walk_at "qb"))
namespace Fs
open PySem L2
section
variable{P:Program}{w:World}{K:PySem.W.Frag}{mg:Str->Option Value}{base:Heap}
theorem qB4{D:Ends}{σ : St}{H5:Hp}{l d p:Addr}{vs:List V}{kvs:List (Key×V)}{ns:List Int}(h2 : σ[2]? = some (some (.ref l)))(h3 : σ[3]? = some (some (.ref d)))(h7 : σ[7]? = some (some (.ref p)))(hl:H5 l=some (.lst vs))(hd:H5 d=some (.dK kvs))(hp:H5 p=some (.lst (ns.map V.int)))(hz:vs.length<1000)(hz2:kvs.length<=900)(hn:ns.length<=2)(npl:p≠l)(q:∀H6 kvs',H6 l=some (.lst (vs ++ [.ref p]))->H6 d=some (.dK kvs')->kvs'.length<=kvs.length+2->(∀n:Int,valV kvs' (Sum.inl n)≠none->valV kvs (Sum.inl n)≠none\/n∈ns)->Ext [l,d] H5 H6->D.nx σ H6):tSeq (tDrop (tBM K "list" qGf (tVar 2) (tCons (tVar 7) tNil))) (tDrop (tBM K "dict" qM1 (tVar 3) (tCons (tComp ["_law_one"] [] (.lst []) (iList K (tVar 7)) (gName 0) [] (eApp (tTup (tCons (tVar 0) (tCons (tC (.bl true)) tNil))))) tNil))) D σ H5:=by
 have nld:l≠d:=qKq hl hd (by intro z;cases z);have npd:p≠d:=qKq hp hd (by intro z;cases z);refine qO4 (qJb (qRk (qGa h2 (qBr hl (qFi (qGa h7 (qKf (qC3 hl (qAh (by lia)) ?_))))))));generalize hH6:upd H5 l (.lst (vs ++ [.ref p]))=H6;have l6:H6 l=some (.lst (vs ++ [.ref p])):=by rw [<-hH6,qA1]
 have d6:H6 d=some (.dK kvs):=by rw [<-hH6,qA5 nld.symm];exact hd
 have p6:H6 p=some (.lst (ns.map V.int)):=by rw [<-hH6,qA5 npl];exact hp
 have e6:Ext [l,d] H5 H6:=by rw [<-hH6];exact .put (by simp)
 refine qJb (qRk (qGa h3 (qT4 d6 (qFi (qH7 (qEi (qGa h7 ⟨p,rfl,⟨_,SqL.of p6⟩,λl2 hl2=>?_⟩)))))));have n2p:p≠l2:=qA2 p6 hl2;refine qC7 (xs:=ns.map V.int) (λj σ' H'=>(∃o,σ' = [o])/\Ext [l2] H6 H' /\ ∃items,H' l2=some (.lst items)/\PairsAt H' items ((ns.take j).map λn=>((Sum.inl n:Key),V.bl true)))
  ⟨⟨none,rfl⟩,.laid hl2,[],qA1,.nil⟩ (λj σ' H' _ ⟨_,e,_⟩=>SqL.of (e _ _ (by simpa using n2p) p6)) ?_ ?_
 ·rintro j x σ' H' R hx ⟨⟨o,rfl⟩,e,items,hi,pr⟩ hR;obtain⟨n,hnj,rfl⟩:∃n,ns[j]? = some n/\x=V.int n:=by
   rw [bC] at hx;cases z:ns[j]? with
   | none=>rw [z] at hx;cases hx
   | some n=>rw [z] at hx;exact⟨n,rfl,(bF hx).symm⟩
  walk_at "re";refine iteT ?_;walk_at "re";refine⟨len2 (by show 2<=1000;decide),λp2 hp2=>?_⟩;have n22:l2≠p2:=qA2 hi hp2;have hlen:items.length<=2:=by
   have:=cV pr;rw [aB,bN] at this;lia
  refine⟨items,by rw [qA5 n22];exact hi,qAh (by lia),hR _ _ ⟨⟨_,rfl⟩,?_,items ++ [.ref p2],qA1,?_⟩⟩
  ·exact e.trans ((Ext.laid hp2).trans (.put (by simp)))
  ·have hj:(ns.take (j+1))=ns.take j ++ [n]:=by rw [bO,hnj];rfl
   rw [hj,aQ];refine Paired.snoc (PairsAt.mono (λb ys e=>?_) pr) ⟨p2,rfl,?_⟩
   ·rw [qA5 (qKq e hi (by intro z;cases z)),qA5 (qA2 e hp2)];exact e
   ·rw [qA5 n22.symm,qA1];rfl
 ·rintro σ' H' ⟨_,e,items,hi,pr⟩;rw [aB,cM] at pr;have n2d:d≠l2:=qA2 d6 hl2;have n2l:l≠l2:=qA2 l6 hl2;have hmore:=cV pr;rw [aB] at hmore;refine qKf ⟨d,l2,kvs,items,_,rfl,rfl,e _ _ (by simpa using n2d) d6,hi,pr,len2 (by rw [aB];lia),?_⟩;have hml:=qDi (ns.map λn=>((Sum.inl n:Key),V.bl true)) kvs;rw [aB] at hml;refine q _ _ (by rw [qA5 nld];exact e _ _ (by simpa using n2l) l6) qA1 (by lia) (qFn ns kvs) ?_;exact e6.trans (((e.drop hl2).mono (by simp)).trans (.put (by simp)))
abbrev qFb:Stmt:=top 41
theorem scNexts:FnScope ["_law_tape_here","_law_many_here","_law_found","_law_led","_law_k","_law_way","_law_other","_law_some"] ["_law_tape_here","_law_many_here"] (qA7 qFb):=⟨rfl,rfl,rfl,by decide +kernel,rfl,by decide +kernel,by decide +kernel⟩
theorem qOw{f:Addr}{fd:FuncData}(F:Fun K "_law_nexts" "_law_nexts" qFb f fd)(nrange:mg "range" = none)(nmax:mg "max" = none)(hD:Has P w K mg base "_law_draw" 1 ["_law_tape_here","_law_many_here"] qCl):FnOk P w K mg base CX0 2 f fd ["_law_tape_here","_law_many_here"] (qG2 K):=by
 refine F.ok scNexts (λvs H Q E h=>?_) (λcdv A outer s H vs Q E hr h=>?_)
 ·refine hide λG_ hG_=>?_;obtain⟨t,k,m,rfl,_⟩:=h;refine hG_ ?_;rfl
 ·refine hide λG_ hG_=>?_;obtain⟨t,k,m,rfl,hT,hk,hm1,hm2,q⟩:=h;refine hG_ ?_;have hu:=qBu hr
  refine⟨_,qA4 (qJl (i:=2) (j:=3) rfl scNexts.nd rfl rfl (by decide) rfl rfl (qA0 (qAq qA3) (qA0 qJn qA3)) rfl)
   (qA4 (qBx bL rfl (qBs rfl nrange (qA0 (pv 1) qA3)) (qAd (i:=4) scNexts.nd rfl (Or.inl rfl))
    (qA4 (qAg (i:=5) scNexts.nd rfl (Or.inl rfl) (qAj hD hr (aC _) (qA0 (pv 0) (qA0 qA6 qA3))))
    (qA4 (qAg (i:=6) scNexts.nd rfl (Or.inl rfl) (qAp qB7 qA6 (qAj hD hr (aC _) (qA0 (pv 0) (qA0 (qA9 (qHv rfl) (by rfl) nmax PyProof.Rows.boot_max (qA0 qA6 (qA0 (qAp qMa (pv 1) qA6) qA3))) qA3)))))
    (qA4 (qAg (i:=7) scNexts.nd rfl (Or.inl rfl) (qB3 qAm (qAq (qA0 (qAq (qA0 (qAp qB7 (pv 4) qA6) (qA0 (pv 6) qA3))) (qA0 (qAq (qA0 (pv 6) (qA0 (qAp qB7 (pv 4) qA6) qA3))) qA3))) (qAp qDh (pv 5) qA6) (λ_ _=>rfl)))
    (qA4 (qBc (qAa qBt (qAp qB7 (pv 4) qA6) (pv 1) (qAi _))
      (qA8 (qAg (i:=7) scNexts.nd rfl (Or.inl rfl) (qBg (qH8 (qAa qBt (pv 5) qA6 (qAi _)) (qEj (qAa qOq (pv 1) qA6 (qAi _)))).pt (qAq (qA0 (pv 6) qA3)) (qAq qA3))))
      (qA8 (qBc (qH8 (qPz (qSc hu (qAp qB7 (pv 4) qA6) (pv 3))) (qEj (qAa qKj (pv 5) qA6 (qAi _)))).pt
       (qA8 (qAg (i:=7) scNexts.nd rfl (Or.inl rfl) (qBg (qAa qBt (pv 5) qA6 (qAi _)) (qAq (qA0 (pv 6) qA3)) (qAq qA3))))
       (qA8 (qBc (qD8 (qAa qKj (pv 5) qA6 (qAi _)) (qBv (qAa qBt (pv 6) (qAp qB7 (pv 4) qA6) (qAi _)))).pt
        (qA8 (qAg (i:=7) scNexts.nd rfl (Or.inl rfl) (qAq (qA0 (qAp qB7 (pv 4) qA6) qA3)))) qAl)))))
    (qA4 (qB2 (qBp aM aS aT qAs (pv 2) (qA0 (pv 7) qA3)))
    (qA8 (qB2 (qBp PySem.F.plainAttrs_dict eE PySem.F.type_dict_update (qMn rfl) (pv 3)
     (qA0 (qEk ["_law_one"] [] rfl (.of rfl) (qBk (pv 7)) (λ_ _ _ _=>qAd (i:=0) (by show ((["_law_one"]:List Str)).Nodup;decide) rfl (Or.inl rfl)) (λ_ _ _ _ =>.nil) (λ_ _ _ _=>qBy (qA0 (pv 0) (qA0 qD9 qA3)))) qA3))))))))))
   (qA8 (qAc (pv 2)))),?_⟩
  dsimp only [qBf,qB5];walk_at "re";refine⟨len2 (aW _),λl hl=>?_⟩;have nlt:l≠t:=hT.ne hl;walk_at "re";refine qM0 λd hd=>?_;have nld:l≠d:=λz=>by rw [<-z,qA1] at hd;cases hd
  rw [qA5 nld.symm] at hd;have ndt:d≠t:=hT.ne hd;walk_at "re";refine⟨_,_,rfl,?_⟩;walk_at "re"
  refine⟨m,rfl,by lia,by lia,qC8 (lo:=0) (n:=m.toNat) (λi σ' H' => ∃(nx:List (List Int)) (vs:List V) (kvs:List (Key×V)) (o4 o5 o6 o7:Option V),σ' = [some (.ref t),some (.int m),some (.ref l),some (.ref d),o4,o5,o6,o7]/\nx.length=i/\(∀ns∈nx,NsOk m ns) /\
   Tape H' t (k+2*i)/\Ext [t] H H'/\H' l=some (.lst vs)/\DenL K (yo H [t,l,d] H') (nx.map intsD) vs/\H' d=some (.dK kvs)/\kvs.length<=2*i/\Lp m nx/\Kp nx kvs) ?_ ?_ ?_⟩
  ·refine⟨[],[],[],none,none,none,none,rfl,rfl,(λ_ h=>absurd h (by simp)),?_,?_,?_,.nil,qA1,aC _,Lp.nil,Kp.nil⟩
   ·exact (hT.ext (ts :=[]) ((Ext.laid hl).trans (.laid (by rw [qA5 nld.symm];exact hd))) (by simp)).mono (by lia)
   ·exact (Ext.laid hl).trans (.laid (by rw [qA5 nld.symm];exact hd))
   ·rw [qA5 nld,qA1]
  ·intro i σ' H' hi hq_ N_ B_ C_ R_ hN_ hC_ hR_;refine hide λG_ hG_=>?_;obtain⟨nx,vs,kvs,o4,o5,o6,o7,rfl,hnl,hnx,hT',e',hl',hden,hd',hkl,hLp,hKp⟩:=hq_;refine hG_ ?_;have hvl:vs.length=i:=by rw [hden.len,aB,hnl]
   walk_at "re";refine qAy hT' (by lia) (by decide) (by decide) λr1 H1 a1 b1 T1 e1 k1=>?_;walk_at "re";refine⟨_,_,rfl,?_⟩;walk_at "re";refine qAy T1 (by lia) (by split <;> lia) (by split <;> lia) λr2 H2 a2 b2 T2 e2 k2=>?_;have l2:H2 l=some (.lst vs):=by rw [k2 l nlt,k1 l nlt];exact hl'
   have d2:H2 d=some (.dK kvs):=by rw [k2 d ndt,k1 d ndt];exact hd'
   have den2:DenL K (yo H [t,l,d] H2) (nx.map intsD) vs:=hden.mono ((e1.trans e2).mono (by simp)).young;walk_at "re";refine⟨len2 (by show 2<=1000;decide),λp1 hp1=>?_⟩;walk_at "re";refine⟨len2 (by show 2<=1000;decide),λp2 hp2=>?_⟩;walk_at "re";refine⟨len2 (by show 2<=1000;decide),λp3 hp3=>?_⟩;have n12:p1≠p2:=qA2 qA1 hp2;have n23:p2≠p3:=qA2 qA1 hp3;have n13:p1≠p3:=qA2 (by rw [qA5 n12,qA1]) hp3;generalize hH5:upd (upd (upd H2 p1 (HO.lst [V.int (0 + ↑i+1),V.int (1+r2)])) p2 (HO.lst [V.int (1+r2),V.int (0 + ↑i+1)])) p3 (HO.lst [V.ref p1,V.ref p2])=H5;have hp2':H2 p2=none:=by rw [qA5 n12.symm] at hp2;exact hp2
   have e5:Ext [] H2 H5:=by
    rw [<-hH5];exact (Ext.laid hp1).trans ((Ext.laid hp2).trans (.laid hp3))
   have q1:H5 p1=some (.lst ([0+(i:Int)+1,1+r2].map V.int)):=by rw [<-hH5,qA5 n13,qA5 n12,qA1];rfl
   have q2:H5 p2=some (.lst ([1+r2,0+(i:Int)+1].map V.int)):=by rw [<-hH5,qA5 n23,qA1];rfl
   have q3:SqL K H5 p3 [V.ref p1,V.ref p2]:=SqL.of (by rw [<-hH5,qA1]);refine hide λG_ hG_=>?_;have fr:∀p,H2 p=none->p≠t/\p≠l/\p≠d:=λp hp=>⟨T2.ne hp,(qA2 l2 hp).symm,(qA2 d2 hp).symm⟩;have fin:∀(p:Addr) (ns:List Int) (H6:Hp),Ext [] H5 H6->H6 p=some (.lst (ns.map V.int))->H2 p=none->NsOk m ns->(0+(i:Int)+1<m->0+(i:Int)+1∈ns\/valV kvs (Sum.inl (0+(i:Int)+1))≠none) -> ∀(H7:Hp) (kvs':List (Key×V)),H7 l=some (.lst (vs ++ [.ref p]))->H7 d=some (.dK kvs')->kvs'.length<=kvs.length+2->(∀n:Int,valV kvs' (Sum.inl n)≠none->valV kvs (Sum.inl n)≠none\/n∈ns)->Ext [l,d] H6 H7 -> ∀o4 o5 o6 o7:Option V,
     ∃(nx:List (List Int)) (vs:List V) (kvs:List (Key×V)) (p4 p5 p6 p7:Option V),[some (V.ref t),some (.int m),some (.ref l),some (.ref d),o4,o5,o6,o7] = [some (.ref t),some (.int m),some (.ref l),some (.ref d),p4,p5,p6,p7]/\nx.length=i+1/\(∀ns∈nx,NsOk m ns) /\
      Tape H7 t (k+2*(i+1))/\Ext [t] H H7/\H7 l=some (.lst vs)/\DenL K (yo H [t,l,d] H7) (nx.map intsD) vs/\H7 d=some (.dK kvs)/\kvs.length<=2*(i+1)/\Lp m nx/\Kp nx kvs:=by
    intro p ns H6 e6 hp hn hns hled H7 kvs' l7 d7 hk7 hv7 e7 o4 o5 o6 o7;obtain⟨npt,npl,npd⟩:=fr p hn;have e27:Ext [l,d] H2 H7:=((e5.trans e6).mono (by simp)).trans e7;refine⟨nx ++ [ns],vs ++ [.ref p],kvs',o4,o5,o6,o7,rfl,by rw [aN,hnl];rfl,λz hz=>?_,?_,?_,l7,?_,d7,by lia,Lp.snoc (by rw [hnl]) hLp hKp hled,hKp.snoc hv7⟩
    ·rcases aP.mp hz with y | y
     ·exact hnx z y
     ·rw [aO.mp y];exact hns
    ·exact (T2.ext e27 (by simp [nlt.symm,ndt.symm])).mono (by lia)
    ·have E7:Ext [l,d,t] H H7:=(e'.mono (by simp)).trans (((e1.trans e2).mono (by simp)).trans (e27.mono (by simp)));exact (E7.drop hl).drop hd
    ·rw [aQ];refine DenL.append (den2.mono (e27.mono (by simp)).young) (.cons (.list (SqL.of ?_) (DenL.ofInts ns)) .nil);rw [qBh ((e'.trans (e1.trans e2)).none (by simpa using npt) hn) (by simp [npt,npl,npd])];exact e7 _ _ (by simp [npl,npd]) hp
   have hr2:1+r2<=1\/1+r2<=m - 1:=by
    by_cases c:m - 1>1
    ·rw [if_pos c] at b2;lia
    ·rw [if_neg c] at b2;lia
   have l5:=e5 _ _ (by simp) l2;have d5:=e5 _ _ (by simp) d2;obtain⟨p0,ns0,h0,hp0,hn0,hat⟩:∃p0 ns0,H5 p0=some (.lst (ns0.map V.int))/\H2 p0=none/\(ns0 = [0+(i:Int)+1,1+r2]\/ns0 = [1+r2,0+(i:Int)+1])/\atI [V.ref p1,V.ref p2] (r1%2)=some (.ref p0):=by
    have hm:=Int.emod_two_eq r1;rcases hm with c | c
    ·exact⟨p1,_,q1,hp1,.inl rfl,by rw [c];rfl⟩
    ·exact⟨p2,_,q2,hp2',.inr rfl,by rw [c];rfl⟩
   refine hG_ ?_;walk_at "re";refine qEh (by decide) (qBo q3 hat ?_);walk_at "re";refine qD0 ?_;walk_at "re";have nsl:∀ {ns},NsOk m ns->ns.length<=2:=by
    rintro ns (h | ⟨x,h,_⟩ | ⟨x,y,h,_⟩) <;> subst h <;> simp
   refine ite2 (λg=>?_) (λg=>?_)
   ·have g:=of_decide_eq_true g;walk_at "re";refine qD0 ?_;walk_at "re";refine ite2 (λg2=>?_) (λg2=>?_)
    ·walk_at "re";refine ite2 (λg3=>?_) (λg3=>?_)
     ·have g3:=of_decide_eq_true g3;walk_at "re";refine⟨len2 (by first | exact aW _ | (show 1<=1000;decide)),λp hp=>?_⟩;have hf:H2 p=none:=by
       cases z:H2 p with
       | none=>rfl
       | some o=>rw [e5 _ _ (by simp) z] at hp;cases hp
      have e6:Ext [] H5 (upd H5 p (.lst (([1+r2]:List Int).map V.int))) :=.laid hp;have hns:NsOk m [1+r2]:=(.inr (.inl ⟨_,rfl,by lia,by lia⟩));obtain⟨_,npl,_⟩:=fr p hf;refine qH6 ?_;refine qB4 (l:=l) (d:=d) (p:=p) (ns :=[1+r2]) rfl rfl rfl (e6 _ _ (by simp) l5) (e6 _ _ (by simp) d5) qA1 (by lia) (by lia) (nsl hns) npl ?_;exact λH7 kvs' l7 d7 hk7 hv7 e7=>qBb hN_ (fin p [1+r2] _ e6 qA1 hf hns (by first | (intro z;exfalso;lia) | (intro _;right;intro z;rw [z] at g2;cases g2;done) | (intro _;left;simp;done) | (intro _;left;rcases hn0 with h | h <;> rw [h] <;> simp <;> done)) H7 kvs' l7 d7 hk7 hv7 e7 _ _ _ _)
     ·walk_at "re";refine⟨len2 (by first | exact aW _ | (show 1<=1000;decide)),λp hp=>?_⟩;have hf:H2 p=none:=by
       cases z:H2 p with
       | none=>rfl
       | some o=>rw [e5 _ _ (by simp) z] at hp;cases hp
      have e6:Ext [] H5 (upd H5 p (.lst (([]:List Int).map V.int))) :=.laid hp;have hns:NsOk m []:=(.inl rfl);obtain⟨_,npl,_⟩:=fr p hf;refine qH6 ?_;refine qB4 (l:=l) (d:=d) (p:=p) (ns :=[]) rfl rfl rfl (e6 _ _ (by simp) l5) (e6 _ _ (by simp) d5) qA1 (by lia) (by lia) (nsl hns) npl ?_;exact λH7 kvs' l7 d7 hk7 hv7 e7=>qBb hN_ (fin p [] _ e6 qA1 hf hns (by first | (intro z;exfalso;lia) | (intro _;right;intro z;rw [z] at g2;cases g2;done) | (intro _;left;simp;done) | (intro _;left;rcases hn0 with h | h <;> rw [h] <;> simp <;> done)) H7 kvs' l7 d7 hk7 hv7 e7 _ _ _ _)
    ·refine iteF ?_;walk_at "re";refine⟨len2 (by first | exact aW _ | (show 1<=1000;decide)),λp hp=>?_⟩;have hf:H2 p=none:=by
      cases z:H2 p with
      | none=>rfl
      | some o=>rw [e5 _ _ (by simp) z] at hp;cases hp
     have e6:Ext [] H5 (upd H5 p (.lst (([]:List Int).map V.int))) :=.laid hp;have hns:NsOk m []:=(.inl rfl);obtain⟨_,npl,_⟩:=fr p hf;refine qH6 ?_;refine qB4 (l:=l) (d:=d) (p:=p) (ns :=[]) rfl rfl rfl (e6 _ _ (by simp) l5) (e6 _ _ (by simp) d5) qA1 (by lia) (by lia) (nsl hns) npl ?_;exact λH7 kvs' l7 d7 hk7 hv7 e7=>qBb hN_ (fin p [] _ e6 qA1 hf hns (by first | (intro z;exfalso;lia) | (intro _;right;intro z;rw [z] at g2;cases g2;done) | (intro _;left;simp;done) | (intro _;left;rcases hn0 with h | h <;> rw [h] <;> simp <;> done)) H7 kvs' l7 d7 hk7 hv7 e7 _ _ _ _)
   ·have g : ¬(0+(i:Int)+1=m):=λz=>g (decide_eq_true z);walk_at "re";refine⟨d,_,rfl,DGet.k (k:=Sum.inl _) d5,?_⟩;refine qQm ?_;refine ite2 (λg2=>?_) (λg2=>?_)
    ·walk_at "re";refine ite2 (λg3=>?_) (λg3=>?_)
     ·walk_at "re";refine qD0 ?_;walk_at "re";refine ite2 (λg4=>?_) (λg4=>?_)
      ·walk_at "re";refine⟨len2 (by first | exact aW _ | (show 1<=1000;decide)),λp hp=>?_⟩;have hf:H2 p=none:=by
        cases z:H2 p with
        | none=>rfl
        | some o=>rw [e5 _ _ (by simp) z] at hp;cases hp
       have e6:Ext [] H5 (upd H5 p (.lst (([1+r2]:List Int).map V.int))) :=.laid hp;have hns:NsOk m [1+r2]:=(.inr (.inl ⟨_,rfl,by lia,by lia⟩));obtain⟨_,npl,_⟩:=fr p hf;refine qH6 ?_;refine qB4 (l:=l) (d:=d) (p:=p) (ns :=[1+r2]) rfl rfl rfl (e6 _ _ (by simp) l5) (e6 _ _ (by simp) d5) qA1 (by lia) (by lia) (nsl hns) npl ?_;exact λH7 kvs' l7 d7 hk7 hv7 e7=>qBb hN_ (fin p [1+r2] _ e6 qA1 hf hns (by first | (intro z;exfalso;lia) | (intro _;right;intro z;rw [z] at g2;cases g2;done) | (intro _;left;simp;done) | (intro _;left;rcases hn0 with h | h <;> rw [h] <;> simp <;> done)) H7 kvs' l7 d7 hk7 hv7 e7 _ _ _ _)
      ·walk_at "re";refine⟨len2 (by first | exact aW _ | (show 1<=1000;decide)),λp hp=>?_⟩;have hf:H2 p=none:=by
        cases z:H2 p with
        | none=>rfl
        | some o=>rw [e5 _ _ (by simp) z] at hp;cases hp
       have e6:Ext [] H5 (upd H5 p (.lst (([]:List Int).map V.int))) :=.laid hp;have hns:NsOk m []:=(.inl rfl);obtain⟨_,npl,_⟩:=fr p hf;refine qH6 ?_;refine qB4 (l:=l) (d:=d) (p:=p) (ns :=[]) rfl rfl rfl (e6 _ _ (by simp) l5) (e6 _ _ (by simp) d5) qA1 (by lia) (by lia) (nsl hns) npl ?_;exact λH7 kvs' l7 d7 hk7 hv7 e7=>qBb hN_ (fin p [] _ e6 qA1 hf hns (by first | (intro z;exfalso;lia) | (intro _;right;intro z;rw [z] at g2;cases g2;done) | (intro _;left;simp;done) | (intro _;left;rcases hn0 with h | h <;> rw [h] <;> simp <;> done)) H7 kvs' l7 d7 hk7 hv7 e7 _ _ _ _)
     ·walk_at "re";refine ite2 (λg5=>?_) (λg5=>?_)
      ·refine iteT ?_;walk_at "re";refine⟨len2 (by first | exact aW _ | (show 1<=1000;decide)),λp hp=>?_⟩;have hf:H2 p=none:=by
        cases z:H2 p with
        | none=>rfl
        | some o=>rw [e5 _ _ (by simp) z] at hp;cases hp
       have e6:Ext [] H5 (upd H5 p (.lst (([0+(i:Int)+1]:List Int).map V.int))) :=.laid hp;have hns:NsOk m [0+(i:Int)+1]:=(.inr (.inl ⟨_,rfl,by lia,by lia⟩));obtain⟨_,npl,_⟩:=fr p hf;refine qH6 ?_;refine qB4 (l:=l) (d:=d) (p:=p) (ns :=[0+(i:Int)+1]) rfl rfl rfl (e6 _ _ (by simp) l5) (e6 _ _ (by simp) d5) qA1 (by lia) (by lia) (nsl hns) npl ?_;exact λH7 kvs' l7 d7 hk7 hv7 e7=>qBb hN_ (fin p [0+(i:Int)+1] _ e6 qA1 hf hns (by first | (intro z;exfalso;lia) | (intro _;right;intro z;rw [z] at g2;cases g2;done) | (intro _;left;simp;done) | (intro _;left;rcases hn0 with h | h <;> rw [h] <;> simp <;> done)) H7 kvs' l7 d7 hk7 hv7 e7 _ _ _ _)
      ·walk_at "re";refine qD0 ?_;walk_at "re";refine ite2 (λg6=>?_) (λg6=>?_)
       ·walk_at "re";refine⟨len2 (by first | exact aW _ | (show 1<=1000;decide)),λp hp=>?_⟩;have hf:H2 p=none:=by
         cases z:H2 p with
         | none=>rfl
         | some o=>rw [e5 _ _ (by simp) z] at hp;cases hp
        have e6:Ext [] H5 (upd H5 p (.lst (([0+(i:Int)+1]:List Int).map V.int))) :=.laid hp;have hns:NsOk m [0+(i:Int)+1]:=(.inr (.inl ⟨_,rfl,by lia,by lia⟩));obtain⟨_,npl,_⟩:=fr p hf;refine qH6 ?_;refine qB4 (l:=l) (d:=d) (p:=p) (ns :=[0+(i:Int)+1]) rfl rfl rfl (e6 _ _ (by simp) l5) (e6 _ _ (by simp) d5) qA1 (by lia) (by lia) (nsl hns) npl ?_;exact λH7 kvs' l7 d7 hk7 hv7 e7=>qBb hN_ (fin p [0+(i:Int)+1] _ e6 qA1 hf hns (by first | (intro z;exfalso;lia) | (intro _;right;intro z;rw [z] at g2;cases g2;done) | (intro _;left;simp;done) | (intro _;left;rcases hn0 with h | h <;> rw [h] <;> simp <;> done)) H7 kvs' l7 d7 hk7 hv7 e7 _ _ _ _)
       ·have g6 : ¬(1+r2=0+(i:Int)+1):=λz=>g6 (decide_eq_true z);obtain⟨_,npl,_⟩:=fr p0 hp0;have hns:NsOk m ns0:=by
         rcases hn0 with h | h
         ·exact .inr (.inr ⟨_,_,h,by lia,by lia,by lia,by lia,by lia⟩)
         ·exact .inr (.inr ⟨_,_,h,by lia,by lia,by lia,by lia,by lia⟩)
        refine qJ7 ?_;refine qB4 (l:=l) (d:=d) (p:=p0) (ns:=ns0) rfl rfl rfl l5 d5 h0 (by lia) (by lia) (nsl hns) npl ?_;exact λH7 kvs' l7 d7 hk7 hv7 e7=>qBb hN_ (fin p0 ns0 _ (λ_ _ _ h=>h) h0 hp0 hns (by first | (intro z;exfalso;lia) | (intro _;right;intro z;rw [z] at g2;cases g2;done) | (intro _;left;simp;done) | (intro _;left;rcases hn0 with h | h <;> rw [h] <;> simp <;> done)) H7 kvs' l7 d7 hk7 hv7 e7 _ _ _ _)
    ·refine iteF ?_;walk_at "re";refine ite2 (λg5=>?_) (λg5=>?_)
     ·refine iteT ?_;walk_at "re";refine⟨len2 (by first | exact aW _ | (show 1<=1000;decide)),λp hp=>?_⟩;have hf:H2 p=none:=by
       cases z:H2 p with
       | none=>rfl
       | some o=>rw [e5 _ _ (by simp) z] at hp;cases hp
      have e6:Ext [] H5 (upd H5 p (.lst (([0+(i:Int)+1]:List Int).map V.int))) :=.laid hp;have hns:NsOk m [0+(i:Int)+1]:=(.inr (.inl ⟨_,rfl,by lia,by lia⟩));obtain⟨_,npl,_⟩:=fr p hf;refine qH6 ?_;refine qB4 (l:=l) (d:=d) (p:=p) (ns :=[0+(i:Int)+1]) rfl rfl rfl (e6 _ _ (by simp) l5) (e6 _ _ (by simp) d5) qA1 (by lia) (by lia) (nsl hns) npl ?_;exact λH7 kvs' l7 d7 hk7 hv7 e7=>qBb hN_ (fin p [0+(i:Int)+1] _ e6 qA1 hf hns (by first | (intro z;exfalso;lia) | (intro _;right;intro z;rw [z] at g2;cases g2;done) | (intro _;left;simp;done) | (intro _;left;rcases hn0 with h | h <;> rw [h] <;> simp <;> done)) H7 kvs' l7 d7 hk7 hv7 e7 _ _ _ _)
     ·walk_at "re";refine qD0 ?_;walk_at "re";refine ite2 (λg6=>?_) (λg6=>?_)
      ·walk_at "re";refine⟨len2 (by first | exact aW _ | (show 1<=1000;decide)),λp hp=>?_⟩;have hf:H2 p=none:=by
        cases z:H2 p with
        | none=>rfl
        | some o=>rw [e5 _ _ (by simp) z] at hp;cases hp
       have e6:Ext [] H5 (upd H5 p (.lst (([0+(i:Int)+1]:List Int).map V.int))) :=.laid hp;have hns:NsOk m [0+(i:Int)+1]:=(.inr (.inl ⟨_,rfl,by lia,by lia⟩));obtain⟨_,npl,_⟩:=fr p hf;refine qH6 ?_;refine qB4 (l:=l) (d:=d) (p:=p) (ns :=[0+(i:Int)+1]) rfl rfl rfl (e6 _ _ (by simp) l5) (e6 _ _ (by simp) d5) qA1 (by lia) (by lia) (nsl hns) npl ?_;exact λH7 kvs' l7 d7 hk7 hv7 e7=>qBb hN_ (fin p [0+(i:Int)+1] _ e6 qA1 hf hns (by first | (intro z;exfalso;lia) | (intro _;right;intro z;rw [z] at g2;cases g2;done) | (intro _;left;simp;done) | (intro _;left;rcases hn0 with h | h <;> rw [h] <;> simp <;> done)) H7 kvs' l7 d7 hk7 hv7 e7 _ _ _ _)
      ·have g6 : ¬(1+r2=0+(i:Int)+1):=λz=>g6 (decide_eq_true z);obtain⟨_,npl,_⟩:=fr p0 hp0;have hns:NsOk m ns0:=by
        rcases hn0 with h | h
        ·exact .inr (.inr ⟨_,_,h,by lia,by lia,by lia,by lia,by lia⟩)
        ·exact .inr (.inr ⟨_,_,h,by lia,by lia,by lia,by lia,by lia⟩)
       refine qJ7 ?_;refine qB4 (l:=l) (d:=d) (p:=p0) (ns:=ns0) rfl rfl rfl l5 d5 h0 (by lia) (by lia) (nsl hns) npl ?_;exact λH7 kvs' l7 d7 hk7 hv7 e7=>qBb hN_ (fin p0 ns0 _ (λ_ _ _ h=>h) h0 hp0 hns (by first | (intro z;exfalso;lia) | (intro _;right;intro z;rw [z] at g2;cases g2;done) | (intro _;left;simp;done) | (intro _;left;rcases hn0 with h | h <;> rw [h] <;> simp <;> done)) H7 kvs' l7 d7 hk7 hv7 e7 _ _ _ _)
  ·intro σ' H' hq_;refine hide λG_ hG_=>?_;obtain⟨nx,vs,kvs,o4,o5,o6,o7,rfl,hnl,hnx,hT',e',hl',hden,hd',hkl,hLp,hKp⟩:=hq_;refine hG_ ?_;walk_at "re";refine q l nx H' hl (hT'.mono (by lia)) e' ⟨⟨by lia,hnx⟩,hLp.led (by lia)⟩ (.list (SqL.of ?_) (hden.mono (qL3 (by simp))));rw [qBh hl (by simpa using nlt)];exact hl'
end
section
variable{P:Program}{w:World}{K:PySem.W.Frag}{mg:Str->Option Value}{base:Heap}
abbrev sWork:Stmt:=top 44
theorem scWork:FnScope ["_law_tape_here","_law_many_here","_law_most","_law_first","_law_works_here","_law_left","_law_size","_law_boxes","_law_found","_law_there","_law_end"] ["_law_tape_here","_law_many_here","_law_most","_law_first","_law_works_here"] (qA7 sWork):=⟨rfl,rfl,rfl,by decide +kernel,rfl,by decide +kernel,by decide +kernel⟩
theorem qQz{f:Addr}{fd:FuncData}(F:Fun K "_law_work" "_law_work" sWork f fd)(nrange:mg "range" = none)(nlist:mg "list" = none)(nlen:mg "len" = none)(hD:Has P w K mg base "_law_draw" 1 ["_law_tape_here","_law_many_here"] qCl)
  (hX:Has P w K mg base "_law_nexts" 2 ["_law_tape_here","_law_many_here"] (qG2 K)) (hE:Has P w K mg base "_law_deeds" 3 ["_law_tape_here","_law_most","_law_boxes","_law_first","_law_works_here"] (qE3 K)) :
  FnOk P w K mg base CX0 4 f fd ["_law_tape_here","_law_many_here","_law_most","_law_first","_law_works_here"] (qI6 K):=by
 refine F.ok scWork (λvs H Q E h=>?_) (λcdv A outer s H vs Q E hr h=>?_)
 ·refine hide λG_ hG_=>?_;obtain⟨t,k,m,most,first,works,rfl,_⟩:=h;refine hG_ ?_;rfl
 ·refine hide λG_ hG_=>?_;obtain⟨t,k,m,most,first,works,rfl,hT,hk,m1,m2,hm1,hm2,hf1,hf2,hw1,hw2,q⟩:=h;refine hG_ ?_
  refine⟨_,qA4 (qAg (i:=5) scWork.nd rfl (Or.inr rfl) (qAr (qGr hr.hd) (by rfl) nlist bV (qA0 (qAr qIm (by rfl) nrange PyProof.Rows.boot_range (qA0 qA6 qA3)) qA3)))
   (qA4 (qAg (i:=6) scWork.nd rfl (Or.inl rfl) (qAp qB7 qA6 (qAj hD hr (by decide) (qA0 (pv 0) (qA0 (qB3 qAm (qAq (qA0 qA6 (qA0 qA6 (qA0 qA6 qA3)))) (qAj hD hr (by decide) (qA0 (pv 0) (qA0 qA6 qA3))) (λ_ _=>rfl)) qA3)))))
   (qA4 (qS8 (i:=7) ["_law_k"] [5,0] rfl (.of rfl) scWork.nd rfl (Or.inl rfl) (qBs rfl nrange (qA0 (pv 6) qA3)) (λ_ _ _ _=>qAd (i:=0) (by show ((["_law_k","_law_left","_law_tape_here"]:List Str)).Nodup;decide) rfl (Or.inl rfl)) (λ_ _ _ _ =>.nil)
     (λ_ _ _ _=>qQ1 K rfl aM PySem.F.slot_list_pop PySem.F.type_list_pop qP6 (pv 1) (qA0 (qAj hD hr (by decide) (qA0 (pv 2) (qA0 (qA9 (qJt K rfl) (by rfl) nlen bB (qA0 (pv 1) qA3)) qA3))) qA3)))
   (qA4 (qAg (i:=8) scWork.nd rfl (Or.inl rfl) (qAq qA3))
   (qA4 (qBx bL rfl (qBk (qAj hX hr (by decide) (qA0 (pv 0) (qA0 (pv 1) qA3)))) (qAd (i:=9) scWork.nd rfl (Or.inl rfl))
    (qA4 (qAg (i:=10) scWork.nd rfl (Or.inl rfl) (qBg (qAa (qSe hr) (pv 9) (qAq qA3) (qAi _)) (qBy (qA0 qAn qA3)) (qBg (qAa qBt (qA9 qAf (by rfl) nlen bB (qA0 (pv 9) qA3)) qA6 (qAi _))
      (qBy (qA0 qAn (qA0 (qB3 qAm (pv 9) qA6 (λ_ _=>rfl)) qA3))) (qBy (qA0 qAn (qA0 (qB3 qAm (pv 9) qA6 (λ_ _=>rfl)) (qA0 (qB3 qAm (pv 9) qA6 (λ_ _=>rfl)) qA3)))))))
    (qA8 (qB2 (qBp aM aS aT qAs (pv 8) (qA0 (qBy (qA0 (qAj hE hr (by decide) (qA0 (pv 0) (qA0 (pv 2) (qA0 (pv 7) (qA0 (pv 3) (qA0 (pv 4) qA3)))))) (qA0 (pv 10) qA3))) qA3))))))
   (qA8 (qAc (pv 8))))))),?_⟩
  dsimp only [qBf,qB5];walk_at "re";refine⟨8,rfl,λpr hpr=>?_⟩;walk_at "re";refine⟨pr,8,rfl,qA1,by decide,λlf hlf=>?_⟩;have nrl:pr≠lf:=qA2 qA1 hlf;have hlf0:H lf=none:=by rw [qA5 nrl.symm] at hlf;exact hlf
  have nlt:lf≠t:=hT.ne hlf0;have EG:=(Ext.laid (ts :=[]) (o :=.rng 0 8) hpr).trans (.laid (o :=.lst (([0,1,2,3,4,5,6,7]:List Int).map V.int)) hlf);generalize hG:upd (upd H pr (.rng 0 8)) lf (.lst (([0,1,2,3,4,5,6,7]:List Int).map V.int))=G at EG;have hG':upd (upd H pr (.rng 0 8)) lf (.lst ((List.range 8).map λ(i:Nat)=>V.int (i:Int)))=G:=hG;have lG:G lf=some (.lst (([0,1,2,3,4,5,6,7]:List Int).map V.int)):=by rw [<-hG,qA1]
  have TG:=hT.ext EG (by simp)
  first | rw [hG'] | erw [hG']
  clear hG hG';walk_at "re";refine⟨len2 (by show 3<=1000;decide),λp hp=>?_⟩;have npt:p≠t:=TG.ne hp;have npl:p≠lf:=(qA2 lG hp).symm;walk_at "re";refine qAy (TG.ext (ts :=[]) (.laid hp) (by simp)) (by lia) (by decide) (by decide) λr1 H1 a1 b1 T1 e1 k1=>?_;have hpL:SqL K H1 p (([3,3,8]:List Int).map V.int):=SqL.of (by rw [k1 p npt,qA1];rfl);obtain⟨n8,hn8,en8⟩:=qGw (ns :=[3,3,8]) a1 b1;have hn8':3<=n8/\n8<=8:=by
   simp only [aJ,bX,or_false] at hn8;lia
  refine qBo hpL en8 ?_;walk_at "re";refine qAy T1 (by lia) (by lia) (by lia) λr2 H2 a2 b2 T2 e2 k2=>?_;have l2:H2 lf=some (.lst (([0,1,2,3,4,5,6,7]:List Int).map V.int)):=by rw [k2 lf nlt,k1 lf nlt,qA5 npl.symm];exact lG
  have E2:Ext [t] H H2:=(EG.mono (by simp)).trans ((Ext.laid hp).trans (e1.trans e2));walk_at "re";refine⟨1+r2,rfl,by lia,by lia,λbx hbx=>?_⟩;have nbt:bx≠t:=T2.ne hbx;have nbl:bx≠lf:=(qA2 l2 hbx).symm;refine qKt (lo:=0) (n:=(1+r2).toNat) (λi σ' H' => ∃(o:Option V) (left bs:List Int),σ' = [o,some (.ref lf),some (.ref t)]/\left.length+i=8/\bs.length=i/\(∀b∈left,0<=b/\b<8)/\(∀b∈bs,0<=b/\b<8)/\H' lf=some (.lst (left.map V.int))/\H' bx=some (.lst (bs.map V.int))/\Tape H' t (k+2+i)/\Ext [t] H H') ?_ ?_ ?_
  ·refine⟨none,[0,1,2,3,4,5,6,7],[],rfl,rfl,rfl,by decide,(λ_ h=>absurd h (by simp)),?_,qA1,?_,E2.trans (.laid hbx)⟩
   ·rw [qA5 nbl.symm];exact l2
   ·exact T2.ext (ts :=[]) (.laid hbx) (by simp)
  ·intro i σ' H' R hi hq_ hR;refine hide λG_ hG_=>?_;obtain⟨o,left,bs,rfl,hll,hbl,hleft,hbs,hL,hBx,T',E'⟩:=hq_;refine hG_ ?_;walk_at "re";refine iteT ?_;walk_at "re";refine qBr hL ?_;walk_at "re";refine qH5 (SqL.of hL) ?_;rw [aB];walk_at "re";refine qAy T' (by lia) (by lia) (by lia) λr3 H3 a3 b3 T3 e3 k3=>?_;have l3:H3 lf=some (.lst (left.map V.int)):=by rw [k3 lf nlt];exact hL
   have b3x:H3 bx=some (.lst (bs.map V.int)):=by rw [k3 bx nbt];exact hBx
   obtain⟨j,rfl⟩:=Int.eq_ofNat_of_zero_le a3;have hj:j<left.length:=by lia
   walk_at "re";refine⟨lf,left.map V.int,(j:Int),j,V.int left[j],rfl,rfl,l3,by lia,by lia,?_,by rw [bC,aI hj];rfl,?_⟩
   ·rw [aB];exact qRq hj
   ·refine⟨bs.map V.int,by rw [qA5 nbl];exact b3x,qAh (by rw [aB];lia),hR _ _ ?_⟩;have hmem:left[j]∈left:=List.getElem_mem hj;refine⟨_,left.eraseIdx j,bs ++ [left[j]],rfl,?_,?_,λb hb=>hleft b (List.mem_of_mem_eraseIdx hb),λb hb=>?_,?_,?_,?_,?_⟩
    ·rw [List.length_eraseIdx,if_pos hj];lia
    ·rw [aN,hbl];rfl
    ·rcases aP.mp hb with y | y
     ·exact hbs b y
     ·rw [aO.mp y];exact hleft _ hmem
    ·rw [qA5 nbl.symm,qA1,qHh]
    ·rw [qA1,aQ];rfl
    ·exact ((T3.ext (ts :=[lf]) (.put (by simp)) (by simpa using nlt.symm)).ext (ts :=[bx]) (.put (by simp)) (by simpa using nbt.symm)).mono (by lia)
    ·have hbx0:H bx=none:=by
      cases z:H bx with
      | none=>rfl
      | some o=>rw [E2 _ _ (by simpa using nbt) z] at hbx;cases hbx
     have E4:Ext [lf,bx,t] H (upd (upd H3 lf (.lst ((left.map V.int).eraseIdx j))) bx (.lst (bs.map V.int ++ [V.int left[j]]))):=(E'.mono (by simp)).trans ((e3.mono (by simp)).trans ((Ext.put (by simp)).trans (.put (by simp))));exact (E4.drop hlf0).drop hbx0
  ·intro σ' H3 hq_;refine hide λG_ hG_=>?_;obtain⟨o,left,bs,rfl,hll,hbl,hleft,hbs,hL,hBx,T3,E3⟩:=hq_;refine hG_ ?_;have hB:BsOk bs:=⟨by lia,by lia,hbs⟩;walk_at "re";refine⟨len2 (aW _),λl hl=>?_⟩;have nlT:l≠t:=T3.ne hl;have nlb:l≠bx:=(qA2 hBx hl).symm;have hlH:H l=none:=E3.none (by simpa using nlT) hl;walk_at "re";refine⟨t,_,m,rfl,T3.ext (ts :=[]) (.laid hl) (by simp),by lia,m1,m2,λnl nx H4 hnl T4 e4 hNx' hDn=>?_⟩;obtain⟨hNx,hLx⟩:=hNx';refine hide λG_ hG_=>?_;obtain⟨a,vs,ea,hSq,hDL⟩:=hDn.ofList;cases ea;refine hG_ ?_;have nnl:nl≠l:=(qA2 qA1 hnl).symm;have hlen:=hDL.len;rw [aB] at hlen;have hnm:(nx.length:Int)=m:=hNx.1;have l4:H4 l=some (.lst []):=e4 _ _ (by simpa using nlT) qA1
   have E4:Ext [t] H H4:=E3.trans ((Ext.laid hl).trans e4);have apart:Same (yo (upd H3 l (.lst [])) [t] H4) (yo (upd H3 l (.lst [])) [l,t] H4):=qIq (H0:=H) (by simp [qA1]);have hSq4:=Same.seq apart hSq;have hDL4:=hDL.mono apart;have bx4:H4 bx=some (.lst (bs.map V.int)):=e4 _ _ (by simpa using nbt) (by rw [qA5 nlb.symm];exact hBx)
   refine⟨nl,rfl,⟨vs,yo_same.seq hSq4⟩,qCp (xs:=vs) (λi σ' H' => ∃(wk:List Blk) (ws:List V) (o9 o10:Option V),σ' = [some (.ref t),some (.int m),some (.int most),some (.int first),some (.int works),some (.ref lf),some (.int (1+r2)),some (.ref bx),some (.ref l),o9,o10]/\wk.length=i /\
    ((∀b∈wk,BlkOk m works b/\Fw works b)/\wk.map (·.ns)=nx.take i)/\Tape H' t (k+45+140*i)/\Ext [l,t] H4 H'/\H' l=some (.lst ws)/\DenL K (yo H [l,t] H') (wk.map blkD) ws) ?_ ?_ ?_ ?_⟩
   ·exact⟨[],[],none,none,rfl,rfl,⟨(λ_ h=>absurd h (by simp)),rfl⟩,T4.mono (by lia),.refl _ _,l4,.nil⟩
   ·intro i σ' H' hi hq_;refine hide λG_ hG_=>?_;obtain⟨wk,ws,o9,o10,rfl,hwl,hwk,T',e',hl',hden⟩:=hq_;refine hG_ ?_;exact yo_same.seq (Same.seq e'.young hSq4)
   ·intro i x σ' H' hx hq_ N_ B_ C_ R_ hN_ hC_ hR_;refine hide λG_ hG_=>?_;obtain⟨wk,ws,o9,o10,rfl,hwl,hwk,T',e',hl',hden⟩:=hq_;refine hG_ ?_;refine hide λG_ hG_=>?_;obtain⟨dd,hdd,hDx⟩:=hDL4.get hx;have hi:i<vs.length:=(aD.mp hx).1;obtain⟨ns,hns,rfl⟩:∃ns,nx[i]? = some ns/\dd=intsD ns:=by
     rw [bC] at hdd;cases z:nx[i]? with
     | none=>rw [z] at hdd;cases hdd
     | some n=>rw [z] at hdd;exact⟨n,rfl,(bF hdd).symm⟩
    have hok:NsOk m ns:=hNx.2 ns (aL hns);obtain⟨c,zs,rfl,hc,hcs⟩:=hDx.ofList;have hzs:=hcs.ints;subst hzs;refine hG_ ?_;have hwl':ws.length=i:=by rw [hden.len,aB,hwl]
    have hc':SqL K H' c (ns.map V.int):=yo_same.seq (Same.seq e'.young hc)
    have tail:∀(en:Addr) (H6:Hp),Ext [] H' H6->H' en=none->Den K (yo H [l,t] H6) (endD ns) (.ref en) -> ∀D:Ends,(∀(H7:Hp) (o9 o10:Option V),(∃(wk:List Blk) (ws:List V) (p9 p10:Option V),[some (V.ref t),some (.int m),some (.int most),some (.int first),some (.int works),some (.ref lf),some (.int (1+r2)),some (.ref bx),some (.ref l),o9,o10] = [some (.ref t),some (.int m),some (.int most),some (.int first),some (.int works),some (.ref lf),some (.int (1+r2)),some (.ref bx),some (.ref l),p9,p10]/\wk.length=i+1 /\
      ((∀b∈wk,BlkOk m works b/\Fw works b)/\wk.map (·.ns)=nx.take (i+1))/\Tape H7 t (k+45+140*(i+1))/\Ext [l,t] H4 H7/\H7 l=some (.lst ws)/\DenL K (yo H [l,t] H7) (wk.map blkD) ws)->D.nx [some (V.ref t),some (.int m),some (.int most),some (.int first),some (.int works),some (.ref lf),some (.int (1+r2)),some (.ref bx),some (.ref l),o9,o10] H7) ->
      tDrop (tBM K "list" qGf (tVar 8) (tCons (tTup (tCons (tCall (qE3 K) [] E0 (tCons (tVar 0) (tCons (tVar 2) (tCons (tVar 7) (tCons (tVar 3) (tCons (tVar 4) tNil)))))) (tCons (tVar 10) tNil))) tNil)) D [some (V.ref t),some (.int m),some (.int most),some (.int first),some (.int works),some (.ref lf),some (.int (1+r2)),some (.ref bx),some (.ref l),some (.ref c),some (.ref en)] H6:=by
     intro en H6 e6 hen hDe D hD;have l6:=e6 _ _ (by simp) hl';walk_at "re";refine qBr l6 ?_;walk_at "re";refine⟨t,bx,_,most,first,works,bs,rfl,T'.ext e6 (by simp),by lia,hm1,hm2,hf1,hf2,hw1,hw2,e6 _ _ (by simp) (e' _ _ (by simp [nbt,nlb.symm]) bx4),nbt,hB,λdl ds H7 hdl T7 e7 hds hdf hDd=>?_⟩;have l7:=e7 _ _ (by simpa using nlT) l6;have ndl:dl≠l:=(qA2 l6 hdl).symm;have EH:Ext [l,t] H H6:=(E4.mono (by simp)).trans (e'.trans (e6.mono (by simp)));have hDd':Den K (yo H [l,t] H7) (.list (ds.map deedD)) (.ref dl):=(hDd.mono (qIq (H0:=H) (us :=[l,t]) (by simp [l6]))).mono (qNt EH (by simp));walk_at "re";refine⟨len2 (by show 2<=1000;decide),λp hp=>?_⟩;have npl:p≠l:=(qA2 l7 hp).symm;have npt:p≠t:=T7.ne hp
     walk_at "re";refine qC3 (by rw [qA5 npl.symm];exact l7) (qAh (by lia)) ?_;refine hD _ _ _ ⟨wk ++ [⟨ds,ns⟩],ws ++ [.ref p],_,_,rfl,by rw [aN,hwl];rfl,⟨λb hb=>?_,by rw [aQ,hwk.2,bO,hns];rfl⟩,?_,?_,qA1,?_⟩
     ·rcases aP.mp hb with y | y
      ·exact hwk.1 b y
      ·rw [aO.mp y];exact⟨⟨hok,λd hd=>(hds d hd).ok,bH hdf (by decide)⟩,hdf,hds⟩
     ·exact ((T7.ext (ts :=[]) (.laid hp) (by simp)).ext (ts :=[l]) (.put (by simp)) (by simpa using nlT.symm)).mono (by lia)
     ·exact e'.trans ((e6.mono (by simp)).trans ((e7.mono (by simp)).trans ((Ext.laid hp).trans (.put (by simp)))))
     ·have E7:Ext [l,t] H7 (upd (upd H7 p (.tup [.ref dl,.ref en])) l (.lst (ws ++ [.ref p]))):=(Ext.laid hp).trans (.put (by simp));have E67:Ext [l,t] H6 (upd (upd H7 p (.tup [.ref dl,.ref en])) l (.lst (ws ++ [.ref p]))):=(e7.mono (by simp)).trans E7;rw [aQ];refine DenL.append (hden.mono ((e6.mono (by simp)).trans E67).young) (.cons (.tuple (SqT.of ?_) (.cons (hDd'.mono E7.young) (.cons (hDe.mono E67.young) .nil))) .nil);rw [qBh ((EH.trans (e7.mono (by simp))).none (by simp [npl,npt]) hp) (by simp [npl,npt]),qA5 npl,qA1]
    have nT:∀ {en:Addr},H' en=none->en≠t/\en≠l/\H en=none:=λ{en} h=>by
     have a1:=T'.ne h;have a2:=(qA2 hl' h).symm;exact⟨a1,a2,((E4.mono (us :=[l,t]) (by simp)).trans e').none (by simp [a1,a2]) h⟩
    walk_at "re";refine⟨len2 (aW _),λe0 he0=>?_⟩;have E0:Ext [] H' (upd H' e0 (.lst [])) :=.laid he0;have hc0:SqL K (upd H' e0 (.lst [])) c (ns.map V.int):=Same.seq (λb o h=>E0 b o (by simp) h) hc';rcases hok with h | ⟨x,h,_⟩ | ⟨x,y,h,_⟩
    ·subst h;refine⟨intsD [],.list [],.list hc0 (DenL.ofInts []),.list (SqL.of qA1) .nil,rfl,rfl,?_⟩;walk_at "re";refine iteT ?_;walk_at "re";refine⟨len2 (by show 1<=1000;decide),λen hen=>?_⟩;have hen':=E0.none (by simp) hen;obtain⟨z1,z2,z3⟩:=nT hen';refine qH6 (tail en _ (E0.trans (.laid hen)) hen' (.tuple (SqT.of ?_) (.cons .str .nil)) _ λH7 o9 o10 h=>qBb hN_ h);rw [qBh z3 (by simp [z1,z2]),qA1]
    ·subst h;refine⟨intsD [x],.list [],.list hc0 (DenL.ofInts [x]),.list (SqL.of qA1) .nil,rfl,rfl,?_⟩;walk_at "re";refine iteF ?_;walk_at "re";refine qH5 hc0 ?_;walk_at "re";refine qD0 ?_;walk_at "re";refine iteT ?_;walk_at "re";refine⟨len2 (by show 2<=1000;decide),λen hen=>?_⟩;have hen':=E0.none (by simp) hen;obtain⟨z1,z2,z3⟩:=nT hen';refine qH6 (tail en _ (E0.trans (.laid hen)) hen' (.tuple (SqT.of ?_) (.cons .str (.cons .int .nil))) _ λH7 o9 o10 h=>qBb hN_ h);rw [qBh z3 (by simp [z1,z2]),qA1]
    ·subst h;refine⟨intsD [x,y],.list [],.list hc0 (DenL.ofInts [x,y]),.list (SqL.of qA1) .nil,rfl,rfl,?_⟩;walk_at "re";refine iteF ?_;walk_at "re";refine qH5 hc0 ?_;walk_at "re";refine qD0 ?_;walk_at "re";refine iteF ?_;walk_at "re";refine⟨len2 (by show 3<=1000;decide),λen hen=>?_⟩;have hen':=E0.none (by simp) hen;obtain⟨z1,z2,z3⟩:=nT hen';refine qH6 (tail en _ (E0.trans (.laid hen)) hen' (.tuple (SqT.of ?_) (.cons .str (.cons .int (.cons .int .nil)))) _ λH7 o9 o10 h=>qBb hN_ h);rw [qBh z3 (by simp [z1,z2]),qA1]
   ·intro σ' H' hq_;refine hide λG_ hG_=>?_;obtain⟨wk,ws,o9,o10,rfl,hwl,hwk,T',e',hl',hden⟩:=hq_;refine hG_ ?_;walk_at "re";have EH:Ext [l,t] H H':=(E4.mono (by simp)).trans e';exact q l wk ws H' hlH nlT (T'.mono (by lia)) (EH.drop hlH) ⟨by lia,λb hb=>(hwk.1 b hb).1⟩ ⟨λb hb=>(hwk.1 b hb).2,by show Ledx (wk.map (·.ns));rw [hwk.2,bD (by lia)];exact hLx⟩ hl' hden
end
end Fs
local macro_rules | `(tactic| walk_at "rf") => `(tactic| repeat (first | with_reducible refine L2.qTc ?_ | with_reducible refine L2.qO4 ?_ | with_reducible refine L2.qS3 ?_ | with_reducible refine L2.qH6 ?_ | with_reducible refine L2.qRy ?_ | with_reducible refine L2.qJb ?_ | with_reducible refine L2.qJ7 ?_ | with_reducible refine L2.qT5 ?_ | with_reducible refine L2.qJ2 ?_ | with_reducible refine L2.qSx ?_ | with_reducible refine L2.qQm ?_ | with_reducible refine L2.qJ9 ?_ | with_reducible refine L2.qKf ?_ | with_reducible refine L2.qFi ?_ | with_reducible refine L2.qO3 ?_ | with_reducible refine L2.qO9 ?_ | with_reducible refine L2.qJf ?_ | with_reducible refine L2.qT1 ?_ | with_reducible refine L2.qOa ?_ | with_reducible refine L2.qSw ?_ | with_reducible refine L2.r_u ?_ | with_reducible refine L2.qOf ?_ | with_reducible refine L2.qSz ?_ | with_reducible refine L2.qO6 ?_ | with_reducible refine L2.qO5 ?_ | with_reducible refine L2.r_c ?_ | with_reducible refine L2.qT0 ?_ | with_reducible refine L2.qRk ?_ | with_reducible refine L2.qOe ?_ | with_reducible refine L2.qH7 ?_ | with_reducible refine L2.qEi ?_ | with_reducible refine L2.qGb ?_ | with_reducible refine L2.qGc ?_ | with_reducible refine L2.qJ8 ?_ | with_reducible refine L2.qJ4 ?_ | with_reducible refine L2.qOc ?_ | with_reducible refine L2.qOd ?_ | with_reducible refine L2.qE4 ?_ | with_reducible refine L2.qJd ?_ | with_reducible refine L2.qGe ?_ | with_reducible refine L2.qJc ?_ | with_reducible refine L2.qJg ?_ | with_reducible refine L2.qJ5 ?_ | with_reducible refine L2.qJj ?_ | with_reducible refine L2.qJi ?_ | with_reducible refine L2.qGd ?_ | with_reducible refine L2.qJa ?_ | with_reducible refine L2.qSy ?_ | with_reducible refine L2.qO7 ?_ | with_reducible refine L2.qJ6 ?_ | with_reducible refine L2.qGa (by with_unfolding_all rfl) ?_ | with_reducible refine L2.qBo (by assumption) (by with_unfolding_all rfl) ?_ | with_reducible refine L2.qLz (by assumption) (by with_unfolding_all rfl) ?_))
namespace Fs
open PySem L2
section
variable{P:Program}{w:World}{K:PySem.W.Frag}{mg:Str->Option Value}{base:Heap}
def Nex(H:Hp)(nd:Addr)(w:List Blk):Prop := ∃kvs:List (Key×V),H nd=some (.dK kvs) /\ ∀k:Int,0<=k->k<w.length -> ∃c,valV kvs (Sum.inl k)=some (.ref c)/\H c=some (.lst ((nxt w k).map V.int))
def qQe(K:PySem.W.Frag):Sp:=λvs H Q _ => ∃(st nd:Addr) (wk:List Blk) (m works a:Int),vs = [.ref st,.ref nd]/\SqL K H st [.int a]/\Nex H nd wk/\WorkOk m works wk/\m<=12/\0<=a/\a<m /\
 ∀(d:Addr) (ks:List Int) (H':Hp),H d=none->Ext [] H H'->H' d=some (.dK (ks.map λk=>((Sum.inl k:Key),V.bl true)))->ks.Nodup->(∀x,x∈ks↔Reach (nxt wk) a x)->Q (.ref d) H'
theorem valV_ks(y:Int):∀ks:List Int,valV (ks.map λk=>((Sum.inl k:Key),V.bl true)) (Sum.inl y)=if y∈ks then some (V.bl true) else none
 | []=>rfl
 | k::r=>by
  have ih:=valV_ks y r;by_cases e:k=y
  ·subst e;rw [bJ,qB8 rfl,if_pos (bT ..)]
  ·rw [bJ,qB9 (λz=>e (Sum.inl.inj z)),ih];have:(y∈k::r)↔y∈r:=by simp [dS e]
   simp only [this]
structure LedI(H:Hp)(st nd d du:Addr)(wk:List Blk)(a:Int)(ks due:List Int)(H':Hp):Prop where
 ext:Ext [] H H'
 hd:H' d=some (.dK (ks.map λk=>((Sum.inl k:Key),V.bl true)))
 hdu:H' du=some (.lst (due.map V.int))
 nod:ks.Nodup
 rk:∀x∈ks,Reach (nxt wk) a x
 rd:∀x∈due,Reach (nxt wk) a x
 clo:∀k∈ks,∀c∈nxt wk k,c∈ks\/c∈due
 one:a∈ks\/a∈due
 few:ks.length<=cnt (λx=>decide (x∈ks)) wk.length
 fewd:due.length<=1+2*cnt (λx=>decide (x∈ks)) wk.length
def LedW(H:Hp)(st nd d du:Addr)(wk:List Blk)(a:Int)(μ : Nat)(σ':St)(H':Hp):Prop := ∃(ks due:List Int) (o4:Option V),μ = (wk.length - cnt (λx=>decide (x∈ks)) wk.length)*3+due.length /\ σ' = [some (.ref st),some (.ref nd),some (.ref d),some (.ref du),o4]/\LedI H st nd d du wk a ks due H'
theorem LedI.end_{H H':Hp}{st nd d du:Addr}{wk:List Blk}{a:Int}{ks:List Int}(h:LedI H st nd d du wk a ks [] H')(x:Int):x∈ks↔Reach (nxt wk) a x:=by
 refine⟨h.rk x,λr=>?_⟩
 induction r with
 | refl=>exact h.one.elim id λz=>absurd z (by simp)
 | step _ hc ih=>exact (h.clo _ ih _ hc).elim id λz=>absurd z (by simp)
abbrev sLed:Stmt:=top 5
theorem scLed:FnScope ["starts","nexts","seen","due","place"] ["starts","nexts"] (qA7 sLed):=⟨rfl,rfl,rfl,by decide +kernel,rfl,by decide +kernel,by decide +kernel⟩
theorem qSf{f:Addr}{fd:FuncData}(F:Fun K "led_to" "led_to" sLed f fd)(nlist:mg "list" = none):FnOk P w K mg base CX0 1 f fd ["starts","nexts"] (qQe K):=by
 refine F.ok scLed (λvs H Q E h=>?_) (λcdv A outer s H vs Q E hr h=>?_)
 ·obtain⟨st,nd,wk,m,works,a,rfl,_⟩:=h;rfl
 ·obtain⟨st,nd,wk,m,works,a,rfl,hSt,hNx,hOk,hm,ha0,ha1,q⟩:=h;have hu:=qBu hr
  refine⟨_,qA4 (qAg (i:=2) scLed.nd rfl (Or.inl rfl) qJn)
   (qA4 (qAg (i:=3) scLed.nd rfl (Or.inl rfl) (qAr qCr (by rfl) nlist bV (qA0 (pv 0) qA3)))
   (qA4 (qOk bL (qJk (pv 3) (λ_=>rfl))
    (qA4 (qAg (i:=4) scLed.nd rfl (Or.inl rfl) (qQ2 aM PySem.F.slot_list_pop PySem.F.type_list_pop qSk (pv 3)))
    (qA8 (qBc (qPz (qM8 hu (pv 4) (pv 2)))
     (qA4 (qQr hu (pv 2) (pv 4) qD9 rfl)
     (qA8 (qB2 (qBp aM PySem.F.slot_list_extend PySem.F.type_list_extend qHg (pv 3) (qA0 (qOm hu (pv 1) (pv 4) (qAq qA3) ⟨rfl,rfl,rfl,rfl⟩) qA3)))))
     qAl))))
   (qA8 (qAc (pv 2))))),?_⟩
  dsimp only [qBf,qB5];walk_at "rf";have hwm:=hOk.len;have few:∀x,(nxt wk x).length<=2:=λx=>(qQ3 hOk x).few;refine qM0 λd hd=>?_;walk_at "rf";have E0:Ext [] H (upd H d (.dK [])) :=.laid hd;refine⟨st,_,rfl,.inl (E0.toSame.seq hSt),λdu hdu=>?_⟩;have nd1:d≠du:=qA2 qA1 hdu;have hdu0:H du=none:=E0.none (by simp) hdu;walk_at "rf";have st0:LedI H st nd d du wk a [] [a] (upd (upd H d (.dK [])) du (.lst [.int a])):=by
   refine⟨E0.trans (.laid hdu),?_,qA1,List.nodup_nil,(λ_ h=>absurd h (by simp)),λx hx=>?_,(λ_ h=>absurd h (by simp)),.inr (aO.mpr rfl),aW _,dA _ _⟩
   ·rw [qA5 nd1,qA1];rfl
   ·rw [aO.mp hx];exact .refl
  refine⟨LedW H st nd d du wk a,⟨_,[],[a],none,rfl,rfl,st0⟩,?_⟩;rintro μ σ' H' ⟨ks,due,o4,rfl,rfl,I⟩;refine qGa (v :=.ref du) rfl ⟨!(due.map V.int).isEmpty,.inl ⟨_,SqL.of I.hdu,rfl⟩,?_⟩;rcases List.eq_nil_or_concat due with h | ⟨init,y,h⟩
  ·subst h;refine iteF ?_;walk_at "rf";exact q d ks H' hd I.ext I.hd I.nod I.end_
  ·have h:due=init ++ [y]:=by rw [h,List.concat_eq_append]
   have he:(!(due.map V.int).isEmpty)=true:=by rw [h];simp
   rw [he];refine iteT ⟨λσ' H' => ∃m',m'<(wk.length - cnt (λx=>decide (x∈ks)) wk.length)*3+due.length/\LedW H st nd d du wk a m' σ' H',λ_ _ h=>h,?_⟩;have hyr:=I.rd y (by rw [h];simp);obtain⟨y0,y1⟩:=hyr.range hOk ⟨ha0,ha1⟩;have hc:=qNf (λx=>decide (x∈ks)) wk.length;have hdl:due.length=init.length+1:=by rw [h];simp
   have hfd:=I.fewd;have hfk:=I.few;walk_at "rf";refine qBr I.hdu ?_;refine⟨du,due.map V.int,.int y,rfl,rfl,I.hdu,by rw [h];simp,?_⟩;have hinit:(due.map V.int).dropLast=init.map V.int:=by rw [h];simp
   rw [hinit];have d1:upd H' du (.lst (init.map V.int)) d=some (.dK (ks.map λk=>((Sum.inl k:Key),V.bl true))):=by rw [qA5 nd1];exact I.hd
   have e1:Ext [] H (upd H' du (.lst (init.map V.int))):=((I.ext.mono (us :=[du]) (by simp)).trans (.put (by simp))).drop hdu0;have u1:upd H' du (.lst (init.map V.int)) du=some (.lst (init.map V.int)):=qA1;generalize upd H' du (.lst (init.map V.int))=H1 at *;walk_at "rf";refine⟨d,_,rfl,DGet.k (k:=Sum.inl y) d1,?_⟩;rw [valV_ks];by_cases hy:y∈ks
   ·rw [if_pos hy];refine qQm (iteF ?_);walk_at "rf";refine⟨_,by rw [hdl];exact Nat.lt_succ_self _,ks,init,_,rfl,rfl,e1,d1,u1,I.nod,I.rk,λx hx=>I.rd x (by rw [h];exact bR _ hx),λk hk c hc'=>?_,?_,I.few,by lia⟩
    ·rcases I.clo k hk c hc' with z | z
     ·exact .inl z
     ·rw [h] at z;rcases aP.mp z with z | z
      ·exact .inr z
      ·rw [aO.mp z];exact .inl hy
    ·rcases I.one with z | z
     ·exact .inl z
     ·rw [h] at z;rcases aP.mp z with z | z
      ·exact .inr z
      ·rw [aO.mp z];exact .inl hy
   ·rw [if_neg hy];refine qQm (iteT ?_);walk_at "rf";refine⟨d,_,rfl,DPut.k (k:=Sum.inl y) d1 (qAh (by rw [aB];lia)),?_⟩;have hput:putK (ks.map λk=>((Sum.inl k:Key),V.bl true)) (Sum.inl y) (V.bl true)=(ks ++ [y]).map λk=>((Sum.inl k:Key),V.bl true):=by
     rw [qOi _ (by rw [valV_ks,if_neg hy]),aQ];rfl
    rw [hput];have d2:upd H1 d (.dK ((ks ++ [y]).map λk=>((Sum.inl k:Key),V.bl true))) d=some (.dK ((ks ++ [y]).map λk=>((Sum.inl k:Key),V.bl true))):=qA1;have e2:Ext [] H (upd H1 d (.dK ((ks ++ [y]).map λk=>((Sum.inl k:Key),V.bl true)))):=((e1.mono (us :=[d]) (by simp)).trans (.put (by simp))).drop hd;have u2:upd H1 d (.dK ((ks ++ [y]).map λk=>((Sum.inl k:Key),V.bl true))) du=some (.lst (init.map V.int)):=by rw [qA5 nd1.symm];exact u1
    generalize upd H1 d (.dK ((ks ++ [y]).map λk=>((Sum.inl k:Key),V.bl true)))=H2 at *;obtain⟨kvs,hk1,hk2⟩:=hNx;obtain⟨c,hc1,hc2⟩:=hk2 y y0 (by lia);walk_at "rf";refine qBr u2 ?_;walk_at "rf";refine⟨nd,rfl,.inl ⟨kvs,.inl (e2 _ _ (by simp) hk1)⟩,?_⟩;walk_at "rf";refine⟨len2 (aW _),λe0 he0=>?_⟩;have e3:Ext [] H2 (upd H2 e0 (.lst [])) :=.laid he0;refine⟨some (.ref c),?_,?_⟩
    ·have:=DGet.k (k:=Sum.inl y) ((e2.trans e3) _ _ (by simp) hk1);rw [hc1] at this;exact this
    walk_at "rf";have hnl:=few y;have hmem:∀x,x∈ks->x∈ks ++ [y]:=λx hx=>bR _ hx;have hlt:=qQb (p:=λx=>decide (x∈ks)) (q:=λx=>decide (x∈ks ++ [y])) (x:=y) (λi hi=>decide_eq_true (hmem i (of_decide_eq_true hi))) (decide_eq_true (by simp)) (decide_eq_false hy) wk.length y0 (by lia);have hle:=qNf (λx=>decide (x∈ks ++ [y])) wk.length;refine⟨du,c,init.map V.int,(nxt wk y).map V.int,rfl,rfl,e3 _ _ (by simp) u2,(e2.trans e3) _ _ (by simp) hc2,len2 (by rw [aB,aB];lia),?_⟩;refine⟨_,?_,ks ++ [y],init++nxt wk y,_,rfl,rfl,?_,?_,?_,?_,?_,?_,?_,?_,?_,?_⟩
    ·rw [aN];lia
    ·exact (((e2.trans e3).mono (us :=[du]) (by simp)).trans (.put (by simp))).drop hdu0
    ·rw [qA5 nd1];exact e3 _ _ (by simp) d2
    ·rw [qA1,aQ]
    ·rw [cU];refine⟨I.nod,by simp,λx hx z hz=>?_⟩;rw [aO.mp hz];rintro rfl;exact hy hx
    ·intro x hx;rcases aP.mp hx with z | z
     ·exact I.rk x z
     ·rw [aO.mp z];exact hyr
    ·intro x hx;rcases aP.mp hx with z | z
     ·exact I.rd x (by rw [h];exact bR _ z)
     ·exact .step hyr z
    ·intro k hk c' hc';rcases aP.mp hk with z | z
     ·rcases I.clo k z c' hc' with t | t
      ·exact .inl (bR _ t)
      ·rw [h] at t;rcases aP.mp t with t | t
       ·exact .inr (bR _ t)
       ·exact .inl (aZ _ t)
     ·rw [aO.mp z] at hc';exact .inr (aZ _ hc')
    ·rcases I.one with t | t
     ·exact .inl (bR _ t)
     ·rw [h] at t;rcases aP.mp t with t | t
      ·exact .inr (bR _ t)
      ·exact .inl (aZ _ t)
    ·rw [aN,List.length_singleton];lia
    ·rw [aN];lia
end
section
variable{P:Program}{w:World}{K:PySem.W.Frag}{mg:Str->Option Value}{base:Heap}
def qT2(K:PySem.W.Frag):Sp:=λvs H Q _ => ∃(a:Addr) (wk:List Blk),vs = [.ref a]/\Den K H (workD wk) (.ref a)/\(∀b∈wk,b.ns.length<=2)/\wk.length<=12 /\
 ∀(d:Addr) (H':Hp),H d=none->Ext [] H H'->Nex H' d wk->Q (.ref d) H'
abbrev sNx:Stmt:=top 19
theorem scNx:FnScope ["work"] ["work"] (qA7 sNx):=⟨rfl,rfl,rfl,by decide +kernel,rfl,by decide +kernel,by decide +kernel⟩
theorem qT7{f:Addr}{fd:FuncData}(F:Fun K "nexts_of" "nexts_of" sNx f fd)(nlist:mg "list" = none)(nenum:mg "enumerate" = none):FnOk P w K mg base CX0 1 f fd ["work"] (qT2 K):=by
 refine F.ok scNx (λvs H Q E h=>?_) (λcdv A outer s H vs Q E hr h=>?_)
 ·obtain⟨a,w,rfl,_⟩:=h;rfl
 ·obtain⟨a,wk,rfl,hW,hns,hwl,q⟩:=h;have nd3:((["at","deeds","end"]:List Str)).Nodup:=by decide
  refine⟨_,qA8 (qAc (qT6 ["at","deeds","end"] [] rfl (.of rfl) (qM6 rfl nenum (qA0 (pv 0) qA3)) (λ_ _ _ _=>qGk (n:=2) K rfl rfl (qAx (qAd (i:=0) nd3 rfl (Or.inl rfl)) (qAx (qGk (n:=2) K rfl rfl (qAx (qAd (i:=1) nd3 rfl (Or.inl rfl)) (qAx (qAd (i:=2) nd3 rfl (Or.inl rfl)) qCe))) qCe))) (λ_ _ _ _ =>.nil)
   (λ_ _ _ _=>pv 0) (λ_ _ _ _=>qAr (qP8 K rfl) (by rfl) nlist bV (qA0 (qE5 (qQg K rfl) (pv 2) (qGi qA6) qGj) qA3)))),?_⟩
  dsimp only [qBf,qB5];obtain⟨a',vs,ea,hSq,hDL⟩:=hW.ofList;cases ea;have hvl:vs.length=wk.length:=by rw [hDL.len,aB]
  walk_at "rf";refine⟨a,rfl,⟨vs,hSq⟩,λd hd=>?_⟩;refine qMq (xs:=vs) (λi σ' H' => ∃(kvs:List (Key×V)) (o0 o1 o2:Option V),σ' = [o0,o1,o2]/\Ext [d] H H'/\H' d=some (.dK kvs)/\kvs.length<=i /\ ∀k:Int,0<=k->k<i -> ∃c,valV kvs (Sum.inl k)=some (.ref c)/\c≠d/\H' c=some (.lst ((nxt wk k).map V.int))) ?_ ?_ ?_ ?_
  ·exact⟨[],none,none,none,rfl,.laid hd,qA1,aC _,λk h0 h1=>absurd h1 (by lia)⟩
  ·rintro i σ' H' hi ⟨kvs,o0,o1,o2,rfl,e',hd',hkl,hk⟩;exact (e'.drop hd).toSame.seq hSq
  ·rintro i x σ' H' pt R hx ⟨kvs,o0,o1,o2,rfl,e',hd',hkl,hk⟩ hpt hR;obtain⟨dd,hdd,hDx⟩:=hDL.get hx;obtain⟨b,hb,rfl⟩:=qAz hdd;have hi:i<wk.length:=(aD.mp hb).1;have hb2:=hns b (aL hb);obtain⟨c,us,rfl,hc,hcs⟩:=hDx.ofTuple;obtain⟨v1,r1,rfl,hd1,hr1⟩:=hcs.ofCons;obtain⟨v2,r2,rfl,hd2,hr2⟩:=hr1.ofCons;have hr2:=hr2.ofNil;subst hr2;obtain⟨wd,hwd⟩:=qRe hb2;rw [hwd] at hd2;obtain⟨en,es',rfl,hen,hes⟩:=hd2.ofTuple;obtain⟨v3,r3,rfl,hd3,hr3⟩:=hes.ofCons;have e3:=hd3.ofStr;subst e3;have e4:=hr3.ints;subst e4;have npt:pt≠d:=(qA2 hd' hpt).symm;have e1:Ext [d] H (upd H' pt (.tup [.int i,.ref c])):=e'.trans (.laid hpt);have es:Same H (upd H' pt (.tup [.int i,.ref c])):=(e1.drop hd).toSame
   have hd1':upd H' pt (.tup [.int i,.ref c]) d=some (.dK kvs):=by rw [qA5 npt.symm];exact hd'
   have hpt1:SqT K (upd H' pt (.tup [.int i,.ref c])) pt [.int i,.ref c]:=SqT.of qA1;have hk1:Ext [] H' (upd H' pt (.tup [.int i,.ref c])) :=.laid hpt;generalize upd H' pt (.tup [.int i,.ref c])=H1 at *;refine qDg hpt1 rfl ?_;walk_at "rf";refine qDg (es.seqT hc) rfl ?_;walk_at "rf";refine iteT ?_;walk_at "rf";refine⟨1,rfl,?_⟩;walk_at "rf";refine⟨en,_,rfl,es.seqT hen,?_,λp hp=>?_⟩
   ·intro h;have:=h.1;revert this;have hn:(V.str wd::b.ns.map V.int).length=b.ns.length+1:=by simp
    rw [hn];unfold HT.sIx;simp
    try lia
   have hcut:cutV (V.str wd::b.ns.map V.int) (some 1) none=b.ns.map V.int:=by
    match hh:b.ns,hb2 with
    | [],_=>rfl
    | [x],_=>rfl
    | [x,y],_=>rfl
   rw [hcut];have npl:p≠d:=(qA2 hd1' hp).symm;walk_at "rf";refine⟨p,_,rfl,.inr (SqT.of qA1),λl2 hl2=>?_⟩;have e2:Ext [] H1 (upd (upd H1 p (.tup (b.ns.map V.int))) l2 (.lst (b.ns.map V.int))):=(Ext.laid hp).trans (.laid hl2);have hl2s:upd (upd H1 p (.tup (b.ns.map V.int))) l2 (.lst (b.ns.map V.int)) l2=some (.lst (b.ns.map V.int)):=qA1;have n2:l2≠d:=(qA2 (Ext.laid (ts :=[]) hp _ _ (by simp) hd1') hl2).symm;generalize upd (upd H1 p (.tup (b.ns.map V.int))) l2 (.lst (b.ns.map V.int))=H2 at *;refine⟨kvs,Sum.inl (i:Int),rfl,e2 _ _ (by simp) hd1',qAh (by lia),hR _ _ ⟨_,_,_,_,rfl,?_,qA1,?_,λk k0 k1=>?_⟩⟩
   ·exact e1.trans ((e2.mono (by simp)).trans (.put (by simp)))
   ·have:=qBl kvs (Sum.inl (i:Int):Key) (.ref l2);lia
   ·rw [qIs];by_cases z:k=(i:Int)
    ·subst z;rw [if_pos rfl];refine⟨l2,rfl,n2,?_⟩;rw [qA5 n2,hl2s,qMl hb]
    ·rw [if_neg (λy=>z (Sum.inl.inj y))];obtain⟨c',h1,h2,h3⟩:=hk k k0 (by lia);exact⟨c',h1,h2,by rw [qA5 h2];exact (hk1.trans e2) _ _ (by simp) h3⟩
  ·rintro σ' H' ⟨kvs,o0,o1,o2,rfl,e',hd',hkl,hk⟩;rw [hvl] at hk;refine q d H' hd (e'.drop hd) ⟨kvs,hd',λk k0 k1=>?_⟩;obtain⟨c,h1,_,h3⟩:=hk k k0 k1;exact⟨c,h1,h3⟩
end
end Fs
local macro_rules | `(tactic| walk_at "rg") => `(tactic| repeat (with_reducible first | (refine L2.qJ3 ?_; intro NN_ hNN_) | walk_at "qa" | refine L2.qBb (by assumption) ?_ | (refine L2.qOb ?_; intro NA_ NB_ hNA_ hNB_) | walk_at "qb"))
namespace Fs
open PySem L2
section
variable{P:Program}{w:World}{K:PySem.W.Frag}{mg:Str->Option Value}{base:Heap}
abbrev sTape:Stmt:=top 39
abbrev qDm:Stmt:=top 42
abbrev sMany:Stmt:=top 45
theorem scTape:FnScope ["_law_script","_law_k","_law_cell"] ["_law_script","_law_k"] (qA7 sTape):=⟨rfl,rfl,rfl,by decide +kernel,rfl,by decide +kernel,by decide +kernel⟩
theorem qR1{f:Addr}{fd:FuncData}(F:Fun K "_law_tape" "_law_tape" sTape f fd)(nlen:mg "len" = none)(nabs:mg "abs" = none)(nint:mg "int" = none):FnOk P w K mg base CX0 1 f fd ["_law_script","_law_k"] (qLk K):=by
 refine F.ok scTape (λvs H Q E h=>?_) (λcdv A outer s H vs Q E hr h=>?_)
 ·refine hide λG_ hG_=>?_;obtain⟨a,ns,k,rfl,_⟩:=h;refine hG_ ?_;rfl
 ·refine hide λG_ hG_=>?_;obtain⟨a,ns,k,rfl,hS,hk,q⟩:=h;refine hG_ ?_
  refine⟨_,qA4 (qAg (i:=2) scTape.nd rfl (Or.inl rfl) (qBg (qAa qKj (pv 1) (qA9 qAf (by rfl) nlen bB (qA0 (pv 0) qA3)) (qAi _)) (qB3 qAm (pv 0) (pv 1) (λ_ _=>rfl)) qA6))
   (qA8 (qAc (qAq (qA0 (qAp qHf (qA9 qK3 (by rfl) nabs PyProof.Rows.boot_abs (qA0 (pv 2) qA3)) (qAr qCt (by rfl) nint bZ (qA0 (qC4 qSd (qA9 qK3 (by rfl) nabs PyProof.Rows.boot_abs (qA0 (pv 2) qA3)) (qAp qHd qA6 qA6) (qAi _)) qA3)))
    (qA0 (qAp qB7 (qAp qB7 (qAp qDh (pv 2) qA6) (qAp qHf qA6 (pv 1))) qA6) (qA0 qA6 qA3)))))),?_⟩
  dsimp only [qBf];have key:∀c:Int,0<=(if c<0 then -c else c):=λc=>by split <;> lia
  walk_at "rg";refine qH5 hS ?_;walk_at "rg";by_cases g:(k:Int)<((ns.map V.int).length:Int)
  ·rw [decide_eq_true g];refine iteT ?_;rw [aB] at g;have hg:k<ns.length:=by lia
   have hat:atI (ns.map V.int) (k:Int)=some (.int ns[k]):=by
    have:=qDc (xs:=ns.map V.int) (j:=k) (by rw [bC,aI hg];rfl);exact this
   walk_at "rg";refine qBo hS hat ?_;generalize ns[k]=c;walk_at "rg";refine⟨_,rfl,?_⟩;walk_at "rg";refine⟨_,rfl,?_⟩;walk_at "rg";refine qKe (by decide) (by decide) (by decide) ?_;walk_at "rg";refine .inr ⟨_,rfl,?_⟩;refine qIc (.inr ⟨by have:=bit01 (decide (10^Int.toNat 18<=if c<0 then -c else c));lia,by have:=bit01 (decide (10^Int.toNat 18<=if c<0 then -c else c));lia⟩) ?_;walk_at "rg";refine qEh (by decide) ?_;walk_at "rg";refine qIc (.inl ⟨by decide,by decide⟩) ?_;walk_at "rg";refine⟨len2 (by show 3<=1000;decide),λt ht=>q t _ ht ⟨_,_,_,qA1,?_,?_,?_,by decide,by decide⟩ λb o e=>?_⟩
   ·exact Int.mul_nonneg (key c) (bit01 _).1
   ·have:=dJ c (show (2305843009213693951:Int)≠0 by decide);lia
   ·have:=cO c (show (0:Int)<2305843009213693951 by decide);lia
   ·rw [qA5 (qA2 e ht)];exact e
  ·rw [decide_eq_false g];refine iteF ?_;walk_at "rg";refine⟨_,rfl,?_⟩;walk_at "rg";refine⟨_,rfl,?_⟩;walk_at "rg";refine qKe (by decide) (by decide) (by decide) ?_;walk_at "rg";refine .inr ⟨_,rfl,?_⟩;refine qIc (.inr ⟨by have:=bit01 (decide (10^Int.toNat 18<=if 0<0 then -0 else 0));lia,by have:=bit01 (decide (10^Int.toNat 18<=if 0<0 then -0 else 0));lia⟩) ?_;walk_at "rg";refine qEh (by decide) ?_;walk_at "rg";refine qIc (.inl ⟨by decide,by decide⟩) ?_;walk_at "rg";refine⟨len2 (by show 3<=1000;decide),λt ht=>q t _ ht ⟨_,_,_,qA1,?_,?_,?_,by decide,by decide⟩ λb o e=>?_⟩
   ·exact Int.mul_nonneg (key 0) (bit01 _).1
   ·have:(0:Int)%2305843009213693951=0:=rfl;lia
   ·have:(0:Int)%2305843009213693951=0:=rfl;lia
   ·rw [qA5 (qA2 e ht)];exact e
theorem qRs:FnScope ["_law_tape_here"] ["_law_tape_here"] (qA7 sMany):=⟨rfl,rfl,rfl,by decide +kernel,rfl,by decide +kernel,by decide +kernel⟩
theorem qR4{f:Addr}{fd:FuncData}(F:Fun K "_law_many" "_law_many" sMany f fd)(nint:mg "int" = none)(hD:Has P w K mg base "_law_draw" 1 ["_law_tape_here","_law_many_here"] qCl):FnOk P w K mg base CX0 2 f fd ["_law_tape_here"] qLm:=by
 refine F.ok qRs (λvs H Q E h=>?_) (λcdv A outer s H vs Q E hr h=>?_)
 ·refine hide λG_ hG_=>?_;obtain⟨t,k,rfl,_⟩:=h;refine hG_ ?_;rfl
 ·refine hide λG_ hG_=>?_;obtain⟨t,k,rfl,hT,hk,q⟩:=h;refine hG_ ?_
  refine⟨_,qA8 (qAc (qB3 qAm (qAq (qA0 (qAp qB7 qA6 (qAj hD hr (aC _) (qA0 (pv 0) (qA0 qA6 qA3)))) (qA0 (qAp qB7 qA6 (qAj hD hr (aC _) (qA0 (pv 0) (qA0 qA6 qA3)))) qA3)))
   (qAr qCt (by rfl) nint bZ (qA0 (qC4 qBt (qAj hD hr (aC _) (qA0 (pv 0) (qA0 qA6 qA3))) qA6 (qAi _)) qA3)) (λ_ _=>rfl))),?_⟩
  dsimp only [qBf];walk_at "rg";refine qAy hT (by lia) (by decide) (by decide) λr1 H1 a1 b1 T1 e1 _=>?_;walk_at "rg";refine qAy T1 (by lia) (by decide) (by decide) λr2 H2 a2 b2 T2 e2 _=>?_;walk_at "rg";refine⟨len2 (by show 2<=1000;decide),λp hp=>?_⟩;have np:p≠t:=T2.ne hp;walk_at "rg";refine qAy (T2.ext (.laid (ts :=[]) hp) (by simp)) (by lia) (by decide) (by decide) λr3 H3 a3 b3 T3 e3 k3=>?_;walk_at "rg";refine qD0 ?_;walk_at "rg";refine .inr ⟨_,rfl,?_⟩;have e4:Ext [t] H H3:=(e1.trans e2).trans ((Ext.laid hp).trans e3);have hL:SqL K H3 p [V.int (1+r1),V.int (7+r2)]:=SqL.of (by rw [k3 p np,qA1]);cases c:decide (r3=0) with
  | true=>exact qBo hL rfl (q _ _ (by lia) (by lia) T3 e4)
  | false=>exact qBo hL rfl (q _ _ (by lia) (by lia) T3 e4)
theorem qNz:FnScope ["_law_tape_here"] ["_law_tape_here"] (qA7 qDm):=⟨rfl,rfl,rfl,by decide +kernel,rfl,by decide +kernel,by decide +kernel⟩
theorem qMf{f:Addr}{fd:FuncData}(F:Fun K "_law_number" "_law_number" qDm f fd)(hD:Has P w K mg base "_law_draw" 1 ["_law_tape_here","_law_many_here"] qCl):FnOk P w K mg base CX0 2 f fd ["_law_tape_here"] qG1:=by
 refine F.ok qNz (λvs H Q E h=>?_) (λcdv A outer s H vs Q E hr h=>?_)
 ·refine hide λG_ hG_=>?_;obtain⟨t,k,rfl,_⟩:=h;refine hG_ ?_;rfl
 ·refine hide λG_ hG_=>?_;obtain⟨t,k,rfl,hT,hk,q⟩:=h;refine hG_ ?_
  refine⟨_,qA8 (qAc (qB3 qAm (qAq (qA0 qA6 (qA0 qA6 (qA0 (qQu qL7 qA6) (qA0 qA6 (qA0 (qAp qHd qA6 qA6) (qA0 (qAp qMa qA6 (qAp qHd qA6 qA6))
   (qA0 (qAp qMa (qAj hD hr (aC _) (qA0 (pv 0) (qA0 qA6 qA3))) qA6) (qA0 (qAj hD hr (aC _) (qA0 (pv 0) (qA0 (qAp qHd qA6 qA6) qA3))) qA3)))))))))
   (qAj hD hr (aC _) (qA0 (pv 0) (qA0 qA6 qA3))) (λ_ _=>rfl))),?_⟩
  dsimp only [qBf];walk_at "rg";refine qKe (by decide) (by decide) (by decide) ?_;walk_at "rg";refine qKe (by decide) (by decide) (by decide) ?_;walk_at "rg";refine qAy hT (by lia) (by decide) (by decide) λr1 H1 a1 b1 T1 e1 _=>?_;walk_at "rg";refine qKe (by decide) (by decide) (by decide) ?_;walk_at "rg";refine qAy T1 (by lia) (by decide) (by decide) λr2 H2 a2 b2 T2 e2 _=>?_;have b2':r2<1000000:=b2;walk_at "rg";refine⟨len2 (by show 8<=1000;decide),λp hp=>?_⟩;have np:p≠t:=T2.ne hp;walk_at "rg";refine qAy (T2.ext (.laid (ts :=[]) hp) (by simp)) (by lia) (by decide) (by decide) λr3 H3 a3 b3 T3 e3 k3=>?_;have e4:Ext [t] H H3:=(e1.trans e2).trans ((Ext.laid hp).trans e3);have hL:=SqL.of (K:=K) ((k3 p np).trans qA1)
  have e5:(10:Int)^(12:Int).toNat=1000000000000:=by decide
  have e6 : -((10:Int)^12) = -1000000000000:=by decide
  have e7:((10:Int)^12)=1000000000000:=by decide
  rw [e6,e7] at q;obtain h | h | h | h | h | h | h | h:r3=0\/r3=1\/r3=2\/r3=3\/r3=4\/r3=5\/r3=6\/r3=7:=by lia
  all_goals
   subst h;refine qBo hL rfl (q _ _ ?_ ?_ T3 e4)
  all_goals first | decide | lia
end
end Fs
local macro_rules | `(tactic| walk_at "rh") => `(tactic| repeat (with_reducible first | (refine L2.qJ3 ?_; intro NN_ hNN_) | walk_at "qa" | refine L2.qBb (by assumption) ?_ | refine L2.qPf (by assumption) ?_ | (refine L2.qOb ?_; intro NA_ NB_ hNA_ hNB_) | walk_at "qb"))
namespace Fs
open PySem L2
section
variable{P:Program}{w:World}{K:PySem.W.Frag}{mg:Str->Option Value}{base:Heap}
abbrev qFg:Stmt:=top 43
theorem scDeeds:FnScope ["_law_tape_here","_law_most","_law_boxes","_law_first","_law_works_here","_law_found","_law_turn","_law_way","_law_n","_law_box","_law_other","_law_called"] ["_law_tape_here","_law_most","_law_boxes","_law_first","_law_works_here"] (qA7 qFg):=⟨rfl,rfl,rfl,by decide +kernel,rfl,by decide +kernel,by decide +kernel⟩
theorem qP1{f:Addr}{fd:FuncData}(F:Fun K "_law_deeds" "_law_deeds" qFg f fd)(nrange:mg "range" = none)(nint:mg "int" = none)(nlen:mg "len" = none)(hD:Has P w K mg base "_law_draw" 1 ["_law_tape_here","_law_many_here"] qCl)(hN:Has P w K mg base "_law_number" 2 ["_law_tape_here"] qG1):FnOk P w K mg base CX0 3 f fd ["_law_tape_here","_law_most","_law_boxes","_law_first","_law_works_here"] (qE3 K):=by
 refine F.ok scDeeds (λvs H Q E h=>?_) (λcdv A outer s H vs Q E hr h=>?_)
 ·refine hide λG_ hG_=>?_;obtain⟨t,b,k,most,first,works,bs,rfl,_⟩:=h;refine hG_ ?_;rfl
 ·refine hide λG_ hG_=>?_;obtain⟨t,b,k,most,first,works,bs,rfl,hT,hk,hm1,hm2,hf1,hf2,hw1,hw2,hb,nbt,hB,q⟩:=h;refine hG_ ?_
  refine⟨_,qA4 (qAg (i:=5) scDeeds.nd rfl (Or.inl rfl) (qAq qA3))
   (qA4 (qBx bL rfl (qBs rfl nrange (qA0 (qAj hD hr (by decide) (qA0 (pv 0) (qA0 (qAp qB7 qA6 (qB3 qAm (qAq (qA0 (pv 1) (qA0 qA6 qA3))) (qAr qCt (by rfl) nint bZ (qA0 (qC4 qBt (qAj hD hr (by decide) (qA0 (pv 0) (qA0 qA6 qA3))) qA6 (qAi _)) qA3)) (λ_ _=>rfl))) qA3))) qA3)) (qAd (i:=6) scDeeds.nd rfl (Or.inl rfl))
    (qA4 (qJl (i:=7) (j:=8) rfl scDeeds.nd rfl rfl (by decide) rfl rfl (qA0 (qAj hD hr (by decide) (qA0 (pv 0) (qA0 qA6 qA3))) (qA0 (qAj hN hr (by decide) (qA0 (pv 0) qA3)) qA3)) rfl)
    (qA4 (qAg (i:=9) scDeeds.nd rfl (Or.inl rfl) (qB3 qAm (pv 2) (qAj hD hr (by decide) (qA0 (pv 0) (qA0 (qA9 qAf (by rfl) nlen bB (qA0 (pv 2) qA3)) qA3))) (λ_ _=>rfl)))
    (qA4 (qAg (i:=10) scDeeds.nd rfl (Or.inl rfl) (qB3 qAm (pv 2) (qAj hD hr (by decide) (qA0 (pv 0) (qA0 (qA9 qAf (by rfl) nlen bB (qA0 (pv 2) qA3)) qA3))) (λ_ _=>rfl)))
    (qA4 (qAg (i:=11) scDeeds.nd rfl (Or.inl rfl) (qB3 qAm (qAq (qA0 (qAp qB7 (qAp qB7 (pv 3) qA6) (qAj hD hr (by decide) (qA0 (pv 0) (qA0 qA6 qA3)))) (qA0 (qAj hD hr (by decide) (qA0 (pv 0) (qA0 (pv 4) qA3))) qA3))) (qAr qCt (by rfl) nint bZ (qA0 (qC4 qBt (qAj hD hr (by decide) (qA0 (pv 0) (qA0 qA6 qA3))) qA6 (qAi _)) qA3)) (λ_ _=>rfl)))
    (qA8 (qBc (qH8 (qAa qBt (pv 7) qA6 (qAi _)) (qEj (qAa qKj (pv 11) (pv 4) (qAi _)))).pt
     (qA8 (qB2 (qBp aM aS aT qAs (pv 5) (qA0 (qBy (qA0 qAn (qA0 (pv 11) qA3))) qA3))))
     (qA8 (qB2 (qBp aM aS aT qAs (pv 5) (qA0 (qB3 qAm (qAq (qA0 (qBy (qA0 qAn (qA0 (pv 9) (qA0 (pv 8) qA3)))) (qA0 (qBy (qA0 qAn (qA0 (pv 9) (qA0 (pv 10) qA3)))) (qA0 (qBy (qA0 qAn (qA0 (pv 9) qA3))) qA3)))) (qAp qDh (pv 7) qA6) (λ_ _=>rfl)) qA3)))))))))))
   (qA8 (qAc (pv 5)))),?_⟩
  dsimp only [qBf,qB5];walk_at "rh";refine⟨len2 (aW _),λl hl=>?_⟩;have nlt:l≠t:=hT.ne hl;have nlb:l≠b:=(qA2 hb hl).symm;have T0:Tape (upd H l (.lst [])) t k:=hT.ext (ts :=[]) (.laid hl) (by simp);walk_at "rh";refine⟨len2 (by show 2<=1000;decide),λp hp=>?_⟩;have npt:p≠t:=T0.ne hp;have npl:p≠l:=λz=>by rw [z,qA1] at hp;cases hp
  walk_at "rh";refine qAy (T0.ext (ts :=[]) (.laid hp) (by simp)) (by lia) (by decide) (by decide) λr1 H1 a1 b1 T1 e1 k1=>?_;walk_at "rh";refine qD0 ?_;walk_at "rh";refine .inr ⟨_,rfl,?_⟩;refine hide λG_ hG_=>?_;have hpL:SqL K H1 p [V.int most,V.int 12]:=SqL.of (by rw [k1 p npt,qA1]);obtain⟨mo,hmo,mo0,mo1⟩:∃mo:Int,atI [V.int most,V.int 12] (if decide (r1=0)=true then 1 else 0)=some (.int mo)/\0<=mo/\mo<=12:=by
   cases decide (r1=0)
   ·exact⟨most,rfl,hm1,hm2⟩
   ·exact⟨12,rfl,by decide,by decide⟩
  refine hG_ ?_;refine qBo hpL hmo ?_;walk_at "rh";refine qAy T1 (by lia) (by lia) (by lia) λr2 H2 a2 b2 T2 e2 k2=>?_;have l2:H2 l=some (.lst []):=by rw [k2 l nlt,k1 l nlt,qA5 npl.symm,qA1]
  have E2:Ext [t] H H2:=(Ext.laid hl).trans ((Ext.laid hp).trans (e1.trans e2));walk_at "rh"
  refine⟨r2,rfl,by lia,by lia,qC8 (lo:=0) (n:=r2.toNat) (λi σ' H' => ∃(ds:List Deed) (vs:List V) (o6 o7 o8 o9 o10 o11:Option V),σ' = [some (.ref t),some (.int most),some (.ref b),some (.int first),some (.int works),some (.ref l),o6,o7,o8,o9,o10,o11]/\ds.length=i/\(∀d∈ds,DeedP works d) /\
   Tape H' t (k+2+10*i)/\Ext [t] H H'/\H' l=some (.lst vs)/\DenL K (yo H [t,l] H') (ds.map deedD) vs) ?_ ?_ ?_⟩
  ·exact⟨[],[],none,none,none,none,none,none,rfl,rfl,(λ_ h=>absurd h (by simp)),T2.mono (by lia),E2,l2,.nil⟩
  ·intro i σ' H' hi hq_ N_ B_ C_ R_ hN_ hC_ hR_;refine hide λG_ hG_=>?_;obtain⟨ds,vs,o6,o7,o8,o9,o10,o11,rfl,hdl,hds,hT',e',hl',hden⟩:=hq_;refine hG_ ?_;have hvl:vs.length=i:=by rw [hden.len,aB,hdl]
   walk_at "rh";refine qAy hT' (by lia) (by decide) (by decide) λr3 H3 a3 b3 T3 e3 _=>?_;walk_at "rh";refine qS1 T3 (by lia) λn H4 n0 n1 T4 e4=>?_;walk_at "rh";refine⟨_,_,rfl,?_⟩;have E4:Ext [t] H' H4:=e3.trans e4;have hbt:b ∉ [t]:=by simpa using nbt
   have hltn:l ∉ [t]:=by simpa using nlt
   walk_at "rh";refine⟨b,_,rfl,.inl (SqL.of (E4 _ _ hbt (e' _ _ hbt hb))),?_⟩;rw [aB];walk_at "rh";refine qAy T4 (by lia) (by have:=hB.one;lia) (by have:=hB.few;lia) λr5 H5 a5 b5 T5 e5 _=>?_;have E5:Ext [t] H' H5:=E4.trans e5;obtain⟨bx,hbx,ebx⟩:=qGw (ns:=bs) a5 b5;refine qBo (SqL.of (E5 _ _ hbt (e' _ _ hbt hb))) ebx ?_;walk_at "rh";refine⟨b,_,rfl,.inl (SqL.of (E5 _ _ hbt (e' _ _ hbt hb))),?_⟩;rw [aB];walk_at "rh";refine qAy T5 (by lia) (by have:=hB.one;lia) (by have:=hB.few;lia) λr6 H6 a6 b6 T6 e6 _=>?_;have E6:Ext [t] H' H6:=E5.trans e6;obtain⟨ox,hox,eox⟩:=qGw (ns:=bs) a6 b6;refine qBo (SqL.of (E6 _ _ hbt (e' _ _ hbt hb))) eox ?_;walk_at "rh";refine qAy T6 (by lia) (by decide) (by decide) λr7 H7 a7 b7 T7 e7 _=>?_
   walk_at "rh";refine qAy T7 (by lia) (by lia) (by lia) λr8 H8 a8 b8 T8 e8 _=>?_;walk_at "rh";refine⟨len2 (by show 2<=1000;decide),λp1 hp1=>?_⟩;have np1:p1≠t:=T8.ne hp1;walk_at "rh";refine qAy (T8.ext (ts :=[]) (.laid hp1) (by simp)) (by lia) (by decide) (by decide) λr9 H9 a9 b9 T9 e9 k9=>?_;walk_at "rh";refine qD0 ?_;walk_at "rh";refine .inr ⟨_,rfl,?_⟩;have E9:Ext [t] H' H9:=(E6.trans (e7.trans e8)).trans ((Ext.laid hp1).trans e9);have hL9:SqL K H9 p1 [V.int (first+1+r7),V.int r8]:=SqL.of (by rw [k9 p1 np1,qA1]);obtain⟨ca,hca,ca0⟩:∃ca:Int,atI [V.int (first+1+r7),V.int r8] (if decide (r9=0)=true then 1 else 0)=some (.int ca)/\0<=ca:=by
    cases decide (r9=0)
    ·exact⟨_,rfl,by lia⟩
    ·exact⟨_,rfl,by lia⟩
   refine qBo hL9 hca ?_;have l9:H9 l=some (.lst vs):=E9 _ _ hltn hl';have fin:∀(d:Deed) (H6:Hp) (p:Addr),DeedP works d->Ext [] H9 H6->p≠t->p≠l->Den K (yo H [t,l] H6) (deedD d) (.ref p) -> ∀o6 o7 o8 o9 o10 o11:Option V,∃(ds:List Deed) (vs':List V) (p6 p7 p8 p9 p10 p11:Option V),[some (V.ref t),some (.int most),some (.ref b),some (.int first),some (.int works),some (.ref l),o6,o7,o8,o9,o10,o11] = [some (V.ref t),some (.int most),some (.ref b),some (.int first),some (.int works),some (.ref l),p6,p7,p8,p9,p10,p11]/\ds.length=i+1/\(∀d∈ds,DeedP works d) /\
     Tape (upd H6 l (.lst (vs ++ [.ref p]))) t (k+2+10*(i+1))/\Ext [t] H (upd H6 l (.lst (vs ++ [.ref p])))/\(upd H6 l (.lst (vs ++ [.ref p]))) l=some (.lst vs')/\DenL K (yo H [t,l] (upd H6 l (.lst (vs ++ [.ref p])))) (ds.map deedD) vs':=by
    intro d H6 p hd e6 npt npl hden6 o6 o7 o8 o9 o10 o11;have E10:Ext [l,t] H9 (upd H6 l (.lst (vs ++ [.ref p]))):=(e6.mono (by simp)).trans (.put (by simp));have E11:Ext [l,t] H' (upd H6 l (.lst (vs ++ [.ref p]))):=(E9.mono (by simp)).trans E10;refine⟨ds ++ [d],vs ++ [.ref p],o6,o7,o8,o9,o10,o11,rfl,by rw [aN,hdl];rfl,λz hz=>?_,?_,?_,qA1,?_⟩
    ·rcases aP.mp hz with y | y
     ·exact hds z y
     ·rw [aO.mp y];exact hd
    ·exact ((T9.ext e6 (by simp)).ext (ts :=[l]) (.put (by simp)) (by simpa using nlt.symm)).mono (by lia)
    ·exact ((e'.mono (by simp)).trans E11).drop hl
    ·rw [aQ];exact DenL.append (hden.mono (E11.mono (by simp)).young) (.cons (hden6.mono (Ext.put (by simp)).young) .nil)
   have sz:vs.length<sizeLine:=qAh (by lia);walk_at "rh";refine qD0 ?_;walk_at "rh";refine ite2 (λg=>?_) (λg=>?_)
   ·walk_at "rh";refine ite2 (λg2=>?_) (λg2=>?_)
    ·have g2:=of_decide_eq_true g2;walk_at "rh";refine qBr l9 ?_;walk_at "rh";refine⟨len2 (by show 2<=1000;decide),λp hp=>?_⟩;have npt:=T9.ne hp;have hfresh:=hp;have npl:p≠l:=(qA2 l9 hp).symm;walk_at "rh";refine qC3 (by rw [qA5 npl.symm];exact l9) sz ?_;refine qBb hN_ (fin (.call ca) _ p ⟨ca0,g2⟩ (.laid hp) npt npl (.tuple (SqT.of ?_) (.cons .str (.cons .int .nil))) _ _ _ _ _ _);rw [qBh ((e'.trans E9).none (by simpa using npt) hfresh) (by simp [npt,npl]),qA1]
    ·walk_at "rh";refine qBr l9 ?_;walk_at "rh";refine⟨len2 (by show 3<=1000;decide),λs1 hs1=>?_⟩;walk_at "rh";refine⟨len2 (by show 3<=1000;decide),λs2 hs2=>?_⟩;walk_at "rh";refine⟨len2 (by show 2<=1000;decide),λs3 hs3=>?_⟩;walk_at "rh";refine⟨len2 (by show 3<=1000;decide),λs4 hs4=>?_⟩;have e12:s1≠s2:=qA2 qA1 hs2;have e13:s1≠s3:=qA2 (by rw [qA5 e12,qA1]) hs3;have e23:s2≠s3:=qA2 qA1 hs3;have e14:s1≠s4:=qA2 (by rw [qA5 e13,qA5 e12,qA1]) hs4;have e24:s2≠s4:=qA2 (by rw [qA5 e23,qA1]) hs4;have e34:s3≠s4:=qA2 qA1 hs4;have f2:H9 s2=none:=by rw [qA5 e12.symm] at hs2;exact hs2
     have f3:H9 s3=none:=by rw [qA5 e23.symm,qA5 e13.symm] at hs3;exact hs3
     have E0:=(Ext.laid (ts :=[]) (o :=.tup [V.str "set",.int bx,.int n]) hs1).trans ((Ext.laid (o :=.tup [V.str "add",.int bx,.int ox]) hs2).trans ((Ext.laid (o :=.tup [V.str "tell",.int bx]) hs3).trans (Ext.laid (o :=.lst [V.ref s1,.ref s2,.ref s3]) hs4)));have l10:=E0 _ _ (by simp) l9;have hbx':=hB.all _ hbx;have hox':=hB.all _ hox;walk_at "rh";refine qEh (by decide) ?_;have h3:r3%3=0\/r3%3=1\/r3%3=2:=by lia
     have q4:SqL K (upd (upd (upd (upd H9 s1 (.tup [V.str "set",.int bx,.int n])) s2 (.tup [V.str "add",.int bx,.int ox])) s3 (.tup [V.str "tell",.int bx])) s4 (.lst [V.ref s1,.ref s2,.ref s3])) s4 [V.ref s1,.ref s2,.ref s3]:=SqL.of qA1;rcases h3 with h | h | h
     ·refine qBo (v:=V.ref s1) q4 (by rw [h];rfl) ?_;walk_at "rh";have npt:=T9.ne hs1;have hfresh:=hs1;have npl:s1≠l:=(qA2 l9 hs1).symm;refine qC3 l10 sz ?_;refine qBb hN_ (fin (.set bx n) _ s1 ⟨hbx'.1,hbx'.2,n0,n1⟩ E0 npt npl (.tuple (SqT.of ?_) (.cons .str (.cons .int (.cons .int .nil)))) _ _ _ _ _ _);rw [qBh ((e'.trans E9).none (by simpa using npt) hfresh) (by simp [npt,npl]),qA5 e14,qA5 e13,qA5 e12,qA1]
     ·refine qBo (v:=V.ref s2) q4 (by rw [h];rfl) ?_;walk_at "rh";have npt:=T9.ne f2;have hfresh:=f2;have npl:s2≠l:=(qA2 l9 f2).symm;refine qC3 l10 sz ?_;refine qBb hN_ (fin (.add bx ox) _ s2 ⟨hbx'.1,hbx'.2,hox'.1,hox'.2⟩ E0 npt npl (.tuple (SqT.of ?_) (.cons .str (.cons .int (.cons .int .nil)))) _ _ _ _ _ _);rw [qBh ((e'.trans E9).none (by simpa using npt) hfresh) (by simp [npt,npl]),qA5 e24,qA5 e23,qA1]
     ·refine qBo (v:=V.ref s3) q4 (by rw [h];rfl) ?_;walk_at "rh";have npt:=T9.ne f3;have hfresh:=f3;have npl:s3≠l:=(qA2 l9 f3).symm;refine qC3 l10 sz ?_;refine qBb hN_ (fin (.tell bx) _ s3 ⟨hbx'.1,hbx'.2⟩ E0 npt npl (.tuple (SqT.of ?_) (.cons .str (.cons .int .nil))) _ _ _ _ _ _);rw [qBh ((e'.trans E9).none (by simpa using npt) hfresh) (by simp [npt,npl]),qA5 e34,qA1]
   ·refine iteF ?_;walk_at "rh";refine qBr l9 ?_;walk_at "rh";refine⟨len2 (by show 3<=1000;decide),λs1 hs1=>?_⟩;walk_at "rh";refine⟨len2 (by show 3<=1000;decide),λs2 hs2=>?_⟩;walk_at "rh";refine⟨len2 (by show 2<=1000;decide),λs3 hs3=>?_⟩;walk_at "rh";refine⟨len2 (by show 3<=1000;decide),λs4 hs4=>?_⟩;have e12:s1≠s2:=qA2 qA1 hs2;have e13:s1≠s3:=qA2 (by rw [qA5 e12,qA1]) hs3;have e23:s2≠s3:=qA2 qA1 hs3;have e14:s1≠s4:=qA2 (by rw [qA5 e13,qA5 e12,qA1]) hs4;have e24:s2≠s4:=qA2 (by rw [qA5 e23,qA1]) hs4;have e34:s3≠s4:=qA2 qA1 hs4;have f2:H9 s2=none:=by rw [qA5 e12.symm] at hs2;exact hs2
    have f3:H9 s3=none:=by rw [qA5 e23.symm,qA5 e13.symm] at hs3;exact hs3
    have E0:=(Ext.laid (ts :=[]) (o :=.tup [V.str "set",.int bx,.int n]) hs1).trans ((Ext.laid (o :=.tup [V.str "add",.int bx,.int ox]) hs2).trans ((Ext.laid (o :=.tup [V.str "tell",.int bx]) hs3).trans (Ext.laid (o :=.lst [V.ref s1,.ref s2,.ref s3]) hs4)));have l10:=E0 _ _ (by simp) l9;have hbx':=hB.all _ hbx;have hox':=hB.all _ hox;walk_at "rh";refine qEh (by decide) ?_;have h3:r3%3=0\/r3%3=1\/r3%3=2:=by lia
    have q4:SqL K (upd (upd (upd (upd H9 s1 (.tup [V.str "set",.int bx,.int n])) s2 (.tup [V.str "add",.int bx,.int ox])) s3 (.tup [V.str "tell",.int bx])) s4 (.lst [V.ref s1,.ref s2,.ref s3])) s4 [V.ref s1,.ref s2,.ref s3]:=SqL.of qA1;rcases h3 with h | h | h
    ·refine qBo (v:=V.ref s1) q4 (by rw [h];rfl) ?_;walk_at "rh";have npt:=T9.ne hs1;have hfresh:=hs1;have npl:s1≠l:=(qA2 l9 hs1).symm;refine qC3 l10 sz ?_;refine qBb hN_ (fin (.set bx n) _ s1 ⟨hbx'.1,hbx'.2,n0,n1⟩ E0 npt npl (.tuple (SqT.of ?_) (.cons .str (.cons .int (.cons .int .nil)))) _ _ _ _ _ _);rw [qBh ((e'.trans E9).none (by simpa using npt) hfresh) (by simp [npt,npl]),qA5 e14,qA5 e13,qA5 e12,qA1]
    ·refine qBo (v:=V.ref s2) q4 (by rw [h];rfl) ?_;walk_at "rh";have npt:=T9.ne f2;have hfresh:=f2;have npl:s2≠l:=(qA2 l9 f2).symm;refine qC3 l10 sz ?_;refine qBb hN_ (fin (.add bx ox) _ s2 ⟨hbx'.1,hbx'.2,hox'.1,hox'.2⟩ E0 npt npl (.tuple (SqT.of ?_) (.cons .str (.cons .int (.cons .int .nil)))) _ _ _ _ _ _);rw [qBh ((e'.trans E9).none (by simpa using npt) hfresh) (by simp [npt,npl]),qA5 e24,qA5 e23,qA1]
    ·refine qBo (v:=V.ref s3) q4 (by rw [h];rfl) ?_;walk_at "rh";have npt:=T9.ne f3;have hfresh:=f3;have npl:s3≠l:=(qA2 l9 f3).symm;refine qC3 l10 sz ?_;refine qBb hN_ (fin (.tell bx) _ s3 ⟨hbx'.1,hbx'.2⟩ E0 npt npl (.tuple (SqT.of ?_) (.cons .str (.cons .int .nil))) _ _ _ _ _ _);rw [qBh ((e'.trans E9).none (by simpa using npt) hfresh) (by simp [npt,npl]),qA5 e34,qA1]
  ·intro σ' H' hq_;refine hide λG_ hG_=>?_;obtain⟨ds,vs,o6,o7,o8,o9,o10,o11,rfl,hdl,hds,hT',e',hl',hden⟩:=hq_;refine hG_ ?_;walk_at "rh";refine q l ds H' hl (hT'.mono (by lia)) e' hds (by lia) (.list (SqL.of ?_) (hden.mono (qL3 (by simp))));rw [qBh hl (by simpa using nlt)];exact hl'
end
section
variable{P:Program}{w:World}{K:PySem.W.Frag}{mg:Str->Option Value}{base:Heap}
abbrev qF6:Stmt:=top 46
theorem scWorks:FnScope ["_law_tape_here","_law_most","_law_works_here","_law_found","_law_first","_law_many_here"] ["_law_tape_here","_law_most"] (qA7 qF6):=⟨rfl,rfl,rfl,by decide +kernel,rfl,by decide +kernel,by decide +kernel⟩
theorem qOr{f:Addr}{fd:FuncData}(F:Fun K "_law_works" "_law_works" qF6 f fd)(nrange:mg "range" = none)(nint:mg "int" = none)(hD:Has P w K mg base "_law_draw" 1 ["_law_tape_here","_law_many_here"] qCl)
  (hM:Has P w K mg base "_law_many" 2 ["_law_tape_here"] qLm) (hW:Has P w K mg base "_law_work" 4 ["_law_tape_here","_law_many_here","_law_most","_law_first","_law_works_here"] (qI6 K)) :
  FnOk P w K mg base CX0 5 f fd ["_law_tape_here","_law_most"] (qG0 K):=by
 refine F.ok scWorks (λvs H Q E h=>?_) (λcdv A outer s H vs Q E hr h=>?_)
 ·refine hide λG_ hG_=>?_;obtain⟨t,k,most,rfl,_⟩:=h;refine hG_ ?_;rfl
 ·refine hide λG_ hG_=>?_;obtain⟨t,k,most,rfl,hT,hk,hm1,hm2,q⟩:=h;refine hG_ ?_
  refine⟨_,qA4 (qAg (i:=2) scWorks.nd rfl (Or.inl rfl) (qB3 qAm (qAq (qA0 (qAp qB7 qA6 (qAj hD hr (by decide) (qA0 (pv 0) (qA0 qA6 qA3)))) (qA0 (qAp qB7 qA6 (qAj hD hr (by decide) (qA0 (pv 0) (qA0 qA6 qA3)))) qA3)))
    (qAr qCt (by rfl) nint bZ (qA0 (qC4 qBt (qAj hD hr (by decide) (qA0 (pv 0) (qA0 qA6 qA3))) qA6 (qAi _)) qA3)) (λ_ _=>rfl)))
   (qA4 (qAg (i:=3) scWorks.nd rfl (Or.inl rfl) (qAq qA3))
   (qA4 (qBx bL rfl (qBs rfl nrange (qA0 (pv 2) qA3)) (qAd (i:=4) scWorks.nd rfl (Or.inl rfl))
    (qA4 (qAg (i:=5) scWorks.nd rfl (Or.inl rfl) (qBg (qAa qKj (pv 2) qA6 (qAi _)) (qAj hM hr (by decide) (qA0 (pv 0) qA3)) (qAp qB7 qA6 (qAj hD hr (by decide) (qA0 (pv 0) (qA0 qA6 qA3))))))
    (qA8 (qB2 (qBp aM aS aT qAs (pv 3) (qA0 (qAj hW hr (by decide) (qA0 (pv 0) (qA0 (pv 5) (qA0 (pv 1) (qA0 (pv 4) (qA0 (pv 2) qA3)))))) qA3))))))
   (qA8 (qAc (pv 3))))),?_⟩
  dsimp only [qBf];walk_at "rh";refine qAy hT (by lia) (by decide) (by decide) λr1 H1 a1 b1 T1 e1 _=>?_;walk_at "rh";refine qAy T1 (by lia) (by decide) (by decide) λr2 H2 a2 b2 T2 e2 _=>?_;walk_at "rh";refine⟨len2 (by show 2<=1000;decide),λp hp=>?_⟩;have np:p≠t:=T2.ne hp;walk_at "rh";refine qAy (T2.ext (.laid (ts :=[]) hp) (by simp)) (by lia) (by decide) (by decide) λr3 H3 a3 b3 T3 e3 k3=>?_;walk_at "rh";refine qD0 ?_;walk_at "rh";refine .inr ⟨_,rfl,?_⟩;refine hide λG_ hG_=>?_;have e4:Ext [t] H H3:=(e1.trans e2).trans ((Ext.laid hp).trans e3);have hL:SqL K H3 p [V.int (1+r1),V.int (5+r2)]:=SqL.of (by rw [k3 p np,qA1]);obtain⟨n,hn1,hn2,en⟩:∃n:Int,1<=n/\n<=10/\atI [V.int (1+r1),V.int (5+r2)] (if decide (r3=0)=true then (1:Int) else 0)=some (.int n):=by
   cases c:decide (r3=0) with
   | true=>exact⟨5+r2,by lia,by lia,rfl⟩
   | false=>exact⟨1+r1,by lia,by lia,rfl⟩
  refine hG_ ?_;refine qBo hL en ?_;clear en hL k3 e3 hp np;walk_at "rh";refine⟨len2 (aW _),λl hl=>?_⟩;have nlt:l≠t:=T3.ne hl;have hlH:H l=none:=e4.none (by simpa using nlt) hl;walk_at "rh"
  refine⟨n,rfl,by lia,by lia,qC8 (lo:=0) (n:=n.toNat) (λi σ' H' => ∃(as:List Addr) (ws:List (List Blk)) (o4 o5:Option V),σ' = [some (.ref t),some (.int most),some (.int n),some (.ref l),o4,o5]/\as.length=i/\(∀w∈ws,∃m:Int,1<=m/\m<=12/\WorkOk m n w)/\(∀w∈ws,FwL n w) /\
   l∉as/\(∀a∈as,H a=none/\a≠t)/\as.Nodup/\Tape H' t (k+3+2003*i)/\Ext [l,t] H3 H'/\H' l=some (.lst (as.map V.ref))/\WorksAt K (yo H (l::t::as) H') H' as ws) ?_ ?_ ?_⟩
  ·exact⟨[],[],_,_,rfl,rfl,by simp,by simp,by simp,by simp,.nil,T3.ext (ts :=[]) (.laid hl) (by simp),.laid hl,qA1,.nil⟩
  ·intro i σ' H' hi hq_ N_ B_ C_ R_ hN_ hC_ hR_;refine hide λG_ hG_=>?_;obtain⟨as,ws,o4,o5,rfl,hal,hws,hfew,hla,has,hnd,T',e',hl',hA⟩:=hq_;refine hG_ ?_;have hin:i<10:=by lia
   have EH:Ext [l,t] H H':=(e4.mono (by simp)).trans e';walk_at "rh";have fin:∀(m:Int) (H5 H6:Hp) (a:Addr) (w1:List Blk) (bs:List V),1<=m->m<=12->Ext [t] H' H5->H5 a=none->a≠t->Tape H6 t (k+3+2003*(i+1))->Ext [t] H5 H6->WorkOk m n w1->FwL n w1->H6 a=some (.lst bs)->DenL K (yo H5 [a,t] H6) (w1.map blkD) bs -> ∀o4 o5:Option V,
     H6 l=some (.lst (as.map V.ref)) /\ ∃(as':List Addr) (ws':List (List Blk)) (o4' o5':Option V),[some (V.ref t),some (.int most),some (.int n),some (.ref l),o4,o5] = [some (V.ref t),some (.int most),some (.int n),some (.ref l),o4',o5']/\as'.length=i+1/\(∀w∈ws',∃m:Int,1<=m/\m<=12/\WorkOk m n w)/\(∀w∈ws',FwL n w) /\
     l∉as'/\(∀a∈as',H a=none/\a≠t)/\as'.Nodup/\Tape (upd H6 l (.lst (as.map V.ref ++ [V.ref a]))) t (k+3+2003*(i+1))/\Ext [l,t] H3 (upd H6 l (.lst (as.map V.ref ++ [V.ref a])))/\(upd H6 l (.lst (as.map V.ref ++ [V.ref a]))) l=some (.lst (as'.map V.ref))/\WorksAt K (yo H (l::t::as') (upd H6 l (.lst (as.map V.ref ++ [V.ref a])))) (upd H6 l (.lst (as.map V.ref ++ [V.ref a]))) as' ws':=by
    intro m H5 H6 a w1 bs hm1 hm2 e5 ha nat T6 e6 hw1 hf1 hba hden o4 o5;have l5:H5 l=some (.lst (as.map V.ref)):=e5 _ _ (by simpa using nlt) hl';have l6:H6 l=some (.lst (as.map V.ref)):=e6 _ _ (by simpa using nlt) l5;have nal:a≠l:=(qA2 l5 ha).symm;have haH':H' a=none:=e5.none (by simpa using nat) ha;have haH:H a=none:=EH.none (by simp [nal,nat]) haH';have naas:a∉as:=λhm=>by
     refine hide λG_ hG_=>?_;obtain⟨j,hj,e⟩:=bM hm;obtain⟨_,bs',_,hb',_⟩:=hA.get (i:=j) (a:=a) (by rw [aI hj,e]);refine hG_ ?_;rw [haH'] at hb';cases hb'
    have E6:Ext [l,t] H' (upd H6 l (.lst (as.map V.ref ++ [V.ref a]))):=(e5.mono (by simp)).trans ((e6.mono (by simp)).trans (.put (by simp)));refine⟨l6,as ++ [a],ws ++ [w1],o4,o5,rfl,by rw [aN,hal];rfl,?_,?_,by simp [hla,nal.symm],?_,?_,?_,e'.trans E6,by rw [qA1,aQ];rfl,?_⟩
    ·intro w hw;rcases aP.mp hw with z | z
     ·exact hws w z
     ·rw [aO.mp z];exact⟨m,hm1,hm2,hw1⟩
    ·intro w hw;rcases aP.mp hw with z | z
     ·exact hfew w z
     ·rw [aO.mp z];exact hf1
    ·intro b hb;rcases aP.mp hb with z | z
     ·exact has b z
     ·rw [aO.mp z];exact⟨haH,nat⟩
    ·exact cU.mpr ⟨hnd,by simp,by intro x hx y hy;simp at hy;subst hy;intro e;subst e;exact naas hx⟩
    ·exact T6.ext (ts :=[l]) (.put (by simp)) (by simpa using nlt.symm)
    ·have key:Same (yo H (l::t::as) H') (yo H (l::t::(as ++ [a])) (upd H6 l (.lst (as.map V.ref ++ [V.ref a])))):=λb o e=>by
      obtain⟨h1,h2,h3⟩:=qCh e;have nb:b≠a:=λz=>by rw [z,haH'] at h3;cases h3
      have h2':b ∉ [l,t]:=λz=>h2 (by rcases aJ.mp z with z | z <;> simp_all)
      rw [qBh h1 (λz=>h2 (by
       rcases aJ.mp z with z | z
       ·simp [z]
       ·rcases aJ.mp z with z | z
        ·simp [z]
        ·rcases aP.mp z with z | z
         ·simp [z]
         ·exact absurd (by simpa using z) nb))]
      exact E6 _ _ h2' h3
     refine (hA.mono key λb hb o e=>?_).snoc (bs:=bs) ?_ (hden.mono λb o e=>?_)
     ·have nbl:b≠l:=λz=>hla (z▸hb);exact E6 _ _ (by simp [nbl,(has b hb).2]) e
     ·rw [qA5 nal];exact hba
     ·obtain⟨h1,h2,h3⟩:=qCh e;have nbl:b≠l:=λz=>by rw [z,l5] at h1;cases h1
      have nbt:b≠t:=λz=>h2 (by simp [z]);have nba:b≠a:=λz=>h2 (by simp [z]);have h1':H' b=none:=e5.none (by simpa using nbt) h1
      rw [qBh (EH.none (by simp [nbl,nbt]) h1') (by
       intro z;rcases aJ.mp z with z | z
       ·exact nbl z
       ·rcases aJ.mp z with z | z
        ·exact nbt z
        ·rcases aP.mp z with z | z
         ·refine hide λG_ hG_=>?_;obtain⟨j,hj,e⟩:=bM z;obtain⟨_,bs',_,hb',_⟩:=hA.get (i:=j) (a:=b) (by rw [aI hj,e]);refine hG_ ?_;rw [h1'] at hb';cases hb'
         ·exact nba (by simpa using z)),qA5 nbl]
      exact h3
   refine ite2 (λhn5=>?_) (λhn5=>?_)
   ·walk_at "rh";refine qS1 T' (by lia) λm H5 hm1' hm2' T5 e5=>?_;walk_at "rh";refine qBr (e5 _ _ (by simpa using nlt) hl') ?_;walk_at "rh";refine⟨t,_,m,most,_,n,rfl,T5,by lia,hm1',hm2',hm1,hm2,by lia,by lia,by lia,by lia,λa w1 bs H6 ha nat T6 e6 hw1 hf1 hba hden=>?_⟩;obtain⟨l6,post⟩:=fin m H5 H6 a w1 bs hm1' hm2' e5 ha nat (T6.mono (by lia)) e6 hw1 hf1 hba hden _ _;walk_at "rh";exact qC3 l6 (qAh (by rw [aB];lia)) (qBb hN_ post)
   ·walk_at "rh";refine qAy T' (by lia) (by decide) (by decide) λr H5 hm1' hm2' T5 e5 _=>?_;walk_at "rh";refine qBr (e5 _ _ (by simpa using nlt) hl') ?_;walk_at "rh";refine⟨t,_,1+r,most,_,n,rfl,T5,by lia,by lia,by lia,hm1,hm2,by lia,by lia,by lia,by lia,λa w1 bs H6 ha nat T6 e6 hw1 hf1 hba hden=>?_⟩;obtain⟨l6,post⟩:=fin (1+r) H5 H6 a w1 bs (by lia) (by lia) e5 ha nat (T6.mono (by lia)) e6 hw1 hf1 hba hden _ _;walk_at "rh";exact qC3 l6 (qAh (by rw [aB];lia)) (qBb hN_ post)
  ·intro σ' H' hq_;refine hide λG_ hG_=>?_;obtain⟨as,ws,o4,o5,rfl,hal,hws,hfew,hla,has,hnd,T',e',hl',hA⟩:=hq_;refine hG_ ?_;walk_at "rh";have hwl:=hA.len;exact q l as ws H' hlH nlt hla has hnd (T'.mono (by lia)) ((e4.mono (by simp)).trans e' |>.drop hlH) hl' hA ⟨by rw [show ((ws.length:Nat):Int)=n by lia];exact hws,by lia,by lia⟩ (by rw [show ((ws.length:Nat):Int)=n by lia];exact hfew)
end
section
variable{P:Program}{w:World}{K:PySem.W.Frag}{mg:Str->Option Value}{base:Heap}
theorem DenL.take{K:PySem.W.Frag}{G:Hp}:∀ {ds:List PyData} {vs:List V} (n:Nat),DenL K G ds vs->DenL K G (ds.take n) (vs.take n)
 | [],vs,n,h=>by have:=h.ofNil;subst this;simpa using DenL.nil
 | d::ds,vs,0,h=>by simpa using DenL.nil
 | d::ds,vs,n+1,h=>by
  obtain⟨v,r,rfl,h1,h2⟩:=h.ofCons;exact .cons h1 (DenL.take n h2)
theorem DenL.drop{K:PySem.W.Frag}{G:Hp}:∀ {ds:List PyData} {vs:List V} (n:Nat),DenL K G ds vs->DenL K G (ds.drop n) (vs.drop n)
 | [],vs,n,h=>by have:=h.ofNil;subst this;simpa using DenL.nil
 | d::ds,vs,0,h=>h
 | d::ds,vs,n+1,h=>by
  obtain⟨v,r,rfl,h1,h2⟩:=h.ofCons;exact DenL.drop n h2
theorem qPs{ts us:List Addr}{H H':Hp}(e:Ext us H H')(h:∀x∈us,x∈ts\/H x=none){vs:List Addr}(k:∀x∈vs,x∈ts\/H x=none):Same (wo ts H) (wo vs H'):=λb o q=>by
 have hb:b∉ts:=λz=>by rw [qGy z] at q;cases q
 rw [qBn hb] at q;rw [qBn (λz=>by rcases k b z with y | y;exact hb y;rw [q] at y;cases y)];exact e b o (λz=>by rcases h b z with y | y;exact hb y;rw [q] at y;cases y) q
abbrev qFc:Stmt:=top 47
theorem scMoves:FnScope ["_law_tape_here","_law_works_here","_law_found","_law_mine","_law_work_here","_law_made","_law_deeds_here","_law_end","_law_some","_law_turn","_law_word"] ["_law_tape_here","_law_works_here"] (qA7 qFc):=⟨rfl,rfl,rfl,by decide +kernel,rfl,by decide +kernel,by decide +kernel⟩
theorem qOx{f:Addr}{fd:FuncData}(F:Fun K "_law_with_moves" "_law_with_moves" qFc f fd)(nrange:mg "range" = none)(nlist:mg "list" = none)(nlen:mg "len" = none)(hD:Has P w K mg base "_law_draw" 1 ["_law_tape_here","_law_many_here"] qCl):FnOk P w K mg base CX0 2 f fd ["_law_tape_here","_law_works_here"] (qG3 K):=by
 refine F.ok scMoves (λvs H Q E h=>?_) (λcdv A outer s H vs Q E hr h=>?_)
 ·refine hide λG_ hG_=>?_;obtain⟨t,l0,k,as0,ws0,works,rfl,_⟩:=h;refine hG_ ?_;rfl
 ·refine hide λG_ hG_=>?_;obtain⟨t,l0,k,as0,ws0,works,rfl,hT,hk,hl0,nl0,nt0,hA0,hok0,hfew0,hled0,q⟩:=h;refine hG_ ?_
  refine⟨_,qA4 (qJl (i:=2) (j:=3) rfl scMoves.nd rfl rfl (by decide) rfl rfl (qA0 (qAq qA3) (qA0 (qAq (qA0 (qAj hD hr (by decide) (qA0 (pv 0) (qA0 qA6 qA3))) (qA0 (qAj hD hr (by decide) (qA0 (pv 0) (qA0 qA6 qA3))) qA3))) qA3)) rfl)
   (qA4 (qBx bL rfl (qBk (pv 1)) (qAd (i:=4) scMoves.nd rfl (Or.inl rfl))
    (qA4 (qAg (i:=5) scMoves.nd rfl (Or.inl rfl) (qAq qA3))
    (qA4 (qBx bL rfl (qBk (pv 4)) (qFk (n:=2) rfl (qAx (qAd (i:=6) scMoves.nd rfl (Or.inl rfl)) (qAx (qAd (i:=7) scMoves.nd rfl (Or.inl rfl)) qCe)))
     (qA4 (qAg (i:=8) scMoves.nd rfl (Or.inl rfl) (qAr qCr (by rfl) nlist bV (qA0 (pv 6) qA3)))
     (qA4 (qBx bL rfl (qBs rfl nrange (qA0 (qAj hD hr (by decide) (qA0 (pv 0) (qA0 qA6 qA3))) qA3)) (qAd (i:=9) scMoves.nd rfl (Or.inl rfl))
      (qA4 (qAg (i:=10) scMoves.nd rfl (Or.inl rfl) (qB3 qAm (qAq (qA0 qAn (qA0 qAn (qA0 qAn (qA0 qAn qA3))))) (qAj hD hr (by decide) (qA0 (pv 0) (qA0 qA6 qA3))) (λ_ _=>rfl)))
      (qA8 (qB2 (qBp aM PySem.F.slot_list_insert PySem.F.type_list_insert qMp (pv 8) (qA0 (qAj hD hr (by decide) (qA0 (pv 0) (qA0 (qAp qB7 (qA9 qAf (by rfl) nlen bB (qA0 (pv 8) qA3)) qA6) qA3))) (qA0 (qBy (qA0 (pv 10) (qA0 (qB3 qAm (pv 3) (qAj hD hr (by decide) (qA0 (pv 0) (qA0 qA6 qA3))) (λ_ _=>rfl)) qA3))) qA3)))))))
     (qA8 (qB2 (qBp aM aS aT qAs (pv 5) (qA0 (qBy (qA0 (pv 8) (qA0 (pv 7) qA3))) qA3)))))))
    (qA8 (qB2 (qBp aM aS aT qAs (pv 2) (qA0 (pv 5) qA3)))))))
   (qA8 (qAc (pv 2)))),?_⟩
  dsimp only [qBf];walk_at "rg";refine⟨len2 (aW _),λl hl=>?_⟩;have nlt:l≠t:=hT.ne hl;walk_at "rg";refine qAy (hT.ext (ts :=[]) (.laid hl) (by simp)) (by lia) (by decide) (by decide) λx H1 x1 x2 T1 e1 _=>?_;walk_at "rg";refine qAy T1 (by lia) (by decide) (by decide) λy H2 y1 y2 T2 e2 _=>?_;walk_at "rg";refine⟨len2 (by show 2<=1000;decide),λmi hmi=>?_⟩;have nmt:mi≠t:=T2.ne hmi;have l2:H2 l=some (.lst []):=e2 _ _ (by simpa using nlt) (e1 _ _ (by simpa using nlt) qA1);have nml:mi≠l:=(qA2 l2 hmi).symm;have E2:Ext [t] H H2:=(Ext.laid hl).trans (e1.trans e2);have hmiH:H mi=none:=E2.none (by simpa using nmt) hmi;have E3:Ext [t] H (upd H2 mi (.lst [.int x,.int y])):=E2.trans (.laid hmi);have T3:Tape (upd H2 mi (.lst [.int x,.int y])) t (k+1+1):=T2.ext (ts :=[]) (.laid hmi) (by simp)
  have m3:upd H2 mi (.lst [V.int x,.int y]) mi=some (.lst [.int x,.int y]):=qA1;have l3:upd H2 mi (.lst [V.int x,.int y]) l=some (.lst []):=by rw [qA5 nml.symm];exact l2
  generalize upd H2 mi (.lst [V.int x,.int y])=H3 at E3 T3 m3 l3 ⊢;walk_at "rg";refine⟨_,_,rfl,?_⟩;walk_at "rg";have hal0:=hA0.len;have l03:∀ {H':Hp},Ext [l,t] H3 H'->SqL K H' l0 (as0.map V.ref):=λ{H'} e=>SqL.of (e _ _ (by simp [nl0,(qA2 hl0 hl)]) (E3 _ _ (by simpa using nl0) hl0))
  refine⟨l0,rfl,⟨_,l03 (.refl _ _)⟩,qGn (xs:=as0.map V.ref) (λi σ' H' => ∃(as:List Addr) (ws:List (List Blk)) (o4 o5 o6 o7 o8 o9 o10:Option V),σ' = [some (.ref t),some (.ref l0),some (.ref l),some (.ref mi),o4,o5,o6,o7,o8,o9,o10]/\as.length=i/\(∀w∈ws,(∃m:Int,1<=m/\m<=12/\WorkOk m works w)/\Led w) /\
   l∉as/\(∀a∈as,H a=none/\a≠t)/\as.Nodup/\Tape H' t (k+2+100*i)/\Ext [l,t] H3 H'/\H' l=some (.lst (as.map V.ref))/\WorksAt K (wo (l::t::as) H') H' as ws) ?_ ?_ ?_ ?_⟩
  ·exact⟨[],[],_,_,_,_,_,_,_,rfl,rfl,by simp,by simp,by simp,.nil,T3,.refl _ _,l3,.nil⟩
  ·intro i σ' H' hi hq_;refine hide λG_ hG_=>?_;obtain⟨as,ws,o4,o5,o6,o7,o8,o9,o10,rfl,hal,hws,hla,has,hnd,T',e',hl',hA⟩:=hq_;refine hG_ ?_;exact l03 e'
  ·intro i x σ' H' hx hq_;refine hide λG_ hG_=>?_;obtain⟨as,ws,o4,o5,o6,o7,o8,o9,o10,rfl,hal,hws,hla,has,hnd,T',e',hl',hA⟩:=hq_;refine hG_ ?_;refine hide λG_ hG_=>?_;obtain⟨a0,ha0,rfl⟩:=qAz hx;obtain⟨w0,bs0,hw0,hb0,hden0⟩:=hA0.get ha0;have hi:i<ws0.length:=(aD.mp hw0).1;have hfi:=hok0.few;obtain⟨m,hm1,hm2,hW0⟩:=hok0.all w0 (aL hw0);refine hG_ ?_;have hfw:=hfew0 w0 (aL hw0);have hw0l:=hW0.len;have nt:a0≠t:=λz=>nt0 (z▸aL ha0);have EH:Ext [l,t] H H':=(E3.mono (by simp)).trans e';have hbl:bs0.length=w0.length:=by rw [hden0.len,aB]
   walk_at "rg";refine⟨len2 (aW _),λmd hmd=>?_⟩;have nmdl:md≠l:=(qA2 hl' hmd).symm;have nmdt:md≠t:=T'.ne hmd;have hmdH:H md=none:=EH.none (by simp [nmdl,nmdt]) hmd;have nmdas:md∉as:=λz=>by
    refine hide λG_ hG_=>?_;obtain⟨j,hj,e⟩:=bM z;obtain⟨_,bs',_,hb',_⟩:=hA.get (i:=j) (a:=md) (by rw [aI hj,e]);refine hG_ ?_;rw [hmd] at hb';cases hb'
   have a0':H' a0=some (.lst bs0):=EH _ _ (by simp [nt,(qA2 hb0 hl)]) hb0;have mi':H' mi=some (.lst [.int x,.int y]):=e' _ _ (by simp [nml,nmt]) m3;have e4:Ext [] H' (upd H' md (.lst [])) :=.laid hmd;have T4:=T'.ext e4 (by simp);have md4:upd H' md (.lst []) md=some (.lst []):=qA1;have a04:=e4 _ _ (by simp) a0';have mi4:=e4 _ _ (by simp) mi';have nma0:md≠a0:=(qA2 a0' hmd).symm;have nmi:md≠mi:=(qA2 mi' hmd).symm;have hE4:Ext [l,t] H (upd H' md (.lst [])):=EH.trans (e4.mono (by simp));generalize upd H' md (.lst [])=H4 at e4 T4 md4 a04 mi4 hE4 ⊢;walk_at "rg"
   refine⟨a0,rfl,⟨_,SqL.of a04⟩,qGn (xs:=bs0) (λj σ'' H'' => ∃(w1:List Blk) (us:List V) (o6 o7 o8 o9 o10:Option V),σ'' = [some (.ref t),some (.ref l0),some (.ref l),some (.ref mi),some (.ref a0),some (.ref md),o6,o7,o8,o9,o10]/\w1.length=j/\((∀b∈w1,BlkOk m works b)/\w1.map (·.ns)=(w0.map (·.ns)).take j) /\
    Tape H'' t (k+2+100*i+8*j)/\Ext [md,t] H4 H''/\H'' md=some (.lst us)/\DenL K (wo (md::l::t::as) H'') (w1.map blkD) us) ?_ ?_ ?_ ?_⟩
   ·exact⟨[],[],_,_,_,_,_,rfl,rfl,⟨by simp,rfl⟩,T4,.refl _ _,md4,.nil⟩
   ·intro j σ'' H'' hj hq_;refine hide λG_ hG_=>?_;obtain⟨w1,us,o6,o7,o8,o9,o10,rfl,hw1,⟨hok1,hns1⟩,T'',e'',hmd'',hden1⟩:=hq_;refine hG_ ?_;exact SqL.of (e'' _ _ (by simp [nt,nma0.symm]) a04)
   ·intro j v σ'' H'' hv hq_;refine hide λG_ hG_=>?_;obtain⟨w1,us,o6,o7,o8,o9,o10,rfl,hw1,⟨hok1,hns1⟩,T'',e'',hmd'',hden1⟩:=hq_;refine hG_ ?_;refine hide λG_ hG_=>?_;obtain⟨dd,hdd,hDv⟩:=hden0.get hv;obtain⟨b,hb,rfl⟩:=qAz hdd;have hjl:j<w0.length:=(aD.mp hb).1;have hbok:=hW0.blk b (aL hb);have hb12:=hfw b (aL hb);obtain⟨c,cs,rfl,hc,hcs⟩:=hDv.ofTuple;obtain⟨vd,r1,rfl,hd1,hr1⟩:=hcs.ofCons;obtain⟨ve,r2,rfl,hd2,hr2⟩:=hr1.ofCons;have hr2:=hr2.ofNil;subst hr2;obtain⟨dl,dvs,rfl,hdl,hdvs⟩:=hd1.ofList;refine hG_ ?_;have hdvl:dvs.length=b.ds.length:=by rw [hdvs.len,aB]
    have EH'':Ext [md,l,t] H H'':=(hE4.mono (by simp)).trans (e''.mono (by simp));have old:∀ {G:Hp} {vs:List Addr},Ext [md,l,t] H G->(∀x∈vs,x=t\/H x=none)->Same (wo [t] H) (wo vs G):=λ{G vs} e h=>qPs e (by intro x hx;simp at hx;rcases hx with z | z | z <;> simp [z,hmdH,hl]) (λx hx=>by rcases h x hx with z | z;exact .inl (by simp [z]);exact .inr z);have S'':Same (wo [t] H) H'':=λb o q=>qL4 [] H'' b o (old EH'' (by simp) b o q);refine qDg (S''.seqT hc) rfl ?_;walk_at "rg";refine⟨dl,dvs,rfl,.inl (S''.seq hdl),λsm hsm=>?_⟩;have nst:sm≠t:=T''.ne hsm;have nsmd:sm≠md:=(qA2 hmd'' hsm).symm;have mi'':H'' mi=some (.lst [.int x,.int y]):=e'' _ _ (by simp [nmi.symm,nmt]) mi4;have l4'':∀o,H' l=some o->H'' l=some o:=λo q=>e'' _ _ (by simp [nmdl.symm,nlt]) (e4 _ _ (by simp) q)
    have l'':=l4'' _ hl';have nsl:sm≠l:=(qA2 l'' hsm).symm;have nsmi:sm≠mi:=(qA2 mi'' hsm).symm;have hsmH:H sm=none:=EH''.none (by simp [nsmd,nsl,nst]) hsm;have as'':∀a∈as,∀o,H' a=some o->H'' a=some o:=λa ha o q=>e'' _ _ (by simp [(has a ha).2];intro z;exact nmdas (z▸ha)) (e4 _ _ (by simp) q);have nsas:sm∉as:=λz=>by
     refine hide λG_ hG_=>?_;obtain⟨j,hj,e⟩:=bM z;obtain⟨_,bs',_,hb',_⟩:=hA.get (i:=j) (a:=sm) (by rw [aI hj,e]);refine hG_ ?_;rw [as'' sm z _ hb'] at hsm;cases hsm
    have e5:Ext [] H'' (upd H'' sm (.lst dvs)) :=.laid hsm;have sm5:upd H'' sm (.lst dvs) sm=some (.lst dvs):=qA1;have T5:=T''.ext e5 (by simp);have mi5:=e5 _ _ (by simp) mi'';have md5:=e5 _ _ (by simp) hmd'';have EH5:Ext [md,l,t] H (upd H'' sm (.lst dvs)):=EH''.trans (e5.mono (by simp));have den5:DenL K (wo (md::l::t::as) (upd H'' sm (.lst dvs))) (w1.map blkD) us:=hden1.mono (e5.mono (us:=md::l::t::as) (by simp)).same;generalize upd H'' sm (.lst dvs)=H5 at e5 sm5 T5 mi5 md5 EH5 den5 ⊢;walk_at "rg";refine qAy T5 (by lia) (by decide) (by decide) λr6 H6 a6 b6 T6 e6 _=>?_;have sm6:=e6 _ _ (by simpa using nst) sm5;have mi6:=e6 _ _ (by simpa using nmt) mi5;have EH6:Ext [md,l,t] H H6:=EH5.trans (e6.mono (by simp))
    have hex:∀x∈sm::md::l::t::as,x=t\/H x=none:=by
     intro z hz;simp only [aJ] at hz;rcases hz with z | z | z | z | z
     ·exact .inr (z▸hsmH)
     ·exact .inr (z▸hmdH)
     ·exact .inr (z▸hl)
     ·exact .inl z
     ·exact .inr (has _ z).1
    walk_at "rg"
    refine⟨r6,rfl,by lia,by lia,qHo (lo:=0) (n:=r6.toNat) (λr σ3 G => ∃(ds:List Deed) (vs:List V) (o9 o10:Option V),σ3 = [some (.ref t),some (.ref l0),some (.ref l),some (.ref mi),some (.ref a0),some (.ref md),some (.ref dl),some ve,some (.ref sm),o9,o10]/\ds.length=b.ds.length+r/\(∀d∈ds,qDz works d) /\
     Tape G t (k+2+100*i+8*j+1+3*r)/\Ext [sm,t] H6 G/\G sm=some (.lst vs)/\DenL K (wo (sm::md::l::t::as) G) (ds.map deedD) vs) ?_ ?_ ?_⟩
    ·exact⟨b.ds,dvs,_,_,rfl,rfl,hbok.ds,T6,.refl _ _,sm6,hdvs.mono (old EH6 hex)⟩
    ·intro r σ3 G hr3 hq_;refine hide λG_ hG_=>?_;obtain⟨ds,vs,o9,o10,rfl,hdl3,hdok,TG,eG,smG,denG⟩:=hq_;refine hG_ ?_;have hvl:vs.length=ds.length:=by rw [denG.len,aB]
     have hr2:r<2:=by lia
     walk_at "rg";refine⟨len2 (by show 4<=1000;decide),λp1 hp1=>?_⟩;have np1:p1≠t:=TG.ne hp1;walk_at "rg";refine qAy (TG.ext (ts :=[]) (.laid hp1) (by simp)) (by lia) (by decide) (by decide) λr7 H7 a7 b7 T7 e7 k7=>?_;obtain⟨wd,hwd,ewd⟩:∃wd:Str,(wd = "save" \/ wd = "back" \/ wd = "tell")/\atI [V.str "save",.str "back",.str "save",.str "tell"] r7=some (.str wd):=by
      have:r7=0\/r7=1\/r7=2\/r7=3:=by lia
      rcases this with z | z | z | z <;> subst z
      ·exact⟨_,.inl rfl,rfl⟩
      ·exact⟨_,.inr (.inl rfl),rfl⟩
      ·exact⟨_,.inl rfl,rfl⟩
      ·exact⟨_,.inr (.inr rfl),rfl⟩
     have hp7:SqL K H7 p1 [V.str "save",.str "back",.str "save",.str "tell"]:=SqL.of (by rw [k7 p1 np1,qA1]);refine qBo hp7 ewd ?_;have e67:Ext [t] G H7:=(Ext.laid hp1).trans e7;have sm7:H7 sm=some (.lst vs):=e67 _ _ (by simpa using nst) smG;walk_at "rg";refine qBr sm7 ?_;walk_at "rg";refine⟨sm,vs,rfl,.inl (SqL.of sm7),?_⟩;walk_at "rg";refine qAy T7 (by lia) (by lia) (by lia) λr8 H8 a8 b8 T8 e8 _=>?_;walk_at "rg";refine qAy T8 (by lia) (by decide) (by decide) λr9 H9 a9 b9 T9 e9 _=>?_;refine hide λG_ hG_=>?_;have e79:Ext [t] G H9:=e67.trans (e8.trans e9);have mi9:H9 mi=some (.lst [.int x,.int y]):=e79 _ _ (by simpa using nmt) (eG _ _ (by simp [nsmi.symm,nmt]) mi6);have sm9:H9 sm=some (.lst vs):=e79 _ _ (by simpa using nst) smG
     obtain⟨bx,hbx1,hbx2,ebx⟩:∃bx:Int,0<=bx/\bx<8/\atI [V.int x,.int y] r9=some (.int bx):=by
      have:r9=0\/r9=1:=by lia
      rcases this with z | z <;> subst z
      ·exact⟨x,x1,x2,rfl⟩
      ·exact⟨y,y1,y2,rfl⟩
     refine hG_ ?_;refine qBo (SqL.of mi9) ebx ?_;walk_at "rg";refine⟨len2 (by show 2<=1000;decide),λp2 hp2=>?_⟩;have np2t:p2≠t:=T9.ne hp2;have np2s:p2≠sm:=(qA2 sm9 hp2).symm;have EG:Ext [sm,md,l,t] H G:=(EH6.mono (by simp)).trans (eG.mono (by simp));have np2X:p2∉sm::md::l::t::as:=λz=>by
      simp only [aJ] at z;rcases z with z | z | z | z | z
      ·exact np2s z
      ·have:H9 md=some (.lst us):=e79 _ _ (by simpa using nmdt) (eG _ _ (by simp [nsmd.symm,nmdt]) (e6 _ _ (by simpa using nmdt) md5));rw [z] at hp2;rw [hp2] at this;cases this
      ·have:H9 l=some (.lst (as.map V.ref)):=e79 _ _ (by simpa using nlt) (eG _ _ (by simp [nsl.symm,nlt]) (e6 _ _ (by simpa using nlt) (e5 _ _ (by simp) l'')));rw [z] at hp2;rw [hp2] at this;cases this
      ·exact np2t z
      ·refine hide λG_ hG_=>?_;obtain⟨j,hj,e⟩:=bM z;obtain⟨_,bs',_,hb',_⟩:=hA.get (i:=j) (a:=p2) (by rw [aI hj,e]);refine hG_ ?_;have nz:p2≠t:=(has _ z).2;have:H9 p2=some (.lst bs'):=e79 _ _ (by simpa using nz) (eG _ _ (by simp [np2s,nz]) (e6 _ _ (by simpa using nz) (e5 _ _ (by simp) (as'' _ z _ hb'))));rw [hp2] at this;cases this
     refine⟨sm,vs,r8,.ref p2,rfl,rfl,by rw [qA5 np2s.symm];exact sm9,a8,by lia,by lia,?_⟩;have eF:Ext [sm,t] G (upd (upd H9 p2 (.tup [.str wd,.int bx])) sm (.lst (vs.take r8.toNat++V.ref p2::vs.drop r8.toNat))):=(e79.mono (by simp)).trans ((Ext.laid hp2).trans (.put (by simp)));obtain⟨d,hd,hdD⟩:∃d:Deed,qDz works d/\deedD d = .tuple [.str wd,.int bx]:=by
      rcases hwd with z | z | z <;> subst z
      ·exact⟨.save bx,⟨hbx1,hbx2⟩,rfl⟩
      ·exact⟨.back bx,⟨hbx1,hbx2⟩,rfl⟩
      ·exact⟨.tell bx,⟨hbx1,hbx2⟩,rfl⟩
     refine⟨ds.take r8.toNat++d::ds.drop r8.toNat,_,_,_,rfl,?_,?_,?_,eG.trans eF,qA1,?_⟩
     ·simp only [aN,bA,bN,cZ];lia
     ·intro d' hd';rcases aP.mp hd' with z | z
      ·exact hdok _ (List.mem_of_mem_take z)
      ·rcases aJ.mp z with z | z
       ·exact z▸hd
       ·exact hdok _ (List.mem_of_mem_drop z)
     ·exact ((T9.ext (ts :=[]) (.laid hp2) (by simp)).ext (ts :=[sm]) (.put (by simp)) (by simpa using nst.symm)).mono (by lia)
     ·have dF:=denG.mono (eF.mono (us:=sm::md::l::t::as) (by simp)).same;rw [aQ,bJ,List.map_take,List.map_drop];refine DenL.append (DenL.take _ dF) (.cons ?_ (DenL.drop _ dF));rw [hdD];refine .tuple (SqT.of ?_) (.cons .str (.cons .int .nil));rw [qBn np2X,qA5 np2s,qA1]
    ·intro σ3 G hq_;refine hide λG_ hG_=>?_;obtain⟨ds,vs,o9,o10,rfl,hdl3,hdok,TG,eG,smG,denG⟩:=hq_;refine hG_ ?_;have md6:=e6 _ _ (by simpa using nmdt) md5;have mdG:G md=some (.lst us):=eG _ _ (by simp [nsmd.symm,nmdt]) md6;walk_at "rg";refine qBr mdG ?_;walk_at "rg";refine⟨len2 (by show 2<=1000;decide),λp3 hp3=>?_⟩;have np3md:p3≠md:=(qA2 mdG hp3).symm;have np3t:p3≠t:=TG.ne hp3;have EG:Ext [sm,md,l,t] H G:=(EH6.mono (by simp)).trans (eG.mono (by simp));have hul:us.length=j:=by rw [hden1.len,aB,hw1]
     have eG5:Ext [sm,t] H5 G:=(e6.mono (by simp)).trans eG;have np3X:p3∉md::l::t::as:=λz=>by
      simp only [aJ] at z;rcases z with z | z | z | z
      ·exact np3md z
      ·have:G l=some (.lst (as.map V.ref)):=eG5 _ _ (by simp [nsl.symm,nlt]) (e5 _ _ (by simp) l'');rw [z] at hp3;rw [hp3] at this;cases this
      ·exact np3t z
      ·refine hide λG_ hG_=>?_;obtain⟨j,hj,e⟩:=bM z;obtain⟨_,bs',_,hb',_⟩:=hA.get (i:=j) (a:=p3) (by rw [aI hj,e]);refine hG_ ?_;have nz:p3≠t:=(has _ z).2;have nz2:p3≠sm:=λy=>nsas (y▸z);have:G p3=some (.lst bs'):=eG5 _ _ (by simp [nz2,nz]) (e5 _ _ (by simp) (as'' _ z _ hb'));rw [hp3] at this;cases this
     walk_at "rg";refine qC3 (by rw [qA5 np3md.symm];exact mdG) (qAh (by lia)) ?_;have eP:Ext [md,t] G (upd (upd G p3 (.tup [.ref sm,ve])) md (.lst (us ++ [V.ref p3]))):=(Ext.laid hp3).trans (.put (by simp));have hG'':Ext [md,t] H'' G:=λb o hb q=>by
      have nb:b≠sm:=λz=>by rw [z,hsm] at q;cases q
      have hb1:b≠md:=λz=>hb (by simp [z]);have hb2:b≠t:=λz=>hb (by simp [z]);exact eG5 _ _ (by simp [nb,hb2]) (e5 _ _ (by simp) q)
     refine⟨w1 ++ [⟨ds,b.ns⟩],us ++ [V.ref p3],_,_,_,_,_,rfl,by rw [aN,hw1];rfl,?_,?_,e''.trans (hG''.trans eP),qA1,?_⟩
     ·refine⟨λb' hb'=>?_,?_⟩
      ·rcases aP.mp hb' with z | z
       ·exact hok1 _ z
       ·rw [aO.mp z];exact⟨hbok.ns,hdok,by show ds.length<=20;lia⟩
      ·rw [aQ,hns1,bO,bC,hb];rfl
     ·exact ((TG.ext (ts :=[]) (.laid hp3) (by simp)).ext (ts :=[md]) (.put (by simp)) (by simpa using nmdt.symm)).mono (by lia)
     ·rw [aQ];have nsX:sm∉md::l::t::as:=λz=>by
       simp only [aJ] at z;rcases z with z | z | z | z
       ·exact nsmd z
       ·exact nsl z
       ·exact nst z
       ·exact nsas z
      have eP':Ext (md::l::t::as) G (upd (upd G p3 (.tup [.ref sm,ve])) md (.lst (us ++ [V.ref p3]))):=eP.mono (by simp);refine DenL.append ?_ (.cons (.tuple (vs :=[.ref sm,ve]) (SqT.of ?_) (.cons (.list (vs:=vs) (SqL.of ?_) ?_) (.cons ?_ .nil))) .nil)
      ·refine hden1.mono λb o q=>?_;have hb:b∉md::l::t::as:=λz=>by rw [qGy z] at q;cases q
       rw [qBn hb] at q ⊢;exact (hG''.trans eP) _ _ (λz=>hb (by simp at z;rcases z with z | z <;> simp [z])) q
      ·rw [qBn np3X,qA5 np3md,qA1]
      ·rw [qBn nsX];exact eP _ _ (by simp [nsmd,nst]) smG
      ·refine (denG.mono (qQl (ts:=md::l::t::as) (us:=sm::md::l::t::as) (by intro z hz;exact aV _ hz))).mono eP'.same
      ·refine hd2.mono ?_;refine qPs (us :=[sm,md,l,t]) (EG.trans (eP.mono (by simp))) (by intro z hz;simp at hz;rcases hz with z | z | z | z <;> simp [z,hsmH,hmdH,hl]) (λz hz=>?_);rcases hex z (aV _ hz) with y | y
       ·exact .inl (by simp [y])
       ·exact .inr y
   ·intro σ'' H'' hq_;refine hide λG_ hG_=>?_;obtain⟨w1,us,o6,o7,o8,o9,o10,rfl,hw1,⟨hok1,hns1⟩,T'',e'',hmd'',hden1⟩:=hq_;refine hG_ ?_;have l'':H'' l=some (.lst (as.map V.ref)):=e'' _ _ (by simp [nmdl.symm,nlt]) (e4 _ _ (by simp) hl');have as'':∀a∈as,∀o,H' a=some o->H'' a=some o:=λa ha o q=>e'' _ _ (by simp [(has a ha).2];intro z;exact nmdas (z▸ha)) (e4 _ _ (by simp) q);walk_at "rg";refine qBr l'' ?_;walk_at "rg";refine qC3 l'' (qAh (by rw [aB];lia)) ?_;have hH'':Ext [l,t] H' H'':=λb o hb q=>by
     have nb:b≠md:=λz=>by rw [z,hmd] at q;cases q
     have hb2:b≠t:=λz=>hb (by simp [z]);exact e'' _ _ (by simp [nb,hb2]) (e4 _ _ (by simp) q)
    have eL:Ext [l,t] H' (upd H'' l (.lst (as.map V.ref ++ [V.ref md]))):=hH''.trans (.put (by simp));refine⟨as ++ [md],ws ++ [w1],_,_,_,_,_,_,_,rfl,by rw [aN,hal];rfl,?_,by simp [hla,nmdl.symm],?_,?_,?_,e'.trans eL,by rw [qA1,aQ];rfl,?_⟩
    ·intro w hw;rcases aP.mp hw with z | z
     ·exact hws _ z
     ·rw [aO.mp z];exact⟨⟨m,hm1,hm2,⟨by lia,hok1⟩⟩,by show Ledx (w1.map (·.ns));rw [hns1,bD (by rw [aB];lia)];exact hled0 w0 (aL hw0)⟩
    ·intro a ha;rcases aP.mp ha with z | z
     ·exact has _ z
     ·rw [aO.mp z];exact⟨hmdH,nmdt⟩
    ·exact cU.mpr ⟨hnd,by simp,by intro x hx y hy;simp at hy;subst hy;intro e;subst e;exact nmdas hx⟩
    ·exact (T''.ext (ts :=[l]) (.put (by simp)) (by simpa using nlt.symm)).mono (by lia)
    ·have key:Same (wo (l::t::as) H') (wo (l::t::(as ++ [md])) (upd H'' l (.lst (as.map V.ref ++ [V.ref md])))):=λb o q=>by
      have hb:b∉l::t::as:=λz=>by rw [qGy z] at q;cases q
      rw [qBn hb] at q;have nb:b≠md:=λz=>by rw [z,hmd] at q;cases q
      rw [qBn (λz=>by
       simp only [aJ,aP,bX,or_false] at z;rcases z with z | z | z | z
       ·exact hb (by simp [z])
       ·exact hb (by simp [z])
       ·exact hb (by simp [z])
       ·exact nb z)]
      exact eL _ _ (λz=>hb (by simp at z;rcases z with z | z <;> simp [z])) q
     refine (hA.mono key λb hb o e=>?_).snoc (bs:=us) (by rw [qA5 nmdl];exact hmd'') (hden1.mono λb o q=>?_)
     ·have nbl:b≠l:=λz=>hla (z▸hb);exact eL _ _ (by simp [nbl,(has b hb).2]) e
     ·have hb:b∉md::l::t::as:=λz=>by rw [qGy z] at q;cases q
      rw [qBn hb] at q
      rw [qBn (λz=>by
       simp only [aJ,aP,bX,or_false] at z
       rcases z with z | z | z | z <;> exact hb (by simp [z])),qA5 (λz=>hb (by simp [z]))]
      exact q
  ·intro σ' H' hq_;refine hide λG_ hG_=>?_;obtain⟨as,ws,o4,o5,o6,o7,o8,o9,o10,rfl,hal,hws,hla,has,hnd,T',e',hl',hA⟩:=hq_;refine hG_ ?_;walk_at "rg";have hwl:=hA.len;have h1:=hok0.one;have h2:=hok0.few;rw [aB] at hal T';exact q l as ws H' hl nlt hla has hnd (T'.mono (by lia)) ((E3.mono (by simp)).trans e' |>.drop hl) hl' hA ⟨⟨λw hw=>(hws w hw).1,by lia,by lia⟩,λw hw=>(hws w hw).2⟩ (by simpa using hal)
end
section
variable{P:Program}{w:World}{K:PySem.W.Frag}{mg:Str->Option Value}{base:Heap}
abbrev qFd:Stmt:=top 10
theorem qQk:FnScope ["thing"] ["thing"] (qA7 qFd):=⟨rfl,rfl,rfl,by decide +kernel,rfl,by decide +kernel,by decide +kernel⟩
theorem qOy{f:Addr}{fd:FuncData}(F:Fun K "is_number" "is_number" qFd f fd)(nisi:mg "isinstance" = none)(nint:mg "int" = none)(nbool:mg "bool" = none):FnOk P w K mg base CX0 1 f fd ["thing"] qG6:=by
 refine F.ok qQk (λvs H Q E h=>?_) (λcdv A outer s H vs Q E hr h=>?_)
 ·obtain⟨n,rfl,_⟩:=h;rfl
 ·obtain⟨n,rfl,q⟩:=h;refine⟨_,(qA8 (qAc (qJo (qA9 qGs (by rfl) nisi (by decide +kernel) (qA0 (pv 0) (qA0 (qCm (v :=.ty "int") rfl nint bZ rfl) qA3))) (qM7 (qSb (qA9 qGs (by rfl) nisi (by decide +kernel) (qA0 (pv 0) (qA0 (qCm (v :=.ty "bool") rfl nbool PyProof.Rows.boot_bool rfl) qA3)))))))),?_⟩;dsimp only [qBf,qB5,qB1];walk_at "rh";refine qJh ?_;walk_at "rh";refine⟨_,"int",_,true,rfl,.int n,qIi K,true,rfl,iteT ?_⟩;refine qLx ?_;walk_at "rh";exact⟨_,"bool",_,false,rfl,.int n,qHk K,false,rfl,q⟩
end
section
variable{P:Program}{w:World}{K:PySem.W.Frag}{mg:Str->Option Value}{base:Heap}
abbrev qDp:Stmt:=top 11
theorem qO1:FnScope ["thing","low","beyond"] ["thing","low","beyond"] (qA7 qDp):=⟨rfl,rfl,rfl,by decide +kernel,rfl,by decide +kernel,by decide +kernel⟩
theorem qMi{f:Addr}{fd:FuncData}(F:Fun K "is_number_from" "is_number_from" qDp f fd)(hN:Has P w K mg base "is_number" 1 ["thing"] qG6):FnOk P w K mg base CX0 2 f fd ["thing","low","beyond"] qE2:=by
 refine F.ok qO1 (λvs H Q E h=>?_) (λcdv A outer s H vs Q E hr h=>?_)
 ·obtain⟨n,lo,hi,rfl,_⟩:=h;rfl
 ·obtain⟨n,lo,hi,rfl,h1,h2,q⟩:=h;refine⟨_,(qA8 (qAc (qJo (qAj hN hr (by decide) (qA0 (pv 0) qA3)) (qM7 (qOn qQx qKj (pv 1) (pv 0) (pv 2)))))),?_⟩;walk_at "rh";refine qJh ?_;walk_at "rh";refine⟨n,rfl,true,rfl,iteT ?_⟩;refine qJe ?_;walk_at "rh";rw [decide_eq_true h1];refine iteT ?_;walk_at "rh";rw [decide_eq_true h2];exact q
end
end Fs
local macro_rules | `(tactic| walk_at "qc") => `(tactic| first | refine L2.qJ2 ?_ | refine L2.qSx ?_ | refine L2.qQm ?_ | refine L2.qJ9 ?_ | refine L2.qKf ?_ | refine L2.qFi ?_ | refine L2.qO3 ?_ | refine L2.qO9 ?_ | refine L2.qJf ?_ | refine L2.qT1 ?_ | refine L2.qOa ?_ | refine L2.qSw ?_ | refine L2.r_u ?_ | refine L2.qOf ?_ | refine L2.qSz ?_ | refine L2.qO6 ?_ | refine L2.qO5 ?_ | refine L2.r_c ?_ | refine L2.qT0 ?_ | refine L2.qRk ?_ | refine L2.qOe ?_ | refine L2.qH7 ?_ | refine L2.qEi ?_ | refine L2.qGb ?_ | refine L2.qGc ?_ | refine L2.qJ8 ?_ | refine L2.qLy ?_ | refine L2.qJh ?_ | refine L2.qRz ?_ | refine L2.qLx ?_ | refine L2.qJ4 ?_ | refine L2.qOc ?_ | refine L2.qOd ?_ | refine L2.qE4 ?_ | refine L2.qJd ?_ | refine L2.qGe ?_ | refine L2.qJc ?_ | refine L2.qJg ?_ | refine L2.qJ5 ?_ | refine L2.qJj ?_ | refine L2.qJi ?_ | refine L2.qGd ?_ | refine L2.qJa ?_ | refine L2.qSy ?_ | refine L2.qO7 ?_ | refine L2.qJ6 ?_ | refine L2.qGa (by with_unfolding_all rfl) ?_ | refine L2.qBo (by assumption) (by with_unfolding_all rfl) ?_ | refine L2.qLz (by assumption) (by with_unfolding_all rfl) ?_)
local macro_rules | `(tactic| walk_at "ri") => `(tactic| repeat (with_reducible first | (refine L2.qJ3 ?_; intro NN_ hNN_) | walk_at "qa" | refine L2.qBb (by assumption) ?_ | refine L2.qPf (by assumption) ?_ | (refine L2.qOb ?_; intro NA_ NB_ hNA_ hNB_) | walk_at "qc"))
namespace Fs
open PySem L2
section
variable{P:Program}{w:World}{K:PySem.W.Frag}{mg:Str->Option Value}{base:Heap}
abbrev qCx:Stmt:=top 12
theorem qLr:FnScope ["thing"] ["thing"] (qA7 qCx):=⟨rfl,rfl,rfl,by decide +kernel,rfl,by decide +kernel,by decide +kernel⟩
theorem qKm{f:Addr}{fd:FuncData}(F:Fun K "has_word" "has_word" qCx f fd)(nisi:mg "isinstance" = none)(ntuple:mg "tuple" = none)(nstr:mg "str" = none)(nlen:mg "len" = none):FnOk P w K mg base CX0 1 f fd ["thing"] (qDe K):=by
 refine F.ok qLr (λvs H Q E h=>?_) (λcdv A outer s H vs Q E hr h=>?_)
 ·obtain⟨a,s,xs,rfl,_⟩:=h;rfl
 ·obtain⟨a,sx,xs,rfl,hT,q⟩:=h;have hu:=qBu hr;refine⟨_,(qA8 (qAc (qJo (qA9 qCs (by rfl) nisi (by decide +kernel) (qA0 (pv 0) (qA0 (qCm (v :=.ty "tuple") rfl ntuple PyProof.Rows.boot_tuple rfl) qA3))) (qJo (qC4 qOq (qA9 qAf (by rfl) nlen bB (qA0 (pv 0) qA3)) qA6 (qAi _)) (qM7 (qA9 qGs (by rfl) nisi (by decide +kernel) (qA0 (qB3 qDx (pv 0) qA6 (λ_ _=>rfl)) (qA0 (qCm (v :=.ty "str") rfl nstr dL rfl) qA3)))))))),?_⟩
  try dsimp only [qBf,qB5,qB1,qC6,qFx]
  walk_at "ri";refine⟨a,_,"tuple",rfl,.inr ⟨hT,rfl⟩,true,rfl,iteT ?_⟩;walk_at "ri";refine⟨a,_,rfl,.inr hT,?_⟩;walk_at "ri";refine ite2 (λg=>?_) (λg=>absurd (decide_eq_true (by simp)) g);walk_at "ri";refine qDv hT ?_;walk_at "ri";exact⟨_,"str",_,true,rfl,.str sx,qRb K,q⟩
end
section
variable{P:Program}{w:World}{K:PySem.W.Frag}{mg:Str->Option Value}{base:Heap}
abbrev qDo:Stmt:=top 13
theorem qO0:FnScope ["thing","kind","works"] ["thing","kind","works"] (qA7 qDo):=⟨rfl,rfl,rfl,by decide +kernel,rfl,by decide +kernel,by decide +kernel⟩
theorem qMh{f:Addr}{fd:FuncData}{tb:Tok}(F:Fun K "is_part" "is_part" qDo f fd)(hBx:mg "BOXES" = some (.int 8 tb))(hN:Has P w K mg base "is_number" 1 ["thing"] qG6)(hF:Has P w K mg base "is_number_from" 2 ["thing","low","beyond"] qE2):FnOk P w K mg base CX0 3 f fd ["thing","kind","works"] qG5:=by
 refine F.ok qO0 (λvs H Q E h=>?_) (λcdv A outer s H vs Q E hr h=>?_)
 ·obtain⟨n,works,k,rfl,_⟩:=h;rfl
 ·obtain⟨n,works,k,rfl,hk,q⟩:=h;have hu:=qBu hr
  refine⟨_,(qA4 (qBc (qAa qBt (pv 1) qAn (qAi _)) (qA8 (qAc (qAj hF hr (by decide) (qA0 (pv 0) (qA0 qA6 (qA0 (qBd (v :=.int 8) rfl hBx ⟨_,rfl⟩) qA3)))))) qAl)
   (qA4 (qBc (qAa qBt (pv 1) qAn (qAi _)) (qA8 (qAc (qAj hF hr (by decide) (qA0 (pv 0) (qA0 qA6 (qA0 (pv 2) qA3)))))) qAl)
   (qA8 (qAc (qAj hN hr (by decide) (qA0 (pv 0) qA3)))))),?_⟩
  try dsimp only [qBf,qB5,qB1,qC6,qFx]
  walk_at "ri";refine qDr ?_;walk_at "ri";refine ite2 (λg=>?_) (λg=>?_)
  ·have g:=hk.1 (of_decide_eq_true g);walk_at "ri";exact⟨n,0,8,rfl,g.1,g.2,q⟩
  ·walk_at "ri";refine qDr ?_;walk_at "ri";refine ite2 (λg=>?_) (λg=>?_)
   ·have g:=hk.2 (of_decide_eq_true g);walk_at "ri";exact⟨n,0,works,rfl,g.1,g.2,q⟩
   ·walk_at "ri";exact⟨n,rfl,q⟩
end
section
variable{P:Program}{w:World}{K:PySem.W.Frag}{mg:Str->Option Value}{base:Heap}
abbrev qDq:Stmt:=top 14
theorem scIsDeed:FnScope ["thing","works","kinds","parts"] ["thing","works"] (qA7 qDq):=⟨rfl,rfl,rfl,by decide +kernel,rfl,by decide +kernel,by decide +kernel⟩
theorem qMj{f dp:Addr}{fd:FuncData}(F:Fun K "is_deed" "is_deed" qDq f fd)(nlen:mg "len" = none)(nall:mg "all" = none)(nzip:mg "zip" = none)(hDp:mg "DEED_PARTS" = some (.ref dp))(hParts:Parts K dp)(hHw:Has P w K mg base "has_word" 1 ["thing"] (qDe K))
  (hIp:Has P w K mg base "is_part" 3 ["thing","kind","works"] qG5):FnOk P w K mg base CX0 4 f fd ["thing","works"] (qG7 K):=by
 refine F.ok scIsDeed (λvs H Q E h=>?_) (λcdv A outer s H vs Q E hr h=>?_)
 ·obtain⟨a,works,d,rfl,_⟩:=h;rfl
 ·obtain⟨a,works,d,rfl,hD,hOk,q⟩:=h;have hu:=qBu hr
  refine⟨_,(qA4 (qBc (PW.pt (qD8 (qBw (qAo K rfl (qAj hHw hr (by decide) (qA0 (pv 0) qA3)) (λ_=>rfl))) (qBv (qAa qDa (qB3 qDx (pv 0) qA6 (λ_ _=>rfl)) (qBd (v :=.ref dp) rfl hDp rfl) rfl)))) (qA8 (qAc qD9)) qAl)
   (qA4 (qAg (i:=2) scIsDeed.nd rfl (Or.inl rfl) (qB3 qHm (qBd (v :=.ref dp) rfl hDp rfl) (qB3 qDx (pv 0) qA6 (λ_ _=>rfl)) (λ_ _=>rfl)))
   (qA4 (qAg (i:=3) scIsDeed.nd rfl (Or.inl rfl) (qE5 qLp (pv 0) (qGi qA6) qGj))
   (qA4 (qBc (qAa qF0 (qA9 qAf (by rfl) nlen bB (qA0 (pv 3) qA3)) (qA9 qAf (by rfl) nlen bB (qA0 (pv 2) qA3)) (qAi _)) (qA8 (qAc qD9)) qAl)
   (qA8 (qAc (qA9 (qC9 hr.hd) (by rfl) nall (by decide +kernel) (qA0 (qEk ["part","kind"] [1] rfl (.of rfl) (qM4 true true rfl nzip (qA0 (pv 3) (qA0 (pv 2) qA3))) (λ_ _ _ _=>(qGk (n:=2) K rfl rfl (qAx (qAd (i:=0) (by show (((["part","kind","works"]:List Str))).Nodup;decide) rfl (Or.inl rfl)) (qAx (qAd (i:=1) (by show (((["part","kind","works"]:List Str))).Nodup;decide) rfl (Or.inl rfl)) qCe)))) (λ_ _ _ _ =>.nil) (λ_ _ _ _=>(qAj hIp hr (by decide) (qA0 (pv 0) (qA0 (pv 1) (qA0 (pv 2) qA3)))))) qA3)))))))),?_⟩
  try dsimp only [qBf,qB5,qB1,qC6,qFx]
  rw [qE9] at hD;obtain⟨a',ts,ea,hT,hTs⟩:=hD.ofTuple;cases ea;obtain⟨v0,r1,rfl,h0,h1⟩:=hTs.ofCons;have h0:=h0.ofStr;have h1:=h1.ints;subst h0 h1;obtain⟨b,D,hTab,hat,hTk⟩:=hParts.at d;have hhas:qD2 D (qD1 d)=true:=by unfold qD2;rw [hat];rfl
  obtain⟨hf1,hf2⟩:=qHb d;walk_at "ri";refine⟨a,_,_,rfl,hT,true,rfl,iteF ?_⟩;walk_at "ri";refine qDv hT ?_;walk_at "ri";refine⟨qD1 d,dp,D,rfl,rfl,hTab,?_⟩;rw [if_pos rfl,hhas];walk_at "ri";refine iteF ?_;walk_at "ri";refine qDv hT ?_;refine⟨qD1 d,dp,D,_,rfl,rfl,hTab,hat,?_⟩;walk_at "ri";refine⟨1,rfl,?_⟩;walk_at "ri";refine qLw hT λp hp=>?_;walk_at "ri";refine qFh (SqT.of qA1) ?_;walk_at "ri";refine qFh hTk.sq ?_;refine qO8 ?_;rw [aB,aB,qHa,decide_eq_true rfl];walk_at "ri";refine iteF ?_;walk_at "ri";refine⟨p,b,rfl,⟨(qBj d).map V.int,SqT.of qA1⟩,⟨(qFl d).map V.str,hTk.sq⟩,λlc hlc=>?_⟩;have e1:Ext [] H (upd H p (.tup ((qBj d).map V.int))) :=.laid hp;have hp1:(upd H p (.tup ((qBj d).map V.int))) p=some (.tup ((qBj d).map V.int)):=qA1
  generalize upd H p (.tup ((qBj d).map V.int))=H1 at e1 hp1 hlc ⊢;have npl:p≠lc:=qA2 hp1 hlc;refine qHi (xs:=(qBj d).map V.int) (ys:=(qFl d).map V.str) (by rw [aB,aB,qHa]) (λj σ' G => ∃o0 o1,σ' = [o0,o1,some (.int works)]/\Ext [lc] H1 G/\G lc=some (.lst (List.replicate j (V.bl true)))) ?_ ?_ ?_ ?_
  ·exact⟨none,none,rfl,.laid hlc,qA1⟩
  ·rintro j σ' G hj ⟨o0,o1,rfl,e3,hlc3⟩;exact⟨SqT.of (e3 _ _ (by simpa using npl) hp1),hTk.sq⟩
  ·rintro j x y σ' G pp R hx hy ⟨o0,o1,rfl,e3,hlc3⟩ hpp hR;obtain⟨n,hn,rfl⟩:=qAz hx;obtain⟨k,hk,rfl⟩:=qAz hy;have hjl:j<(qBj d).length:=(aD.mp hn).1;have npp:lc≠pp:=qA2 hlc3 hpp;refine qDg (SqT.of qA1) rfl ?_;walk_at "ri";refine iteT ?_;walk_at "ri";refine⟨n,works,k,rfl,qOo hOk j n k hn hk,?_⟩;refine⟨_,by rw [qA5 npp];exact hlc3,qAh (by rw [bY];lia),hR _ _ ⟨_,_,rfl,(e3.trans (.laid hpp)).trans (.put (by simp)),?_⟩⟩;rw [qA1,cG]
  ·rintro σ' G ⟨o0,o1,rfl,e3,hlc3⟩;walk_at "ri";refine qFj hlc3 ?_;exact q _ (e1.trans (e3.drop hlc))
end
section
variable{P:Program}{w:World}{K:PySem.W.Frag}{mg:Str->Option Value}{base:Heap}
abbrev qFe:Stmt:=top 15
theorem scIsEnd:FnScope ["thing","many","named"] ["thing","many"] (qA7 qFe):=⟨rfl,rfl,rfl,by decide +kernel,rfl,by decide +kernel,by decide +kernel⟩
theorem qOz{f eb:Addr}{fd:FuncData}(F:Fun K "is_end" "is_end" qFe f fd)(nlen:mg "len" = none)(nall:mg "all" = none)(nset:mg "set" = none)(hEb:mg "END_BLOCKS" = some (.ref eb))(hBlocks:Blocks K eb)(hHw:Has P w K mg base "has_word" 1 ["thing"] (qDe K))
  (hF:Has P w K mg base "is_number_from" 2 ["thing","low","beyond"] qE2):FnOk P w K mg base CX0 3 f fd ["thing","many"] (qI9 K):=by
 refine F.ok scIsEnd (λvs H Q E h=>?_) (λcdv A outer s H vs Q E hr h=>?_)
 ·obtain⟨a,m,ns,rfl,_⟩:=h;rfl
 ·obtain⟨a,m,ns,rfl,hD,hOk,q⟩:=h;have hu:=qBu hr
  refine⟨_,(qA4 (qBc (PW.pt (qD8 (qBw (qAo K rfl (qAj hHw hr (by decide) (qA0 (pv 0) qA3)) (λ_=>rfl))) (qBv (qAa qDa (qB3 qDx (pv 0) qA6 (λ_ _=>rfl)) (qBd (v :=.ref eb) rfl hEb rfl) rfl)))) (qA8 (qAc qD9)) qAl)
   (qA4 (qAg (i:=2) scIsEnd.nd rfl (Or.inl rfl) (qE5 qLp (pv 0) (qGi qA6) qGj))
   (qA4 (qBc (qAa qF0 (qA9 qAf (by rfl) nlen bB (qA0 (pv 2) qA3)) (qB3 qHm (qBd (v :=.ref eb) rfl hEb rfl) (qB3 qDx (pv 0) qA6 (λ_ _=>rfl)) (λ_ _=>rfl)) (qAi _)) (qA8 (qAc qD9)) qAl)
   (qA4 (qBc (qBw (qAo K rfl (qA9 (qC9 hr.hd) (by rfl) nall (by decide +kernel) (qA0 (qEk ["to"] [1] rfl (.of rfl) (qM5 (pv 2)) (λ_ _ _ _=>(qAd (i:=0) (by show (((["to","many"]:List Str))).Nodup;decide) rfl (Or.inl rfl))) (λ_ _ _ _ =>.nil) (λ_ _ _ _=>(qAj hF hr (by decide) (qA0 (pv 0) (qA0 qA6 (qA0 (pv 1) qA3)))))) qA3)) (λ_=>rfl))) (qA8 (qAc qD9)) qAl)
   (qA8 (qAc (qC4 qBt (qA9 qNl (by rfl) nlen bB (qA0 (qAr (qNj hr.hd) (by rfl) nset PyProof.Rows.boot_set (qA0 (pv 2) qA3)) qA3)) (qA9 qAf (by rfl) nlen bB (qA0 (pv 2) qA3)) (qAi _)))))))),?_⟩
  try dsimp only [qBf,qB5,qB1,qC6,qFx]
  have hf:=hOk.few;rw [qGp hf] at hD;obtain⟨a',ts,ea,hT,hTs⟩:=hD.ofTuple;cases ea;obtain⟨v0,r1,rfl,h0,h1⟩:=hTs.ofCons;have h0:=h0.ofStr;have h1:=h1.ints;subst h0 h1;obtain⟨D,hTab,hat⟩:=hBlocks.at hf;have hhas:qD2 D (endW ns)=true:=by unfold qD2;rw [hat];rfl
  walk_at "ri";refine⟨a,_,_,rfl,hT,true,rfl,iteF ?_⟩;walk_at "ri";refine qDv hT ?_;walk_at "ri";refine⟨endW ns,eb,D,rfl,rfl,hTab,?_⟩;rw [if_pos rfl,hhas];walk_at "ri";refine iteF ?_;walk_at "ri";refine⟨1,rfl,?_⟩;walk_at "ri";refine qLw hT λp hp=>?_;walk_at "ri";refine qFh (SqT.of qA1) ?_;walk_at "ri";refine qDv ((Ext.laid (ts :=[]) hp).toSame.seqT hT) ?_;refine⟨endW ns,eb,D,_,rfl,rfl,hTab,hat,?_⟩;refine qO8 ?_;rw [aB,decide_eq_true rfl];walk_at "ri";refine iteF ?_;walk_at "ri";refine⟨p,rfl,⟨_,SqT.of qA1⟩,λlc hlc=>?_⟩;have e1:Ext [] H (upd H p (.tup (ns.map V.int))) :=.laid hp;have hp1:(upd H p (.tup (ns.map V.int))) p=some (.tup (ns.map V.int)):=qA1;generalize upd H p (.tup (ns.map V.int))=H1 at e1 hp1 hlc ⊢
  have npl:p≠lc:=qA2 hp1 hlc;refine qGm (xs:=ns.map V.int) (λj σ' G => ∃o0,σ' = [o0,some (.int m)]/\Ext [lc] H1 G/\G lc=some (.lst (List.replicate j (V.bl true)))) ?_ ?_ ?_ ?_
  ·exact⟨none,rfl,.laid hlc,qA1⟩
  ·rintro j σ' G hj ⟨o0,rfl,e3,hlc3⟩;exact SqT.of (e3 _ _ (by simpa using npl) hp1)
  ·rintro j x σ' G R hx ⟨o0,rfl,e3,hlc3⟩ hR;obtain⟨n,hn,rfl⟩:=qAz hx;have hjl:j<ns.length:=(aD.mp hn).1;obtain⟨n1,n2⟩:=hOk.all n (aL hn);walk_at "ri";refine iteT ?_;walk_at "ri";refine⟨n,1,m,rfl,n1,n2,?_⟩;refine⟨_,hlc3,qAh (by rw [bY];lia),hR _ _ ⟨_,rfl,e3.trans (.put (by simp)),?_⟩⟩;rw [qA1,cG]
  ·rintro σ' G ⟨o0,rfl,e3,hlc3⟩;walk_at "ri";refine qFj hlc3 ?_;refine⟨true,rfl,iteF ?_⟩;have eG:=e3.drop hlc;have hpG:=eG _ _ (by simp) hp1;walk_at "ri";refine⟨p,ns,rfl,SqT.of hpG,by lia,λls hls=>?_⟩;walk_at "ri";refine⟨ls,_,rfl,qA1,?_⟩;walk_at "ri";refine qFh (SqT.of ((Ext.laid (ts :=[]) hls) _ _ (by simp) hpG)) ?_;refine qD0 ?_;rw [aB,hOk.set,decide_eq_true rfl];exact q _ ((e1.trans eG).trans (.laid hls))
end
section
variable{P:Program}{w:World}{K:PySem.W.Frag}{mg:Str->Option Value}{base:Heap}
abbrev qCw:Stmt:=top 16
theorem scIsBlock:FnScope ["thing","many","works","deeds","end"] ["thing","many","works"] (qA7 qCw):=⟨rfl,rfl,rfl,by decide +kernel,rfl,by decide +kernel,by decide +kernel⟩
theorem qKl{f:Addr}{fd:FuncData}(F:Fun K "is_block" "is_block" qCw f fd)(nisi:mg "isinstance" = none)(ntuple:mg "tuple" = none)(nlist:mg "list" = none)(nlen:mg "len" = none)(nall:mg "all" = none)(hIe:Has P w K mg base "is_end" 3 ["thing","many"] (qI9 K))
  (hId:Has P w K mg base "is_deed" 4 ["thing","works"] (qG7 K)):FnOk P w K mg base CX0 5 f fd ["thing","many","works"] (qEg K):=by
 refine F.ok scIsBlock (λvs H Q E h=>?_) (λcdv A outer s H vs Q E hr h=>?_)
 ·obtain⟨a,m,works,b,rfl,_⟩:=h;rfl
 ·obtain⟨a,m,works,b,rfl,hD,hOk,q⟩:=h;have hu:=qBu hr
  refine⟨_,(qA4 (qBc (PW.pt (qD8 (qBw (qAo K rfl (qA9 qCs (by rfl) nisi (by decide +kernel) (qA0 (pv 0) (qA0 (qCm (v :=.ty "tuple") rfl ntuple PyProof.Rows.boot_tuple rfl) qA3))) (λ_=>rfl))) (qBv (qAa qF0 (qA9 qAf (by rfl) nlen bB (qA0 (pv 0) qA3)) qA6 (qAi _))))) (qA8 (qAc qD9)) qAl)
   (qA4 (qJm (pv 0) (qFk (n:=2) rfl (qAx (qAd (i:=3) scIsBlock.nd rfl (Or.inl rfl)) (qAx (qAd (i:=4) scIsBlock.nd rfl (Or.inl rfl)) qCe))))
   (qA4 (qBc (PW.pt (qD8 (qBw (qAo K rfl (qA9 qCs (by rfl) nisi (by decide +kernel) (qA0 (pv 3) (qA0 (qCm (v :=.ty "list") rfl nlist bV rfl) qA3))) (λ_=>rfl))) (qBv (qBw (qAo K rfl (qAj hIe hr (by decide) (qA0 (pv 4) (qA0 (pv 1) qA3))) (λ_=>rfl)))))) (qA8 (qAc qD9)) qAl)
   (qA8 (qAc (qA9 (qC9 hr.hd) (by rfl) nall (by decide +kernel) (qA0 (qEk ["deed"] [2] rfl (.of rfl) (qBk (pv 3)) (λ_ _ _ _=>(qAd (i:=0) (by show (((["deed","works"]:List Str))).Nodup;decide) rfl (Or.inl rfl))) (λ_ _ _ _ =>.nil) (λ_ _ _ _=>(qAj hId hr (by decide) (qA0 (pv 0) (qA0 (pv 1) qA3))))) qA3))))))),?_⟩
  try dsimp only [qBf,qB5,qB1,qC6,qFx]
  obtain⟨a',ts,ea,hT,hTs⟩:=hD.ofTuple;cases ea;obtain⟨v0,r1,rfl,h0,hr1⟩:=hTs.ofCons;obtain⟨v1,r2,rfl,h1,hr2⟩:=hr1.ofCons;have hr3:=hr2.ofNil;subst hr3;obtain⟨dl,dvs,rfl,hdl,hdvs⟩:=h0.ofList;clear hr1;have hOk2:=hOk.ns.few;obtain⟨el,evs,rfl,hel,hevs⟩:∃el evs,v1 = .ref el/\SqT K H el evs/\True:=by
   rw [qGp hOk2] at h1;obtain⟨el,evs,e,h,_⟩:=h1.ofTuple;exact⟨el,evs,e,h,trivial⟩
  walk_at "ri";refine⟨a,_,"tuple",rfl,.inr ⟨hT,rfl⟩,true,rfl,iteF ?_⟩;walk_at "ri";refine qFh hT ?_;walk_at "ri";refine qO8 ?_;walk_at "ri";refine iteF ?_;walk_at "ri";refine qDg hT rfl ?_;walk_at "ri";refine⟨dl,_,"list",rfl,.inl ⟨hdl,rfl⟩,true,rfl,iteF ?_⟩;walk_at "ri";refine⟨el,m,b.ns,rfl,h1,hOk.ns,λH1 e1=>?_⟩;refine⟨true,rfl,iteF ?_⟩;have hdl1:=e1.toSame.seq hdl;have hdvs1:=hdvs.mono e1.toSame;have hfew:=hOk.few;have hlen:=hdvs1.len;rw [aB] at hlen;walk_at "ri";refine⟨dl,rfl,⟨_,hdl1⟩,λlc hlc=>?_⟩;refine qC7 (xs:=dvs) (λj σ' G => ∃o0,σ' = [o0,some (.int works)]/\Ext [lc] H1 G/\G lc=some (.lst (List.replicate j (V.bl true)))) ?_ ?_ ?_ ?_
  ·exact⟨none,rfl,.laid hlc,qA1⟩
  ·rintro j σ' G hj ⟨o0,rfl,e3,hlc3⟩;exact (e3.drop hlc).toSame.seq hdl1
  ·rintro j x σ' G R hx ⟨o0,rfl,e3,hlc3⟩ hR;obtain⟨dd,hdd,hDx⟩:=hdvs1.get hx;obtain⟨d,hd,rfl⟩:=qAz hdd;have hjl:j<dvs.length:=(aD.mp hx).1;obtain⟨da,rfl⟩:∃da,x = .ref da:=by
    rw [qE9] at hDx;obtain⟨da,_,e,_⟩:=hDx.ofTuple;exact⟨da,e⟩
   walk_at "ri";refine iteT ?_;walk_at "ri";refine⟨da,works,d,rfl,hDx.mono (e3.drop hlc).toSame,hOk.ds d (aL hd),λH4 e4=>?_⟩;refine⟨_,e4 _ _ (by simp) hlc3,qAh (by rw [bY];lia),hR _ _ ⟨_,rfl,(e3.trans (e4.mono (by simp))).trans (.put (by simp)),?_⟩⟩;rw [qA1,cG]
  ·rintro σ' G ⟨o0,rfl,e3,hlc3⟩;walk_at "ri";refine qFj hlc3 ?_;exact q _ (e1.trans (e3.drop hlc))
end
section
variable{P:Program}{w:World}{K:PySem.W.Frag}{mg:Str->Option Value}{base:Heap}
abbrev qDn:Stmt:=top 17
theorem scIsWork:FnScope ["thing","works","many"] ["thing","works"] (qA7 qDn):=⟨rfl,rfl,rfl,by decide +kernel,rfl,by decide +kernel,by decide +kernel⟩
theorem qMg{f:Addr}{fd:FuncData}(F:Fun K "is_work" "is_work" qDn f fd)(nisi:mg "isinstance" = none)(nlist:mg "list" = none)(nlen:mg "len" = none)(nall:mg "all" = none)(hIb:Has P w K mg base "is_block" 5 ["thing","many","works"] (qEg K))
  (hLd:Has P w K mg base "led_to" 1 ["starts","nexts"] (qQe K)) (hNx:Has P w K mg base "nexts_of" 1 ["work"] (qT2 K)):FnOk P w K mg base CX0 6 f fd ["thing","works"] (qG4 K):=by
 refine F.ok scIsWork (λvs H Q E h=>?_) (λcdv A outer s H vs Q E hr h=>?_)
 ·obtain⟨a,m,works,b,rfl,_⟩:=h;rfl
 ·obtain⟨a,m,works,wk,rfl,hD,hOk,hm1,hm2,hLed,q⟩:=h;have hu:=qBu hr
  refine⟨_,(qA4 (qBc (PW.pt (qD8 (qBw (qAo K rfl (qA9 qCs (by rfl) nisi (by decide +kernel) (qA0 (pv 0) (qA0 (qCm (v :=.ty "list") rfl nlist bV rfl) qA3))) (λ_=>rfl))) (qBv (qBw (qAo K rfl (pv 0) (λ_=>rfl)))))) (qA8 (qAc qD9)) qAl)
   (qA4 (qAg (i:=2) scIsWork.nd rfl (Or.inr rfl) (qA9 qAf (by rfl) nlen bB (qA0 (pv 0) qA3)))
   (qA4 (qBc (qBw (qAo K rfl (qA9 (qC9 hr.hd) (by rfl) nall (by decide +kernel) (qA0 (qEk ["block"] [1,2] rfl (.of rfl) (qBk (pv 0)) (λ_ _ _ _=>(qAd (i:=0) (by show (((["block","works","many"]:List Str))).Nodup;decide) rfl (Or.inl rfl))) (λ_ _ _ _ =>.nil) (λ_ _ _ _=>(qAj hIb hr (by decide) (qA0 (pv 0) (qA0 (pv 2) (qA0 (pv 1) qA3)))))) qA3)) (λ_=>rfl))) (qA8 (qAc qD9)) qAl)
   (qA8 (qAc (qC4 qBt (qA9 qNm (by rfl) nlen bB (qA0 (qAj hLd hr (by decide) (qA0 (qAq (qA0 qA6 qA3)) (qA0 (qAj hNx hr (by decide) (qA0 (pv 0) qA3)) qA3))) qA3)) (pv 2) (qAi _))))))),?_⟩
  try dsimp only [qBf,qB5,qB1,qC6,qFx]
  obtain⟨a',bs,ea,hL,hBs⟩:=hD.ofList;cases ea;have hlen:=hBs.len;rw [aB] at hlen;have hwl:=hOk.len;walk_at "ri";refine⟨a,_,"list",rfl,.inl ⟨hL,rfl⟩,true,rfl,iteF ?_⟩;walk_at "ri";refine⟨true,.inl ⟨bs,hL,?_⟩,iteF ?_⟩
  ·cases bs with
   | nil=>simp at hlen;lia
   | cons x r=>rfl
  walk_at "ri";refine⟨a,_,rfl,.inl hL,?_⟩;walk_at "ri";refine⟨a,rfl,⟨_,hL⟩,λlc hlc=>?_⟩;refine qC7 (xs:=bs) (λj σ' G => ∃o0,σ' = [o0,some (.int works),some (.int bs.length)]/\Ext [lc] H G/\G lc=some (.lst (List.replicate j (V.bl true)))) ?_ ?_ ?_ ?_
  ·exact⟨none,rfl,.laid hlc,qA1⟩
  ·rintro j σ' G hj ⟨o0,rfl,e3,hlc3⟩;exact (e3.drop hlc).toSame.seq hL
  ·rintro j x σ' G R hx ⟨o0,rfl,e3,hlc3⟩ hR;obtain⟨dd,hdd,hDx⟩:=hBs.get hx;obtain⟨b,hb,rfl⟩:=qAz hdd;have hjl:j<bs.length:=(aD.mp hx).1;obtain⟨da,_,rfl,_,_⟩:=hDx.ofTuple;walk_at "ri";refine iteT ?_;walk_at "ri";refine⟨da,m,works,b,by rw [show ((bs.length:Nat):Int)=m by lia];rfl,hDx.mono (e3.drop hlc).toSame,hOk.blk b (aL hb),λH4 e4=>?_⟩;refine⟨_,e4 _ _ (by simp) hlc3,qAh (by rw [bY];lia),hR _ _ ⟨_,rfl,(e3.trans (e4.mono (by simp))).trans (.put (by simp)),?_⟩⟩;rw [qA1,cG]
  ·rintro σ' G ⟨o0,rfl,e3,hlc3⟩;walk_at "ri";refine qFj hlc3 ?_;refine⟨true,rfl,iteF ?_⟩;have eG:=e3.drop hlc;walk_at "ri";refine⟨len2 (by show 1<=1000;decide),λp hp=>?_⟩;have e4:Ext [] H (upd G p (.lst [.int 0])):=eG.trans (.laid hp);have hp4:(upd G p (.lst [V.int 0])) p=some (.lst [.int 0]):=qA1;generalize upd G p (.lst [V.int 0])=H4 at e4 hp4 ⊢;walk_at "ri";refine⟨a,wk,rfl,hD.mono e4.toSame,λb hb=>(hOk.blk b hb).ns.few,by lia,λd H5 hd e5 hNex=>?_⟩;walk_at "ri";refine⟨p,d,wk,m,works,0,rfl,SqL.of (e5 _ _ (by simp) hp4),hNex,hOk,hm2,by lia,by lia,λd2 ks H6 hd2 e6 hd6 hnd hks=>?_⟩;have hcount:=qMu hOk hm1 hLed hnd hks;walk_at "ri";refine⟨d2,_,rfl,hd6,?_⟩;walk_at "ri";refine qD0 ?_;rw [aB,hcount,hlen,decide_eq_true rfl]
   exact q _ ((e4.trans e5).trans e6)
end
section
variable{P:Program}{w:World}{K:PySem.W.Frag}{mg:Str->Option Value}{base:Heap}
abbrev qC5:Stmt:=top 18
theorem qKd:FnScope ["thing"] ["thing"] (qA7 qC5):=⟨rfl,rfl,rfl,by decide +kernel,rfl,by decide +kernel,by decide +kernel⟩
theorem qIe{f:Addr}{fd:FuncData}(F:Fun K "are_works" "are_works" qC5 f fd)(nisi:mg "isinstance" = none)(nlist:mg "list" = none)(nlen:mg "len" = none)(nall:mg "all" = none)(hIw:Has P w K mg base "is_work" 6 ["thing","works"] (qG4 K)):FnOk P w K mg base CX0 7 f fd ["thing"] (qDl K):=by
 refine F.ok qKd (λvs H Q E h=>?_) (λcdv A outer s H vs Q E hr h=>?_)
 ·obtain⟨a,ws,rfl,_⟩:=h;rfl
 ·obtain⟨a,ws,rfl,hD,hOk,hLed,q⟩:=h;have hu:=qBu hr
  refine⟨_,(qA4 (qBc (PW.pt (qD8 (qBw (qAo K rfl (qA9 qCs (by rfl) nisi (by decide +kernel) (qA0 (pv 0) (qA0 (qCm (v :=.ty "list") rfl nlist bV rfl) qA3))) (λ_=>rfl))) (qBv (qBw (qAo K rfl (pv 0) (λ_=>rfl)))))) (qA8 (qAc qD9)) qAl)
   (qA8 (qAc (qA9 (qC9 hr.hd) (by rfl) nall (by decide +kernel) (qA0 (qEk ["work"] [0] rfl (.of rfl) (qBk (pv 0)) (λ_ _ _ _=>(qAd (i:=0) (by show (((["work","thing"]:List Str))).Nodup;decide) rfl (Or.inl rfl))) (λ_ _ _ _ =>.nil) (λ_ _ _ _=>(qAj hIw hr (by decide) (qA0 (pv 0) (qA0 (qA9 (qJt K rfl) (by rfl) nlen bB (qA0 (pv 1) qA3)) qA3))))) qA3))))),?_⟩
  try dsimp only [qBf,qB5,qB1,qC6,qFx]
  obtain⟨a',bs,ea,hL,hBs⟩:=hD.ofList;cases ea;have hlen:=hBs.len;rw [aB] at hlen;have h1:=hOk.one;have h2:=hOk.few;walk_at "ri";refine⟨a,_,"list",rfl,.inl ⟨hL,rfl⟩,true,rfl,iteF ?_⟩;walk_at "ri";refine⟨true,.inl ⟨bs,hL,?_⟩,iteF ?_⟩
  ·cases bs with
   | nil=>simp at hlen;lia
   | cons x r=>rfl
  walk_at "ri";refine⟨a,rfl,⟨_,hL⟩,λlc hlc=>?_⟩;refine qC7 (xs:=bs) (λj σ' G => ∃o0,σ' = [o0,some (.ref a)]/\Ext [lc] H G/\G lc=some (.lst (List.replicate j (V.bl true)))) ?_ ?_ ?_ ?_
  ·exact⟨none,rfl,.laid hlc,qA1⟩
  ·rintro j σ' G hj ⟨o0,rfl,e3,hlc3⟩;exact (e3.drop hlc).toSame.seq hL
  ·rintro j x σ' G R hx ⟨o0,rfl,e3,hlc3⟩ hR;obtain⟨dd,hdd,hDx⟩:=hBs.get hx;obtain⟨wk,hb,rfl⟩:=qAz hdd;have hjl:j<bs.length:=(aD.mp hx).1;have hmem:=aL hb;obtain⟨m,hm1,hm2,hWk⟩:=hOk.all wk hmem;obtain⟨da,_,rfl,_,_⟩:=hDx.ofList;walk_at "ri";refine iteT ?_;walk_at "ri";refine⟨a,_,rfl,.inl ((e3.drop hlc).toSame.seq hL),?_⟩;walk_at "ri";refine⟨da,m,ws.length,wk,by rw [hlen];rfl,hDx.mono (e3.drop hlc).toSame,hWk,hm1,hm2,hLed wk hmem,λH4 e4=>?_⟩;refine⟨_,e4 _ _ (by simp) hlc3,qAh (by rw [bY];lia),hR _ _ ⟨_,rfl,(e3.trans (e4.mono (by simp))).trans (.put (by simp)),?_⟩⟩;rw [qA1,cG]
  ·rintro σ' G ⟨o0,rfl,e3,hlc3⟩;walk_at "ri";refine qFj hlc3 ?_;exact q _ (e3.drop hlc)
end
end Fs
local macro_rules | `(tactic| walk_at "qd") => `(tactic| first | refine L2.qJ2 ?_ | refine L2.qSx ?_ | refine L2.qQm ?_ | refine L2.qJ9 ?_ | refine L2.qKf ?_ | refine L2.qFi ?_ | refine L2.qO3 ?_ | refine L2.qO9 ?_ | refine L2.qJf ?_ | refine L2.qT1 ?_ | refine L2.qOa ?_ | refine L2.qSw ?_ | refine L2.r_u ?_ | refine L2.qOf ?_ | refine L2.qSz ?_ | refine L2.qO6 ?_ | refine L2.qO5 ?_ | refine L2.r_c ?_ | refine L2.qT0 ?_ | refine L2.qRk ?_ | refine L2.qOe ?_ | refine L2.qH7 ?_ | refine L2.qEi ?_ | refine L2.qGb ?_ | refine L2.qGc ?_ | refine L2.qJ8 ?_ | refine L2.qLy ?_ | refine L2.qS0 ?_ | refine L2.qJe ?_ | refine L2.qJh ?_ | refine L2.qRz ?_ | refine L2.qLx ?_ | refine L2.qJ4 ?_ | refine L2.qOc ?_ | refine L2.qOd ?_ | refine L2.qE4 ?_ | refine L2.qJd ?_ | refine L2.qGe ?_ | refine L2.qJc ?_ | refine L2.qJg ?_ | refine L2.qJ5 ?_ | refine L2.qJj ?_ | refine L2.qJi ?_ | refine L2.qGd ?_ | refine L2.qJa ?_ | refine L2.qSy ?_ | refine L2.qO7 ?_ | refine L2.qJ6 ?_ | refine L2.qGa (by with_unfolding_all rfl) ?_ | refine L2.qBo (by assumption) (by with_unfolding_all rfl) ?_ | refine L2.qLz (by assumption) (by with_unfolding_all rfl) ?_)
local macro_rules | `(tactic| walk_at "rj") => `(tactic| repeat (with_reducible first | (refine L2.qJ3 ?_; intro NN_ hNN_) | walk_at "qa" | refine L2.qBb (by assumption) ?_ | refine L2.qPf (by assumption) ?_ | (refine L2.qOb ?_; intro NA_ NB_ hNA_ hNB_) | walk_at "qd"))
namespace Fs
open PySem L2
section
variable{P:Program}{w:World}{K:PySem.W.Frag}{mg:Str->Option Value}{base:Heap}
abbrev qF7:Stmt:=top 31
theorem qQi:FnScope ["part"] ["part"] (qA7 qF7):=⟨rfl,rfl,rfl,by decide +kernel,rfl,by decide +kernel,by decide +kernel⟩
theorem qOs{f:Addr}{fd:FuncData}(F:Fun K "row_of" "row_of" qF7 f fd)(nstr:mg "str" = none):FnOk P w K mg base CX0 1 f fd ["part"] (qI7 K):=by
 refine F.ok qQi (λvs H Q E h=>?_) (λcdv A outer s H vs Q E hr h=>?_)
 ·obtain⟨a,i,rfl,_⟩:=h;rfl
 ·obtain⟨a,i,rfl,hT,hOk,q⟩:=h;have hu:=qBu hr;refine⟨_,(qA8 (qAc (qBp bW dM dN qGl qAn (qA0 (qEk ["word"] [] rfl (.of rfl) (qM5 (pv 0)) (λ_ _ _ _=>(qAd (i:=0) (by show (((["word"]:List Str))).Nodup;decide) rfl (Or.inl rfl))) (λ_ _ _ _ =>.nil) (λ_ _ _ _=>(qAr qEw (by rfl) nstr dL (qA0 (pv 0) qA3)))) qA3)))),?_⟩
  try dsimp only [qBf,qB5,qB1,qC6,qFx]
  walk_at "rj";refine qIb ?_;walk_at "rj";refine⟨a,rfl,⟨_,hT⟩,λlc hlc=>?_⟩;refine qGm (xs :=.str (itemW i)::(itemN i).map V.int) (λj σ' G => ∃o0,σ' = [o0]/\Ext [lc] H G/\G lc=some (.lst (((itemW i::(itemN i).map numT).take j).map V.str))) ?_ ?_ ?_ ?_
  ·exact⟨none,rfl,.laid hlc,qA1⟩
  ·rintro j σ' G hj ⟨o0,rfl,e3,hlc3⟩;exact (e3.drop hlc).toSame.seqT hT
  ·rintro j x σ' G R hx ⟨o0,rfl,e3,hlc3⟩ hR;have hjl:=(aD.mp hx).1;have hf:=hOk.few;simp only [bA,aB] at hjl;walk_at "rj";refine iteT ?_;walk_at "rj";have fin:∀t:Str,(itemW i::(itemN i).map numT)[j]? = some t -> ∃xs,G lc=some (.lst xs)/\xs.length<sizeLine/\R [some x] (upd G lc (.lst (xs ++ [.str t]))):=λt ht=>by
    refine⟨_,hlc3,qAh (by rw [aB,bN];lia),hR _ _ ⟨_,rfl,e3.trans (.put (by simp)),?_⟩⟩;rw [qA1,bO,ht,aQ];rfl
   cases j with
   | zero =>
    cases hx;exact .inl ⟨_,rfl,fin _ rfl⟩
   | succ j =>
    rw [cY] at hx;obtain⟨n,hn,rfl⟩:=qAz hx;have ha:=hOk.abs n (aL hn);refine .inr ⟨n,rfl,?_,fin _ (by rw [cY,bC,hn];rfl)⟩;by_cases h0:n.natAbs=0
    ·rw [h0];decide
    ·exact (Nat.log2_lt h0).mpr (aU ha (by decide))
  ·rintro σ' G ⟨o0,rfl,e3,hlc3⟩;walk_at "rj";rw [bD (by simp)] at hlc3;refine⟨_,lc,_,rfl,rfl,SqL.of hlc3,qEp hOk,?_⟩;exact q _ (e3.drop hlc)
end
section
variable{P:Program}{w:World}{K:PySem.W.Frag}{mg:Str->Option Value}{base:Heap}
abbrev sText:Stmt:=top 32
theorem scText:FnScope ["works","rows","work","deeds","end"] ["works"] (qA7 sText):=⟨rfl,rfl,rfl,by decide +kernel,rfl,by decide +kernel,by decide +kernel⟩
theorem qR0{f:Addr}{fd:FuncData}(F:Fun K "works_text" "works_text" sText f fd)(hRo:Has P w K mg base "row_of" 1 ["part"] (qI7 K)):FnOk P w K mg base CX0 2 f fd ["works"] (qLj K):=by
 refine F.ok scText (λvs H Q E h=>?_) (λcdv A outer s H vs Q E hr h=>?_)
 ·obtain⟨a,ws,works,rfl,_⟩:=h;rfl
 ·obtain⟨a,ws,works,rfl,hD,hOk,hw,q⟩:=h;have hu:=qBu hr
  refine⟨_,(qA4 (qAg (i:=1) scText.nd rfl (Or.inl rfl) (qAq qA3))
   (qA4 (qBx bL rfl (qBk (pv 0)) (qAd (i:=2) scText.nd rfl (Or.inl rfl))
   (qA4 (qB2 (qBp aM aS aT qAs (pv 1) (qA0 qAn qA3)))
   (qA8 (qBx bL rfl (qBk (pv 2)) (qFk (n:=2) rfl (qAx (qAd (i:=3) scText.nd rfl (Or.inl rfl)) (qAx (qAd (i:=4) scText.nd rfl (Or.inl rfl)) qCe)))
   (qA4 (qB2 (qBp aM aS aT qAs (pv 1) (qA0 qAn qA3)))
   (qA8 (qB2 (qBp aM PySem.F.slot_list_extend PySem.F.type_list_extend qHg (pv 1) (qA0 (qEk ["part"] [] rfl (.of rfl) (qBk (qAp qId (pv 3) (qAq (qA0 (pv 4) qA3)))) (λ_ _ _ _=>(qAd (i:=0) (by show (((["part"]:List Str))).Nodup;decide) rfl (Or.inl rfl))) (λ_ _ _ _ =>.nil) (λ_ _ _ _=>(qAj hRo hr (by decide) (qA0 (pv 0) qA3)))) qA3)))))))))
   (qA8 (qAc (qBp bW dM dN qGl qAn (qA0 (pv 1) qA3)))))),?_⟩
  try dsimp only [qBf,qB5,qB1,qC6,qFx]
  obtain⟨a',vs,ea,hL,hVs⟩:=hD.ofList;cases ea;have hlen:=hVs.len;rw [aB] at hlen;have hwsl:=hOk.few;walk_at "rj";refine⟨len2 (aW _),λl hl=>?_⟩;walk_at "rj";have keepL:∀ {G:Hp},Ext [l] H G->Same H G:=λe=>(e.drop hl).toSame;refine⟨a,rfl,⟨_,(keepL (.laid hl)).seq hL⟩,qCp (xs:=vs) (λi σ' G => ∃o2 o3 o4,σ' = [some (.ref a),some (.ref l),o2,o3,o4]/\Ext [l] H G/\G l=some (.lst ((rows (ws.take i)).map V.str))) ?_ ?_ ?_ ?_⟩
  ·exact⟨none,none,none,rfl,.laid hl,qA1⟩
  ·rintro i σ' G hi ⟨o2,o3,o4,rfl,e,hlG⟩;exact (keepL e).seq hL
  ·rintro i x σ' G hx ⟨o2,o3,o4,rfl,e,hlG⟩ N_ B_ C_ R_ hN_ hC_ hR_;obtain⟨dd,hdd,hDx⟩:=hVs.get hx;obtain⟨wk,hwk,rfl⟩:=qAz hdd;obtain⟨wa,bs,rfl,hwL,hBs⟩:=hDx.ofList;obtain⟨m,hm1,hm2,hWk⟩:=hOk.all wk (aL hwk);have hfewR:=qJ1 hOk i;have hbl:=hBs.len;rw [aB] at hbl;have hwl:=hWk.len;walk_at "rj";refine qBr hlG ?_;walk_at "rj";refine qC3 hlG (qBa (by rw [aB];lia)) ?_;have e1:Ext [l] H (upd G l (.lst ((rows (ws.take i)).map V.str ++ [V.str (Str.ofString "work")]))):=e.trans (.put (by simp));have hl1:(upd G l (.lst ((rows (ws.take i)).map V.str ++ [V.str (Str.ofString "work")]))) l=some (.lst ((rows (ws.take i) ++ [itemT .work]).map V.str)):=by rw [qA1,aQ];rfl
   generalize upd G l (.lst ((rows (ws.take i)).map V.str ++ [V.str (Str.ofString "work")]))=G1 at e1 hl1 ⊢;walk_at "rj";refine⟨wa,rfl,⟨_,(keepL e1).seq hwL⟩,qCp (xs:=bs) (λj σ' G' => ∃o3 o4,σ' = [some (.ref a),some (.ref l),some (.ref wa),o3,o4]/\Ext [l] H G'/\G' l=some (.lst ((rows (ws.take i) ++ [itemT .work]++((wk.take j).flatMap qAt).map itemT).map V.str))) ?_ ?_ ?_ ?_⟩
   ·exact⟨_,_,rfl,e1,by rw [hl1];simp⟩
   ·rintro j σ' G' hj ⟨o3,o4,rfl,e',hlG'⟩;exact (keepL e').seq hwL
   ·rintro j v σ' G' hv ⟨o3,o4,rfl,e',hlG'⟩ N2_ B2_ C2_ R2_ hN2_ hC2_ hR2_;obtain⟨dd,hdd,hDv⟩:=hBs.get hv;obtain⟨b,hb,rfl⟩:=qAz hdd;have hB:=hWk.blk b (aL hb);have hds:=hB.few;obtain⟨c,cs,rfl,hc,hcs⟩:=hDv.ofTuple;obtain⟨vd,r1,rfl,hd1,hr1⟩:=hcs.ofCons;obtain⟨ve,r2,rfl,hd2,hr2⟩:=hr1.ofCons;have hr3:=hr2.ofNil;subst hr3;obtain⟨dl,dvs,rfl,hdl,hdvs⟩:=hd1.ofList;have hdvl:=hdvs.len;rw [aB] at hdvl;have hjl:j<wk.length:=(aD.mp hb).1
    have hpre:((wk.take j).flatMap qAt).length<=j*22:=bH (qCq (k:=22) (f:=qAt) (wk.take j) λb' hb'=>by
     have:=(hWk.blk b' (List.mem_of_mem_take hb')).few
     unfold qAt;simp;lia) (by rw [bN];exact Nat.mul_le_mul_right _ (Nat.min_le_left _ _))
    refine qDg ((keepL e').seqT hc) rfl ?_;walk_at "rj";refine qBr hlG' ?_;walk_at "rj";refine qC3 hlG' (qBa (by simp only [aB,aN,bA,dE];lia)) ?_;have e2:Ext [l] H (upd G' l (.lst ((rows (ws.take i) ++ [itemT .work]++((wk.take j).flatMap qAt).map itemT).map V.str ++ [V.str (Str.ofString "block")]))):=e'.trans (.put (by simp));have hl2:(upd G' l (.lst ((rows (ws.take i) ++ [itemT .work]++((wk.take j).flatMap qAt).map itemT).map V.str ++ [V.str (Str.ofString "block")]))) l=some (.lst ((rows (ws.take i) ++ [itemT .work]++((wk.take j).flatMap qAt).map itemT ++ [itemT .block]).map V.str)):=by rw [qA1];simp;rfl
    generalize upd G' l (.lst ((rows (ws.take i) ++ [itemT .work]++((wk.take j).flatMap qAt).map itemT).map V.str ++ [V.str (Str.ofString "block")]))=G2 at e2 hl2 ⊢;walk_at "rj";refine qBr hl2 ?_;walk_at "rj";refine⟨len2 (by show 1<=1000;decide),λn1 hn1=>?_⟩;walk_at "rj";refine⟨dl,n1,dvs,[ve],rfl,rfl,((keepL e2).trans (Ext.laid (ts :=[]) hn1).toSame).seq hdl,SqL.of qA1,len2 (by simp;lia),λn2 hn2=>?_⟩;have e3:Ext [] G2 (upd (upd G2 n1 (.lst [ve])) n2 (.lst (dvs ++ [ve]))):=(Ext.laid hn1).trans (.laid hn2);have hn3:(upd (upd G2 n1 (.lst [ve])) n2 (.lst (dvs ++ [ve]))) n2=some (.lst (dvs ++ [ve])):=qA1;generalize upd (upd G2 n1 (.lst [ve])) n2 (.lst (dvs ++ [ve]))=G3 at e3 hn3 ⊢;have hl3:=e3 _ _ (by simp) hl2
    have e03:Ext [l] H G3:=e2.trans (e3.mono (by simp));have hall:DenL K H ((b.ds.map Item.deed ++ [Item.fin b.ns]).map λi=>PyData.tuple (.str (itemW i)::(itemN i).map .int)) (dvs ++ [ve]):=by
     rw [<-qHc hB.ns.few];exact DenL.append hdvs (.cons hd2 .nil)
    have hits:∀it∈b.ds.map Item.deed ++ [Item.fin b.ns],ItemOk it:=λit hit=>by
     rcases aP.mp hit with z | z
     ·obtain⟨d,hd,rfl⟩:=cN.mp z;exact qEt hw (hB.ds d hd)
     ·rw [aO.mp z];exact qGo hm2 hB.ns
    have hitl:(b.ds.map Item.deed ++ [Item.fin b.ns]).length<=21:=by simp;lia
    have hdvl2:(dvs ++ [ve]).length=(b.ds.map Item.deed ++ [Item.fin b.ns]).length:=by simp;lia
    generalize hIts:b.ds.map Item.deed ++ [Item.fin b.ns]=its at hall hits hitl hdvl2;walk_at "rj";refine⟨n2,rfl,⟨_,SqL.of hn3⟩,λlc hlc=>?_⟩;have nnl:n2≠lc:=qA2 hn3 hlc;have nll:l≠lc:=qA2 hl3 hlc;refine qC7 (xs:=dvs ++ [ve]) (λk σ'' G4 => ∃o0,σ'' = [o0]/\Ext [lc] G3 G4/\G4 lc=some (.lst (((its.take k).map itemT).map V.str))) ?_ ?_ ?_ ?_
    ·exact⟨none,rfl,.laid hlc,qA1⟩
    ·rintro k σ'' G4 hk ⟨o0,rfl,e4,hlc4⟩;exact SqL.of (e4 _ _ (by simpa using nnl) hn3)
    ·rintro k z σ'' G4 R hz ⟨o0,rfl,e4,hlc4⟩ hR;obtain⟨dz,hdz,hDz⟩:=hall.get hz;obtain⟨it,hit,rfl⟩:=qAz hdz;obtain⟨pa,ps,rfl,hpT,hps⟩:=hDz.ofTuple;obtain⟨v0,q1,rfl,k0,k1⟩:=hps.ofCons;have k0:=k0.ofStr;have k1:=k1.ints;subst k0 k1;have hkl:k<its.length:=(aD.mp hit).1;walk_at "rj";refine iteT ?_;walk_at "rj";refine⟨pa,it,rfl,((keepL e03).trans (e4.drop hlc).toSame).seqT hpT,hits it (aL hit),λG5 e5=>?_⟩;refine⟨_,e5 _ _ (by simp) hlc4,qAh (by simp;lia),hR _ _ ⟨_,rfl,(e4.trans (e5.mono (by simp))).trans (.put (by simp)),?_⟩⟩;rw [qA1,bO,hit,aQ,aQ];rfl
    ·rintro σ'' G4 ⟨o0,rfl,e4,hlc4⟩;rw [bD (by rw [hdvl2];exact aC _)] at hlc4;have hl4:=e4 _ _ (by simpa using nll) hl3;walk_at "rj";refine⟨l,lc,_,_,rfl,rfl,hl4,hlc4,bU (qBa (by simp only [aB,aN,bA,dE];lia)),?_⟩;walk_at "rj";refine⟨_,_,rfl,(e03.trans ((e4.drop hlc).mono (by simp))).trans (.put (by simp)),?_⟩;rw [qA1,qHw hb];unfold qAt;rw [hIts];simp
   ·rintro σ' G' ⟨o3,o4,rfl,e',hlG'⟩;walk_at "rj";refine⟨_,_,_,rfl,e',?_⟩;rw [hlG',qH4 hwk,show wk.take bs.length=wk from bD (by lia)];unfold qCg;simp
  ·rintro σ' G ⟨o2,o3,o4,rfl,e,hlG⟩;rw [hlen,cM] at hlG;walk_at "rj";refine qIb ?_;walk_at "rj";refine⟨_,l,rows ws,rfl,rfl,SqL.of hlG,qEa hw hOk,?_⟩;exact q _ (e.drop hl)
end
section
variable{P:Program}{w:World}{K:PySem.W.Frag}{mg:Str->Option Value}{base:Heap}
abbrev sFig:Stmt:=top 24
theorem scFig:FnScope ["word","most"] ["word","most"] (qA7 sFig):=⟨rfl,rfl,rfl,by decide +kernel,rfl,by decide +kernel,by decide +kernel⟩
theorem qSh{f:Addr}{fd:FuncData}{tf:Tok}(F:Fun K "read_figures" "read_figures" sFig f fd)(nlen:mg "len" = none)(nall:mg "all" = none)(nint:mg "int" = none)(hFg:mg "FIGURES" = some (.str "0123456789" tf)):FnOk P w K mg base CX0 1 f fd ["word","most"] qDf:=by
 refine F.ok scFig (λvs H Q E h=>?_) (λcdv A outer s H vs Q E hr h=>?_)
 ·obtain⟨x,most,m,rfl,_⟩:=h;rfl
 ·obtain⟨x,most,m,rfl,hx,hm,hl,q⟩:=h;have hu:=qBu hr
  refine⟨_,(qA4 (qBc (PW.pt (qD8 (qBw (qOj qQx qQx qA6 (qA9 qDy (by rfl) nlen bB (qA0 (pv 0) qA3)) (pv 1))) (qBv (qBw (qAo K rfl (qA9 (qC9 hr.hd) (by rfl) nall (by decide +kernel) (qA0 (qEk ["sign"] [] rfl (.of rfl) (qS9 (pv 0)) (λ_ _ _ _=>(qAd (i:=0) (by show (((["sign"]:List Str))).Nodup;decide) rfl (Or.inl rfl))) (λ_ _ _ _ =>.nil) (λ_ _ _ _=>(qC4 qMc (pv 0) (qBd (v :=.str "0123456789") rfl hFg ⟨_,rfl⟩) rfl))) qA3)) (λ_=>rfl)))))) (qA8 (qAc qD3)) qAl)
   (qA4 (qBc (PW.pt (qH8 (qAa qBt (qB3 qSp (pv 0) qA6 (λ_ _=>rfl)) qAn (qAi _)) (qEj (qAa qF0 (pv 0) qAn (qAi _))))) (qA8 (qAc qD3)) qAl)
   (qA8 (qAc (qAr qNn (by rfl) nint bZ (qA0 (pv 0) qA3)))))),?_⟩
  try dsimp only [qBf,qB5,qB1,qC6,qFx]
  have hall:=qDk m;have hne:=qN8 m;have hlen:x.length=(digs m).length:=by rw [qCc,hx]
  obtain⟨hread,hl20⟩:=qLu hx hm;have h1:1<=x.length:=by
   rw [hlen];cases h:digs m with
   | nil=>exact absurd h hne
   | cons c r=>simp
  walk_at "rj";refine⟨x,rfl,by rw [bS];lia,?_⟩;walk_at "rj";refine ite2 (λg=>?_) (λg=>absurd (decide_eq_true (by lia)) g);walk_at "rj";rw [decide_eq_true hl];refine iteF ?_;walk_at "rj";refine⟨x,rfl,?_,λlc hlc=>?_⟩
  ·rw [<-Array.all_toList,dY];intro c hc;rw [hx] at hc;have:=hall c hc;exact decide_eq_true (by lia)
  refine qP7 (x:=x) (λj σ' G => ∃o0,σ' = [o0]/\Ext [lc] H G/\G lc=some (.lst (List.replicate j (V.bl true)))) ?_ ?_ ?_
  ·exact⟨none,rfl,.laid hlc,qA1⟩
  ·rintro j c σ' G R hc ⟨o0,rfl,e3,hlc3⟩ hR;have hjl:j<x.cps.size:=(Array.getElem?_eq_some_iff.mp hc).1;have hz:x.cps.size=x.length:=rfl;have hcd:=hall c (by rw [<-hx];exact aL (by rw [bK];exact hc));walk_at "rj";refine iteT ?_;walk_at "rj";refine⟨_,_,rfl,rfl,?_⟩;rw [qSr hcd];refine⟨_,hlc3,qAh (by rw [bY];lia),hR _ _ ⟨_,rfl,e3.trans (.put (by simp)),?_⟩⟩;rw [qA1,cG]
  ·rintro σ' G ⟨o0,rfl,e3,hlc3⟩;walk_at "rj";refine qFj hlc3 ?_;refine⟨true,rfl,iteF ?_⟩;have eG:=e3.drop hlc;walk_at "rj";by_cases hm0:m=0
   ·have ex:x=Str.ofString "0" :=qI5 (by rw [hx,hm0,qBm (by decide)];rfl);refine⟨x,0,48,rfl,rfl,by rw [bS];lia,qDc (j:=0) (by rw [ex];rfl),?_⟩;walk_at "rj";refine qDr ?_;rw [decide_eq_true (show (⟨#[48]⟩:Str)=Str.ofString "0" from rfl)];walk_at "rj";refine iteT ?_;walk_at "rj";refine qKg ?_;rw [decide_eq_true ex];walk_at "rj";refine iteF ?_;walk_at "rj";exact⟨x,_,rfl,hread,by lia,q _ eG⟩
   ·obtain⟨c,r,hcr,hc⟩:=qN9 hm0;refine⟨x,0,c,rfl,rfl,by rw [bS];lia,qDc (j:=0) (by rw [hx,hcr];rfl),?_⟩;walk_at "rj";refine qDr ?_
    rw [decide_eq_false (show ¬((⟨#[c]⟩:Str)=Str.ofString "0") from λz=>by
     have z:(#[c]:Array Nat) = #[48]:=congrArg Str.cps z
     simp at z;lia)]
    walk_at "rj";refine iteF ?_;refine iteF ?_;walk_at "rj";exact⟨x,_,rfl,hread,by lia,q _ eG⟩
end
section
variable{P:Program}{w:World}{K:PySem.W.Frag}{mg:Str->Option Value}{base:Heap}
abbrev sNumb:Stmt:=top 25
theorem qRr:FnScope ["word"] ["word"] (qA7 sNumb):=⟨rfl,rfl,rfl,by decide +kernel,rfl,by decide +kernel,by decide +kernel⟩
theorem qR3{f:Addr}{fd:FuncData}{tf:Tok}(F:Fun K "read_number" "read_number" sNumb f fd)(hMf:mg "MOST_FIGURES" = some (.int 9 tf))(hFi:Has P w K mg base "read_figures" 1 ["word","most"] qDf):FnOk P w K mg base CX0 2 f fd ["word"] qIy:=by
 refine F.ok qRr (λvs H Q E h=>?_) (λcdv A outer s H vs Q E hr h=>?_)
 ·obtain⟨x,m,rfl,_⟩:=h;rfl
 ·obtain⟨x,m,rfl,hx,hm,q⟩:=h;have hu:=qBu hr;refine⟨_,(qA8 (qAc (qAj hFi hr (by decide) (qA0 (pv 0) (qA0 (qBd (v :=.int 9) rfl hMf ⟨_,rfl⟩) qA3))))),?_⟩
  try dsimp only [qBf,qB5,qB1,qC6,qFx]
  walk_at "rj";refine⟨x,9,m,rfl,hx,by lia,?_,q⟩;have:=qCf 8 m hm;rw [qCc,hx];lia
end
section
variable{P:Program}{w:World}{K:PySem.W.Frag}{mg:Str->Option Value}{base:Heap}
abbrev sBoxR:Stmt:=top 26
theorem scBoxR:FnScope ["word","box"] ["word"] (qA7 sBoxR):=⟨rfl,rfl,rfl,by decide +kernel,rfl,by decide +kernel,by decide +kernel⟩
theorem qR7{f:Addr}{fd:FuncData}{tb:Tok}(F:Fun K "read_box" "read_box" sBoxR f fd)(hBx:mg "BOXES" = some (.int 8 tb))(hNb:Has P w K mg base "read_number" 2 ["word"] qIy):FnOk P w K mg base CX0 3 f fd ["word"] qLo:=by
 refine F.ok scBoxR (λvs H Q E h=>?_) (λcdv A outer s H vs Q E hr h=>?_)
 ·obtain⟨x,m,rfl,_⟩:=h;rfl
 ·obtain⟨x,m,rfl,hx,hm,q⟩:=h;have hu:=qBu hr
  refine⟨_,(qA4 (qAg (i:=1) scBoxR.nd rfl (Or.inl rfl) (qAj hNb hr (by decide) (qA0 (pv 0) qA3)))
   (qA8 (qAc (qBg (PW.pt (qD8 (qAa qMb (pv 1) qD3 (qAi _)) (qBv (qAa qSd (pv 1) (qBd (v :=.int 8) rfl hBx ⟨_,rfl⟩) (qAi _))))) qD3 (pv 1))))),?_⟩
  try dsimp only [qBf,qB5,qB1,qC6,qFx]
  walk_at "rj";refine⟨x,m,rfl,hx,by lia,λH' e'=>?_⟩;walk_at "rj";refine⟨rfl,?_⟩;walk_at "rj";refine iteF ?_;walk_at "rj";refine ite2 (λg=>absurd (of_decide_eq_true g) (by lia)) (λg=>?_);walk_at "rj";exact q _ e'
end
section
variable{P:Program}{w:World}{K:PySem.W.Frag}{mg:Str->Option Value}{base:Heap}
abbrev qFf:Stmt:=top 27
theorem scHeldR:FnScope ["word","minus","held"] ["word"] (qA7 qFf):=⟨rfl,rfl,rfl,by decide +kernel,rfl,by decide +kernel,by decide +kernel⟩
theorem qP0{f:Addr}{fd:FuncData}{tb:Tok}(F:Fun K "read_held" "read_held" qFf f fd)(nlen:mg "len" = none)(nstr:mg "str" = none)(hGr:mg "GREATEST" = some (.int 1000000000000 tb))(hFi:Has P w K mg base "read_figures" 1 ["word","most"] qDf):FnOk P w K mg base CX0 2 f fd ["word"] qIa:=by
 refine F.ok scHeldR (λvs H Q E h=>?_) (λcdv A outer s H vs Q E hr h=>?_)
 ·obtain⟨n,rfl,_⟩:=h;rfl
 ·obtain⟨n,rfl,hn1,hn2,q⟩:=h;have hu:=qBu hr
  refine⟨_,(qA4 (qAg (i:=1) scHeldR.nd rfl (Or.inl rfl) (qBp bW PySem.F.slot_str_startswith PySem.F.type_str_startswith qMo (pv 0) (qA0 qAn qA3)))
   (qA4 (qAg (i:=2) scHeldR.nd rfl (Or.inl rfl) (qAj hFi hr (by decide) (qA0 (qBg (qAo K rfl (pv 1) (λ_=>rfl)) (qE5 qRp (pv 0) (qGi qA6) qGj) (pv 0)) (qA0 (qA9 qDy (by rfl) nlen bB (qA0 (qAr qEw (by rfl) nstr dL (qA0 (qBd (v :=.int 1000000000000) rfl hGr ⟨_,rfl⟩) qA3)) qA3)) qA3))))
   (qA4 (qBc (PW.pt (qD8 (qAa qMb (pv 2) qD3 (qAi _)) (qD8 (qAa qOq (pv 2) (qBd (v :=.int 1000000000000) rfl hGr ⟨_,rfl⟩) (qAi _)) (qBv (PW.pt (qH8 (qAo K rfl (pv 1) (λ_=>rfl)) (qEj (qAa qBt (pv 2) qA6 (qAi _))))))))) (qA8 (qAc qD3)) qAl)
   (qA8 (qAc (qBg (qAo K rfl (pv 1) (λ_=>rfl)) (qQu qL7 (pv 2)) (pv 2))))))),?_⟩
  try dsimp only [qBf,qB5,qB1,qC6,qFx]
  walk_at "rj";refine qIb ?_;walk_at "rj";refine⟨_,_,rfl,rfl,?_⟩;walk_at "rj";cases n with
  | ofNat m =>
   have hx:(numT (Int.ofNat m)).cps.toList=digs m:=qE6 m;have hn2:(m:Int)<=10^12:=hn2;rw [show Txt.startswith (numT (Int.ofNat m)) (Str.ofString "-")=false from qKh hx];refine⟨false,rfl,iteF ?_⟩;walk_at "rj";refine .inr ⟨_,rfl,by decide +kernel,?_⟩;walk_at "rj";refine⟨_,rfl,by decide +kernel,?_⟩;have h13:((Str.ofString (toString (1000000000000:Int))).length:Int)=13:=by decide +kernel
   rw [h13];walk_at "rj";have hm:m<10^13:=by
    lia
   have hl:=qCf 12 m hm;refine⟨_,13,m,rfl,hx,by lia,by rw [qCc,hx];lia,λH1 e1=>?_⟩;walk_at "rj";refine⟨rfl,?_⟩;walk_at "rj";refine iteF ?_;walk_at "rj";refine ite2 (λg=>absurd (of_decide_eq_true g) (by lia)) (λg=>?_);walk_at "rj";refine⟨false,rfl,iteF ?_⟩;refine iteF ?_;walk_at "rj";refine⟨false,rfl,iteF ?_⟩;walk_at "rj";exact q _ e1
  | negSucc m =>
   rw [show Txt.startswith (numT (Int.negSucc m)) (Str.ofString "-")=true from qKp m];have hx:=qP5 m;refine⟨true,rfl,iteT ?_⟩;walk_at "rj";refine⟨1,rfl,?_⟩;walk_at "rj";have hm:m+1<10^13:=by lia
   have hl:=qCf 12 (m+1) hm;refine⟨_,rfl,by rw [bS,qCc,qCy,bA];lia,?_⟩;walk_at "rj";refine .inr ⟨_,rfl,by decide +kernel,?_⟩;walk_at "rj";refine⟨_,rfl,by decide +kernel,?_⟩;have h13:((Str.ofString (toString (1000000000000:Int))).length:Int)=13:=by decide +kernel
   rw [h13];walk_at "rj";refine⟨_,13,m+1,rfl,hx,by lia,by rw [qCc,hx];lia,λH1 e1=>?_⟩;walk_at "rj";refine⟨rfl,?_⟩;walk_at "rj";refine iteF ?_;walk_at "rj";refine ite2 (λg=>absurd (of_decide_eq_true g) (by lia)) (λg=>?_);walk_at "rj";refine⟨true,rfl,iteT ?_⟩;walk_at "rj";refine qD0 ?_;rw [decide_eq_false (show ¬(((m+1:Nat):Int)=0) by lia)];walk_at "rj";refine iteF ?_;walk_at "rj";refine⟨true,rfl,iteT ?_⟩;walk_at "rj";show Q (.int (Int.negSucc m)) H1;exact q _ e1
end
section
variable{P:Program}{w:World}{K:PySem.W.Frag}{mg:Str->Option Value}{base:Heap}
abbrev qFa:Stmt:=top 33
theorem qQj:FnScope ["word","kind"] ["word","kind"] (qA7 qFa):=⟨rfl,rfl,rfl,by decide +kernel,rfl,by decide +kernel,by decide +kernel⟩
theorem qOv{f:Addr}{fd:FuncData}(F:Fun K "read_part" "read_part" qFa f fd)(hNb:Has P w K mg base "read_number" 2 ["word"] qIy)(hBo:Has P w K mg base "read_box" 3 ["word"] qLo)(hHe:Has P w K mg base "read_held" 2 ["word"] qIa):FnOk P w K mg base CX0 4 f fd ["word","kind"] qI8:=by
 refine F.ok qQj (λvs H Q E h=>?_) (λcdv A outer s H vs Q E hr h=>?_)
 ·obtain⟨n,k,rfl,_⟩:=h;rfl
 ·obtain⟨n,k,rfl,hk,q⟩:=h;have hu:=qBu hr
  refine⟨_,(qA4 (qBc (qAa qBt (pv 1) qAn (qAi _)) (qA8 (qAc (qAj hBo hr (by decide) (qA0 (pv 0) qA3)))) qAl)
   (qA8 (qAc (qBg (qAa qBt (pv 1) qAn (qAi _)) (qAj hHe hr (by decide) (qA0 (pv 0) qA3)) (qAj hNb hr (by decide) (qA0 (pv 0) qA3)))))),?_⟩
  try dsimp only [qBf,qB5,qB1,qC6,qFx]
  walk_at "rj";refine qDr ?_;walk_at "rj";have pos:0<=n->(numT n).cps.toList=digs n.toNat:=λh=>by
   obtain⟨m,rfl⟩:=Int.eq_ofNat_of_zero_le h;exact qE6 m
  rcases hk with ⟨hk,h1,h2⟩ | ⟨hk,h1,h2⟩ | ⟨hk,hk2,h1,h2⟩
  ·rw [decide_eq_true hk];refine iteT ?_;walk_at "rj";refine⟨_,n.toNat,rfl,pos h1,by lia,λH' e'=>?_⟩;rw [show ((n.toNat:Nat):Int)=n by lia];exact q H' e'
  ·rw [decide_eq_false (by rw [hk];decide)];refine iteF ?_;walk_at "rj";refine qDr ?_;walk_at "rj";rw [decide_eq_true hk];refine iteT ?_;walk_at "rj";exact⟨n,rfl,h1,h2,q⟩
  ·rw [decide_eq_false hk];refine iteF ?_;walk_at "rj";refine qDr ?_;walk_at "rj";rw [decide_eq_false hk2];refine iteF ?_;walk_at "rj";refine⟨_,n.toNat,rfl,pos h1,by lia,λH' e'=>?_⟩;rw [show ((n.toNat:Nat):Int)=n by lia];exact q H' e'
end
section
variable{P:Program}{w:World}{K:PySem.W.Frag}{mg:Str->Option Value}{base:Heap}
abbrev qCv:Stmt:=top 34
theorem scReadRow:FnScope ["row","first","rest","parts"] ["row"] (qA7 qCv):=⟨rfl,rfl,rfl,by decide +kernel,rfl,by decide +kernel,by decide +kernel⟩
theorem qKk{f rp:Addr}{fd:FuncData}(F:Fun K "read_row" "read_row" qCv f fd)(nlen:mg "len" = none)(nzip:mg "zip" = none)(ntuple:mg "tuple" = none)(hRp:mg "ROW_PARTS" = some (.ref rp))(hRows:RowTab K rp)(hPa:Has P w K mg base "read_part" 4 ["word","kind"] qI8):FnOk P w K mg base CX0 5 f fd ["row"] qEf:=by
 refine F.ok scReadRow (λvs H Q E h=>?_) (λcdv A outer s H vs Q E hr h=>?_)
 ·obtain⟨i,rfl,_⟩:=h;rfl
 ·obtain⟨i,rfl,hOk,q⟩:=h;have hu:=qBu hr
  refine⟨_,(qA4 (qJm (qBp bW PySem.F.slot_str_split PySem.F.type_str_split qJr (pv 0) (qA0 qAn qA3)) (qQt rfl (qAd (i:=1) scReadRow.nd rfl (Or.inl rfl)) (qAd (i:=2) scReadRow.nd rfl (Or.inl rfl))))
   (qA4 (qBc (PW.pt (qD8 (qAa qDa (pv 1) (qBd (v :=.ref rp) rfl hRp rfl) rfl) (qBv (qAa qF0 (qA9 qAf (by rfl) nlen bB (qA0 (pv 2) qA3)) (qA9 qAf (by rfl) nlen bB (qA0 (qB3 qHm (qBd (v :=.ref rp) rfl hRp rfl) (pv 1) (λ_ _=>rfl)) qA3)) (qAi _))))) (qA8 (qAc qD3)) qAl)
   (qA4 (qS8 (i:=3) ["word","kind"] [] rfl (.of rfl) scReadRow.nd rfl (Or.inl rfl) (qM4 false true rfl nzip (qA0 (pv 2) (qA0 (qB3 qHm (qBd (v :=.ref rp) rfl hRp rfl) (pv 1) (λ_ _=>rfl)) qA3))) (λ_ _ _ _=>(qGk (n:=2) K rfl rfl (qAx (qAd (i:=0) (by show (((["word","kind"]:List Str))).Nodup;decide) rfl (Or.inl rfl)) (qAx (qAd (i:=1) (by show (((["word","kind"]:List Str))).Nodup;decide) rfl (Or.inl rfl)) qCe)))) (λ_ _ _ _ =>.nil) (λ_ _ _ _=>(qAj hPa hr (by decide) (qA0 (pv 0) (qA0 (pv 1) qA3)))))
   (qA8 (qAc (qBg (qAa (inK K rfl) qD3 (pv 3) rfl) qD3 (qAp qQy (qBy (qA0 (pv 1) qA3)) (qAr qNi (by rfl) ntuple PyProof.Rows.boot_tuple (qA0 (pv 3) qA3))))))))),?_⟩
  try dsimp only [qBf,qB5,qB1,qC6,qFx]
  obtain⟨b,D,hTab,hat,hTk⟩:=hRows.at i;have hhas:qD2 D (itemW i)=true:=by unfold qD2;rw [hat];rfl
  have hf:=hOk.few;walk_at "rj";refine qIb ?_;walk_at "rj";refine⟨_,_,rfl,rfl,by decide,bH (qJy hOk) (by decide),λl hl=>?_⟩;rw [show Txt.split (itemT i) (Str.ofString " ")=itemW i::(itemN i).map numT from qLt i];refine⟨l,_,_,rfl,SqL.of qA1,by simp;lia,λrs hrs=>?_⟩;have e1:Ext [] H (upd (upd H l (.lst ((itemW i::(itemN i).map numT).map V.str))) rs (.lst (((itemN i).map numT).map V.str))):=(Ext.laid hl).trans (.laid hrs);have hr1:(upd (upd H l (.lst ((itemW i::(itemN i).map numT).map V.str))) rs (.lst (((itemN i).map numT).map V.str))) rs=some (.lst (((itemN i).map numT).map V.str)):=qA1;generalize upd (upd H l (.lst ((itemW i::(itemN i).map numT).map V.str))) rs (.lst (((itemN i).map numT).map V.str))=H1 at e1 hr1 ⊢
  walk_at "rj";refine⟨_,rp,D,rfl,rfl,hTab,?_⟩;rw [if_pos rfl,hhas];walk_at "rj";refine iteF ?_;walk_at "rj";refine qH5 (SqL.of hr1) ?_;walk_at "rj";refine⟨_,rp,D,_,rfl,rfl,hTab,hat,?_⟩;walk_at "rj";refine qFh hTk.sq ?_;refine qO8 ?_;rw [aB,aB,aB,hOk.len,decide_eq_true rfl];walk_at "rj";refine iteF ?_;walk_at "rj";refine⟨_,rp,D,_,rfl,rfl,hTab,hat,?_⟩;walk_at "rj";refine⟨rs,b,rfl,⟨_,SqL.of hr1⟩,⟨_,hTk.sq⟩,λlc hlc=>?_⟩;have nrl:rs≠lc:=qA2 hr1 hlc;refine qHi (xs:=((itemN i).map numT).map V.str) (ys:=(rowKs i).map V.str) (by simp [hOk.len]) (λj σ' G => ∃o0 o1,σ' = [o0,o1]/\Ext [lc] H1 G/\G lc=some (.lst (((itemN i).take j).map V.int))) ?_ ?_ ?_ ?_
  ·exact⟨none,none,rfl,.laid hlc,qA1⟩
  ·rintro j σ' G hj ⟨o0,o1,rfl,e3,hlc3⟩;exact⟨SqL.of (e3 _ _ (by simpa using nrl) hr1),hTk.sq⟩
  ·rintro j x y σ' G pp R hx hy ⟨o0,o1,rfl,e3,hlc3⟩ hpp hR;obtain⟨t,ht,rfl⟩:=qAz hx;obtain⟨n,hn,rfl⟩:=qAz ht;obtain⟨k,hk,rfl⟩:=qAz hy;have hjl:j<(itemN i).length:=(aD.mp hn).1;have npp:lc≠pp:=qA2 hlc3 hpp;refine qDg (SqT.of qA1) rfl ?_;walk_at "rj";refine iteT ?_;walk_at "rj";refine⟨n,k,rfl,hOk.ok j n k hn hk,λH4 e4=>?_⟩;have hl4:=e4 _ _ (by simp) (show (upd G pp (.tup [V.str (numT n),V.str k])) lc=_ by rw [qA5 npp];exact hlc3);refine⟨_,hl4,qAh (by rw [aB,bN];lia),hR _ _ ⟨_,_,rfl,((e3.trans (.laid hpp)).trans (e4.mono (by simp))).trans (.put (by simp)),?_⟩⟩;rw [qA1,bO,hn,aQ];rfl
  ·rintro σ' G ⟨o0,o1,rfl,e3,hlc3⟩;rw [bD (by simp)] at hlc3;have eG:=e1.trans (e3.drop hlc);walk_at "rj";have hin:inV .non ((itemN i).map V.int)=false:=by
    unfold inV;rw [List.any_map,List.any_eq_false];intro n _;exact aH
   refine⟨lc,_,rfl,.inl (SqL.of hlc3),rfl,qHr _,?_⟩;rw [if_neg aH,hin];walk_at "rj";refine iteF ?_;walk_at "rj";refine⟨len2 (by show 1<=1000;decide),λp1 hp1=>?_⟩;walk_at "rj";have n1:lc≠p1:=qA2 hlc3 hp1;refine⟨lc,_,rfl,SqL.of (by rw [qA5 n1];exact hlc3),λp2 hp2=>?_⟩;have n12:p1≠p2:=qA2 qA1 hp2;have e5:Ext [] G (upd (upd G p1 (.tup [V.str (itemW i)])) p2 (.tup ((itemN i).map V.int))):=(Ext.laid hp1).trans (.laid hp2);have h1:(upd (upd G p1 (.tup [V.str (itemW i)])) p2 (.tup ((itemN i).map V.int))) p1=some (.tup [V.str (itemW i)]):=by rw [qA5 n12,qA1]
   refine⟨p1,p2,_,_,rfl,rfl,SqT.of h1,SqT.of qA1,by simp,len2 (by simp;lia),λh=>?_,λh p hp=>?_⟩
   ·have h0:(itemN i).map V.int = []:=h;refine q p1 _ (eG.none (by simp) hp1) (eG.trans e5) ?_;rw [h1,h0]
   ·exact q p _ ((eG.trans e5).none (by simp) hp) ((eG.trans e5).trans (.laid hp)) qA1
end
section
variable{P:Program}{w:World}{K:PySem.W.Frag}{mg:Str->Option Value}{base:Heap}
abbrev sKind:Stmt:=top 35
theorem qRt:FnScope ["first"] ["first"] (qA7 sKind):=⟨rfl,rfl,rfl,by decide +kernel,rfl,by decide +kernel,by decide +kernel⟩
theorem qR5{f bh eb:Addr}{fd:FuncData}(F:Fun K "kind_of" "kind_of" sKind f fd)(hBh:mg "BEHIND" = some (.ref bh))(hBehind:Behind K bh)(hEb:mg "END_BLOCKS" = some (.ref eb))(hBlocks:Blocks K eb):FnOk P w K mg base CX0 1 f fd ["first"] qLn:=by
 refine F.ok qRt (λvs H Q E h=>?_) (λcdv A outer s H vs Q E hr h=>?_)
 ·obtain⟨i,rfl,_⟩:=h;rfl
 ·obtain⟨i,rfl,q⟩:=h;have hu:=qBu hr
  refine⟨_,(qA4 (qBc (qAa qJp (pv 0) (qBd (v :=.ref bh) rfl hBh rfl) rfl) (qA8 (qAc (pv 0))) qAl)
   (qA8 (qAc (qBg (qAa qJp (pv 0) (qBd (v :=.ref eb) rfl hEb rfl) rfl) qAn qAn)))),?_⟩
  try dsimp only [qBf,qB5,qB1,qC6,qFx]
  obtain⟨D1,hT1,h1⟩:=hBehind.has i;obtain⟨D2,hT2,h2⟩:=hBlocks.has i;walk_at "rj";refine⟨itemW i,bh,D1,rfl,rfl,hT1,?_⟩;rw [if_neg aH,h1];walk_at "rj";cases i with
  | work =>
   refine iteT ?_;walk_at "rj";exact q
  | block =>
   refine iteT ?_;walk_at "rj";exact q
  | deed d =>
   refine iteF ?_;walk_at "rj";refine⟨_,eb,D2,rfl,rfl,hT2,?_⟩;rw [if_neg aH,h2];walk_at "rj";refine iteF ?_;walk_at "rj";exact q
  | fin ns =>
   refine iteF ?_;walk_at "rj";refine⟨_,eb,D2,rfl,rfl,hT2,?_⟩;rw [if_neg aH,h2];walk_at "rj";refine iteT ?_;walk_at "rj";exact q
end
section
variable{P:Program}{w:World}{K:PySem.W.Frag}{mg:Str->Option Value}{base:Heap}
abbrev qF9:Stmt:=top 36
theorem scReadB:FnScope ["rows","works","deeds","last","at","row","told"] ["rows"] (qA7 qF9):=⟨rfl,rfl,rfl,by decide +kernel,rfl,by decide +kernel,by decide +kernel⟩
theorem qOu{f bh:Addr}{fd:FuncData}(F:Fun K "read_blocks" "read_blocks" qF9 f fd)(nenumerate:mg "enumerate" = none)(hBh:mg "BEHIND" = some (.ref bh))(hBehind:Behind K bh)(hRr:Has P w K mg base "read_row" 5 ["row"] qEf)(hKd:Has P w K mg base "kind_of" 1 ["first"] qLn):FnOk P w K mg base CX0 6 f fd ["rows"] (qCk K):=by
 refine F.ok scReadB (λvs H Q E h=>?_) (λcdv A outer s H vs Q E hr h=>?_)
 ·obtain⟨a,ws,works,rfl,_⟩:=h;rfl
 ·obtain⟨a,ws,works,rfl,hL,hOk,hw,q⟩:=h;have hu:=qBu hr
  refine⟨_,(qA4 (qAg (i:=1) scReadB.nd rfl (Or.inl rfl) (qAq qA3))
   (qA4 (qAg (i:=2) scReadB.nd rfl (Or.inl rfl) (qAq qA3))
   (qA4 (qAg (i:=3) scReadB.nd rfl (Or.inl rfl) qAn)
   (qA4 (qBx bL rfl (qM6 rfl nenumerate (qA0 (pv 0) qA3)) (qFk (n:=2) rfl (qAx (qAd (i:=4) scReadB.nd rfl (Or.inl rfl)) (qAx (qAd (i:=5) scReadB.nd rfl (Or.inl rfl)) qCe)))
   (qA4 (qAg (i:=6) scReadB.nd rfl (Or.inl rfl) (qAj hRr hr (by decide) (qA0 (pv 5) qA3)))
   (qA4 (qBc (PW.pt (qD8 (qAa qMb (pv 6) qD3 (qAi _)) (qBv (qAa (qSj K rfl) (pv 3) (qB3 qHm (qBd (v :=.ref bh) rfl hBh rfl) (qAj hKd hr (by decide) (qA0 (qB3 qDx (pv 6) qA6 (λ_ _=>rfl)) qA3)) (λ_ _=>rfl)) rfl)))) (qA8 qGg) qAl)
   (qA4 (qAg (i:=3) scReadB.nd rfl (Or.inl rfl) (qAj hKd hr (by decide) (qA0 (qB3 qDx (pv 6) qA6 (λ_ _=>rfl)) qA3)))
   (qA8 (qBc (qAa qBt (pv 3) qAn (qAi _)) (qA8 (qB2 (qBp aM aS aT qAs (pv 1) (qA0 (qAq qA3) qA3)))) (qA8 (qBc (qAa qBt (pv 3) qAn (qAi _)) (qA8 (qAg (i:=2) scReadB.nd rfl (Or.inl rfl) (qAq qA3))) (qA8 (qBc (qAa qBt (pv 3) qAn (qAi _)) (qA8 (qB2 (qBp aM aS aT qAs (pv 2) (qA0 (pv 6) qA3)))) (qA8 (qB2 (qBp aM aS aT qAs (qB3 qAm (pv 1) (qQu qL7 qA6) (λ_ _=>rfl)) (qA0 (qBy (qA0 (pv 2) (qA0 (pv 6) qA3))) qA3))))))))))))))
   (qA4 (qBc (qAa qF0 (pv 3) qAn (qAi _)) (qA8 qGg) qAl)
   (qA8 (qAc (pv 1)))))))),?_⟩
  try dsimp only [qBf,qB5,qB1,qC6,qFx]
  have hlen:((rows ws).map V.str).length=(items ws).length:=by rw [aB];exact aB ..
  have hfew:=qDj hOk;have hne:∀w∈ws,w ≠ []:=λw hw' z=>by
   obtain⟨m,hm,_,hW⟩:=hOk.all w hw';have:=hW.len;rw [z] at this;simp at this;lia
  have hlegal:=qEm ws rs0.last (.inl rfl) hne;obtain⟨hall,hlast⟩:=qPi hOk;walk_at "rj";refine⟨len2 (aW _),λl hl=>?_⟩;walk_at "rj";refine⟨len2 (aW _),λdl hdl=>?_⟩;have ndl:dl≠l:=(qA2 qA1 hdl).symm;have hdlH:H dl=none:=by rw [qA5 ndl] at hdl;exact hdl
  have e0:Ext [] H (upd (upd H l (.lst [])) dl (.lst [])):=(Ext.laid hl).trans (.laid hdl);have hR0:ReadAt H (upd (upd H l (.lst [])) dl (.lst [])) l (.ref dl) rs0:=by
   refine⟨[],λ_=>none,⟨hl,by simp,by simp,.nil,by rw [qA5 ndl.symm,qA1];rfl⟩,(λb o z=>by cases z),.nil,λz=>?_⟩;rcases z with z | z <;> (have z:(Str.ofString "nothing")=_:=z;exfalso;revert z;decide)
  generalize upd (upd H l (.lst [])) dl (.lst [])=H1 at e0 hR0 ⊢;walk_at "rj";refine⟨a,rfl,⟨_,e0.toSame.seq hL⟩,qN4 (xs:=(rows ws).map V.str) (λi σ' G => ∃(v:V) (o4 o5 o6:Option V),σ' = [some (.ref a),some (.ref l),some v,some (.str (((items ws).take i).foldl stepI rs0).last),o4,o5,o6]/\Ext [] H G/\ReadAt H G l v (((items ws).take i).foldl stepI rs0)/\((((items ws).take i).foldl stepI rs0).cur=none->(((items ws).take i).foldl stepI rs0).last = "nothing")) ?_ ?_ ?_ ?_⟩
  ·exact⟨_,_,_,_,rfl,e0,hR0,λ_=>rfl⟩
  ·rintro i σ' G hi ⟨v,o4,o5,o6,rfl,e,hR,hcur⟩;exact e.toSame.seq hL
  ·rintro i x σ' G p hx ⟨v,o4,o5,o6,rfl,e,hR,hcur⟩ hp N_ B_ C_ R_ hN_ hC_ hR_;obtain⟨t,ht,rfl⟩:=qAz hx;obtain⟨it,hit,rfl⟩:=qAz ht;have hItem:=qJx hw hOk it (aL hit);have hleg:=qJu (s:=rs0) hlegal hit;have hil:i<(items ws).length:=(aD.mp hit).1;have hsize:=qHp ((items ws).take i) rs0;rw [bN] at hsize;have hsz0:rs0.size=0:=rfl;have hnext:((items ws).take (i+1)).foldl stepI rs0=stepI (((items ws).take i).foldl stepI rs0) it:=by
    rw [bO,hit,dQ];rfl
   rw [hnext] at hN_;generalize ((items ws).take i).foldl stepI rs0=st at hR hcur hleg hsize hN_ ⊢;have hRp:=hR.ext (Ext.laid (ts :=[]) (o :=.tup [.int i,.str (itemT it)]) hp).toSame;have ep:Ext [] H (upd G p (.tup [.int i,.str (itemT it)])):=e.trans (.laid hp);have hpp:(upd G p (.tup [.int i,.str (itemT it)])) p=some (.tup [.int i,.str (itemT it)]):=qA1;generalize upd G p (.tup [.int i,.str (itemT it)])=G1 at hRp ep hpp ⊢;refine qDg (SqT.of hpp) rfl ?_;walk_at "rj";refine⟨it,rfl,hItem,λtp G2 htp e2 htp2=>?_⟩;have hT2:SqT K G2 tp (.str (itemW it)::(itemN it).map V.int):=SqT.of htp2;have E2:Ext [] H G2:=ep.trans e2;obtain⟨b,D,hTab,hat,hTk⟩:=hBehind.at it;walk_at "rj";refine⟨rfl,?_⟩;walk_at "rj"
   refine iteF ?_;walk_at "rj";refine qDv hT2 ?_;walk_at "rj";refine⟨it,rfl,?_⟩;walk_at "rj";refine⟨_,bh,D,_,rfl,rfl,hTab,hat,?_⟩;refine⟨b,_,rfl,.inr hTk.sq,rfl,by rw [List.all_map];exact dY.mpr λ_ _=>rfl,?_⟩;have hin:inV (.str st.last) ((qC1 it).map V.str)=true:=by
    unfold inV;rw [List.any_map,List.any_eq_true];exact⟨_,hleg,by show (st.last == st.last)=true;simp⟩
   rw [if_pos rfl,hin];walk_at "rj";refine iteF ?_;walk_at "rj";refine qDv hT2 ?_;walk_at "rj";refine⟨it,rfl,?_⟩;walk_at "rj";refine qDr ?_;walk_at "rj";have hR2:=hRp.ext e2.toSame;cases it with
   | work =>
    rw [decide_eq_true (show kindOf .work=Str.ofString "work" from rfl)];refine iteT ?_;walk_at "rj";obtain⟨xs,hxs,hxl,hpost⟩:=hR2.work E2.toSame;have hsx:xs.length<=st.size:=by unfold Rs.size;lia
    refine qBr hxs ?_;walk_at "rj";refine⟨len2 (aW _),λn hn=>?_⟩;have nln:l≠n:=qA2 hxs hn;walk_at "rj";refine qC3 (by rw [qA5 nln];exact hxs) (qBa (by lia)) (qBb hN_ ⟨_,_,_,_,rfl,?_,hpost n hn,λz=>by cases z⟩);exact (((E2.trans (.laid hn)).mono (by simp)).trans (.put (ts :=[l]) (by simp))).drop hl
   | block =>
    rw [decide_eq_false (show ¬(kindOf .block=Str.ofString "work") from by decide)];refine iteF ?_;walk_at "rj";refine qDr ?_;walk_at "rj";rw [decide_eq_true (show kindOf .block=Str.ofString "block" from rfl)];refine iteT ?_;walk_at "rj";refine⟨len2 (aW _),λn hn=>?_⟩;refine qH6 (qBb hN_ ⟨_,_,_,_,rfl,E2.trans (.laid hn),hR2.block E2.toSame hn,λz=>?_⟩);obtain⟨c,hc⟩:=qEo hleg hcur (by intro z;cases z);have z:st.cur=none:=z;rw [hc] at z;cases z
   | deed d =>
    rw [decide_eq_false (show ¬(kindOf (.deed d)=Str.ofString "work") from (by decide : ¬(Str.ofString "deed" = Str.ofString "work")))];refine iteF ?_;walk_at "rj";refine qDr ?_;walk_at "rj";rw [decide_eq_false (show ¬(kindOf (.deed d)=Str.ofString "block") from (by decide : ¬(Str.ofString "deed" = Str.ofString "block")))];refine iteF ?_;walk_at "rj";refine qDr ?_;walk_at "rj";rw [decide_eq_true (show kindOf (.deed d)=Str.ofString "deed" from rfl)];refine iteT ?_;walk_at "rj";obtain⟨d2,dv,rfl,hd0,hd2,hdl2,hpost⟩:=hRp.deed (qFp hleg (.inl ⟨d,rfl⟩)) ep.toSame e2.toSame htp htp2;have hsx:dv.length<=st.size:=by unfold Rs.size;lia
    refine qBr hd2 ?_;walk_at "rj";refine qC3 hd2 (qBa (by lia)) (qBb hN_ ⟨_,_,_,_,rfl,?_,hpost,λz=>?_⟩)
    ·exact ((E2.mono (by simp)).trans (.put (ts :=[d2]) (by simp))).drop hd0
    ·obtain⟨c,hc⟩:=qEo hleg hcur (by intro z;cases z);have z:st.cur=none:=z;rw [hc] at z;cases z
   | fin ns =>
    rw [decide_eq_false (show ¬(kindOf (.fin ns)=Str.ofString "work") from (by decide : ¬(Str.ofString "end" = Str.ofString "work")))];refine iteF ?_;walk_at "rj";refine qDr ?_;walk_at "rj";rw [decide_eq_false (show ¬(kindOf (.fin ns)=Str.ofString "block") from (by decide : ¬(Str.ofString "end" = Str.ofString "block")))];refine iteF ?_;walk_at "rj";refine qDr ?_;walk_at "rj";rw [decide_eq_false (show ¬(kindOf (.fin ns)=Str.ofString "deed") from (by decide : ¬(Str.ofString "end" = Str.ofString "deed")))];refine iteF ?_;walk_at "rj";obtain⟨c,hc⟩:=qEo hleg hcur (by intro z;cases z);obtain⟨xs,la,bs,d2,rfl,ha0,hxs,hbs,hbl,hpost⟩:=hRp.fin (qFp hleg (.inr ⟨ns,rfl⟩)) hc hItem.few ep.toSame e2.toSame htp htp2
    have hsx:bs.length<=st.size:=by unfold Rs.size;rw [hc,hbl];simp
    refine qBo (SqL.of hxs) qRh ?_;walk_at "rj";refine qBr hbs ?_;walk_at "rj";refine⟨len2 (by show 2<=1000;decide),λn hn=>?_⟩;have nln:la≠n:=qA2 hbs hn;walk_at "rj";refine qC3 (by rw [qA5 nln];exact hbs) (qBa (by lia)) (qBb hN_ ⟨_,_,_,_,rfl,?_,hpost n hn,λz=>?_⟩)
    ·exact (((E2.trans (.laid hn)).mono (by simp)).trans (.put (ts :=[la]) (by simp))).drop ha0
    ·have z:st.cur.map (· ++ [⟨st.D,ns⟩])=none:=z;rw [hc] at z;cases z
  ·rintro σ' G ⟨v,o4,o5,o6,rfl,e,hR,hcur⟩;rw [hlen,cM] at hR hcur;walk_at "rj";rw [hlen,cM,hlast];refine qKg ?_;rw [decide_eq_true rfl];walk_at "rj";refine iteF ?_;walk_at "rj";exact q l v _ G e hR hall
end
section
variable{P:Program}{w:World}{K:PySem.W.Frag}{mg:Str->Option Value}{base:Heap}
abbrev qF8:Stmt:=top 37
theorem scReadW:FnScope ["text","works"] ["text"] (qA7 qF8):=⟨rfl,rfl,rfl,by decide +kernel,rfl,by decide +kernel,by decide +kernel⟩
theorem qOt{f:Addr}{fd:FuncData}(F:Fun K "read_works" "read_works" qF8 f fd)(hRb:Has P w K mg base "read_blocks" 6 ["rows"] (qCk K))(hAw:Has P w K mg base "are_works" 7 ["thing"] (qDl K)):FnOk P w K mg base CX0 8 f fd ["text"] qD7:=by
 refine F.ok scReadW (λvs H Q E h=>?_) (λcdv A outer s H vs Q E hr h=>?_)
 ·obtain⟨ws,rfl,_⟩:=h;rfl
 ·obtain⟨ws,rfl,hOk,hLed,q⟩:=h;have hu:=qBu hr
  refine⟨_,(qA4 (qAg (i:=1) scReadW.nd rfl (Or.inl rfl) (qAj hRb hr (by decide) (qA0 (qBp bW PySem.F.slot_str_split PySem.F.type_str_split qJr (pv 0) (qA0 qAn qA3)) qA3)))
   (qA4 (qBc (qBw (qAo K rfl (qAj hAw hr (by decide) (qA0 (pv 1) qA3)) (λ_=>rfl))) (qA8 qGg) qAl)
   (qA8 (qAc (pv 1))))),?_⟩
  try dsimp only [qBf,qB5,qB1,qC6,qFx]
  have hfew:=hOk.few;have hw:(ws.length:Int)<=100:=by lia
  walk_at "rj";refine qIb ?_;walk_at "rj";refine⟨_,_,rfl,rfl,by decide,qNv hw hOk,λl hl=>?_⟩;rw [show Txt.split (qEb ws) (Str.ofString "\n")=rows ws from qK9 hOk];walk_at "rj";refine⟨l,ws,ws.length,rfl,SqL.of qA1,hOk,hw,λlw v st H1 e1 hR hall=>?_⟩;have e01:Ext [] H H1:=(Ext.laid hl).trans e1;have hR0:ReadAt H H1 lw v st:=hR.less (Ext.laid (ts :=[]) hl).toSame;walk_at "rj";refine⟨lw,ws,rfl,by rw [<-hall];exact hR.den,hOk,hLed,λH2 e2=>?_⟩;refine⟨true,rfl,iteF ?_⟩;walk_at "rj";exact q lw v st H2 (e01.trans e2) (hR0.ext e2.toSame) hall
end
section
variable{P:Program}{w:World}{K:PySem.W.Frag}{mg:Str->Option Value}{base:Heap}
abbrev sRows:Stmt:=top 48
theorem scRows:FnScope ["_law_works_here","_law_found","_law_work_here","_law_deeds_here","_law_end"] ["_law_works_here"] (qA7 sRows):=⟨rfl,rfl,rfl,by decide +kernel,rfl,by decide +kernel,by decide +kernel⟩
theorem qR2{f:Addr}{fd:FuncData}(F:Fun K "_law_rows" "_law_rows" sRows f fd)(nstr:mg "str" = none):FnOk P w K mg base CX0 1 f fd ["_law_works_here"] (qLl K):=by
 refine F.ok scRows (λvs H Q E h=>?_) (λcdv A outer s H vs Q E hr h=>?_)
 ·obtain⟨a,ws,works,rfl,_⟩:=h;rfl
 ·obtain⟨a,ws,works,rfl,hD,hOk,hw,q⟩:=h;have hu:=qBu hr
  refine⟨_,(qA4 (qAg (i:=1) scRows.nd rfl (Or.inl rfl) (qAq qA3))
   (qA4 (qBx bL rfl (qBk (pv 0)) (qAd (i:=2) scRows.nd rfl (Or.inl rfl))
   (qA4 (qB2 (qBp aM aS aT qAs (pv 1) (qA0 qAn qA3)))
   (qA8 (qBx bL rfl (qBk (pv 2)) (qFk (n:=2) rfl (qAx (qAd (i:=3) scRows.nd rfl (Or.inl rfl)) (qAx (qAd (i:=4) scRows.nd rfl (Or.inl rfl)) qCe)))
   (qA4 (qB2 (qBp aM aS aT qAs (pv 1) (qA0 qAn qA3)))
   (qA8 (qAg (i:=1) scRows.nd rfl (Or.inl rfl) (qAp qId (pv 1) (qEk ["_law_one"] [] rfl (.of rfl) (qBk (qAp qId (pv 3) (qAq (qA0 (pv 4) qA3)))) (λ_ _ _ _=>(qAd (i:=0) (by show (((["_law_one"]:List Str))).Nodup;decide) rfl (Or.inl rfl))) (λ_ _ _ _ =>.nil) (λ_ _ _ _=>(qQ1 K rfl bW dM dN (joinK K rfl) qAn (qA0 (qEk ["_law_part"] [] rfl (.of rfl) (qQs K rfl (pv 0)) (λ_ _ _ _=>(qAd (i:=0) (by show (((["_law_part"]:List Str))).Nodup;decide) rfl (Or.inl rfl))) (λ_ _ _ _ =>.nil) (λ_ _ _ _=>(qAr qEw (by rfl) nstr dL (qA0 (pv 0) qA3)))) qA3))))))))))))
   (qA8 (qAc (pv 1))))),?_⟩
  try dsimp only [qBf,qB5,qB1,qC6,qFx]
  obtain⟨a',vs,ea,hL,hVs⟩:=hD.ofList;cases ea;have hlen:=hVs.len;rw [aB] at hlen;have hwsl:=hOk.few;walk_at "rj";refine⟨len2 (aW _),λl hl=>?_⟩;walk_at "rj";have keepL:∀ {G:Hp},Ext [] H G->Same H G:=λe=>e.toSame;refine⟨a,rfl,⟨_,(keepL (.laid hl)).seq hL⟩,qCp (xs:=vs) (λi σ' G => ∃l o2 o3 o4,σ' = [some (.ref a),some (.ref l),o2,o3,o4]/\Ext [] H G/\H l=none/\G l=some (.lst ((rows (ws.take i)).map V.str))) ?_ ?_ ?_ ?_⟩
  ·exact⟨l,none,none,none,rfl,.laid hl,hl,qA1⟩
  ·rintro i σ' G hi ⟨l,o2,o3,o4,rfl,e,hlH,hlG⟩;exact (keepL e).seq hL
  ·rintro i x σ' G hx ⟨l,o2,o3,o4,rfl,e,hlH,hlG⟩ N_ B_ C_ R_ hN_ hC_ hR_;obtain⟨dd,hdd,hDx⟩:=hVs.get hx;obtain⟨wk,hwk,rfl⟩:=qAz hdd;obtain⟨wa,bs,rfl,hwL,hBs⟩:=hDx.ofList;obtain⟨m,hm1,hm2,hWk⟩:=hOk.all wk (aL hwk);have hfewR:=qJ1 hOk i;have hbl:=hBs.len;rw [aB] at hbl;have hwl:=hWk.len;walk_at "rj";refine qBr hlG ?_;walk_at "rj";refine qC3 hlG (qBa (by rw [aB];lia)) ?_;have e1:Ext [] H (upd G l (.lst ((rows (ws.take i)).map V.str ++ [V.str (Str.ofString "work")]))):=((e.mono (by simp)).trans (.put (ts :=[l]) (by simp))).drop hlH;have hl1:(upd G l (.lst ((rows (ws.take i)).map V.str ++ [V.str (Str.ofString "work")]))) l=some (.lst ((rows (ws.take i) ++ [itemT .work]).map V.str)):=by rw [qA1,aQ];rfl
   generalize upd G l (.lst ((rows (ws.take i)).map V.str ++ [V.str (Str.ofString "work")]))=G1 at e1 hl1 ⊢;walk_at "rj";refine⟨wa,rfl,⟨_,(keepL e1).seq hwL⟩,qCp (xs:=bs) (λj σ' G' => ∃l o3 o4,σ' = [some (.ref a),some (.ref l),some (.ref wa),o3,o4]/\Ext [] H G'/\H l=none/\G' l=some (.lst ((rows (ws.take i) ++ [itemT .work]++((wk.take j).flatMap qAt).map itemT).map V.str))) ?_ ?_ ?_ ?_⟩
   ·exact⟨l,_,_,rfl,e1,hlH,by rw [hl1];simp⟩
   ·rintro j σ' G' hj ⟨l,o3,o4,rfl,e',hlH,hlG'⟩;exact (keepL e').seq hwL
   ·rintro j v σ' G' hv ⟨l,o3,o4,rfl,e',hlH,hlG'⟩ N2_ B2_ C2_ R2_ hN2_ hC2_ hR2_;obtain⟨dd,hdd,hDv⟩:=hBs.get hv;obtain⟨b,hb,rfl⟩:=qAz hdd;have hB:=hWk.blk b (aL hb);have hds:=hB.few;obtain⟨c,cs,rfl,hc,hcs⟩:=hDv.ofTuple;obtain⟨vd,r1,rfl,hd1,hr1⟩:=hcs.ofCons;obtain⟨ve,r2,rfl,hd2,hr2⟩:=hr1.ofCons;have hr3:=hr2.ofNil;subst hr3;obtain⟨dl,dvs,rfl,hdl,hdvs⟩:=hd1.ofList;have hdvl:=hdvs.len;rw [aB] at hdvl;have hjl:j<wk.length:=(aD.mp hb).1
    have hpre:((wk.take j).flatMap qAt).length<=j*22:=bH (qCq (k:=22) (f:=qAt) (wk.take j) λb' hb'=>by
     have:=(hWk.blk b' (List.mem_of_mem_take hb')).few
     unfold qAt;simp;lia) (by rw [bN];exact Nat.mul_le_mul_right _ (Nat.min_le_left _ _))
    refine qDg ((keepL e').seqT hc) rfl ?_;walk_at "rj";refine qBr hlG' ?_;walk_at "rj";refine qC3 hlG' (qBa (by simp only [aB,aN,bA,dE];lia)) ?_;have e2:Ext [] H (upd G' l (.lst ((rows (ws.take i) ++ [itemT .work]++((wk.take j).flatMap qAt).map itemT).map V.str ++ [V.str (Str.ofString "block")]))):=((e'.mono (by simp)).trans (.put (ts :=[l]) (by simp))).drop hlH;have hl2:(upd G' l (.lst ((rows (ws.take i) ++ [itemT .work]++((wk.take j).flatMap qAt).map itemT).map V.str ++ [V.str (Str.ofString "block")]))) l=some (.lst ((rows (ws.take i) ++ [itemT .work]++((wk.take j).flatMap qAt).map itemT ++ [itemT .block]).map V.str)):=by rw [qA1];simp;rfl
    generalize upd G' l (.lst ((rows (ws.take i) ++ [itemT .work]++((wk.take j).flatMap qAt).map itemT).map V.str ++ [V.str (Str.ofString "block")]))=G2 at e2 hl2 ⊢;walk_at "rj";refine⟨len2 (by show 1<=1000;decide),λn1 hn1=>?_⟩;walk_at "rj";refine⟨dl,n1,dvs,[ve],rfl,rfl,((keepL e2).trans (Ext.laid (ts :=[]) hn1).toSame).seq hdl,SqL.of qA1,len2 (by simp;lia),λn2 hn2=>?_⟩;have e3:Ext [] G2 (upd (upd G2 n1 (.lst [ve])) n2 (.lst (dvs ++ [ve]))):=(Ext.laid hn1).trans (.laid hn2);have hn3:(upd (upd G2 n1 (.lst [ve])) n2 (.lst (dvs ++ [ve]))) n2=some (.lst (dvs ++ [ve])):=qA1;generalize upd (upd G2 n1 (.lst [ve])) n2 (.lst (dvs ++ [ve]))=G3 at e3 hn3 ⊢;have hl3:=e3 _ _ (by simp) hl2;have e03:Ext [] H G3:=e2.trans e3
    have hall:DenL K H ((b.ds.map Item.deed ++ [Item.fin b.ns]).map λi=>PyData.tuple (.str (itemW i)::(itemN i).map .int)) (dvs ++ [ve]):=by
     rw [<-qHc hB.ns.few];exact DenL.append hdvs (.cons hd2 .nil)
    have hits:∀it∈b.ds.map Item.deed ++ [Item.fin b.ns],ItemOk it:=λit hit=>by
     rcases aP.mp hit with z | z
     ·obtain⟨d,hd,rfl⟩:=cN.mp z;exact qEt hw (hB.ds d hd)
     ·rw [aO.mp z];exact qGo hm2 hB.ns
    have hitl:(b.ds.map Item.deed ++ [Item.fin b.ns]).length<=21:=by simp;lia
    have hdvl2:(dvs ++ [ve]).length=(b.ds.map Item.deed ++ [Item.fin b.ns]).length:=by simp;lia
    generalize hIts:b.ds.map Item.deed ++ [Item.fin b.ns]=its at hall hits hitl hdvl2;walk_at "rj";refine⟨n2,rfl,⟨_,SqL.of hn3⟩,λlc hlc=>?_⟩;have nnl:n2≠lc:=qA2 hn3 hlc;have nll:l≠lc:=qA2 hl3 hlc;refine qC7 (xs:=dvs ++ [ve]) (λk σ'' G4 => ∃o0,σ'' = [o0]/\Ext [lc] G3 G4/\G4 lc=some (.lst (((its.take k).map itemT).map V.str))) ?_ ?_ ?_ ?_
    ·exact⟨none,rfl,.laid hlc,qA1⟩
    ·rintro k σ'' G4 hk ⟨o0,rfl,e4,hlc4⟩;exact SqL.of (e4 _ _ (by simpa using nnl) hn3)
    ·rintro k z σ'' G4 R hz ⟨o0,rfl,e4,hlc4⟩ hR;obtain⟨dz,hdz,hDz⟩:=hall.get hz;obtain⟨it,hit,rfl⟩:=qAz hdz;obtain⟨pa,ps,rfl,hpT,hps⟩:=hDz.ofTuple;obtain⟨v0,q1,rfl,k0,k1⟩:=hps.ofCons;have k0:=k0.ofStr;have k1:=k1.ints;subst k0 k1;have hkl:k<its.length:=(aD.mp hit).1;have hIt:=hits it (aL hit);have hpT4:=((keepL e03).trans (e4.drop hlc).toSame).seqT hpT;have hf:=hIt.few;walk_at "rj";refine iteT ?_;walk_at "rj";refine qIb ?_;walk_at "rj";refine⟨pa,rfl,⟨_,hpT4⟩,λl2 hl2'=>?_⟩;have n2c:lc≠l2:=qA2 hlc4 hl2';refine qGm (xs :=.str (itemW it)::(itemN it).map V.int) (λt σ3 G5 => ∃o0,σ3 = [o0]/\Ext [l2] G4 G5/\G5 l2=some (.lst (((itemW it::(itemN it).map numT).take t).map V.str))) ?_ ?_ ?_ ?_
     ·exact⟨none,rfl,.laid hl2',qA1⟩
     ·rintro t σ3 G5 ht ⟨o0,rfl,e5,h5⟩;exact (e5.drop hl2').toSame.seqT hpT4
     ·rintro t y σ3 G5 R2 hy ⟨o0,rfl,e5,h5⟩ hR2;have hjl2:=(aD.mp hy).1;simp only [bA,aB] at hjl2;walk_at "rj";refine iteT ?_;walk_at "rj";have fin:∀tx:Str,(itemW it::(itemN it).map numT)[t]? = some tx -> ∃xs,G5 l2=some (.lst xs)/\xs.length<sizeLine/\R2 [some y] (upd G5 l2 (.lst (xs ++ [.str tx]))):=λtx htx=>by
       refine⟨_,h5,qAh (by rw [aB,bN];lia),hR2 _ _ ⟨_,rfl,e5.trans (.put (by simp)),?_⟩⟩;rw [qA1,bO,htx,aQ];rfl
      cases t with
      | zero =>
       cases hy;exact .inl ⟨_,rfl,fin _ rfl⟩
      | succ t =>
       rw [cY] at hy;obtain⟨n,hn,rfl⟩:=qAz hy;have ha:=hIt.abs n (aL hn);refine .inr ⟨n,rfl,?_,fin _ (by rw [cY,bC,hn];rfl)⟩;by_cases h0:n.natAbs=0
       ·rw [h0];decide
       ·exact (Nat.log2_lt h0).mpr (aU ha (by decide))
     ·rintro σ3 G5 ⟨o0,rfl,e5,h5⟩;rw [bD (by simp)] at h5;walk_at "rj";refine⟨_,l2,_,rfl,rfl,SqL.of h5,qEp hIt,?_⟩;refine⟨_,e5 _ _ (by simpa using n2c) hlc4,qAh (by simp;lia),hR _ _ ⟨_,rfl,(e4.trans ((e5.drop hl2').mono (by simp))).trans (.put (by simp)),?_⟩⟩;rw [qA1,bO,hit,aQ,aQ];rfl
    ·rintro σ'' G4 ⟨o0,rfl,e4,hlc4⟩;rw [bD (by rw [hdvl2];exact aC _)] at hlc4;have hl4:=e4 _ _ (by simpa using nll) hl3;walk_at "rj";refine⟨l,lc,_,_,rfl,rfl,SqL.of hl4,SqL.of hlc4,bU (qBa (by simp only [aB,aN,bA,dE];lia)),λp hp=>?_⟩;have e04:Ext [] H G4:=e03.trans (e4.drop hlc);walk_at "rj";refine⟨p,_,_,rfl,e04.trans (.laid hp),e04.none (by simp) hp,?_⟩;rw [qA1,qHw hb];unfold qAt;rw [hIts];simp
   ·rintro σ' G' ⟨l,o3,o4,rfl,e',hlH,hlG'⟩;walk_at "rj";refine⟨l,_,_,_,rfl,e',hlH,?_⟩;rw [hlG',qH4 hwk,show wk.take bs.length=wk from bD (by lia)];unfold qCg;simp
  ·rintro σ' G ⟨l,o2,o3,o4,rfl,e,hlH,hlG⟩;rw [hlen,cM] at hlG;walk_at "rj";exact q l _ hlH e hlG
end
section
variable{P:Program}{w:World}{K:PySem.W.Frag}{mg:Str->Option Value}{base:Heap}
abbrev sLaw:Stmt:=top 49
theorem scLaw:FnScope ["_law_script","_law_k","_law_tape_here","_law_bent","_law_works_here","_law_due","_law_kept","_law_turn","_law_found"] ["_law_script"] (qA7 sLaw):=⟨rfl,rfl,rfl,by decide +kernel,rfl,by decide +kernel,by decide +kernel⟩
def qNy(K:PySem.W.Frag):Sp:=λvs H Q _ => ∃(a:Addr) (ns:List Int),vs = [.ref a]/\SqL K H a (ns.map V.int)/\ns.length<=63 /\ ∀H',Q (.bl true) H'
theorem qSg{f:Addr}{fd:FuncData}(F:Fun K "law" "law" sLaw f fd)(nrange:mg "range" = none)(nlen:mg "len" = none)(nmax:mg "max" = none)(nmin:mg "min" = none)(nrepr:mg "repr" = none)
  (hT:Has P w K mg base "_law_tape" 1 ["_law_script","_law_k"] (qLk K)) (hDr:Has P w K mg base "_law_draw" 1 ["_law_tape_here","_law_many_here"] qCl) (hW:Has P w K mg base "_law_works" 5 ["_law_tape_here","_law_most"] (qG0 K)) (hM:Has P w K mg base "_law_with_moves" 2 ["_law_tape_here","_law_works_here"] (qG3 K))
  (hRo:Has P w K mg base "_law_rows" 1 ["_law_works_here"] (qLl K)) (hTx:Has P w K mg base "works_text" 2 ["works"] (qLj K)) (hRd:Has P w K mg base "read_works" 8 ["text"] qD7) :
  FnOk P w K mg base CX0 9 f fd ["_law_script"] (qNy K):=by
 refine F.ok scLaw (λvs H Q E h=>?_) (λcdv A outer s H vs Q E hr h=>?_)
 ·obtain⟨a,ns,rfl,_⟩:=h;rfl
 ·obtain⟨a,ns,rfl,hSq,hlen,q⟩:=h;have hu:=qBu hr
  refine⟨_,(qA4 (qBx bL rfl (qBs rfl nrange (qA0 (qA9 (qHv rfl) (by rfl) nmax PyProof.Rows.boot_max (qA0 qA6 (qA0 (qA9 (qNk rfl) (by rfl) nmin PyProof.Rows.boot_min (qA0 (qA9 qAf (by rfl) nlen bB (qA0 (pv 0) qA3)) (qA0 qA6 qA3))) qA3))) qA3)) (qAd (i:=1) scLaw.nd rfl (Or.inl rfl))
   (qA4 (qAg (i:=2) scLaw.nd rfl (Or.inl rfl) (qAj hT hr (by decide) (qA0 (pv 0) (qA0 (pv 1) qA3))))
   (qA4 (qAg (i:=3) scLaw.nd rfl (Or.inl rfl) (qC4 qBt (qAj hDr hr (by decide) (qA0 (pv 2) (qA0 qA6 qA3))) qA6 (qAi _)))
   (qA4 (qAg (i:=4) scLaw.nd rfl (Or.inl rfl) (qAj hW hr (by decide) (qA0 (pv 2) (qA0 qA6 qA3))))
   (qA4 (qBc (qAo K rfl (pv 3) (λ_=>rfl)) (qA8 (qAg (i:=4) scLaw.nd rfl (Or.inl rfl) (qAj hM hr (by decide) (qA0 (pv 2) (qA0 (pv 4) qA3))))) qAl)
   (qA4 (qJl (i:=5) (j:=6) rfl scLaw.nd rfl rfl (by decide) rfl rfl (qA0 (qBp bW dM dN qGl qAn (qA0 (qAj hRo hr (by decide) (qA0 (pv 4) qA3)) qA3)) (qA0 (qA9 (qEx hr) (by rfl) nrepr PyProof.Rows.boot_repr (qA0 (pv 4) qA3)) qA3)) rfl)
   (qA4 (qBc (PW.pt (qD8 (qAa qF0 (qAj hTx hr (by decide) (qA0 (pv 4) qA3)) (pv 5) (qAi _)) (qBv (qAa qF0 (qAj hTx hr (by decide) (qA0 (pv 4) qA3)) (pv 5) (qAi _))))) (qA8 (qAc qD9)) qAl)
   (qA8 (qBx bL rfl (qBs rfl nrange (qA0 qA6 qA3)) (qAd (i:=7) scLaw.nd rfl (Or.inl rfl))
   (qA4 (qAg (i:=8) scLaw.nd rfl (Or.inl rfl) (qAj hRd hr (by decide) (qA0 (pv 5) qA3)))
   (qA4 (qBc (PW.pt (qD8 (qAa qF0 (qA9 (qEx hr) (by rfl) nrepr PyProof.Rows.boot_repr (qA0 (pv 8) qA3)) (pv 6) (qAi _)) (qBv (qAa qF0 (qA9 (qEx hr) (by rfl) nrepr PyProof.Rows.boot_repr (qA0 (pv 4) qA3)) (pv 6) (qAi _))))) (qA8 (qAc qD9)) qAl)
   (qA4 (qB2 (qBp aM aS aT qAs (qB3 qDx (qB3 qAm (qB3 qAm (pv 8) qA6 (λ_ _=>rfl)) qA6 (λ_ _=>rfl)) qA6 (λ_ _=>rfl)) (qA0 (qBy (qA0 qAn (qA0 qA6 qA3))) qA3)))
   (qA8 (qB2 (qQ2 aM PySem.F.slot_list_reverse PySem.F.type_list_reverse qKr (pv 8))))))))))))))))
   (qA8 (qAc qD9))),?_⟩
  try dsimp only [qBf,qB5,qB1,qC6,qFx]
  walk_at "rj";refine⟨a,_,rfl,.inl hSq,?_⟩;rw [aB];walk_at "rj";refine⟨_,_,rfl,?_⟩;walk_at "rj";refine⟨_,_,rfl,?_⟩;generalize hN:(if (if (4:Int)<(ns.length:Int) then (4:Int) else (ns.length:Int))>1 then (if (4:Int)<(ns.length:Int) then (4:Int) else (ns.length:Int)) else 1)=N;have hN1:1<=N/\N<=4:=by
   rw [<-hN]
   repeat' split
   all_goals lia
  walk_at "rj";refine⟨N,rfl,by lia,by lia,qC8 (lo:=0) (n:=N.toNat) (λi σ' H' => ∃(o1 o2 o3 o4 o5 o6 o7 o8:Option V),σ' = [some (.ref a),o1,o2,o3,o4,o5,o6,o7,o8]/\Ext [] H H') ?_ ?_ ?_⟩
  ·exact⟨_,_,_,_,_,_,_,_,rfl,.refl _ _⟩
  ·rintro i σ' H' hi ⟨o1,o2,o3,o4,o5,o6,o7,o8,rfl,e'⟩ N_ B_ C_ R_ hN_ hC_ hR_;walk_at "rj";refine⟨a,ns,i,by show [V.ref a,V.int (0+(i:Int))] = [V.ref a,V.int (i:Int)];rw [Int.zero_add],e'.toSame.seq hSq,by lia,λt H1 ht T1 s1=>?_⟩;walk_at "rj";refine qAy T1 (by lia) (by decide) (by decide) λbn H1' bn0 bn1 T1' e1' _=>?_;walk_at "rj";refine qD0 ?_;walk_at "rj";refine⟨t,_,4,rfl,T1',by lia,by decide,by decide,λl0 as0 ws0 H2 hl0 nlt0 hla0 has0 hnd0 T2 e2 hl02 hW0 hok0 hfw0=>?_⟩;have nt0:t∉as0:=λz=>(has0 t z).2 rfl;have wl0:=hW0.len;have e02:Ext [t] H' H2:=((show Ext [t] H' H1 from λb o _ h=>s1 b o h).trans e1').trans e2
   with_reducible refine qH6 ?_
   (try with_reducible refine qBb (by assumption) ?_)
   with_reducible refine qRx (λσ' G => ∃(l:Addr) (ws:List (List Blk)),σ' = [some (.ref a),some (.int (0+(i:Int))),some (.ref t),some (.bl (decide (bn=0))),some (.ref l),o5,o6,o7,o8]/\Ext [t] H' G/\Den K G (qCi ws) (.ref l)/\AllOk (ws.length:Int) ws /\ ∀w∈ws,Led w) ?_ (λhC=>?_)
   ·rintro σ' H3 ⟨l,ws,rfl,e12,dW,hok,hled⟩;have ho1:=hok.one;have ho10:=hok.few;have hw100:(ws.length:Int)<=100:=by lia
    obtain⟨t1,t2,t3⟩:=qK6 (qPp hok);obtain⟨s1',s2',s3'⟩:=qI4 t1 (by lia) t3;have E3:Ext [] H H3:=e'.trans (e12.drop ht);clear hok0 hfw0 hW0 hl02 hnd0 has0 hla0 T2 e2 e1' T1';walk_at "rj";refine qIb ?_;walk_at "rj";refine⟨l,ws,ws.length,rfl,dW,hok,hw100,λlr G1 hlr e1 hlr1=>?_⟩;walk_at "rj";refine⟨_,lr,rows ws,rfl,rfl,SqL.of hlr1,qEa hw100 hok,?_⟩;walk_at "rj";refine⟨l,qCi ws,rfl,dW.mono e1.toSame,s1',s2',s3',?_⟩;walk_at "rj";refine⟨_,_,rfl,?_⟩;rw [show (Str.ofString "\n").join (rows ws)=qEb ws from rfl];have E1:Ext [] H G1:=E3.trans e1;have dW1:=dW.mono e1.toSame;clear e1 hlr1 dW E3 e12;walk_at "rj";refine⟨l,ws,ws.length,rfl,dW1,hok,hw100,λG2 e2=>?_⟩;walk_at "rj";refine qKg ?_;rw [decide_eq_true rfl]
    walk_at "rj";refine iteF ?_;walk_at "rj";refine⟨l,ws,ws.length,rfl,dW1.mono e2.toSame,hok,hw100,λG3 e3=>?_⟩;walk_at "rj";refine qKg ?_;rw [decide_eq_true rfl];walk_at "rj";refine iteF ?_;have E4:Ext [] H G3:=E1.trans (e2.trans e3);have dW3:=dW1.mono (e2.trans e3).toSame;clear e2 e3 E1 dW1;walk_at "rj";refine⟨2,rfl,by decide,by decide,qC8 (lo:=0) (n:=(2:Int).toNat) (λj σ' G => ∃(o7 o8:Option V),σ' = [some (.ref a),some (.int (0+(i:Int))),some (.ref t),some (.bl (decide (bn=0))),some (.ref l),some (.str (qEb ws)),some (.str (qCi ws).shown),o7,o8]/\Ext [] G3 G) ?_ ?_ ?_⟩
    ·exact⟨_,_,rfl,.refl _ _⟩
    ·rintro j σ' G hj ⟨o7,o8,rfl,eG⟩ N2_ B2_ C2_ R2_ hN2_ hC2_ hR2_;walk_at "rj";refine⟨ws,rfl,hok,hled,λlf v st G5 e5 hR hall=>?_⟩;have dF:Den K G5 (qCi ws) (.ref lf):=by rw [<-hall];exact hR.den
     walk_at "rj";refine⟨lf,qCi ws,rfl,dF,s1',s2',s3',?_⟩;walk_at "rj";refine qKg ?_;rw [decide_eq_true rfl];walk_at "rj";refine iteF ?_;walk_at "rj";refine⟨l,qCi ws,rfl,dW3.mono (eG.trans e5).toSame,s1',s2',s3',?_⟩;walk_at "rj";refine qKg ?_;rw [decide_eq_true rfl];walk_at "rj";refine iteF ?_;obtain⟨a0,b0,d0,rest,brest,ve,dvs,g1,g2,g3,g4,g5,g6,g7,g8⟩:=hR.first (works:=(ws.length:Int)) (by rw [hall];exact hok)
     walk_at "rj";refine qBo (SqL.of g1) (qDc (j:=0) rfl) ?_;walk_at "rj";refine qBo (SqL.of g3) (qDc (j:=0) rfl) ?_;walk_at "rj";refine qDv (SqT.of g4) ?_;walk_at "rj";refine qBr g5 ?_;walk_at "rj";refine⟨len2 (by show 2<=1000;decide),λp hp=>?_⟩;have npd:d0≠p:=qA2 g5 hp;have npl:lf≠p:=qA2 g1 hp;walk_at "rj";refine qC3 (by rw [qA5 npd];exact g5) (qAh (by lia)) ?_;have e6:Ext [d0] G5 (upd (upd G5 p (.tup [V.str (Str.ofString "tell"),V.int 0])) d0 (.lst (dvs ++ [V.ref p]))):=(Ext.laid hp).trans (.put (by simp));have g16:(upd (upd G5 p (.tup [V.str (Str.ofString "tell"),V.int 0])) d0 (.lst (dvs ++ [V.ref p]))) lf=some (.lst (.ref a0::rest)):=by rw [qA5 (dS g7),qA5 npl];exact g1
     generalize upd (upd G5 p (.tup [V.str (Str.ofString "tell"),V.int 0])) d0 (.lst (dvs ++ [V.ref p]))=G6 at e6 g16 ⊢;walk_at "rj";refine qBr g16 ?_;refine⟨lf,_,rfl,rfl,g16,?_⟩;walk_at "rj";refine⟨_,_,rfl,eG.trans ?_⟩;have e7:Ext [d0,lf] G (upd G6 lf (.lst (.ref a0::rest).reverse)):=((e5.mono (by simp)).trans (e6.mono (by simp))).trans (.put (by simp));exact (e7.drop g6).drop g2
    ·rintro σ' G ⟨o7,o8,rfl,eG⟩;walk_at "rj";exact⟨_,_,_,_,_,_,_,_,rfl,E4.trans eG⟩
   ·walk_at "rj";refine qRm ?_;cases hbn:decide (bn=0) with
    | false =>
     rw [hbn] at hC;refine iteF ?_
     (try with_reducible refine qBb (by assumption) ?_)
     refine hC _ _ ⟨l0,ws0,rfl,e02,.list (SqL.of hl02) (qF1 hW0 yo_same),hok0,λw hw=>(hfw0 w hw).2⟩
    | true =>
     rw [hbn] at hC;refine iteT ?_;walk_at "rj";refine⟨t,l0,_,as0,ws0,(ws0.length:Int),rfl,T2,by lia,hl02,nlt0,nt0,hW0.mono (λb o h=>?_) (λ_ _ _ h=>h),hok0,(λw hw b hb=>((hfw0 w hw).1 b hb).1),(λw hw=>(hfw0 w hw).2),λl as ws H3 hl nlt hla has hnd T3 e3 hl3 hW hokL hal=>?_⟩
     ·obtain⟨h1,h2,h3⟩:=qCh h;rw [qBn (λz=>h2 (by rw [aO.mp z];simp))];exact h3
     obtain⟨hok,hled⟩:=hokL;have wl:=hW.len;have hwl:ws.length=ws0.length:=by lia
     rw [<-hwl] at hok
     with_reducible refine qH6 ?_
     exact hC _ _ ⟨l,ws,rfl,e02.trans e3,.list (SqL.of hl3) (qF1 hW (qL4 _ _)),hok,hled⟩
  ·rintro σ' H' ⟨o1,o2,o3,o4,o5,o6,o7,o8,rfl,e'⟩;walk_at "rj";exact q _
end
theorem qAu{P:Program}{w:World}{K:PySem.W.Frag}{mg:Str->Option Value}{base h:Heap}{x:Str}{st:Stmt}{k:Nat}{ps:List Str}{sp:Sp}{f:Addr}{oc:Value}{od an:Option Addr}{osl:Array (Option Value)}{kV doc pm cdv ct:Value}(X:K.In h)(G:h.Ns mainGlobals mg)(a:PySem.W.nsIn K mainGlobals x=some (some (.ref f)))(l:K.lookup f=some ⟨oc,od,.func (PySem.W.fnOf x x (qAe st) (qAb st) (qA7 st) .none kV doc pm an cdv ct),osl⟩)(c:PySem.W.codeIn K cdv x=true)(kk:PySem.W.keepIn K (.ref f)=true)(hb:∀(kV doc pm:Value) (an:Option Addr) (cdv ct:Value) (us:List Value),us.length=ps.length->bindArgs (PySem.W.fnOf x x (qAe st) (qAb st) (qA7 st) .none kV doc pm an cdv ct) ⟨us,[]⟩=pure (ps.zip us))(ok:∀fd,Fun K x x st f fd->FnOk P w K mg base CX0 k f fd ps sp):Has P w K mg base x k ps sp:=by
 have F:=qQ7 (st:=st) l c kk;exact⟨f,_,ok _ F,cH X G a,kk,F.binds hb⟩
theorem qBq{us:List Value}(h:us.length=1):∃a0,us = [a0]:=by
 obtain _ | ⟨x0,us⟩:=us
 ·cases h
 obtain _ | ⟨y,us⟩:=us
 ·exact⟨x0,rfl⟩
 ·simp at h
theorem qCn{us:List Value}(h:us.length=2):∃a0 a1,us = [a0,a1]:=by
 obtain _ | ⟨x0,us⟩:=us
 ·cases h
 obtain _ | ⟨x1,us⟩:=us
 ·cases h
 obtain _ | ⟨y,us⟩:=us
 ·exact⟨x0,x1,rfl⟩
 ·simp at h
theorem qMs{us:List Value}(h:us.length=3):∃a0 a1 a2,us = [a0,a1,a2]:=by
 obtain _ | ⟨x0,us⟩:=us
 ·cases h
 obtain _ | ⟨x1,us⟩:=us
 ·cases h
 obtain _ | ⟨x2,us⟩:=us
 ·cases h
 obtain _ | ⟨y,us⟩:=us
 ·exact⟨x0,x1,x2,rfl⟩
 ·simp at h
theorem qQ5{us:List Value}(h:us.length=5):∃a0 a1 a2 a3 a4,us = [a0,a1,a2,a3,a4]:=by
 obtain _ | ⟨x0,us⟩:=us
 ·cases h
 obtain _ | ⟨x1,us⟩:=us
 ·cases h
 obtain _ | ⟨x2,us⟩:=us
 ·cases h
 obtain _ | ⟨x3,us⟩:=us
 ·cases h
 obtain _ | ⟨x4,us⟩:=us
 ·cases h
 obtain _ | ⟨y,us⟩:=us
 ·exact⟨x0,x1,x2,x3,x4,rfl⟩
 ·simp at h
theorem qSv{l:PySem.W.OpenLaw}{w:World}{K:PySem.W.Frag}{h:Heap}{mg:Str->Option Value}{fa f1 f2 f3 f4 f5 f6 f7 f8 f9 f10 f11 f12 f13 f14 f15 f16 f17 f18 f19 f20 f21 f22 f23 f24 f25 f26 f27 f28 f29 f30 f31 f32 f33 wa0 wa1 wa2 wa3:Addr}(X:K.In h)(G:h.Ns mainGlobals mg)(hfa:mg "law" = some (.ref fa))
  {od1 an1 od2 an2 od3 an3 od4 an4 od5 an5 od6 an6 od7 an7 od8 an8 od9 an9 od10 an10 od11 an11 od12 an12 od13 an13 od14 an14 od15 an15 od16 an16 od17 an17 od18 an18 od19 an19 od20 an20 od21 an21 od22 an22 od23 an23 od24 an24 od25 an25 od26 an26 od27 an27 od28 an28 od29 an29 od30 an30 od31 an31 od32 an32 od33 an33:Option Addr} {sl1 sl2 sl3 sl4 sl5 sl6 sl7 sl8 sl9 sl10 sl11 sl12 sl13 sl14 sl15 sl16 sl17 sl18 sl19 sl20 sl21 sl22 sl23 sl24 sl25 sl26 sl27 sl28 sl29 sl30 sl31 sl32 sl33:Array (Option Value)} {oc1 kV1 dc1 pm1 cd1 ct1 oc2 kV2 dc2 pm2 cd2 ct2 oc3 kV3 dc3 pm3 cd3 ct3 oc4 kV4 dc4 pm4 cd4 ct4 oc5 kV5 dc5 pm5 cd5 ct5 oc6 kV6 dc6 pm6 cd6 ct6 oc7 kV7 dc7 pm7 cd7 ct7 oc8 kV8 dc8 pm8 cd8 ct8 oc9 kV9 dc9 pm9 cd9 ct9 oc10 kV10 dc10 pm10 cd10 ct10 oc11 kV11 dc11 pm11 cd11 ct11 oc12 kV12 dc12 pm12 cd12 ct12 oc13 kV13 dc13 pm13 cd13 ct13 oc14 kV14 dc14 pm14 cd14 ct14 oc15 kV15 dc15 pm15 cd15 ct15 oc16 kV16 dc16 pm16 cd16 ct16 oc17 kV17 dc17 pm17 cd17 ct17 oc18 kV18 dc18 pm18 cd18 ct18 oc19 kV19 dc19 pm19 cd19 ct19 oc20 kV20 dc20 pm20 cd20 ct20 oc21 kV21 dc21 pm21 cd21 ct21 oc22 kV22 dc22 pm22 cd22 ct22 oc23 kV23 dc23 pm23 cd23 ct23 oc24 kV24 dc24 pm24 cd24 ct24 oc25 kV25 dc25 pm25 cd25 ct25 oc26 kV26 dc26 pm26 cd26 ct26 oc27 kV27 dc27 pm27 cd27 ct27 oc28 kV28 dc28 pm28 cd28 ct28 oc29 kV29 dc29 pm29 cd29 ct29 oc30 kV30 dc30 pm30 cd30 ct30 oc31 kV31 dc31 pm31 cd31 ct31 oc32 kV32 dc32 pm32 cd32 ct32 oc33 kV33 dc33 pm33 cd33 ct33:Value}
  (a1:PySem.W.nsIn K mainGlobals "_law_tape" = some (some (.ref f1))) (l1:K.lookup f1=some ⟨oc1,od1,.func (PySem.W.fnOf "_law_tape" "_law_tape" (qAe sTape) (qAb sTape) (qA7 sTape) .none kV1 dc1 pm1 an1 cd1 ct1),sl1⟩) (c1:PySem.W.codeIn K cd1 "_law_tape" = true) (k1:PySem.W.keepIn K (.ref f1)=true)
  (a2:PySem.W.nsIn K mainGlobals "_law_draw" = some (some (.ref f2))) (l2:K.lookup f2=some ⟨oc2,od2,.func (PySem.W.fnOf "_law_draw" "_law_draw" (qAe sDraw) (qAb sDraw) (qA7 sDraw) .none kV2 dc2 pm2 an2 cd2 ct2),sl2⟩) (c2:PySem.W.codeIn K cd2 "_law_draw" = true) (k2:PySem.W.keepIn K (.ref f2)=true)
  (a3:PySem.W.nsIn K mainGlobals "_law_nexts" = some (some (.ref f3))) (l3:K.lookup f3=some ⟨oc3,od3,.func (PySem.W.fnOf "_law_nexts" "_law_nexts" (qAe qFb) (qAb qFb) (qA7 qFb) .none kV3 dc3 pm3 an3 cd3 ct3),sl3⟩) (c3:PySem.W.codeIn K cd3 "_law_nexts" = true) (k3:PySem.W.keepIn K (.ref f3)=true)
  (a4:PySem.W.nsIn K mainGlobals "_law_number" = some (some (.ref f4))) (l4:K.lookup f4=some ⟨oc4,od4,.func (PySem.W.fnOf "_law_number" "_law_number" (qAe qDm) (qAb qDm) (qA7 qDm) .none kV4 dc4 pm4 an4 cd4 ct4),sl4⟩) (c4:PySem.W.codeIn K cd4 "_law_number" = true) (k4:PySem.W.keepIn K (.ref f4)=true)
  (a5:PySem.W.nsIn K mainGlobals "_law_deeds" = some (some (.ref f5))) (l5:K.lookup f5=some ⟨oc5,od5,.func (PySem.W.fnOf "_law_deeds" "_law_deeds" (qAe qFg) (qAb qFg) (qA7 qFg) .none kV5 dc5 pm5 an5 cd5 ct5),sl5⟩) (c5:PySem.W.codeIn K cd5 "_law_deeds" = true) (k5:PySem.W.keepIn K (.ref f5)=true)
  (a6:PySem.W.nsIn K mainGlobals "_law_work" = some (some (.ref f6))) (l6:K.lookup f6=some ⟨oc6,od6,.func (PySem.W.fnOf "_law_work" "_law_work" (qAe sWork) (qAb sWork) (qA7 sWork) .none kV6 dc6 pm6 an6 cd6 ct6),sl6⟩) (c6:PySem.W.codeIn K cd6 "_law_work" = true) (k6:PySem.W.keepIn K (.ref f6)=true)
  (a7:PySem.W.nsIn K mainGlobals "_law_many" = some (some (.ref f7))) (l7:K.lookup f7=some ⟨oc7,od7,.func (PySem.W.fnOf "_law_many" "_law_many" (qAe sMany) (qAb sMany) (qA7 sMany) .none kV7 dc7 pm7 an7 cd7 ct7),sl7⟩) (c7:PySem.W.codeIn K cd7 "_law_many" = true) (k7:PySem.W.keepIn K (.ref f7)=true)
  (a8:PySem.W.nsIn K mainGlobals "_law_works" = some (some (.ref f8))) (l8:K.lookup f8=some ⟨oc8,od8,.func (PySem.W.fnOf "_law_works" "_law_works" (qAe qF6) (qAb qF6) (qA7 qF6) .none kV8 dc8 pm8 an8 cd8 ct8),sl8⟩) (c8:PySem.W.codeIn K cd8 "_law_works" = true) (k8:PySem.W.keepIn K (.ref f8)=true)
  (a9:PySem.W.nsIn K mainGlobals "_law_with_moves" = some (some (.ref f9))) (l9:K.lookup f9=some ⟨oc9,od9,.func (PySem.W.fnOf "_law_with_moves" "_law_with_moves" (qAe qFc) (qAb qFc) (qA7 qFc) .none kV9 dc9 pm9 an9 cd9 ct9),sl9⟩) (c9:PySem.W.codeIn K cd9 "_law_with_moves" = true) (k9:PySem.W.keepIn K (.ref f9)=true)
  (a10:PySem.W.nsIn K mainGlobals "led_to" = some (some (.ref f10))) (l10:K.lookup f10=some ⟨oc10,od10,.func (PySem.W.fnOf "led_to" "led_to" (qAe sLed) (qAb sLed) (qA7 sLed) .none kV10 dc10 pm10 an10 cd10 ct10),sl10⟩) (c10:PySem.W.codeIn K cd10 "led_to" = true) (k10:PySem.W.keepIn K (.ref f10)=true)
  (a11:PySem.W.nsIn K mainGlobals "nexts_of" = some (some (.ref f11))) (l11:K.lookup f11=some ⟨oc11,od11,.func (PySem.W.fnOf "nexts_of" "nexts_of" (qAe sNx) (qAb sNx) (qA7 sNx) .none kV11 dc11 pm11 an11 cd11 ct11),sl11⟩) (c11:PySem.W.codeIn K cd11 "nexts_of" = true) (k11:PySem.W.keepIn K (.ref f11)=true)
  (a12:PySem.W.nsIn K mainGlobals "is_number" = some (some (.ref f12))) (l12:K.lookup f12=some ⟨oc12,od12,.func (PySem.W.fnOf "is_number" "is_number" (qAe qFd) (qAb qFd) (qA7 qFd) .none kV12 dc12 pm12 an12 cd12 ct12),sl12⟩) (c12:PySem.W.codeIn K cd12 "is_number" = true) (k12:PySem.W.keepIn K (.ref f12)=true)
  (a13:PySem.W.nsIn K mainGlobals "is_number_from" = some (some (.ref f13))) (l13:K.lookup f13=some ⟨oc13,od13,.func (PySem.W.fnOf "is_number_from" "is_number_from" (qAe qDp) (qAb qDp) (qA7 qDp) .none kV13 dc13 pm13 an13 cd13 ct13),sl13⟩) (c13:PySem.W.codeIn K cd13 "is_number_from" = true) (k13:PySem.W.keepIn K (.ref f13)=true)
  (a14:PySem.W.nsIn K mainGlobals "has_word" = some (some (.ref f14))) (l14:K.lookup f14=some ⟨oc14,od14,.func (PySem.W.fnOf "has_word" "has_word" (qAe qCx) (qAb qCx) (qA7 qCx) .none kV14 dc14 pm14 an14 cd14 ct14),sl14⟩) (c14:PySem.W.codeIn K cd14 "has_word" = true) (k14:PySem.W.keepIn K (.ref f14)=true)
  (a15:PySem.W.nsIn K mainGlobals "is_part" = some (some (.ref f15))) (l15:K.lookup f15=some ⟨oc15,od15,.func (PySem.W.fnOf "is_part" "is_part" (qAe qDo) (qAb qDo) (qA7 qDo) .none kV15 dc15 pm15 an15 cd15 ct15),sl15⟩) (c15:PySem.W.codeIn K cd15 "is_part" = true) (k15:PySem.W.keepIn K (.ref f15)=true)
  (a16:PySem.W.nsIn K mainGlobals "is_deed" = some (some (.ref f16))) (l16:K.lookup f16=some ⟨oc16,od16,.func (PySem.W.fnOf "is_deed" "is_deed" (qAe qDq) (qAb qDq) (qA7 qDq) .none kV16 dc16 pm16 an16 cd16 ct16),sl16⟩) (c16:PySem.W.codeIn K cd16 "is_deed" = true) (k16:PySem.W.keepIn K (.ref f16)=true)
  (a17:PySem.W.nsIn K mainGlobals "is_end" = some (some (.ref f17))) (l17:K.lookup f17=some ⟨oc17,od17,.func (PySem.W.fnOf "is_end" "is_end" (qAe qFe) (qAb qFe) (qA7 qFe) .none kV17 dc17 pm17 an17 cd17 ct17),sl17⟩) (c17:PySem.W.codeIn K cd17 "is_end" = true) (k17:PySem.W.keepIn K (.ref f17)=true)
  (a18:PySem.W.nsIn K mainGlobals "is_block" = some (some (.ref f18))) (l18:K.lookup f18=some ⟨oc18,od18,.func (PySem.W.fnOf "is_block" "is_block" (qAe qCw) (qAb qCw) (qA7 qCw) .none kV18 dc18 pm18 an18 cd18 ct18),sl18⟩) (c18:PySem.W.codeIn K cd18 "is_block" = true) (k18:PySem.W.keepIn K (.ref f18)=true)
  (a19:PySem.W.nsIn K mainGlobals "is_work" = some (some (.ref f19))) (l19:K.lookup f19=some ⟨oc19,od19,.func (PySem.W.fnOf "is_work" "is_work" (qAe qDn) (qAb qDn) (qA7 qDn) .none kV19 dc19 pm19 an19 cd19 ct19),sl19⟩) (c19:PySem.W.codeIn K cd19 "is_work" = true) (k19:PySem.W.keepIn K (.ref f19)=true)
  (a20:PySem.W.nsIn K mainGlobals "are_works" = some (some (.ref f20))) (l20:K.lookup f20=some ⟨oc20,od20,.func (PySem.W.fnOf "are_works" "are_works" (qAe qC5) (qAb qC5) (qA7 qC5) .none kV20 dc20 pm20 an20 cd20 ct20),sl20⟩) (c20:PySem.W.codeIn K cd20 "are_works" = true) (k20:PySem.W.keepIn K (.ref f20)=true)
  (a21:PySem.W.nsIn K mainGlobals "row_of" = some (some (.ref f21))) (l21:K.lookup f21=some ⟨oc21,od21,.func (PySem.W.fnOf "row_of" "row_of" (qAe qF7) (qAb qF7) (qA7 qF7) .none kV21 dc21 pm21 an21 cd21 ct21),sl21⟩) (c21:PySem.W.codeIn K cd21 "row_of" = true) (k21:PySem.W.keepIn K (.ref f21)=true)
  (a22:PySem.W.nsIn K mainGlobals "works_text" = some (some (.ref f22))) (l22:K.lookup f22=some ⟨oc22,od22,.func (PySem.W.fnOf "works_text" "works_text" (qAe sText) (qAb sText) (qA7 sText) .none kV22 dc22 pm22 an22 cd22 ct22),sl22⟩) (c22:PySem.W.codeIn K cd22 "works_text" = true) (k22:PySem.W.keepIn K (.ref f22)=true)
  (a23:PySem.W.nsIn K mainGlobals "read_figures" = some (some (.ref f23))) (l23:K.lookup f23=some ⟨oc23,od23,.func (PySem.W.fnOf "read_figures" "read_figures" (qAe sFig) (qAb sFig) (qA7 sFig) .none kV23 dc23 pm23 an23 cd23 ct23),sl23⟩) (c23:PySem.W.codeIn K cd23 "read_figures" = true) (k23:PySem.W.keepIn K (.ref f23)=true)
  (a24:PySem.W.nsIn K mainGlobals "read_number" = some (some (.ref f24))) (l24:K.lookup f24=some ⟨oc24,od24,.func (PySem.W.fnOf "read_number" "read_number" (qAe sNumb) (qAb sNumb) (qA7 sNumb) .none kV24 dc24 pm24 an24 cd24 ct24),sl24⟩) (c24:PySem.W.codeIn K cd24 "read_number" = true) (k24:PySem.W.keepIn K (.ref f24)=true)
  (a25:PySem.W.nsIn K mainGlobals "read_box" = some (some (.ref f25))) (l25:K.lookup f25=some ⟨oc25,od25,.func (PySem.W.fnOf "read_box" "read_box" (qAe sBoxR) (qAb sBoxR) (qA7 sBoxR) .none kV25 dc25 pm25 an25 cd25 ct25),sl25⟩) (c25:PySem.W.codeIn K cd25 "read_box" = true) (k25:PySem.W.keepIn K (.ref f25)=true)
  (a26:PySem.W.nsIn K mainGlobals "read_held" = some (some (.ref f26))) (l26:K.lookup f26=some ⟨oc26,od26,.func (PySem.W.fnOf "read_held" "read_held" (qAe qFf) (qAb qFf) (qA7 qFf) .none kV26 dc26 pm26 an26 cd26 ct26),sl26⟩) (c26:PySem.W.codeIn K cd26 "read_held" = true) (k26:PySem.W.keepIn K (.ref f26)=true)
  (a27:PySem.W.nsIn K mainGlobals "read_part" = some (some (.ref f27))) (l27:K.lookup f27=some ⟨oc27,od27,.func (PySem.W.fnOf "read_part" "read_part" (qAe qFa) (qAb qFa) (qA7 qFa) .none kV27 dc27 pm27 an27 cd27 ct27),sl27⟩) (c27:PySem.W.codeIn K cd27 "read_part" = true) (k27:PySem.W.keepIn K (.ref f27)=true)
  (a28:PySem.W.nsIn K mainGlobals "read_row" = some (some (.ref f28))) (l28:K.lookup f28=some ⟨oc28,od28,.func (PySem.W.fnOf "read_row" "read_row" (qAe qCv) (qAb qCv) (qA7 qCv) .none kV28 dc28 pm28 an28 cd28 ct28),sl28⟩) (c28:PySem.W.codeIn K cd28 "read_row" = true) (k28:PySem.W.keepIn K (.ref f28)=true)
  (a29:PySem.W.nsIn K mainGlobals "kind_of" = some (some (.ref f29))) (l29:K.lookup f29=some ⟨oc29,od29,.func (PySem.W.fnOf "kind_of" "kind_of" (qAe sKind) (qAb sKind) (qA7 sKind) .none kV29 dc29 pm29 an29 cd29 ct29),sl29⟩) (c29:PySem.W.codeIn K cd29 "kind_of" = true) (k29:PySem.W.keepIn K (.ref f29)=true)
  (a30:PySem.W.nsIn K mainGlobals "read_blocks" = some (some (.ref f30))) (l30:K.lookup f30=some ⟨oc30,od30,.func (PySem.W.fnOf "read_blocks" "read_blocks" (qAe qF9) (qAb qF9) (qA7 qF9) .none kV30 dc30 pm30 an30 cd30 ct30),sl30⟩) (c30:PySem.W.codeIn K cd30 "read_blocks" = true) (k30:PySem.W.keepIn K (.ref f30)=true)
  (a31:PySem.W.nsIn K mainGlobals "read_works" = some (some (.ref f31))) (l31:K.lookup f31=some ⟨oc31,od31,.func (PySem.W.fnOf "read_works" "read_works" (qAe qF8) (qAb qF8) (qA7 qF8) .none kV31 dc31 pm31 an31 cd31 ct31),sl31⟩) (c31:PySem.W.codeIn K cd31 "read_works" = true) (k31:PySem.W.keepIn K (.ref f31)=true)
  (a32:PySem.W.nsIn K mainGlobals "_law_rows" = some (some (.ref f32))) (l32:K.lookup f32=some ⟨oc32,od32,.func (PySem.W.fnOf "_law_rows" "_law_rows" (qAe sRows) (qAb sRows) (qA7 sRows) .none kV32 dc32 pm32 an32 cd32 ct32),sl32⟩) (c32:PySem.W.codeIn K cd32 "_law_rows" = true) (k32:PySem.W.keepIn K (.ref f32)=true)
  (a33:PySem.W.nsIn K mainGlobals "law" = some (some (.ref f33))) (l33:K.lookup f33=some ⟨oc33,od33,.func (PySem.W.fnOf "law" "law" (qAe sLaw) (qAb sLaw) (qA7 sLaw) .none kV33 dc33 pm33 an33 cd33 ct33),sl33⟩) (c33:PySem.W.codeIn K cd33 "law" = true) (k33:PySem.W.keepIn K (.ref f33)=true)
  (u0:PySem.W.nsIn K mainGlobals "DEED_PARTS" = some (some (.ref wa0))) (v0:Parts K wa0)
  (u1:PySem.W.nsIn K mainGlobals "END_BLOCKS" = some (some (.ref wa1))) (v1:Blocks K wa1)
  (u2:PySem.W.nsIn K mainGlobals "ROW_PARTS" = some (some (.ref wa2))) (v2:RowTab K wa2)
  (u3:PySem.W.nsIn K mainGlobals "BEHIND" = some (some (.ref wa3))) (v3:Behind K wa3)
  {tb0:Tok} (i0:PySem.W.nsIn K mainGlobals "BOXES" = some (some (.int 8 tb0)))
  {tb1:Tok} (i1:PySem.W.nsIn K mainGlobals "MOST_FIGURES" = some (some (.int 9 tb1)))
  {tb2:Tok} (i2:PySem.W.nsIn K mainGlobals "GREATEST" = some (some (.int 1000000000000 tb2)))
  {ts0:Tok} (j0:PySem.W.nsIn K mainGlobals "FIGURES" = some (some (.str "0123456789" ts0)))
  (z1:PySem.W.nsIn K mainGlobals "range" = some none) (z2:PySem.W.nsIn K mainGlobals "len" = some none) (z3:PySem.W.nsIn K mainGlobals "abs" = some none) (z4:PySem.W.nsIn K mainGlobals "int" = some none) (z5:PySem.W.nsIn K mainGlobals "max" = some none) (z6:PySem.W.nsIn K mainGlobals "min" = some none) (z7:PySem.W.nsIn K mainGlobals "list" = some none) (z8:PySem.W.nsIn K mainGlobals "repr" = some none) (z9:PySem.W.nsIn K mainGlobals "enumerate" = some none) (z10:PySem.W.nsIn K mainGlobals "isinstance" = some none) (z11:PySem.W.nsIn K mainGlobals "bool" = some none) (z12:PySem.W.nsIn K mainGlobals "tuple" = some none) (z13:PySem.W.nsIn K mainGlobals "str" = some none) (z14:PySem.W.nsIn K mainGlobals "all" = some none) (z15:PySem.W.nsIn K mainGlobals "zip" = some none) (z16:PySem.W.nsIn K mainGlobals "set" = some none) :
  ∃fd:FuncData,(∀(s:Shared) (v:Value),BindsTo s fd ⟨[v],[]⟩ [("_law_script",v)]) /\ ∀base:Heap,K.In base->base.Ns mainGlobals mg->FnOk l.prog w K mg base CX0 9 fa fd ["_law_script"] (qNy K):=by
 have e:=hfa.symm.trans (cH X G a33);cases e;have nrange:=aX X G z1;have nlen:=aX X G z2;have nabs:=aX X G z3;have nint:=aX X G z4;have nmax:=aX X G z5;have nmin:=aX X G z6;have nlist:=aX X G z7;have nrepr:=aX X G z8;have nenumerate:=aX X G z9;have nisinstance:=aX X G z10;have nbool:=aX X G z11;have ntuple:=aX X G z12;have nstr:=aX X G z13;have nall:=aX X G z14;have nzip:=aX X G z15;have nset:=aX X G z16;have hDp:=cH X G u0
 have hEb:=cH X G u1;have hRp:=cH X G u2;have hBh:=cH X G u3;have hBx:=cH X G i0;have hMf:=cH X G i1;have hGr:=cH X G i2;have hFg:=cH X G j0;have FL:=qQ7 (st:=sLaw) l33 c33 k33;refine⟨PySem.W.fnOf "law" "law" (qAe sLaw) (qAb sLaw) (qA7 sLaw) .none kV33 dc33 pm33 an33 cd33 ct33,λs v =>.of_eq rfl,λbase _ _=>?_⟩;have htape:Has l.prog w K mg base "_law_tape" 1 ["_law_script","_law_k"] (qLk K):=qAu (st:=sTape) X G a1 l1 c1 k1 (λ_ _ _ _ _ _ us hl=>by obtain⟨_,_,rfl⟩:=qCn hl;rfl) λ_ F=>qR1 F nlen nabs nint;have hdraw:Has l.prog w K mg base "_law_draw" 1 ["_law_tape_here","_law_many_here"] qCl:=qAu (st:=sDraw) X G a2 l2 c2 k2 (λ_ _ _ _ _ _ us hl=>by obtain⟨_,_,rfl⟩:=qCn hl;rfl) λ_ F=>qR6 F
 have hnexts:Has l.prog w K mg base "_law_nexts" 2 ["_law_tape_here","_law_many_here"] (qG2 K):=qAu (st:=qFb) X G a3 l3 c3 k3 (λ_ _ _ _ _ _ us hl=>by obtain⟨_,_,rfl⟩:=qCn hl;rfl) λ_ F=>qOw F nrange nmax hdraw;have hnumber:Has l.prog w K mg base "_law_number" 2 ["_law_tape_here"] qG1:=qAu (st:=qDm) X G a4 l4 c4 k4 (λ_ _ _ _ _ _ us hl=>by obtain⟨_,rfl⟩:=qBq hl;rfl) λ_ F=>qMf F hdraw;have hdeeds:Has l.prog w K mg base "_law_deeds" 3 ["_law_tape_here","_law_most","_law_boxes","_law_first","_law_works_here"] (qE3 K):=qAu (st:=qFg) X G a5 l5 c5 k5 (λ_ _ _ _ _ _ us hl=>by obtain⟨_,_,_,_,_,rfl⟩:=qQ5 hl;rfl) λ_ F=>qP1 F nrange nint nlen hdraw hnumber;have hwork:Has l.prog w K mg base "_law_work" 4 ["_law_tape_here","_law_many_here","_law_most","_law_first","_law_works_here"] (qI6 K):=qAu (st:=sWork) X G a6 l6 c6 k6 (λ_ _ _ _ _ _ us hl=>by obtain⟨_,_,_,_,_,rfl⟩:=qQ5 hl;rfl) λ_ F=>qQz F nrange nlist nlen hdraw hnexts hdeeds
 have hmany:Has l.prog w K mg base "_law_many" 2 ["_law_tape_here"] qLm:=qAu (st:=sMany) X G a7 l7 c7 k7 (λ_ _ _ _ _ _ us hl=>by obtain⟨_,rfl⟩:=qBq hl;rfl) λ_ F=>qR4 F nint hdraw;have hworks:Has l.prog w K mg base "_law_works" 5 ["_law_tape_here","_law_most"] (qG0 K):=qAu (st:=qF6) X G a8 l8 c8 k8 (λ_ _ _ _ _ _ us hl=>by obtain⟨_,_,rfl⟩:=qCn hl;rfl) λ_ F=>qOr F nrange nint hdraw hmany hwork;have hwith_moves:Has l.prog w K mg base "_law_with_moves" 2 ["_law_tape_here","_law_works_here"] (qG3 K):=qAu (st:=qFc) X G a9 l9 c9 k9 (λ_ _ _ _ _ _ us hl=>by obtain⟨_,_,rfl⟩:=qCn hl;rfl) λ_ F=>qOx F nrange nlist nlen hdraw;have hled_to:Has l.prog w K mg base "led_to" 1 ["starts","nexts"] (qQe K):=qAu (st:=sLed) X G a10 l10 c10 k10 (λ_ _ _ _ _ _ us hl=>by obtain⟨_,_,rfl⟩:=qCn hl;rfl) λ_ F=>qSf F nlist
 have hnexts_of:Has l.prog w K mg base "nexts_of" 1 ["work"] (qT2 K):=qAu (st:=sNx) X G a11 l11 c11 k11 (λ_ _ _ _ _ _ us hl=>by obtain⟨_,rfl⟩:=qBq hl;rfl) λ_ F=>qT7 F nlist nenumerate;have his_number:Has l.prog w K mg base "is_number" 1 ["thing"] qG6:=qAu (st:=qFd) X G a12 l12 c12 k12 (λ_ _ _ _ _ _ us hl=>by obtain⟨_,rfl⟩:=qBq hl;rfl) λ_ F=>qOy F nisinstance nint nbool;have his_number_from:Has l.prog w K mg base "is_number_from" 2 ["thing","low","beyond"] qE2:=qAu (st:=qDp) X G a13 l13 c13 k13 (λ_ _ _ _ _ _ us hl=>by obtain⟨_,_,_,rfl⟩:=qMs hl;rfl) λ_ F=>qMi F his_number;have hhas_word:Has l.prog w K mg base "has_word" 1 ["thing"] (qDe K):=qAu (st:=qCx) X G a14 l14 c14 k14 (λ_ _ _ _ _ _ us hl=>by obtain⟨_,rfl⟩:=qBq hl;rfl) λ_ F=>qKm F nisinstance ntuple nstr nlen
 have his_part:Has l.prog w K mg base "is_part" 3 ["thing","kind","works"] qG5:=qAu (st:=qDo) X G a15 l15 c15 k15 (λ_ _ _ _ _ _ us hl=>by obtain⟨_,_,_,rfl⟩:=qMs hl;rfl) λ_ F=>qMh F hBx his_number his_number_from;have his_deed:Has l.prog w K mg base "is_deed" 4 ["thing","works"] (qG7 K):=qAu (st:=qDq) X G a16 l16 c16 k16 (λ_ _ _ _ _ _ us hl=>by obtain⟨_,_,rfl⟩:=qCn hl;rfl) λ_ F=>qMj F nlen nall nzip hDp v0 hhas_word his_part;have his_end:Has l.prog w K mg base "is_end" 3 ["thing","many"] (qI9 K):=qAu (st:=qFe) X G a17 l17 c17 k17 (λ_ _ _ _ _ _ us hl=>by obtain⟨_,_,rfl⟩:=qCn hl;rfl) λ_ F=>qOz F nlen nall nset hEb v1 hhas_word his_number_from;have his_block:Has l.prog w K mg base "is_block" 5 ["thing","many","works"] (qEg K):=qAu (st:=qCw) X G a18 l18 c18 k18 (λ_ _ _ _ _ _ us hl=>by obtain⟨_,_,_,rfl⟩:=qMs hl;rfl) λ_ F=>qKl F nisinstance ntuple nlist nlen nall his_end his_deed
 have his_work:Has l.prog w K mg base "is_work" 6 ["thing","works"] (qG4 K):=qAu (st:=qDn) X G a19 l19 c19 k19 (λ_ _ _ _ _ _ us hl=>by obtain⟨_,_,rfl⟩:=qCn hl;rfl) λ_ F=>qMg F nisinstance nlist nlen nall his_block hled_to hnexts_of;have hare_works:Has l.prog w K mg base "are_works" 7 ["thing"] (qDl K):=qAu (st:=qC5) X G a20 l20 c20 k20 (λ_ _ _ _ _ _ us hl=>by obtain⟨_,rfl⟩:=qBq hl;rfl) λ_ F=>qIe F nisinstance nlist nlen nall his_work;have hrow_of:Has l.prog w K mg base "row_of" 1 ["part"] (qI7 K):=qAu (st:=qF7) X G a21 l21 c21 k21 (λ_ _ _ _ _ _ us hl=>by obtain⟨_,rfl⟩:=qBq hl;rfl) λ_ F=>qOs F nstr;have hworks_text:Has l.prog w K mg base "works_text" 2 ["works"] (qLj K):=qAu (st:=sText) X G a22 l22 c22 k22 (λ_ _ _ _ _ _ us hl=>by obtain⟨_,rfl⟩:=qBq hl;rfl) λ_ F=>qR0 F hrow_of
 have hread_figures:Has l.prog w K mg base "read_figures" 1 ["word","most"] qDf:=qAu (st:=sFig) X G a23 l23 c23 k23 (λ_ _ _ _ _ _ us hl=>by obtain⟨_,_,rfl⟩:=qCn hl;rfl) λ_ F=>qSh F nlen nall nint hFg;have hread_number:Has l.prog w K mg base "read_number" 2 ["word"] qIy:=qAu (st:=sNumb) X G a24 l24 c24 k24 (λ_ _ _ _ _ _ us hl=>by obtain⟨_,rfl⟩:=qBq hl;rfl) λ_ F=>qR3 F hMf hread_figures;have hread_box:Has l.prog w K mg base "read_box" 3 ["word"] qLo:=qAu (st:=sBoxR) X G a25 l25 c25 k25 (λ_ _ _ _ _ _ us hl=>by obtain⟨_,rfl⟩:=qBq hl;rfl) λ_ F=>qR7 F hBx hread_number;have hread_held:Has l.prog w K mg base "read_held" 2 ["word"] qIa:=qAu (st:=qFf) X G a26 l26 c26 k26 (λ_ _ _ _ _ _ us hl=>by obtain⟨_,rfl⟩:=qBq hl;rfl) λ_ F=>qP0 F nlen nstr hGr hread_figures
 have hread_part:Has l.prog w K mg base "read_part" 4 ["word","kind"] qI8:=qAu (st:=qFa) X G a27 l27 c27 k27 (λ_ _ _ _ _ _ us hl=>by obtain⟨_,_,rfl⟩:=qCn hl;rfl) λ_ F=>qOv F hread_number hread_box hread_held;have hread_row:Has l.prog w K mg base "read_row" 5 ["row"] qEf:=qAu (st:=qCv) X G a28 l28 c28 k28 (λ_ _ _ _ _ _ us hl=>by obtain⟨_,rfl⟩:=qBq hl;rfl) λ_ F=>qKk F nlen nzip ntuple hRp v2 hread_part;have hkind_of:Has l.prog w K mg base "kind_of" 1 ["first"] qLn:=qAu (st:=sKind) X G a29 l29 c29 k29 (λ_ _ _ _ _ _ us hl=>by obtain⟨_,rfl⟩:=qBq hl;rfl) λ_ F=>qR5 F hBh v3 hEb v1;have hread_blocks:Has l.prog w K mg base "read_blocks" 6 ["rows"] (qCk K):=qAu (st:=qF9) X G a30 l30 c30 k30 (λ_ _ _ _ _ _ us hl=>by obtain⟨_,rfl⟩:=qBq hl;rfl) λ_ F=>qOu F nenumerate hBh v3 hread_row hkind_of
 have hread_works:Has l.prog w K mg base "read_works" 8 ["text"] qD7:=qAu (st:=qF8) X G a31 l31 c31 k31 (λ_ _ _ _ _ _ us hl=>by obtain⟨_,rfl⟩:=qBq hl;rfl) λ_ F=>qOt F hread_blocks hare_works;have hrows:Has l.prog w K mg base "_law_rows" 1 ["_law_works_here"] (qLl K):=qAu (st:=sRows) X G a32 l32 c32 k32 (λ_ _ _ _ _ _ us hl=>by obtain⟨_,rfl⟩:=qBq hl;rfl) λ_ F=>qR2 F nstr;exact qSg FL nrange nlen nmax nmin nrepr htape hdraw hworks hwith_moves hrows hworks_text hread_works
theorem walk{l:PySem.W.OpenLaw}{q:Program}{loose:List Str}{XP:(Str->Option Value)->Heap->Prop}{YP:World->Heap->Prop}{d:DefRec}{K:Params->PySem.W.Frag}(hn:l.most=some 63)(hdf:d.params.defaults = [])(hY:∀(w:World) (h:Heap),YP w h->(K w.params).In h)(F:∀(w:World) (mg:Str->Option Value) (fa:Addr) (h:Heap),(K w.params).In h->h.Ns mainGlobals mg->mg d.name=some (.ref fa) ->
   ∃fd:FuncData,(∀(s:Shared) (u:Value),BindsTo s fd ⟨[u],[]⟩ [("_law_script",u)]) /\ ∀base:Heap,(K w.params).In base->base.Ns mainGlobals mg->FnOk l.prog w (K w.params) mg base CX0 9 fa fd ["_law_script"] (qNy (K w.params))) :
  PySem.W.WalkO q loose XP YP l.row.toRowW d [] (λf vs=>PySem.call f vs) :=
 L2.qQc (n:=63) (k:=9) (x := "_law_script") (CX:=λ_=>CX0) (sp:=λw=>qNy (K w.params)) hn (by decide) hdf ⟨rfl,by decide,by decide,rfl⟩ hY F (λ_ _ a ns hl _ hS=>⟨a,ns,rfl,hS,hl,λ_=>rfl⟩) λ_ _ _ _ _ z=>z
end Fs
open PySem PySem.W PyProof.Rows
namespace PySem.W.Fast
def tw18054134138007605310:=0
def tw13002038611382805727:=0
def tw18403947613808687338:=0
def tw12442939936505250871:=0
def tw436759150878714693:=0
def tw12882903150316932068:=0
def tw13254842107298262392:=0
def tw3501837113303973511:=0
def tw15703329285124083503:=0
def tw4376047139796385223:=0
def tw14593610643484354278:=0
def tw13416217730695175161:=0
def tw9194133787178148868:=0
def tw16780061466293401445:=0
def tw8551227989784242363:=0
def tw13591429745544185356:=0
def tw10661920128780019767:=0
def tw15477834432429381336:=0
def tw5300281388236503303:=0
def tw14243827790779520350:=0
def tw5110606235991517718:=0
def tw7999579643099033995:=0
def tw3790265520336315575:=0
def tw7177810625303478967:=0
def tw8635155207867442797:=0
def tw9897830721210231495:=0
def tw7224886858560341018:=0
def tw10750844801040139632:=0
def tw11134108471786846339:=0
def tw6275448873948218344:=0
def tw8212138481837406179:=0
def tw6660108731569214846:=0
def tw3964600213105054763:=0
def tw5619878072193381662:=0
def tw16055899827562236546:=0
def tw18086947025445577757:=0
def tw4506110871454333216:=0
def tw5921179479498756629:=0
def tw16226429703159503220:=0
def tw8611480353569719055:=0
def tw16920504647733494671:=0
def tw7407713891897148674:=0
def tw184563260323162630:=0
def tw6423523090414557814:=0
def tw1431932762475761481:=0
def tw2672993366326377098:=0
def tw11508810208394299146:=0
def tw1790382621684082192:=0
def tw6008451436606564466:=0
def tw18410014263769228951:=0
def tw13572086306438493893:=0
def tw10107285613422742558:=0
def tw6924614719591379629:=0
def tw17632124172048681662:=0
def tw1406131035709231795:=0
def tw154963837654647005:=0
def tw3586778701164740742:=0
def tw18081746132767716065:=0
def tw9027775877495674611:=0
def tw14261583055474767174:=0
def tw11326927150650957614:=0
def tw12171209271502751792:=0
def tw14715902926847651030:=0
def tw16667491769917611436:=0
def tw11009531937209688644:=0
def tw2546899833520972348:=0
def tw10752812813784174738:=0
def tw10672516418910154997:=0
def tw4109759434554272230:=0
def tw7001497768985760697:=0
def tw1125489687904784707:=0
def tw10855773268796619059:=0
def tw15884383362341856244:=0
def tw1674372703119205058:=0
def tw5371802000900956951:=0
def tw11340447900315359389:=0
def tw6093565446819823472:=0
def tw7935442316244873302:=0
def tw1410067087931777785:=0
def tw4676301599595231357:=0
def tw13132868437861029401:=0
def tw9501403638093925471:=0
def tw14081760979595627101:=0
def tw8335833371423837936:=0
def tw14509380471264571548:=0
def tw1537096611781920668:=0
def tw4646596998882924680:=0
def tw2887693170193197632:=0
def tw17021398353926069168:=0
def tw1966782454154343429:=0
def tw2341824111966423915:=0
def tw6501227072145846924:=0
def tw924159126371670079:=0
def tw15489002151020592876:=0
def tw5609739632927143121:=0
def tw6775691588852550753:=0
def tw1453402299848741017:=0
def tw375214893918028101:=0
def tw10112010537926202937:=0
def tw1341878395777062371:=0
def tw4926137348171688957:=0
def tw15983684370067145868:=0
def tw14732063887252112416:=0
def tw16664631490204616704:=0
def tw7232114506161237295:=0
def tw6501278356841781873:=0
def tw4448177696846606662:=0
def tw9536896851761069547:=0
def tw9107610985961758579:=0
def tw12046656240853632656:=0
def tw8468155869927077674:=0
def tw5075389339807972951:=0
def tw12652777102630195918:=0
def tw2015009266021984542:=0
def tw15534588770614212723:=0
def tw2420478713396539496:=0
def tw10909198883319758146:=0
def tw2228229062697005366:=0
def tw11861750110184185292:=0
def tw9651572354527838986:=0
def tw5452151364197039135:=0
def tw5366673341278117045:=0
def tw3097769790363891085:=0
def tw15538373524949454080:=0
def tw8061849273351712376:=0
def tw7184331700455251911:=0
def tw14971574059017222773:=0
def tw14556196913400955264:=0
def tw93393427451383465:=0
def tw12634603897551886011:=0
def tw14434883382296731231:=0
def tw8271275191505994686:=0
def tw6506915512714202021:=0
def tw16760702535059694734:=0
def tw4801743125847122025:=0
def tw12145005143658993702:=0
def tw11864351781518784165:=0
def tw9559920831227251925:=0
def tw16742148820041486847:=0
def tw3720203054175179366:=0
def tw1682776040813800862:=0
def tw16761424584098681538:=0
def tw8378034197432051490:=0
def tw5841171709051980530:=0
def tw17229600612719655962:=0
def tw7746193063471045386:=0
def tw17931202338409658062:=0
def tw13172101402784004735:=0
def tw7518477403900380152:=0
def tw559539148908083168:=0
def tw4284750991005617152:=0
def tw15751009935628807215:=0
def tw8797898955406519637:=0
def tw18062081098768576282:=0
def tw917926898813297278:=0
def tw3177492135062807427:=0
def tw15115560082645326717:=0
def tw2235143208936762622:=0
def tw7605336039542352339:=0
def tw5878040096478283886:=0
def tw6215112236931911614:=0
def tw17058406727328340871:=0
def tw1427353728292679212:=0
def tw12666590419960509797:=0
def tw11356689477964135207:=0
def tw8754346550579510759:=0
def tw8321907885069420451:=0
def tw10074374774501425242:=0
def tw17141210403068068850:=0
def tw797711384600946348:=0
def tw3196408163559701428:=0
def tw2190394144265245519:=0
def tw12032385107865947703:=0
def tw13863712020119440859:=0
def tw8854462471536414101:=0
def tw4494251514743612142:=0
def tw16443756145237527757:=0
def tw4083309383281538249:=0
def tw14025879052806093192:=0
def tw874431426759282062:=0
def tw18384833016112812592:=0
def tw6613137489601768831:=0
def tw18222875036915825598:=0
def tw18220913227150229510:=0
def tw5695581955824876795:=0
def tw9260169659720521616:=0
def tw6109198507203285424:=0
def tw952407183969023649:=0
def tw8389134836891105382:=0
def tw5901336424398711478:=0
def tw9491968890764607230:=0
def tw8118369171536997916:=0
def tw5910168408243248585:=0
def tw2704968255696502080:=0
def tw6525225311222478581:=0
def tw6537152606176881564:=0
def tw16296156988593013692:=0
def tw10112714883975668597:=0
def tw12654975204479085519:=0
def tw17810992367837335297:=0
def tw13327859051167982128:=0
def tw13961220386347189520:=0
def tw5110328781741088215:=0
def tw8998403337528319701:=0
def tw4942980448971631368:=0
def tw8786384360491461220:=0
def tw308578551053543702:=0
def tw10195039117926300381:=0
def tw5614792877016632862:=0
def tw16828401955632009350:=0
def tw1076697677062798858:=0
def tw2676694847162629947:=0
def tw6702611319850748477:=0
def tw16936412453639428659:=0
def tw16865972021226973117:=0
def tw11170001336608109777:=0
def tw16321312379646502685:=0
def tw6850731544733960855:=0
def tw8996576405511605652:=0
def tw14736094676819780726:=0
def tw1394101018728721717:=0
def tw13238346596007760451:=0
def tw12905110497561243631:=0
def tw6156707792793614581:=0
def tw3065479332854199128:=0
def tw4842554936775004056:=0
def tw12762380062997642787:=0
def tw15177025311265418864:=0
def tw1656643012180255804:=0
def tw7275433559596534911:=0
def tw16987714452584597436:=0
def tw13494841249441616545:=0
def tw6761894845650214808:=0
def tw10117217727055337684:=0
def tw17130423757382030613:=0
def tw3802245565686613539:=0
def tw1985635677931069805:=0
def tw5525555026700536212:=0
def tw18423905871565342899:=0
def tw13615335089722458329:=0
def tw16145928434375105283:=0
def tw10492471192738737668:=0
def tw11044338979188813808:=0
def tw9686105896666316170:=0
def tw4313807897249687998:=0
def tw5266251520535497468:=0
def tw14433161808271585113:=0
def tw13722003979652431635:=0
def tw3838746296375343131:=0
def tw840589514088200138:=0
def tw9414033791292621214:=0
def tw5800773907878040083:=0
def tw850465174846228940:=0
def tw8428001933985678017:=0
def tw14507526853991822263:=0
def tw4300109404582826480:=0
def tw6895703940844012095:=0
def tw271446234224532766:=0
def tw10925566343064689863:=0
def tw14723966356150094011:=0
def tw4805375826142877153:=0
def tw17380482313035741301:=0
def tw4189939933750265399:=0
def tw3775628380578558698:=0
def tw8728447432319021464:=0
def tw11927613987576313198:=0
def tw6296278354131422347:=0
def tw2154956377096812810:=0
def tw17523915566014425235:=0
def tw13148809818568351816:=0
def tw16492905925607813599:=0
end PySem.W.Fast
set_option maxRecDepth 100000 in
set_option maxHeartbeats 0 in
theorem PySem.Challenge.cw_fewsaves_k50_works_written_holds : PySem.Challenge.rw_fewsaves_k50_works_written.Holds := by
 w_on;o_law;k_head;(case hw=>w_witness2)
 k_fill
 refine Fs.walk (l:=PySem.Challenge.rw_fewsaves_k50_works_written) rfl rfl (λw h Y=>PySem.W.kIn_of Y) ?F
 case F =>
  intro w mg fa h KX G hmg
  refine' Fs.qSv KX G hmg ?a1 ?l1 ?c1 ?k1 ?a2 ?l2 ?c2 ?k2 ?a3 ?l3 ?c3 ?k3 ?a4 ?l4 ?c4 ?k4 ?a5 ?l5 ?c5 ?k5 ?a6 ?l6 ?c6 ?k6 ?a7 ?l7 ?c7 ?k7 ?a8 ?l8 ?c8 ?k8 ?a9 ?l9 ?c9 ?k9 ?a10 ?l10 ?c10 ?k10 ?a11 ?l11 ?c11 ?k11 ?a12 ?l12 ?c12 ?k12 ?a13 ?l13 ?c13 ?k13 ?a14 ?l14 ?c14 ?k14 ?a15 ?l15 ?c15 ?k15 ?a16 ?l16 ?c16 ?k16 ?a17 ?l17 ?c17 ?k17 ?a18 ?l18 ?c18 ?k18 ?a19 ?l19 ?c19 ?k19 ?a20 ?l20 ?c20 ?k20 ?a21 ?l21 ?c21 ?k21 ?a22 ?l22 ?c22 ?k22 ?a23 ?l23 ?c23 ?k23 ?a24 ?l24 ?c24 ?k24 ?a25 ?l25 ?c25 ?k25 ?a26 ?l26 ?c26 ?k26 ?a27 ?l27 ?c27 ?k27 ?a28 ?l28 ?c28 ?k28 ?a29 ?l29 ?c29 ?k29 ?a30 ?l30 ?c30 ?k30 ?a31 ?l31 ?c31 ?k31 ?a32 ?l32 ?c32 ?k32 ?a33 ?l33 ?c33 ?k33 ?u0 ?v0 ?u1 ?v1 ?u2 ?v2 ?u3 ?v3 ?i0 ?i1 ?i2 ?j0 ?z1 ?z2 ?z3 ?z4 ?z5 ?z6 ?z7 ?z8 ?z9 ?z10 ?z11 ?z12 ?z13 ?z14 ?z15 ?z16
  (case a1=>k_is)
  (case l1=>k_is)
  (case c1=>k_is)
  (case k1=>k_is)
  (case a2=>k_is)
  (case l2=>k_is)
  (case c2=>k_is)
  (case k2=>k_is)
  (case a3=>k_is)
  (case l3=>k_is)
  (case c3=>k_is)
  (case k3=>k_is)
  (case a4=>k_is)
  (case l4=>k_is)
  (case c4=>k_is)
  (case k4=>k_is)
  (case a5=>k_is)
  (case l5=>k_is)
  (case c5=>k_is)
  (case k5=>k_is)
  (case a6=>k_is)
  (case l6=>k_is)
  (case c6=>k_is)
  (case k6=>k_is)
  (case a7=>k_is)
  (case l7=>k_is)
  (case c7=>k_is)
  (case k7=>k_is)
  (case a8=>k_is)
  (case l8=>k_is)
  (case c8=>k_is)
  (case k8=>k_is)
  (case a9=>k_is)
  (case l9=>k_is)
  (case c9=>k_is)
  (case k9=>k_is)
  (case a10=>k_is)
  (case l10=>k_is)
  (case c10=>k_is)
  (case k10=>k_is)
  (case a11=>k_is)
  (case l11=>k_is)
  (case c11=>k_is)
  (case k11=>k_is)
  (case a12=>k_is)
  (case l12=>k_is)
  (case c12=>k_is)
  (case k12=>k_is)
  (case a13=>k_is)
  (case l13=>k_is)
  (case c13=>k_is)
  (case k13=>k_is)
  (case a14=>k_is)
  (case l14=>k_is)
  (case c14=>k_is)
  (case k14=>k_is)
  (case a15=>k_is)
  (case l15=>k_is)
  (case c15=>k_is)
  (case k15=>k_is)
  (case a16=>k_is)
  (case l16=>k_is)
  (case c16=>k_is)
  (case k16=>k_is)
  (case a17=>k_is)
  (case l17=>k_is)
  (case c17=>k_is)
  (case k17=>k_is)
  (case a18=>k_is)
  (case l18=>k_is)
  (case c18=>k_is)
  (case k18=>k_is)
  (case a19=>k_is)
  (case l19=>k_is)
  (case c19=>k_is)
  (case k19=>k_is)
  (case a20=>k_is)
  (case l20=>k_is)
  (case c20=>k_is)
  (case k20=>k_is)
  (case a21=>k_is)
  (case l21=>k_is)
  (case c21=>k_is)
  (case k21=>k_is)
  (case a22=>k_is)
  (case l22=>k_is)
  (case c22=>k_is)
  (case k22=>k_is)
  (case a23=>k_is)
  (case l23=>k_is)
  (case c23=>k_is)
  (case k23=>k_is)
  (case a24=>k_is)
  (case l24=>k_is)
  (case c24=>k_is)
  (case k24=>k_is)
  (case a25=>k_is)
  (case l25=>k_is)
  (case c25=>k_is)
  (case k25=>k_is)
  (case a26=>k_is)
  (case l26=>k_is)
  (case c26=>k_is)
  (case k26=>k_is)
  (case a27=>k_is)
  (case l27=>k_is)
  (case c27=>k_is)
  (case k27=>k_is)
  (case a28=>k_is)
  (case l28=>k_is)
  (case c28=>k_is)
  (case k28=>k_is)
  (case a29=>k_is)
  (case l29=>k_is)
  (case c29=>k_is)
  (case k29=>k_is)
  (case a30=>k_is)
  (case l30=>k_is)
  (case c30=>k_is)
  (case k30=>k_is)
  (case a31=>k_is)
  (case l31=>k_is)
  (case c31=>k_is)
  (case k31=>k_is)
  (case a32=>k_is)
  (case l32=>k_is)
  (case c32=>k_is)
  (case k32=>k_is)
  (case a33=>k_is)
  (case l33=>k_is)
  (case c33=>k_is)
  (case k33=>k_is)
  (case u0=>k_is)
  (case v0=>(refine' L2.qOp (L2.qIw ?zq1sm ?zq1hl ?zq1hx ?zq1hd ?zq1hr) ?zq1t0 ?zq1t1 ?zq1t2 ?zq1t3 ?zq1t4 ?zq1t5;(case zq1sm=>decide);(case zq1hl=>k_is);(case zq1hx=>exact⟨rfl,rfl,rfl⟩);(case zq1hd=>rfl);(case zq1hr=>exact (.cons rfl rfl (.cons rfl rfl (.cons rfl rfl (.cons rfl rfl (.cons rfl rfl (.cons rfl rfl .nil)))))));(case zq1t0=>exact⟨_,_,_,by k_is,rfl,rfl,by decide,(.cons ⟨_,rfl⟩ (.cons ⟨_,rfl⟩ .nil))⟩);(case zq1t1=>exact⟨_,_,_,by k_is,rfl,rfl,by decide,(.cons ⟨_,rfl⟩ (.cons ⟨_,rfl⟩ .nil))⟩);(case zq1t2=>exact⟨_,_,_,by k_is,rfl,rfl,by decide,(.cons ⟨_,rfl⟩ .nil)⟩);(case zq1t3=>exact⟨_,_,_,by k_is,rfl,rfl,by decide,(.cons ⟨_,rfl⟩ .nil)⟩);(case zq1t4=>exact⟨_,_,_,by k_is,rfl,rfl,by decide,(.cons ⟨_,rfl⟩ .nil)⟩);(case zq1t5=>exact⟨_,_,_,by k_is,rfl,rfl,by decide,(.cons ⟨_,rfl⟩ .nil)⟩)))
  (case u1=>k_is)
  (case v1=>(refine' L2.qIw ?zq2sm ?zq2hl ?zq2hx ?zq2hd ?zq2hr;(case zq2sm=>decide);(case zq2hl=>k_is);(case zq2hx=>exact⟨rfl,rfl,rfl⟩);(case zq2hd=>rfl);(case zq2hr=>exact (.cons rfl ⟨_,rfl⟩ (.cons rfl ⟨_,rfl⟩ (.cons rfl ⟨_,rfl⟩ .nil))))))
  (case u2=>k_is)
  (case v2=>(refine' L2.qLs (L2.qIw ?zq3sm ?zq3hl ?zq3hx ?zq3hd ?zq3hr) ?zq3t0 ?zq3t1 ?zq3t2 ?zq3t3 ?zq3t4 ?zq3t5 ?zq3t6 ?zq3t7 ?zq3t8 ?zq3t9 ?zq3t10;(case zq3sm=>decide);(case zq3hl=>k_is);(case zq3hx=>exact⟨rfl,rfl,rfl⟩);(case zq3hd=>rfl);(case zq3hr=>exact (.cons rfl rfl (.cons rfl rfl (.cons rfl rfl (.cons rfl rfl (.cons rfl rfl (.cons rfl rfl (.cons rfl rfl (.cons rfl rfl (.cons rfl rfl (.cons rfl rfl (.cons rfl rfl .nil))))))))))));(case zq3t0=>exact⟨_,_,_,by k_is,rfl,rfl,by decide,.nil⟩);(case zq3t1=>exact⟨_,_,_,by k_is,rfl,rfl,by decide,.nil⟩);(case zq3t2=>exact⟨_,_,_,by k_is,rfl,rfl,by decide,(.cons ⟨_,rfl⟩ (.cons ⟨_,rfl⟩ .nil))⟩);(case zq3t3=>exact⟨_,_,_,by k_is,rfl,rfl,by decide,(.cons ⟨_,rfl⟩ (.cons ⟨_,rfl⟩ .nil))⟩);(case zq3t4=>exact⟨_,_,_,by k_is,rfl,rfl,by decide,(.cons ⟨_,rfl⟩ .nil)⟩);(case zq3t5=>exact⟨_,_,_,by k_is,rfl,rfl,by decide,(.cons ⟨_,rfl⟩ .nil)⟩);(case zq3t6=>exact⟨_,_,_,by k_is,rfl,rfl,by decide,(.cons ⟨_,rfl⟩ .nil)⟩);(case zq3t7=>exact⟨_,_,_,by k_is,rfl,rfl,by decide,(.cons ⟨_,rfl⟩ .nil)⟩);(case zq3t8=>exact⟨_,_,_,by k_is,rfl,rfl,by decide,.nil⟩);(case zq3t9=>exact⟨_,_,_,by k_is,rfl,rfl,by decide,(.cons ⟨_,rfl⟩ .nil)⟩);(case zq3t10=>exact⟨_,_,_,by k_is,rfl,rfl,by decide,(.cons ⟨_,rfl⟩ (.cons ⟨_,rfl⟩ .nil))⟩)))
  (case u3=>k_is)
  (case v3=>(refine' L2.qNo (L2.qIw ?zq4sm ?zq4hl ?zq4hx ?zq4hd ?zq4hr) ?zq4t0 ?zq4t1 ?zq4t2 ?zq4t3;(case zq4sm=>decide);(case zq4hl=>k_is);(case zq4hx=>exact⟨rfl,rfl,rfl⟩);(case zq4hd=>rfl);(case zq4hr=>exact (.cons rfl rfl (.cons rfl rfl (.cons rfl rfl (.cons rfl rfl .nil)))));(case zq4t0=>exact⟨_,_,_,by k_is,rfl,rfl,by decide,(.cons ⟨_,rfl⟩ (.cons ⟨_,rfl⟩ .nil))⟩);(case zq4t1=>exact⟨_,_,_,by k_is,rfl,rfl,by decide,(.cons ⟨_,rfl⟩ (.cons ⟨_,rfl⟩ .nil))⟩);(case zq4t2=>exact⟨_,_,_,by k_is,rfl,rfl,by decide,(.cons ⟨_,rfl⟩ (.cons ⟨_,rfl⟩ .nil))⟩);(case zq4t3=>exact⟨_,_,_,by k_is,rfl,rfl,by decide,(.cons ⟨_,rfl⟩ (.cons ⟨_,rfl⟩ .nil))⟩)))
  (case i0=>k_is)
  (case i1=>k_is)
  (case i2=>k_is)
  (case j0=>k_is)
  (case z1=>k_is)
  (case z2=>k_is)
  (case z3=>k_is)
  (case z4=>k_is)
  (case z5=>k_is)
  (case z6=>k_is)
  (case z7=>k_is)
  (case z8=>k_is)
  (case z9=>k_is)
  (case z10=>k_is)
  (case z11=>k_is)
  (case z12=>k_is)
  (case z13=>k_is)
  (case z14=>k_is)
  (case z15=>k_is)
  (case z16=>k_is)
