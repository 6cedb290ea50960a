import PyProof.Rows.All
import Wide.All
import OpenK.AllK
import Wide.FinOn
import Lean
import PyProof.EqAt
import PyProof.EqKinds
import PyProof.TupleCall
import PySem.Challenge.RW_fewsaves_k24_homes_and_splits
import PyProof.CollectWalk
import PyProof.DictItems
import KE.KItemsList
set_option Elab.async false
set_option linter.all false
set_option maxRecDepth 100000
set_option compiler.extract_closed false
set_option genInjectivity false
set_option genSizeOfSpec false
open PySem renaming wpAny_bind->aA,wpAny_pure->aC,wpAny_holding->bT,boot_len->cD,wpAny_setState_of->cO,wpAny_call_entry->cX,wpAny_newObj_type->cZ,wpAny_rule->dA,wpAny_mono->dE,wpAny_askSetting->dY,mem_of_lookup->eJ,wpAny_standAt->eO,sizeLine_eq->fE,codeAny_builtin->fG,tupleKind_room_in1->fN,wpAny_truthy_bool->fW,wpAny_passesOwn->fX,fits_of_scanBound->gB,wpAny_newList->gE,wpAny_setField->gI,wpAny_eqBool_int->gW,codeAny_mono->iA
open List renaming length_map->aB,getElem?_eq_getElem->aF,length_append->aG,getElem?_eq_some_iff->aI,mem_append->aM,map_append->aN,mem_of_getElem?->aO,size_toArray->aP,mem_singleton->aQ,mem_cons_self->aR,mem_cons_of_mem->aS,mem_cons->aT,length_take->aV,getElem?_map->aW,take_length->bE,map_cons->bG,mem_map->bH,getD_eq_getElem?_getD->bK,mem_range->bL,mem_append_right->bM,getElem_of_mem->bN,mem_append_left->bO,pairwise_append->bP,pairwise_iff_getElem->bQ,length_filter_le->bS,append_assoc->bU,length_range->bV,append_nil->bW,length_cons->bY,mem_filter->cE,filterMap_cons->cF,take_of_length_le->cI,length_drop->cJ,any_eq_true->cK,mem_filterMap->cP,filter_append->cR,length_singleton->cT,map_map->cU,take_append_drop->cV,take_add_one->dB,mem_flatMap->dH,getElem?_eq_none->dJ,pairwise_cons->dQ,length_range'->dR,getElem_mem->dZ,getElem?_append_right->eD,drop_of_length_le->eE,length_eq_one_iff->eI,nodup_append->eM,length_filterMap_le->eV,pairwise_map->fB,flatMap_cons->fD,pairwise_lt_range->fI,filter_cons->fL,filterMap_append->fQ,getElem?_append_left->fS,nodup_cons->fY,replicate_succ->gD,find?_cons->gM,mem_of_mem_take->gR,getElem?_eq_none_iff->gT,getElem?_zip_eq_some->gU,lookup_cons->gX,not_mem_nil->gZ,toList_toArray->hV
open Bool renaming false_ne_true->aD,and_eq_true->bD,false_eq_true->cQ,eq_iff_iff->dO,and_self->eY,and_true->gG
open Nat renaming le_refl->aE,zero_le->aU,ne_of_lt->bB,lt_of_lt_of_le->bI,le_trans->cA,le_succ->cM,le_of_lt->dX,lt_succ_of_lt->eK,zero_add->eR,not_lt_zero->fH,lt_succ_self->fK,lt_irrefl->fM,lt_of_le_of_lt->fO,add_zero->fP,mul_le_mul->gJ,ne_of_gt->hZ
open PySem.Heap renaming get?_push_of_some->aH,lt_size->aX,get?_push_size->bA,get?_update_other->cH,get?_update_self->dI,size_push->eP,get?_push_ne->fA,get?_update_ne->gF,size_update->gY
open PySem.W renaming kasC_bind->aJ,kasC_pure->aL,mg_none_of->bR,kia_one->dG,kasC_modify->fU,kat_item->gH,kasC_get->hJ,kasC_range->iD
open Array renaming length_toList->aK,getElem?_toList->aY,getElem?_eq_getElem->aZ,map_push->bC,getD_eq_getD_getElem?->bZ,toList_append->cW,getElem_toList->dC,toList_push->dL,map_extract->dM,getElem_extract->dN,map_append->eC,getElem_mem->eN,mem_def->eQ,size_extract->eW,toList_map->eX,size_map->eZ,getElem?_eq_some_iff->fJ,toList_extract->fV,getElem?_setIfInBounds_self_of_lt->gP,toList_reverse->gS
open Option.some renaming inj->bF
open PySem.F renaming plainAttrs_list->bJ,slot_list_append->cB,type_list_append->cC,called_set->gO,slot_list_getattribute->iB,slot_dict_update->iC
open PySem.PassesOwn renaming never->bX
open PySem.Heap.SameBut renaming update->cG
open Int renaming toNat_natCast->cL,eq_ofNat_of_zero_le->dP,emod_lt_of_pos->fR,emod_nonneg->gQ
open PyProof.Rows renaming boot_sorted->cN,boot_int->eU,get?_update_seq->fF,slot_tuple_getitem->fZ,boot_list->gK,callWith_type1->gL
open Ne renaming symm->cS
open PySem.Paired renaming length->cY,snoc->hU
open PySem.Around renaming under_plainId->dS
open PySem.Calls renaming call_function_entry->fT
open PySem.SetTable renaming toList_insertAt->gA
open List.Nodup renaming length_le_of_subset->gC
open List.Perm renaming append_left->gN
namespace L2
open PySem PySem.Spec PyProof.Rows
abbrev Key:=Sum Int Str
def keyIs:Key->Value->Bool
 | .inl k,v=>Value.isInt k v
 | .inr x,v=>Value.isStrOf x v
def keyH(w:World):Key->Int
 | .inl k=>hashInt k
 | .inr x=>hashStr w x
theorem qB6:∀ {k:Key} {v:Value},keyIs k v=true->(∃i t,k=Sum.inl i/\v=Value.int i t)\/(∃x t,k=Sum.inr x/\v=Value.str x t)
 | .inl i,v,h=>by
  obtain⟨t,e⟩:=Value.isInt_shape (k:=i) (v:=v) h;exact .inl ⟨i,t,rfl,e⟩
 | .inr x,v,h=>by
  obtain⟨t,e⟩:=Value.isStrOf_shape (x:=x) (v:=v) h;exact .inr ⟨x,t,rfl,e⟩
theorem qPz(i:Int)(t:Tok):keyIs (.inl i) (.int i t)=true:=by simp [keyIs,Value.isInt]
theorem qPy(x:Str)(t:Tok):keyIs (.inr x) (.str x t)=true:=by simp [keyIs,Value.isStrOf]
theorem qXm(a b:Int):decide ((Sum.inl a:Key)=Sum.inl b)=(a == b):=by
 by_cases e:a=b
 ·subst e;simp
 ·have h : ¬(Sum.inl a:Key)=Sum.inl b:=λq=>e (Sum.inl.inj q);rw [decide_eq_false h];exact (beq_eq_false_iff_ne.mpr e).symm
theorem qXj(a b:Str):decide ((Sum.inr a:Key)=Sum.inr b)=decide (a=b):=by
 by_cases e:a=b
 ·subst e;simp
 ·have h : ¬(Sum.inr a:Key)=Sum.inr b:=λq=>e (Sum.inr.inj q);rw [decide_eq_false h,decide_eq_false e]
theorem qXl(a:Int)(b:Str):decide ((Sum.inl a:Key)=Sum.inr b)=false:=decide_eq_false (λq=>nomatch q)
theorem qXk(a:Str)(b:Int):decide ((Sum.inr a:Key)=Sum.inl b)=false:=decide_eq_false (λq=>nomatch q)
def qBh(prog:Program)(w:World):PySem.KeyKind prog w Key where
 is:=keyIs
 hash:=keyH w
 inj:=λv a b ha hb=>by
  rcases qB6 ha with ⟨i,t,rfl,rfl⟩ | ⟨x,t,rfl,rfl⟩
  ·rcases qB6 hb with ⟨j,u,rfl,e⟩ | ⟨y,u,rfl,e⟩
   ·injection e with e1 _;rw [e1]
   ·exact nomatch e
  ·rcases qB6 hb with ⟨j,u,rfl,e⟩ | ⟨y,u,rfl,e⟩
   ·exact nomatch e
   ·injection e with e1 _;rw [e1]
 byValue:=λk v h=>by
  rcases qB6 h with ⟨i,t,rfl,rfl⟩ | ⟨x,t,rfl,rfl⟩ <;> rfl
 pyHash:=λhv h=>by
  rcases qB6 hv with ⟨i,t,rfl,rfl⟩ | ⟨x,t,rfl,rfl⟩
  ·exact wpAny_pyHash_int h
  ·exact wpAny_pyHash_str h
 eqBool:=λhu hv h=>by
  rcases qB6 hu with ⟨i,t,rfl,rfl⟩ | ⟨x,t,rfl,rfl⟩
  ·rcases qB6 hv with ⟨j,u,rfl,rfl⟩ | ⟨y,u,rfl,rfl⟩
   ·rw [qXm] at h;exact gW h
   ·rw [qXl] at h;exact SeqAt.EqAt.int_str i t y u _ _ _ _ h
  ·rcases qB6 hv with ⟨j,u,rfl,rfl⟩ | ⟨y,u,rfl,rfl⟩
   ·rw [qXk] at h;exact SeqAt.EqAt.str_int x t j u _ _ _ _ h
   ·rw [qXj] at h;exact wpAny_eqBool_str h
 «strs» :=λk x t v h=>by
  rcases qB6 h with ⟨i,u,rfl,e⟩ | ⟨y,u,rfl,e⟩
  ·exact nomatch e
  ·injection e with e1 _
   subst e1;cases v <;> rfl
theorem qE3(prog:Program)(w:World)(i:Int)(t:Tok):(qBh prog w).is (.inl i) (.int i t)=true:=qPz i t
theorem qLc(prog:Program)(w:World)(x:Str)(t:Tok):(qBh prog w).is (.inr x) (.str x t)=true:=qPy x t
set_option genInjectivity true in
inductive V where
 | non | bl (b:Bool) | int (i:Int) | str (x:Str) | byt (b:Array UInt8) | flt (b:UInt64) | ref (a:Addr) | ty (n:String)
 deriving DecidableEq
def RelV:V->Value->Prop
 | .non,u=>u=Value.none
 | .bl b,u=>u=Value.bool b
 | .int i,u => ∃t,u=Value.int i t
 | .str x,u => ∃t,u=Value.str x t
 | .byt b,u => ∃t,u=Value.bytes b t
 | .flt b,u => ∃t,u=Value.float b t
 | .ref a,u=>u=Value.ref a
 | .ty n,u=>u=Value.type n
abbrev Vals:List V->List Value->Prop:=Paired RelV
theorem Vals.length{xs:List V}{us:List Value}(r:Vals xs us):xs.length=us.length:=cY r
theorem Vals.get:∀ {xs:List V} {us:List Value} {i:Nat} {x:V},Vals xs us->xs[i]? = some x -> ∃u,us[i]? = some u/\RelV x u
 | _,_,_,_,.nil,e=>by simp at e
 | _,_,0,_,.cons r _,e=>by simp at e;subst e;exact⟨_,rfl,r⟩
 | _,_,i+1,x,.cons _ t,e=>by
  obtain⟨u,h1,h2⟩:=Vals.get (i:=i) (x:=x) t (by simpa using e);exact⟨u,by simpa using h1,h2⟩
theorem Vals.set{x:V}{u:Value}(r:RelV x u):∀ {xs:List V} {us:List Value} (i:Nat),Vals xs us->Vals (xs.set i x) (us.set i u)
 | _,_,_,.nil =>.nil
 | _,_,0,.cons _ t =>.cons r t
 | _,_,i+1,.cons q t =>.cons q (Vals.set r i t)
theorem Vals.append{xs ys:List V}{us ws:List Value}(h:Vals xs us)(s:Vals ys ws):Vals (xs++ys) (us++ws):=by
 induction h with
 | nil=>exact s
 | cons r _ ih=>exact .cons r ih
theorem Vals.take:∀ {xs:List V} {us:List Value} (n:Nat),Vals xs us->Vals (xs.take n) (us.take n)
 | _,_,0,_ =>.nil
 | _,_,_+1,.nil =>.nil
 | _,_,n+1,.cons r t =>.cons r (Vals.take n t)
theorem Vals.drop:∀ {xs:List V} {us:List Value} (n:Nat),Vals xs us->Vals (xs.drop n) (us.drop n)
 | _,_,0,r=>r
 | _,_,_+1,.nil =>.nil
 | _,_,n+1,.cons _ t=>Vals.drop n t
theorem Vals.none_of:∀ {xs:List V} {us:List Value} {i:Nat},Vals xs us->xs[i]? = none->us[i]? = none:=λ{xs us i} r e=>by
 have h1:=r.length;have h2:xs.length<=i:=gT.mp e;exact gT.mpr (by lia)
def RelO:Option V->Option Value->Prop
 | some v,some u=>RelV v u
 | none,none=>True
 | _,_=>False
def KV{κ : Type}:List (κ × V)->List (κ × Value)->Prop:=Paired λ(p : κ × V) (q : κ × Value)=>p.1=q.1/\RelV p.2 q.2
def kV:Key->V
 | .inl i =>.int i
 | .inr x =>.str x
inductive HO where
 | lst (xs:List V)
 | tup (xs:List V)
 | dK (kvs:List (Key×V)) | dT (kvs:List (List Key×V))
 | set (S:Int->Bool) (n:Nat)
 | ins (C dx:Addr) (fs:List (Str×V))
 | own (x:Addr)
 | xd (fs:List (Str×V))
 | met (f x:Addr)
 | rng (lo hi:Int)
 | frz (o:Obj) (u:HO)
 | tbl (ps:Array Value)
 | ext (φ : Addr->Heap->Prop)
abbrev Hp:=Addr->Option HO
def upd(H:Hp)(a:Addr)(o:HO):Hp:=λb=>if b=a then some o else H b
theorem qA1{H:Hp}{a:Addr}{o:HO}:upd H a o a=some o:=by unfold upd;rw [if_pos rfl]
theorem qA4{H:Hp}{a b:Addr}{o:HO}(h:b≠a):upd H a o b=H b:=by unfold upd;rw [if_neg h]
theorem qTw{H:Hp}{a:Addr}{o u:HO}:upd (upd H a o) a u=upd H a u:=by
 funext b;unfold upd;split <;> rfl
theorem qNk{H:Hp}{a b:Addr}{o u:HO}(h:H a=some o)(h':H b=some u)(d:o≠u):a≠b:=by
 intro e;subst e;rw [h] at h';exact d (bF h')
theorem qA2{H:Hp}{a b:Addr}{o:HO}(h:H a=some o)(h':H b=none):a≠b:=by
 intro e;subst e;rw [h] at h';cases h'
section
variable(P:Program)(w:World)
def ObjOk(H:Hp)(h:Heap)(a:Addr):HO->Prop
 | .lst xs=>xs.length<=sizeLine /\ ∃(its:List Value) (n:Nat),Vals xs its/\h.get? a=some { cls :=.type "list",data :=.seq its.toArray n }
 | .tup xs=>xs.length<=sizeLine /\ ∃its:List Value,Vals xs its/\IsTup h a its.toArray
 | .dK kvs=>kvs.length<=sizeLine/\(a == sysModules)=false /\ ∃vs,KV kvs vs/\h.DictOf (qBh P w) a vs
 | .dT kvs=>kvs.length<=sizeLine/\(a == sysModules)=false /\ ∃xs:List (List Key×Addr×Value),
   Paired (λ(p:List Key×V) (q:List Key×Addr×Value)=>p.1=q.1/\H q.2.1=some (.tup (p.1.map kV))/\RelV p.2 q.2.2) kvs xs /\
   ∃o es ep,h.get? a=some o/\o.ExactDict/\o.data = .dict es ep/\es.toList=xs.map (entryOfKey (tupleKind (qBh P w)))/\(xs.map (·.1)).Nodup
 | .set S n=>h.SetOf (intKind P w) a S n
 | .ins C dx fs=>H dx=some (.own a)/\fs.length<=1000/\dx≠a/\h.get? a=some (PySem.W.instObj C dx) /\
   ∃mA,h.Ns1 dx mA/\(∀f,RelO (fs.lookup f) (mA f))/\PySem.Within mA (fs.map (·.1))
 | .own _ => ∃o,h.get? a=some o
 | .xd fs => ∃mA,h.Ns1 a mA /\ ∀f,RelO (fs.lookup f) (mA f)
 | .rng lo hi => ∃t u v,h.get? a=some { cls :=.type "range",data :=.fields #[.int lo t,.int hi u,.int 1 v] }
 | .frz o u=>h.get? a=some o/\ObjOk H h a u
 | .tbl ps=>h.get? a=some { cls :=.none,data :=.fields ps }
 | .met f x=>h.get? a=some (PySem.W.methodObj (.ref f) (.ref x))
 | .ext φ => φ a h/\(∃o,h.get? a=some o) /\ ∀h1 h2:Heap,φ a h1->(∀o,h1.get? a=some o->h2.get? a=some o) -> φ a h2
def HOk(H:Hp)(h:Heap):Prop := ∀a o,H a=some o->ObjOk P w H h a o
end
section
variable{P:Program}{w:World}{H H':Hp}{h h':Heap}{a:Addr}{o:HO}
theorem ObjOk.lt(x:ObjOk P w H h a o):a<h.objs.size:=by
 cases o with
 | lst xs=>obtain⟨_,_,_,_,e⟩:=x;exact aX e
 | tup xs=>obtain⟨_,_,_,p⟩:=x;exact p.lt
 | dK kvs=>obtain⟨_,_,_,_,o,_,_,e,_⟩:=x;exact aX e
 | dT kvs=>obtain⟨_,_,_,_,o,_,_,e,_⟩:=x;exact aX e
 | set S n=>obtain⟨o,_,_,_,e,_⟩:=x;exact aX e
 | ins C dx fs=>obtain⟨_,_,_,e,_⟩:=x;exact aX e
 | own y=>obtain⟨_,e⟩:=x;exact aX e
 | xd fs=>obtain⟨_,⟨_,_,_,e,_⟩,_⟩:=x;exact aX e
 | rng lo hi=>obtain⟨_,_,_,e⟩:=x;exact aX e
 | frz ob u=>obtain⟨e,_⟩:=x;exact aX e
 | tbl ps=>exact aX (show h.get? a=some _ from x)
 | met f y=>exact aX (show h.get? a=some _ from x)
 | ext φ =>obtain⟨_,⟨_,e⟩,_⟩:=x;exact aX e
theorem Paired.mapP{α β : Type}{F G : α -> β -> Prop}{l₁ : List α}{l₂ : List β}(h:Paired F l₁ l₂)(f:∀a b,F a b->G a b):Paired G l₁ l₂ :=by
 induction h with
 | nil=>exact .nil
 | cons r _ ih=>exact .cons (f _ _ r) ih
theorem ObjOk.stay(x:ObjOk P w H h a o)(k:∀b u,(b=a\/H b=some (.own a))->h.get? b=some u->h'.get? b=some u)(ho:∀b,H b=some (.own a)->H' b=some (.own a))(ht:∀b xs,H b=some (.tup xs)->H' b=some (.tup xs)):ObjOk P w H' h' a o:=by
 induction o with
 | lst xs=>obtain⟨z,its,n,r,e⟩:=x;exact⟨z,its,n,r,k _ _ (.inl rfl) e⟩
 | tup xs=>obtain⟨z,its,r,ob,e,c⟩:=x;exact⟨z,its,r,ob,k _ _ (.inl rfl) e,c⟩
 | dK kvs=>obtain⟨z,y,vs,r,ob,es,ep,e,c⟩:=x;exact⟨z,y,vs,r,ob,es,ep,k _ _ (.inl rfl) e,c⟩
 | dT kvs =>
  obtain⟨z,y,xs,r,ob,es,ep,e,c⟩:=x;exact⟨z,y,xs,Paired.mapP r λp q z=>⟨z.1,ht _ _ z.2.1,z.2.2⟩,ob,es,ep,k _ _ (.inl rfl) e,c⟩
 | set S n=>obtain⟨ob,es,ep,t,e,c⟩:=x;exact⟨ob,es,ep,t,k _ _ (.inl rfl) e,c⟩
 | ins C dx fs =>
  obtain⟨d,z,ne,e,mA,⟨od,es,ep,e2,c⟩,r⟩:=x;exact⟨ho _ d,z,ne,k _ _ (.inl rfl) e,mA,⟨od,es,ep,k _ _ (.inr d) e2,c⟩,r⟩
 | own y=>obtain⟨ob,e⟩:=x;exact⟨ob,k _ _ (.inl rfl) e⟩
 | xd fs=>obtain⟨mA,⟨od,es,ep,e,c⟩,r⟩:=x;exact⟨mA,⟨od,es,ep,k _ _ (.inl rfl) e,c⟩,r⟩
 | rng lo hi=>obtain⟨t,u,v,e⟩:=x;exact⟨t,u,v,k _ _ (.inl rfl) e⟩
 | frz ob u ih=>obtain⟨e,q⟩:=x;exact⟨k _ _ (.inl rfl) e,ih q⟩
 | tbl ps =>
  have e:h.get? a=some { cls :=.none,data :=.fields ps }:=x;show h'.get? a=some { cls :=.none,data :=.fields ps };exact k a _ (.inl rfl) e
 | met f y =>
  have e:h.get? a=some (PySem.W.methodObj (.ref f) (.ref y)):=x;show h'.get? a=some (PySem.W.methodObj (.ref f) (.ref y));exact k a _ (.inl rfl) e
 | ext φ =>obtain⟨p,⟨o,e⟩,st⟩:=x;exact⟨st _ _ p λo q=>k _ _ (.inl rfl) q,⟨o,k _ _ (.inl rfl) e⟩,st⟩
theorem HOk.lt(x:HOk P w H h)(e:H a=some o):a<h.objs.size:=(x a o e).lt
theorem HOk.fresh(x:HOk P w H h)(e:h.objs.size<=a):H a=none:=by
 cases q:H a with
 | none=>rfl
 | some u=>exact absurd (bI (x.lt q) e) (fM _)
theorem HOk.kept(x:HOk P w H h)(k:∀b u,h.get? b=some u->h'.get? b=some u):HOk P w H h':=λa o e =>
 (x a o e).stay (λb u _ q=>k b u q) (λ_ q=>q) λ_ _ q=>q
theorem HOk.laid(x:HOk P w H h)(k:∀b u,h.get? b=some u->h'.get? b=some u)(hp:h.objs.size<=a)(new:ObjOk P w (upd H a o) h' a o):HOk P w (upd H a o) h':=λb u e=>by
 have hn:=x.fresh hp;by_cases hb:b=a
 ·subst hb;rw [qA1] at e;cases e;exact new
 ·rw [qA4 hb] at e;exact (x b u e).stay (λc v _ q=>k c v q) (λc q=>by rw [qA4 (qA2 q hn)];exact q) λc xs q=>by rw [qA4 (qA2 q hn)];exact q
end
def Rd(H:Hp)(a:Addr)(u:HO):Prop:=H a=some u \/ ∃o,H a=some (.frz o u)
theorem Rd.ok{P:Program}{w:World}{H:Hp}{h:Heap}{a:Addr}{u:HO}(r:Rd H a u)(x:HOk P w H h):ObjOk P w H h a u:=by
 rcases r with r | ⟨o,r⟩
 ·exact x a u r
 ·obtain⟨_,q⟩:=x a _ r;exact q
def Mut:Option HO->Prop
 | some (.lst _)=>True
 | some (.dK _)=>True
 | some (.dT _)=>True
 | some (.set _ _)=>True
 | some (.ins _ _ _)=>True
 | some (.ext _)=>True
 | _=>False
section
variable{P:Program}{w:World}{H:Hp}{h h':Heap}{x e:Addr}{o':HO}
theorem HOk.write(ok:HOk P w H h)(mu:Mut (H x))(he:e=x\/H e=some (.own x))(k:∀b u,b≠e->h.get? b=some u->h'.get? b=some u)(heo:∃u,h'.get? e=some u)(new:ObjOk P w (upd H x o') h' x o'):HOk P w (upd H x o') h':=λb u q=>by
 have nown:∀c y,H c=some (.own y)->c≠x:=λc y r z=>by subst z;rw [r] at mu;exact mu
 have ntup:∀c xs,H c=some (.tup xs)->c≠x:=λc xs r z=>by subst z;rw [r] at mu;exact mu
 by_cases hb:b=x
 ·subst hb;rw [qA1] at q;cases q;exact new
 ·rw [qA4 hb] at q;by_cases hbe:b=e
  ·have q':H b=some (.own x):=by
    rcases he with z | z
    ·exact absurd (hbe.trans z) hb
    ·rw [hbe];exact z
   rw [q] at q';cases q';obtain⟨v,hv⟩:=heo;exact⟨v,by rw [hbe];exact hv⟩
  ·refine (ok b u q).stay (λc v hc r=>k c v ?_ r) (λc r=>by rw [qA4 (nown c b r)];exact r) λc xs r=>by rw [qA4 (ntup c xs r)];exact r
   rcases hc with rfl | hc
   ·exact hbe
   ·rintro rfl;rcases he with z | z
    ·exact nown c b hc z
    ·rw [hc] at z;cases z;exact hb rfl
end
structure Un(fs ex:List Addr)(H H':Hp)(h h':Heap):Prop where
 keep:∀b o,h.get? b=some o->H b=none->b∉fs->b∉ex->h'.get? b=some o
 slot:∀b o,h.get? b=some o->H b=none->b∈fs->b∉ex -> ∃sl,h'.get? b=some { o with slots:=sl }
 free:∀b o,h.get? b=some o->H b=none->b∉ex->H' b=none
 there:∀b o,h.get? b=some o->b∉ex -> ∃o',h'.get? b=some o'
 tups:∀b xs,H b=some (.tup xs)->H' b=some (.tup xs)
 frzs:∀b o u,H b=some (.frz o u)->H' b=some (.frz o u)
 tbls:∀b ps,H b=some (.tbl ps) -> ∃more,H' b=some (.tbl (ps++more))
section
variable{fs fs' ex ex':List Addr}{H H1 H2:Hp}{h h1 h2 h':Heap}{a x e:Addr}{o:HO}
theorem Un.any(u:Un fs ex H H1 h h1){b:Addr}{ob:Obj}(q:h.get? b=some ob)(n:H b=none)(hx:b∉ex):∃sl,h1.get? b=some { ob with slots:=sl }:=by
 by_cases hb:b∈fs
 ·exact u.slot b ob q n hb hx
 ·exact⟨ob.slots,u.keep b ob q n hb hx⟩
theorem Un.kept(k:∀b u,h.get? b=some u->h'.get? b=some u):Un fs ex H H h h':=⟨λb ob q _ _ _=>k b ob q,λb ob q _ _ _=>⟨ob.slots,k b ob q⟩,λ_ _ _ n _=>n,λb ob q _=>⟨ob,k b ob q⟩,λ_ _ q=>q,λ_ _ _ q=>q,λ_ ps q=>⟨#[],by rw [q];simp⟩⟩
theorem Un.refl:Un fs ex H H h h:=Un.kept λ_ _ q=>q
theorem Un.laid(k:∀b u,h.get? b=some u->h'.get? b=some u)(hp:h.objs.size<=a)(hn:H a=none):Un fs ex H (upd H a o) h h' where
 keep:=λb u q _ _ _=>k b u q
 slot:=λb u q _ _ _=>⟨u.slots,k b u q⟩
 free:=λb u q n _=>by rw [qA4 (bB (bI (aX q) hp))];exact n
 there:=λb u q _=>⟨u,k b u q⟩
 tups:=λb xs q=>by rw [qA4 (qA2 q hn)];exact q
 frzs:=λb u xs q=>by rw [qA4 (qA2 q hn)];exact q
 tbls:=λb ps q=>⟨#[],by rw [qA4 (qA2 q hn),q];simp⟩
theorem Un.write(mu:Mut (H x))(he:e=x\/H e=some (.own x))(k:∀b u,b≠e->h.get? b=some u->h'.get? b=some u)(heo:∃u,h'.get? e=some u):Un fs ex H (upd H x o) h h':=by
 have hx:∀b,H b=none->b≠x:=λb n z=>by subst z;rw [n] at mu;exact mu
 have hb:∀b,H b=none->b≠e:=λb n z=>by
  subst z;rcases he with r | r
  ·exact hx b n r
  ·rw [n] at r;cases r
 have hm:∀b u,H b=some u -> ¬Mut (some u)->b≠x:=λb u q nm z=>by subst z;rw [q] at mu;exact nm mu
 refine⟨λb u q n _ _=>k b u (hb b n) q,λb u q n _ _=>⟨u.slots,k b u (hb b n) q⟩,λb u q n _=>by rw [qA4 (hx b n)];exact n,λb u q _=>?_,
  λb xs q=>by rw [qA4 (hm b _ q λz=>z)];exact q,λb u xs q=>by rw [qA4 (hm b _ q λz=>z)];exact q,λb ps q=>⟨#[],by rw [qA4 (hm b _ q λz=>z),q];simp⟩⟩
 by_cases hbe:b=e
 ·subst hbe;exact heo
 ·exact⟨u,k b u hbe q⟩
end
def trk(h:Heap)(H:Hp):List Addr:=(List.range h.objs.size).filter λa=>(H a).isSome
def hidT(h:Heap)(H:Hp):Heap:=PySem.W.hideAll h (trk h H)
theorem qQ5(h:Heap)(H:Hp):(hidT h H).objs.size=h.objs.size:=PySem.W.hideAll_size _ _
theorem qSp{h:Heap}{H:Hp}{b:Addr}{o:Obj}(e:h.get? b=some o)(n:H b=none):(hidT h H).get? b=some o :=
 PySem.W.hideAll_get _ e λhm=>by
  have q:(H b).isSome=true:=(cE.mp hm).2;rw [n] at q;simp at q
theorem qV3{h:Heap}{H:Hp}{b:Addr}{o:Obj}(e:(hidT h H).get? b=some o):h.get? b=some o/\H b=none:=by
 have e':h.get? b=some o:=PySem.W.of_hideAll (trk h H) e;refine⟨e',?_⟩;cases q:H b with
 | none=>rfl
 | some x =>
  have hm:b∈trk h H:=cE.mpr ⟨bL.mpr (aX e'),by simp [q]⟩;have z:(hidT h H).get? b=none:=PySem.W.hideAll_none (trk h H) hm;rw [z] at e;cases e
def qVt(g h:Heap)(L:Addr):List (Addr×Obj):=(List.range h.objs.size).filterMap λa=>if a=L\/(g.get? a).isSome=true then none else (h.get? a).map λo=>(a,o)
def rest(g h:Heap)(L d:Addr):List (Addr×Obj):=(qVt g h L).filter λp=>decide (p.1≠d)
structure Mod(K:PySem.W.Frag)(mg:Str->Option Value)(base:Heap):Prop where
 kin:K.In base
 glob:base.Ns mainGlobals mg
 blt:∃mb,base.Ns builtinsNs mb /\ ∀x:Str,x ≠ "__name__" -> mb x=bootBuiltins x
 nolimit:base.NoLimit
structure Cx where
 prog:Program
 w:World
 K:PySem.W.Frag
 mg:Str->Option Value
 base:Heap
 A:Around
 N:List Str
 s₀ : Shared
 H₀ : Hp
 env:Env
 outer:List Env
 stack:List Env
 ex:List Addr
 fn:Str->Bool
 calm:Bool
 pn:List (Addr×Obj)
 xe:Value->Shared->Prop
def frs(l:List Env):List Addr:=l.filterMap (·.frame)
abbrev Cx.fs(X:Cx):List Addr:=frs X.outer
def Vis(sc:Scope)(x:Str):Prop:=sc.names.lookup x=some .local\/sc.names.lookup x=some .cell\/sc.names.lookup x=some .free
def Loc(sc:Scope)(x:Str):Prop:=sc.names.lookup x=some .local\/sc.names.lookup x=some .cell
def Look(env:Env)(h:Heap)(m:Str->Option Value)(x:Str)(u:Value):Prop:=(env.kindOf x=some .local/\m x=some u)\/((env.kindOf x=some .cell\/env.kindOf x=some .free) /\ ∃c,env.cells.lookup x=some c/\h.IsCell c (some u))
structure Cx.Ok(X:Cx):Prop where
 mod:Mod X.K X.mg X.base
 kind:X.env.scope.kind = .function
 glob:X.env.globals=mainGlobals
 blt:X.env.builtins=builtinsNs
 above:X.s₀.heap.objs.size<=X.env.locals
 inj:∀x y c,X.env.cells.lookup x=some c->X.env.cells.lookup y=some c->x=y
 has:∀x,(X.env.kindOf x=some .cell\/X.env.kindOf x=some .free) -> ∃c,X.env.cells.lookup x=some c
 cab:∀x c,X.fn x=true->X.env.cells.lookup x=some c->X.s₀.heap.objs.size<=c
 hd:X.calm=true->X.A.handled=none
 frames:X.A.frames=some X.stack
 stk:X.stack=X.outer\/(X.stack=X.env::X.outer/\X.env.frame=some X.env.locals)
 exf:∀b∈X.ex,b≠X.env.locals /\ ∀x c,X.env.cells.lookup x=some c->c≠b
 bs:∀b o,X.base.get? b=some o->X.s₀.heap.get? b=some o/\X.H₀ b=none
 bsz:X.base.objs.size<=X.s₀.heap.objs.size
 noex:∀b o,X.base.get? b=some o->b∉X.ex
 exfs:∀b∈X.ex,b∉X.fs
 funs:X.s₀.heap.FunFrames X.base X.outer
 frf:∀b∈X.fs,X.H₀ b=none
structure Inv(X:Cx)(pins:List (Addr×Obj))(σ : List (Option V))(H:Hp)(s:Shared):Prop where
 ok:X.Ok
 os:s.os=X.s₀.os
 bare:AllBare s.gens
 base:Un X.fs X.ex X.H₀ H X.s₀.heap s.heap
 loc:∃m,s.heap.Ns X.env.locals m /\ ∀(i:Nat) (x:Str) (v:V),X.N[i]? = some x -> σ[i]? = some (some v)->Vis X.env.scope x -> ∃u,RelV v u/\Look X.env s.heap m x u
 cell:∀x c,X.env.cells.lookup x=some c -> ∃v,s.heap.IsCell c v
 free:H X.env.locals=none
 freeC:∀x c,X.env.cells.lookup x=some c->H c=none
 pin:∀p∈X.pn++pins,s.heap.get? p.1=some p.2/\H p.1=none/\p.1≠X.env.locals/\p.1∉X.fs /\ ∀v,p.2.data ≠ .cell v
 hok:HOk X.prog X.w H s.heap
 len : σ.length=X.N.length
section
variable{X:Cx}{pins:List (Addr×Obj)}{σ : List (Option V)}{H H':Hp}{s:Shared}{h':Heap}
theorem Cx.Ok.nofr(ok:X.Ok){b:Addr}{o:Obj}(e:X.base.get? b=some o):b∉X.fs:=λhb=>by
 have:=(ok.funs.mem hb).1;rw [e] at this;cases this
theorem Inv.bs(I:Inv X pins σ H s):∀b o,X.base.get? b=some o->s.heap.get? b=some o/\H b=none:=λb o e =>
 ⟨I.base.keep b o (I.ok.bs b o e).1 (I.ok.bs b o e).2 (I.ok.nofr e) (I.ok.noex b o e),I.base.free b o (I.ok.bs b o e).1 (I.ok.bs b o e).2 (I.ok.noex b o e)⟩
theorem Inv.bk(I:Inv X pins σ H s):∀b o,X.base.get? b=some o->s.heap.get? b=some o:=λb o e=>(I.bs b o e).1
theorem Inv.mod(I:Inv X pins σ H s):Mod X.K X.mg X.base:=I.ok.mod
theorem Inv.kIn(I:Inv X pins σ H s):X.K.In s.heap:=I.ok.mod.kin.keeps I.bk
theorem Inv.lt(I:Inv X pins σ H s):X.env.locals<s.heap.objs.size:=let ⟨_,hn,_⟩:=I.loc;hn.lt
theorem Inv.sz(I:Inv X pins σ H s):X.s₀.heap.objs.size<=s.heap.objs.size:=cA I.ok.above (dX I.lt)
theorem Inv.nofs(I:Inv X pins σ H s){a:Addr}(h:s.heap.objs.size<=a):a∉X.fs:=λhb=>by
 obtain⟨_,o,ho,_⟩:=I.ok.funs.mem hb;exact absurd (bI (aX ho) (cA I.sz h)) (fM _)
theorem Inv.cne(I:Inv X pins σ H s):∀x c,X.env.cells.lookup x=some c->c≠X.env.locals:=λx c e z=>by
 obtain⟨v,o,ho,hd⟩:=I.cell x c e;obtain⟨m,⟨o',es,ep,ho',hd',_⟩,_⟩:=I.loc;rw [z,ho'] at ho;cases ho;rw [hd'] at hd;cases hd
theorem Inv.funs(I:Inv X pins σ H s):s.heap.FunFrames X.base X.outer:=by
 have all:∀(l:List Env),(∀b∈frs l,b∈X.fs)->X.s₀.heap.FunFrames X.base l->s.heap.FunFrames X.base l:=by
  intro l
  induction l with
  | nil=>intro _ _;trivial
  | cons env r ih =>
   intro hs hl;obtain⟨hk,⟨L,o,hf,hn,ho,hd⟩,hr⟩:=hl;have hL:L∈X.fs:=hs L (by unfold frs;rw [cF,hf];exact aR);obtain⟨sl,e⟩:=I.base.slot L o ho (I.ok.frf L hL) hL λz=>I.ok.exfs L z hL;exact⟨hk,⟨L,_,hf,hn,e,hd⟩,ih (λb hb=>hs b (by unfold frs;rw [cF,hf];exact aS _ hb)) hr⟩
 exact all X.outer (λ_ hb=>hb) I.ok.funs
theorem Inv.stack(I:Inv X pins σ H s):s.heap.FunFrames X.base X.stack:=by
 rcases I.ok.stk with e | ⟨e,hf⟩
 ·rw [e];exact I.funs
 ·rw [e];obtain⟨m,hn,_⟩:=I.loc;refine .cons (by rw [I.ok.kind];decide) hf hn ?_ I.funs;exact Heap.get?_none_of_le (cA I.ok.bsz I.ok.above)
theorem Inv.stkSub(I:Inv X pins σ H s):∀b∈frs X.stack,b∈X.env.locals::X.fs:=λb hb=>by
 rcases I.ok.stk with e | ⟨e,hf⟩
 ·rw [e] at hb;exact aS _ hb
 ·rw [e] at hb;unfold frs at hb;rw [cF,hf] at hb;exact hb
theorem Inv.stkFree(I:Inv X pins σ H s):∀b∈frs X.stack,H b=none:=λb hb=>by
 rcases aT.mp (I.stkSub b hb) with e | hb
 ·rw [e];exact I.free
 ·obtain⟨_,o,ho,_⟩:=I.ok.funs.mem hb;exact I.base.free b o ho (I.ok.frf b hb) λz=>I.ok.exfs b z hb
theorem Inv.step{g':Array GenState}{t':Nat}{d':Drawn}{ch:List Addr}(I:Inv X pins σ H s)(hch:∀b∈ch,(b∈X.ex\/X.s₀.heap.objs.size<=b)/\b≠X.env.locals/\(∀x c,X.env.cells.lookup x=some c->c≠b) /\ ∀p∈X.pn++pins,p.1≠b)(keep:∀b o,b≠X.env.locals->b∉X.fs->b∉ch->s.heap.get? b=some o->H b=none->h'.get? b=some o)(slot:∀b o,b≠X.env.locals->b∈X.fs->b∉ch->s.heap.get? b=some o->H b=none -> ∃sl,h'.get? b=some { o with slots:=sl })(free:∀b o,b∉ch->s.heap.get? b=some o->H b=none->H' b=none)(there:∀b o,b∉ch->s.heap.get? b=some o -> ∃o',h'.get? b=some o')(tups:∀b xs,H b=some (.tup xs)->H' b=some (.tup xs))(frzs:∀b o u,H b=some (.frz o u)->H' b=some (.frz o u))(tbls:∀b ps,H b=some (.tbl ps) -> ∃more,H' b=some (.tbl (ps++more)))(ns:∀m,s.heap.Ns X.env.locals m->h'.Ns X.env.locals m)(hok:HOk X.prog X.w H' h')(hg:AllBare g'):Inv X pins σ H' { s with heap:=h',gens:=g',drawn:=d',toks:=t' }:=by
 have neL:∀b o,X.s₀.heap.get? b=some o->b≠X.env.locals:=λb o e=>bB (bI (aX e) I.ok.above);have neC:∀b o,X.s₀.heap.get? b=some o->b∉X.ex->b∉ch:=λb o e hx hb=>by
  rcases (hch b hb).1 with z | z
  ·exact hx z
  ·exact absurd (bI (aX e) z) (fM _)
 have cellK:∀x c,X.env.cells.lookup x=some c -> ∀v,s.heap.IsCell c v->h'.IsCell c v:=λx c e v ⟨o,ho,hd⟩=>by
  have nch:c∉ch:=λz=>(hch c z).2.2.1 x c e rfl;by_cases hc:c∈X.fs
  ·obtain⟨sl,q⟩:=slot c o (I.cne x c e) hc nch ho (I.freeC x c e);exact⟨_,q,hd⟩
  ·exact⟨o,keep c o (I.cne x c e) hc nch ho (I.freeC x c e),hd⟩
 refine⟨I.ok,I.os,hg,⟨λb o e n hb hx=>?_,λb o e n hb hx=>?_,λb o e n hx=>?_,λb o e hx=>?_,λb xs e=>tups b xs (I.base.tups b xs e),λb o xs e=>frzs b o xs (I.base.frzs b o xs e),λb ps e=>?_⟩,?_,λx c e=>?_,?_,λx c e=>?_,λp hp=>?_,hok,I.len⟩
 ·exact keep b o (neL b o e) hb (neC b o e hx) (I.base.keep b o e n hb hx) (I.base.free b o e n hx)
 ·obtain⟨sl,e1⟩:=I.base.slot b o e n hb hx;obtain⟨sl',e2⟩:=slot b _ (neL b o e) hb (neC b o e hx) e1 (I.base.free b o e n hx);exact⟨sl',e2⟩
 ·obtain⟨o',e1⟩:=I.base.there b o e hx;exact free b o' (neC b o e hx) e1 (I.base.free b o e n hx)
 ·obtain⟨o',e1⟩:=I.base.there b o e hx;exact there b o' (neC b o e hx) e1
 ·obtain⟨m1,e1⟩:=I.base.tbls b ps e;obtain⟨m2,e2⟩:=tbls b _ e1;exact⟨m1++m2,by rw [e2,Array.append_assoc]⟩
 ·obtain⟨m,hn,hl⟩:=I.loc;refine⟨m,ns m hn,λi x v e1 e2 e3=>?_⟩;obtain⟨u,r,l⟩:=hl i x v e1 e2 e3;refine⟨u,r,?_⟩;rcases l with l | ⟨k,c,e,z⟩
  ·exact .inl l
  ·exact .inr ⟨k,c,e,cellK x c e _ z⟩
 ·obtain⟨v,z⟩:=I.cell x c e;exact⟨v,cellK x c e v z⟩
 ·obtain⟨m,⟨o,_,_,ho,_⟩,_⟩:=I.loc;exact free _ o (λz=>(hch _ z).2.1 rfl) ho I.free
 ·obtain⟨v,o,ho,hd⟩:=I.cell x c e;exact free c o (λz=>(hch c z).2.2.1 x c e rfl) ho (I.freeC x c e)
 ·obtain⟨e,n,ne,nf,d⟩:=I.pin p hp;have nch:p.1∉ch:=λz=>(hch p.1 z).2.2.2 p hp rfl;exact⟨keep p.1 p.2 ne nf nch e n,free p.1 p.2 nch e n,ne,nf,d⟩
theorem Inv.un{t':Nat}(I:Inv X pins σ H s)(u:Un X.fs [] H H' s.heap h')(hok:HOk X.prog X.w H' h'):Inv X pins σ H' { s with heap:=h',toks:=t' }:=by
 obtain⟨m,⟨o,es,ep,ho,r⟩,_⟩:=id I.loc;obtain⟨sl,hL⟩:=u.any ho I.free (by simp)
 exact I.step (g':=s.gens) (d':=s.drawn) (ch :=[]) (λ_ z=>nomatch z) (λb o _ hb _ e n=>u.keep b o e n hb (by simp)) (λb o _ hb _ e n=>u.slot b o e n hb (by simp)) (λb o _ e n=>u.free b o e n (by simp)) (λb o _ e=>u.there b o e (by simp)) u.tups u.frzs u.tbls (λm' hm=>by
  obtain⟨o',es',ep',ho',r'⟩:=hm;rw [ho] at ho';cases ho'
  exact⟨_,es',ep',hL,r'⟩) hok I.bare
theorem Inv.call{g':Array GenState}{t':Nat}{d':Drawn}{ch:List Addr}(I:Inv X pins σ H s)(u:Un (frs X.stack) ch H H' s.heap h')(hok:HOk X.prog X.w H' h')(hg:AllBare g')(hch:∀b∈ch,(b∈X.ex\/X.s₀.heap.objs.size<=b)/\b≠X.env.locals/\(∀x c,X.env.cells.lookup x=some c->c≠b) /\ ∀p∈X.pn++pins,p.1≠b):Inv X pins σ H' { s with heap:=h',gens:=g',drawn:=d',toks:=t' }:=by
 obtain⟨m,⟨o,es,ep,ho,r⟩,_⟩:=id I.loc;obtain⟨sl,hL⟩:=u.any ho I.free λz=>(hch _ z).2.1 rfl
 exact I.step (ch:=ch) hch (λb o hL hb hc e n=>u.keep b o e n (λz=>(aT.mp (I.stkSub b z)).elim hL hb) hc) (λb o _ _ hc e n=>u.any e n hc) (λb o hc e n=>u.free b o e n hc) (λb o hc e=>u.there b o e hc) u.tups u.frzs u.tbls (λm' hm=>by
  obtain⟨o',es',ep',ho',r'⟩:=hm;rw [ho] at ho';cases ho'
  exact⟨_,es',ep',hL,r'⟩) hok hg
theorem Inv.turned{t':Nat}{it:Addr}(I:Inv X pins σ H s)(k:∀b o,b≠it->s.heap.get? b=some o->h'.get? b=some o)(hn:H it=none)(hL:it≠X.env.locals)(h1:it∈X.ex\/X.s₀.heap.objs.size<=it)(h2:∀x c,X.env.cells.lookup x=some c->c≠it)(h3:∀p∈X.pn++pins,p.1≠it):Inv X pins σ H { s with heap:=h',toks:=t' }:=by
 have nit:∀b u,H b=some u->b≠it:=λb u e z=>by rw [z,hn] at e;cases e
 refine I.step (g':=s.gens) (d':=s.drawn) (ch :=[it]) (λb hb=>?_) (λb o _ _ hc e _=>k b o (λz=>hc (by simp [z])) e) (λb o _ _ hc e _=>⟨o.slots,k b o (λz=>hc (by simp [z])) e⟩) (λ_ _ _ _ n=>n)
  (λb o hc e=>⟨o,k b o (λz=>hc (by simp [z])) e⟩) (λ_ _ e=>e) (λ_ _ _ e=>e) (λb ps e=>⟨#[],by rw [e];simp⟩) (λm hm=>?_) (λb u e=>?_) I.bare
 ·have e:b=it:=by simpa using hb
  subst e;exact⟨h1,hL,h2,h3⟩
 ·obtain⟨o,es,ep,ho,r⟩:=hm;exact⟨o,es,ep,k _ o (cS hL) ho,r⟩
 ·refine (I.hok b u e).stay (λc v hc q=>k c v ?_ q) (λ_ q=>q) λ_ _ q=>q;rcases hc with z | z
  ·rw [z];exact nit b u e
  ·exact nit c _ z
theorem Inv.tok(I:Inv X pins σ H s)(t:Nat):Inv X pins σ H { s with toks:=t }:=I.un (h':=s.heap) (t':=t) Un.refl I.hok
theorem Inv.kept{t':Nat}(I:Inv X pins σ H s)(k:∀b u,s.heap.get? b=some u->h'.get? b=some u):Inv X pins σ H { s with heap:=h',toks:=t' }:=I.un (Un.kept k) (I.hok.kept k)
theorem Inv.laid{a:Addr}{o:HO}{t':Nat}(I:Inv X pins σ H s)(k:∀b u,s.heap.get? b=some u->h'.get? b=some u)(hp:s.heap.objs.size<=a)(new:ObjOk X.prog X.w (upd H a o) h' a o):Inv X pins σ (upd H a o) { s with heap:=h',toks:=t' }:=I.un (Un.laid k hp (I.hok.fresh hp)) (I.hok.laid k hp new)
theorem Inv.write{x e:Addr}{o:HO}{t':Nat}(I:Inv X pins σ H s)(mu:Mut (H x))(he:e=x\/H e=some (.own x))(k:∀b u,b≠e->s.heap.get? b=some u->h'.get? b=some u)(heo:∃u,h'.get? e=some u)(new:ObjOk X.prog X.w (upd H x o) h' x o):Inv X pins σ (upd H x o) { s with heap:=h',toks:=t' }:=I.un (Un.write mu he k heo) (I.hok.write mu he k heo new)
theorem Inv.pins_of{pins':List (Addr×Obj)}(I:Inv X pins σ H s)(h:∀p∈pins',s.heap.get? p.1=some p.2/\H p.1=none/\p.1≠X.env.locals/\p.1∉X.fs /\ ∀v,p.2.data ≠ .cell v):Inv X pins' σ H s:=⟨I.ok,I.os,I.bare,I.base,I.loc,I.cell,I.free,I.freeC,λp hp=>(aM.mp hp).elim (λz=>I.pin p (bO _ z)) (h p),I.hok,I.len⟩
theorem qMa{N:List Str}(hN:N.Nodup){i j:Nat}{x:Str}(a:N[i]? = some x)(b:N[j]? = some x):i=j:=by
 obtain⟨h1,e1⟩:=aI.mp a;obtain⟨h2,e2⟩:=aI.mp b;exact (List.getElem_inj hN).mp (e1.trans e2.symm)
theorem qJ4{M:Model}{A:Around}{E:Value->Shared->Prop}{i:Nat}{x:Str}{v:V}{u:Value}{Q:Unit->Shared->Prop}(I:Inv X pins σ H s)(hN:X.N.Nodup)(hi:X.N[i]? = some x)(hx:Loc X.env.scope x)(r:RelV v u)(h:∀s',Inv X pins (σ.set i (some v)) H s'->(∃a,Heap.SameBut a s.heap s'.heap/\(a=X.env.locals\/X.env.cells.lookup x=some a))->Q () s')(hf:X.fn x=true\/X.env.scope.names.lookup x=some .local:=by first | exact .inl rfl | exact .inr rfl | assumption):wpAny M A (storeName X.env x u) Q E s:=by
 obtain⟨m,hn,hl⟩:=id I.loc;have hcls:(X.env.scope.kind == .class||(X.env.scope.kind == .module&&X.env.locals != X.env.globals))=false:=by rw [I.ok.kind];rfl
 have hiσ : i < σ.length:=by rw [I.len];exact (aI.mp hi).1
 have cne:=I.cne;have tracked:∀ {a:Addr} {h':Heap},(∃o,s.heap.get? a=some o/\H a=none)->Heap.SameBut a s.heap h'->HOk X.prog X.w H h':=λ{a h'} ha hs b ob e=>by
  obtain⟨_,_,hfree⟩:=ha;refine (I.hok b ob e).stay (λc w' hc q=>(hs.2 c ?_).trans q) (λ_ q=>q) λ_ _ q=>q;rintro rfl;rcases hc with rfl | hc
  ·rw [hfree] at e;cases e
  ·rw [hfree] at hc;cases hc
 rcases hx with hk | hk
 ·refine wpAny_storeName_local hk hn (λh' hn' hs=>?_) hcls;obtain⟨oL,_,_,hoL,_⟩:=id hn;refine h _ ⟨I.ok,I.os,I.bare,⟨λb o e n hb hx=>?_,λb o e n hb hx=>?_,I.base.free,λb o e hx=>?_,I.base.tups,I.base.frzs,I.base.tbls⟩,⟨_,hn',λj y v' e1 e2 e3=>?_⟩,λy c e=>?_,I.free,I.freeC,λp hp=>?_,tracked ⟨oL,hoL,I.free⟩ hs,by simpa using I.len⟩ ⟨_,hs,.inl rfl⟩
  ·exact (hs.2 b (bB (bI (aX e) I.ok.above))).trans (I.base.keep b o e n hb hx)
  ·obtain⟨sl,e1⟩:=I.base.slot b o e n hb hx;exact⟨sl,(hs.2 b (bB (bI (aX e) I.ok.above))).trans e1⟩
  ·obtain⟨o',e1⟩:=I.base.there b o e hx;exact⟨o',(hs.2 b (bB (bI (aX e) I.ok.above))).trans e1⟩
  ·by_cases hj:j=i
   ·subst hj;rw [hi] at e1;cases e1;rw [List.getElem?_set_self hiσ] at e2;cases e2;exact⟨u,r,.inl ⟨hk,by simp⟩⟩
   ·rw [List.getElem?_set_ne (cS hj)] at e2;obtain⟨u',r',q⟩:=hl j y v' e1 e2 e3;refine⟨u',r',?_⟩;rcases q with ⟨k,e⟩ | ⟨k,c,e,z⟩
    ·refine .inl ⟨k,?_⟩;have:y≠x:=λe=>hj (qMa hN e1 (e▸hi));simp [this,e]
    ·exact .inr ⟨k,c,e,z.sameBut hs (cne y c e)⟩
  ·obtain⟨w',z⟩:=I.cell y c e;exact⟨w',z.sameBut hs (cne y c e)⟩
  ·obtain⟨e,n,ne,nf,d⟩:=I.pin p hp;exact⟨(hs.2 p.1 ne).trans e,n,ne,nf,d⟩
 ·have hfn:X.fn x=true:=by
   rcases hf with z | z
   ·exact z
   ·rw [z] at hk;cases hk
  obtain⟨c,hc⟩:=I.ok.has x (.inl hk);obtain⟨w',z⟩:=I.cell x c hc;refine wpAny_storeName_cell I.ok.kind hk hc z (λh' hc' hs=>?_);obtain⟨oc,hoc,hocd⟩:=id z;refine h { s with heap:=h' } ⟨I.ok,I.os,I.bare,⟨λb o e n hb hx=>?_,λb o e n hb hx=>?_,I.base.free,λb o e hx=>?_,I.base.tups,I.base.frzs,I.base.tbls⟩,⟨m,hn.sameBut hs (cS (cne x c hc)),λj y v' e1 e2 e3=>?_⟩,λy c' e=>?_,I.free,I.freeC,λp hp=>?_,tracked ⟨oc,hoc,I.freeC x c hc⟩ hs,by simpa using I.len⟩ ⟨c,hs,.inr hc⟩
  ·exact (hs.2 b (bB (bI (aX e) (I.ok.cab x c hfn hc)))).trans (I.base.keep b o e n hb hx)
  ·obtain⟨sl,e1⟩:=I.base.slot b o e n hb hx;exact⟨sl,(hs.2 b (bB (bI (aX e) (I.ok.cab x c hfn hc)))).trans e1⟩
  ·obtain⟨o',e1⟩:=I.base.there b o e hx;exact⟨o',(hs.2 b (bB (bI (aX e) (I.ok.cab x c hfn hc)))).trans e1⟩
  ·by_cases hj:j=i
   ·subst hj;rw [hi] at e1;cases e1;rw [List.getElem?_set_self hiσ] at e2;cases e2;exact⟨u,r,.inr ⟨.inl hk,c,hc,hc'⟩⟩
   ·rw [List.getElem?_set_ne (cS hj)] at e2;obtain⟨u',r',q⟩:=hl j y v' e1 e2 e3;refine⟨u',r',?_⟩;rcases q with q | ⟨k,c',e,z'⟩
    ·exact .inl q
    ·refine .inr ⟨k,c',e,z'.sameBut hs ?_⟩;rintro rfl;exact hj (qMa hN e1 (I.ok.inj _ _ _ e hc▸hi))
  ·by_cases hcc:c'=c
   ·subst hcc;exact⟨_,hc'⟩
   ·obtain⟨w2,z2⟩:=I.cell y c' e;exact⟨w2,z2.sameBut hs hcc⟩
  ·obtain⟨e,n,ne,nf,d⟩:=I.pin p hp;refine⟨(hs.2 p.1 ?_).trans e,n,ne,nf,d⟩;intro q;rw [q,hoc] at e;have q':oc=p.2:=bF e;exact d w' (by rw [<-q'];exact hocd)
theorem qFl{M:Model}{A:Around}{E:Value->Shared->Prop}{i:Nat}{x:Str}{v:V}{u:Value}{Q:Unit->Shared->Prop}(I:Inv X pins σ H s)(hN:X.N.Nodup)(hi:X.N[i]? = some x)(hx:Loc X.env.scope x)(r:RelV v u)(h:∀s',Inv X pins (σ.set i (some v)) H s'->Q () s')(hf:X.fn x=true\/X.env.scope.names.lookup x=some .local:=by first | exact .inl rfl | exact .inr rfl | assumption):wpAny M A (storeName X.env x u) Q E s:=qJ4 I hN hi hx r (λs' I' _=>h s' I') hf
theorem Inv.call'{s':Shared}{ch:List Addr}(I:Inv X pins σ H s)(ho:s'.os=s.os)(u:Un (frs X.stack) ch H H' s.heap s'.heap)(hok:HOk X.prog X.w H' s'.heap)(hg:AllBare s'.gens)(hch:∀b∈ch,(b∈X.ex\/X.s₀.heap.objs.size<=b)/\b≠X.env.locals/\(∀x c,X.env.cells.lookup x=some c->c≠b) /\ ∀p∈X.pn++pins,p.1≠b):Inv X pins σ H' s':=by
 obtain⟨h',g',d',t',o'⟩:=s';have e:o'=s.os:=ho;subst e;exact I.call (g':=g') (t':=t') (d':=d') u hok hg hch
end
abbrev XK:=Value->Option Addr->Hp->Prop
abbrev St:=List (Option V)
abbrev VK:=V->Hp->Prop
abbrev TE:=St->Hp->VK->Prop
abbrev TT:=St->Hp->(Bool->Hp->Prop)->Prop
abbrev TA:=St->Hp->(List V->Hp->Prop)->Prop
structure Ends where
 nx:St->Hp->Prop
 rt:VK
 bk:St->Hp->Prop:=λ_ _=>False
 ct:St->Hp->Prop:=λ_ _=>False
abbrev TS:=Ends->St->Hp->Prop
def EP(X:Cx)(pins:List (Addr×Obj))(σ : St)(Q:VK)(u:Value)(s':Shared):Prop := ∃v H',Inv X pins σ H' s'/\RelV v u/\Q v H'
def TP(X:Cx)(pins:List (Addr×Obj))(σ : St)(Q:Bool->Hp->Prop)(b:Bool)(s':Shared):Prop := ∃H',Inv X pins σ H' s'/\Q b H'
def AP(X:Cx)(pins:List (Addr×Obj))(σ : St)(Q:List V->Hp->Prop)(us:List Value)(s':Shared):Prop := ∃vs H',Inv X pins σ H' s'/\Vals vs us/\Q vs H'
def SP(X:Cx)(pins:List (Addr×Obj))(D:Ends)(f:Flow)(s':Shared):Prop :=
 match f with
 | .next => ∃ σ' H',Inv X pins σ' H' s'/\D.nx σ' H'
 | .brk => ∃ σ' H',Inv X pins σ' H' s'/\D.bk σ' H'
 | .cont => ∃ σ' H',Inv X pins σ' H' s'/\D.ct σ' H'
 | .ret u => ∃v σ' H',Inv X pins σ' H' s'/\RelV v u/\D.rt v H'
def PE(X:Cx)(e:Expr)(t:TE):Prop :=
 ∀(pins:List (Addr×Obj)) (s:Shared) (σ : St) (H:Hp) (Q:VK),Inv X pins σ H s->t σ H Q->wpAny (model X.prog X.w) X.A (eval e X.env) (EP X pins σ Q) X.xe s
def PT(X:Cx)(e:Expr)(t:TT):Prop :=
 ∀(pins:List (Addr×Obj)) (s:Shared) (σ : St) (H:Hp) (Q:Bool->Hp->Prop),Inv X pins σ H s->t σ H Q->wpAny (model X.prog X.w) X.A (isTrue e X.env (eval e X.env)) (TP X pins σ Q) X.xe s
def PW(X:Cx)(e:Expr)(t:TT):Prop :=
 ∀(whole:Sem Value) (pins:List (Addr×Obj)) (s:Shared) (σ : St) (H:Hp) (Q:Bool->Hp->Prop),Inv X pins σ H s->t σ H Q->wpAny (model X.prog X.w) X.A (isTrue e X.env whole) (TP X pins σ Q) X.xe s
theorem PW.pt{X:Cx}{e:Expr}{t:TT}(h:PW X e t):PT X e t:=h _
def PA(X:Cx)(es:List Expr)(t:TA):Prop :=
 ∀(pos:Pos) (pins:List (Addr×Obj)) (s:Shared) (σ : St) (H:Hp) (Q:List V->Hp->Prop),Inv X pins σ H s->t σ H Q->wpAny (model X.prog X.w) X.A (spliced (backTo pos (starEach es X.env))) (AP X pins σ Q) X.xe s
def PS(X:Cx)(st:Stmt)(t:TS):Prop :=
 ∀(pins:List (Addr×Obj)) (s:Shared) (σ : St) (H:Hp) (D:Ends),Inv X pins σ H s->t D σ H->wpAny (model X.prog X.w) X.A (exec st X.env) (SP X pins D) X.xe s
def PSs(X:Cx)(st:List Stmt)(t:TS):Prop :=
 ∀(pins:List (Addr×Obj)) (s:Shared) (σ : St) (H:Hp) (D:Ends),Inv X pins σ H s->t D σ H->wpAny (model X.prog X.w) X.A (execs st X.env) (SP X pins D) X.xe s
theorem thn{α : Type}{t:Sem α}{Q Q' : α -> Shared->Prop}{M:Model}{A:Around}{E:Value->Shared->Prop}{s:Shared}(h:wpAny M A t Q E s)(hQ:∀a s,Q a s->Q' a s):wpAny M A t Q' E s:=dE h hQ λ_ _ x=>x
section
variable{X:Cx}
theorem bin{a b:Expr}{ta tb:TE}(ha:PE X a ta)(hb:PE X b tb){pins:List (Addr×Obj)}{s:Shared}{σ : St}{H:Hp}{R:V->V->Hp->Prop}(I:Inv X pins σ H s)(h:ta σ H λx H1=>tb σ H1 λy H2=>R x y H2){α : Type}{Q : α -> Shared->Prop}{f:Value->Value->Sem α}(hf:∀v u s2 x y H2,Inv X pins σ H2 s2->RelV x v->RelV y u->R x y H2->wpAny (model X.prog X.w) X.A (f v u) Q X.xe s2):wpAny (model X.prog X.w) X.A (eval a X.env) (λv s₁ =>wpAny (model X.prog X.w) X.A (eval b X.env) (λu s₂ =>wpAny (model X.prog X.w) X.A (f v u) Q X.xe s₂) X.xe s₁) X.xe s:=by
 refine thn (ha pins s σ H _ I h) λv s1 hq_=>?_;obtain⟨x,H1,I1,r1,q1⟩:=hq_;refine thn (hb pins s1 σ H1 _ I1 q1) λu s2 hq_=>?_;obtain⟨y,H2,I2,r2,q2⟩:=hq_;exact hf v u s2 x y H2 I2 r1 r2 q2
def tVar(i:Nat):TE:=λσ H Q => ∃v,σ[i]? = some (some v)/\Q v H
def tC(v:V):TE:=λ_ H Q=>Q v H
theorem qX5{i:Nat}{x:Str}{pos:Pos}(hN:X.N[i]? = some x)(hv:Vis X.env.scope x)(hd:(x == ("__debug__" : Str))=false:=by decide)(hcd:(x == ("__classdict__" : Str))=false:=by decide):PE X (.Name x pos) (tVar i):=by
 intro pins s σ H Q I h;obtain⟨v,e,h⟩:=h;obtain⟨m,hn,hl⟩:=I.loc;obtain⟨u,r,l⟩:=hl i x v hN e hv;have fin:EP X pins σ Q u s:=⟨v,H,I,r,h⟩;rcases l with ⟨hk,hm⟩ | ⟨hk,c,hc,hcell⟩
 ·exact wpAny_Name (wpAny_loadName_local I.ok.kind hk hn hm fin) hd
 ·rcases hk with hk | hk
  ·exact wpAny_Name (wpAny_loadName_cell I.ok.kind hk hc hcell fin) hd
  ·exact wpAny_Name (wpAny_loadName_free I.ok.kind hk hc hcell fin hcd) hd
theorem qA6{i j pos}:PE X (.Constant (.int i) j pos) (tC (.int i)):=λ_ _ _ H _ I h=>wpAny_Constant_int ⟨.int i,H,I.tok _,⟨_,rfl⟩,h⟩
theorem qGy{b j pos}:PE X (.Constant (.bool b) j pos) (tC (.bl b)):=λ_ _ _ H _ I h=>Constant_bool ⟨.bl b,H,I,rfl,h⟩
theorem qTi{j pos}:PE X (.Constant .none j pos) (tC .non):=λ_ _ _ H _ I h=>Constant_none ⟨.non,H,I,rfl,h⟩
theorem qB7{x j pos}:PE X (.Constant (.str x) j pos) (tC (.str x)):=λ_ _ _ H _ I h=>Calls.Constant_str ⟨.str x,H,I.tok _,⟨_,rfl⟩,h⟩
def Gl(X:Cx)(x:Str):Prop:=X.env.kindOf x=some .globalImplicit
theorem qVf{E:Value->Shared->Prop}{pins:List (Addr×Obj)}{s:Shared}{σ : St}{H:Hp}{x:Str}{u:Value}{pos:Pos}{Q:Value->Shared->Prop}(I:Inv X pins σ H s)(hg:Gl X x)(hm:X.mg x=some u)(h:Q u s)
  (hd:(x == ("__debug__" : Str))=false:=by decide):wpAny (model X.prog X.w) X.A (eval (.Name x pos) X.env) Q E s :=
 Calls.Name_function_global I.ok.kind hg (Calls.loadGlobal_global (by rw [I.ok.glob];exact I.mod.glob.keeps I.bk) hm h) hd
theorem qJx{E:Value->Shared->Prop}{pins:List (Addr×Obj)}{s:Shared}{σ : St}{H:Hp}{x:Str}{u:Value}{pos:Pos}{Q:Value->Shared->Prop}(I:Inv X pins σ H s)(hg:Gl X x)(hm:X.mg x=none)(hv:bootBuiltins x=some u)(h:Q u s)
  (hn:x ≠ "__name__" :=by decide) (hd:(x == ("__debug__" : Str))=false:=by decide):wpAny (model X.prog X.w) X.A (eval (.Name x pos) X.env) Q E s:=by
 obtain⟨mb,h1,h2⟩:=I.mod.blt;exact Calls.Name_function_global I.ok.kind hg (Calls.loadGlobal_builtin (by rw [I.ok.glob];exact I.mod.glob.keeps I.bk) hm (by rw [I.ok.blt];exact h1.keeps I.bk) ((h2 x hn).trans hv) h) hd
theorem qUm{x:Str}{v:V}{u:Value}{pos:Pos}(hg:Gl X x)(hm:X.mg x=none)(hv:bootBuiltins x=some u)(r:RelV v u)(hn:x ≠ "__name__" :=by decide)(hd:(x == ("__debug__" : Str))=false:=by decide):PE X (.Name x pos) (tC v):=λ_ _ _ H _ I h=>qJx I hg hm hv ⟨v,H,I,r,h⟩ hn hd
variable{a b:Expr}{ta tb:TE}{pos:Pos}
def PC(X:Cx)(op:CmpOp)(a b:Expr)(t:TE):Prop :=
 ∀(pins:List (Addr×Obj)) (s:Shared) (σ : St) (H:Hp) (Q:VK),Inv X pins σ H s->t σ H Q ->
  wpAny (model X.prog X.w) X.A (eval a X.env) (λv s₁ =>wpAny (model X.prog X.w) X.A (eval b X.env) (λu s₂ =>wpAny (model X.prog X.w) X.A (compareOp op v u) (EP X pins σ Q) X.xe s₂) X.xe s₁) X.xe s
theorem qSb(b:Expr){op:CmpOp}(h:op ≠ .In)(h2:op ≠ .NotIn):behindInMarks op b=false:=by
 have e1:(op == CmpOp.In)=false:=by cases op <;> first | rfl | exact absurd rfl h
 have e2:(op == CmpOp.NotIn)=false:=by cases op <;> first | rfl | exact absurd rfl h2
 cases b <;> simp [behindInMarks,e1,e2]
def tB(t:TE):TT:=λσ H Q=>t σ H λx H1 => ∃c,x = .bl c/\Q c H1
theorem qTf{op:CmpOp}{t:TE}(h:PC X op a b t)(h1:behindInMarks op b=false:=by first | exact qSb _ (by decide) (by decide) | rfl):PT X (.Compare a [op] [b] pos) (tB t):=by
 intro pins s σ H Q I hw;refine wpAny_isTrue_Compare1 (thn (h pins s σ H _ I hw) λv s1 h1=>thn h1 λu s2 h2=>thn h2 λc s3 hq_=>?_) h1;obtain⟨x,H1,I1,r1,q1⟩:=hq_;obtain⟨d,rfl,q⟩:=q1;cases r1;exact fW ⟨H1,I1,q⟩
variable{tA tB':TT}{rest:List Expr}
def tAnd(t u:TT):TT:=λσ H Q=>t σ H λc H1=>if c=true then u σ H1 Q else Q false H1
def tOr(t u:TT):TT:=λσ H Q=>t σ H λc H1=>if c=true then Q true H1 else u σ H1 Q
def tNot(t:TT):TT:=λσ H Q=>t σ H λc H1=>Q (!c) H1
theorem qD5(ha:PT X a tA):PW X (.BoolOp .And [a] pos) tA:=by
 intro wh pins s σ H Q I h;refine isTrue_and (thn (ha pins s σ H Q I h) λc s1 e=>?_);cases c with
 | true=>exact isTrue_and_nil e
 | false=>exact e
theorem qP2(ha:PT X a tA):PW X (.BoolOp .Or [a] pos) tA:=by
 intro wh pins s σ H Q I h;refine isTrue_or (thn (ha pins s σ H Q I h) λc s1 e=>?_);cases c with
 | false=>exact isTrue_or_nil e
 | true=>exact e
theorem qF9(ha:PT X a tA)(hb:PW X (.BoolOp .And (b::rest) pos) tB'):PW X (.BoolOp .And (a::b::rest) pos) (tAnd tA tB'):=by
 intro wh pins s σ H Q I h;refine isTrue_and (thn (ha pins s σ H _ I h) λc s1 hq_=>?_);obtain⟨H1,I1,q1⟩:=hq_;cases c with
 | true=>exact hb wh pins s1 σ H1 Q I1 q1
 | false=>exact⟨H1,I1,q1⟩
theorem qUi(ha:PT X a tA)(hb:PW X (.BoolOp .Or (b::rest) pos) tB'):PW X (.BoolOp .Or (a::b::rest) pos) (tOr tA tB'):=by
 intro wh pins s σ H Q I h;refine isTrue_or (thn (ha pins s σ H _ I h) λc s1 hq_=>?_);obtain⟨H1,I1,q1⟩:=hq_;cases c with
 | true=>exact⟨H1,I1,q1⟩
 | false=>exact hb wh pins s1 σ H1 Q I1 q1
theorem qX3(ha:PT X a tA):PT X (.UnaryOp .Not a pos) (tNot tA):=by
 intro pins s σ H Q I h;exact isTrue_not (ha pins s σ H (λc H1=>Q (!c) H1) I h)
def tAndV(ta tb:TE):TE:=λσ H Q=>ta σ H λx H1 => ∃c,x = .bl c/\if c=true then tb σ H1 Q else Q (.bl false) H1
def tOrV(ta tb:TE):TE:=λσ H Q=>ta σ H λx H1 => ∃c,x = .bl c/\if c=true then Q (.bl true) H1 else tb σ H1 Q
theorem qM6{op}{t:TE}(h:PE X a t):PE X (.BoolOp op [a] pos) t:=λpins s σ H Q I hw=>BoolOp_one (h pins s σ H Q I hw)
theorem qP8(ha:PE X a ta)(hb:PE X (.BoolOp .And (b::rest) pos) tb):PE X (.BoolOp .And (a::b::rest) pos) (tAndV ta tb):=by
 intro pins s σ H Q I h;refine BoolOp_and (thn (ha pins s σ H _ I h) λv s1 hq_=>?_);obtain⟨x,H1,I1,r1,q1⟩:=hq_;obtain⟨c,rfl,q1⟩:=q1;cases r1;refine fW ?_;cases c with
 | true=>exact hb pins s1 σ H1 Q I1 q1
 | false=>exact⟨.bl false,H1,I1,rfl,q1⟩
theorem qYg(ha:PE X a ta)(hb:PE X (.BoolOp .Or (b::rest) pos) tb):PE X (.BoolOp .Or (a::b::rest) pos) (tOrV ta tb):=by
 intro pins s σ H Q I h;refine BoolOp_or (thn (ha pins s σ H _ I h) λv s1 hq_=>?_);obtain⟨x,H1,I1,r1,q1⟩:=hq_;obtain⟨c,rfl,q1⟩:=q1;cases r1;refine fW ?_;cases c with
 | false=>exact hb pins s1 σ H1 Q I1 q1
 | true=>exact⟨.bl true,H1,I1,rfl,q1⟩
def tIf(t:TT)(ta tb:TE):TE:=λσ H Q=>t σ H λc H1=>if c=true then ta σ H1 Q else tb σ H1 Q
theorem qC7{c:Expr}(hc:PT X c tA)(ha:PE X a ta)(hb:PE X b tb):PE X (.IfExp c a b pos) (tIf tA ta tb):=by
 intro pins s σ H Q I h;refine wpAny_IfExp (thn (hc pins s σ H _ I h) λd s1 hq_=>?_);obtain⟨H1,I1,q1⟩:=hq_;cases d with
 | true=>exact ha pins s1 σ H1 Q I1 q1
 | false=>exact hb pins s1 σ H1 Q I1 q1
end
def SqL(K:PySem.W.Frag)(H:Hp)(a:Addr)(xs:List V):Prop :=
 Rd H a (.lst xs) \/
  ∃(o:Obj) (its:Array Value) (n:Nat),K.lookup a=some o/\o.cls = .type "list" /\ o.dict=none/\o.data = .seq its n/\its.size<=sizeLine/\Vals xs its.toList
def SqT(K:PySem.W.Frag)(H:Hp)(a:Addr)(xs:List V):Prop :=
 Rd H a (.tup xs) \/
  ∃(o:Obj) (its:Array Value) (n:Nat),K.lookup a=some o/\o.cls = .type "tuple" /\ o.data = .seq its n/\its.size<=sizeLine/\Vals xs its.toList
def absV:Value->Option V
 | .none=>some .non
 | .bool b=>some (.bl b)
 | .int i _=>some (.int i)
 | .str x _=>some (.str x)
 | .bytes b _=>some (.byt b)
 | .float b _=>some (.flt b)
 | .ref a=>some (.ref a)
 | .type n=>some (.ty n)
 | _=>none
theorem RelV.abs{x:V}{u:Value}(r:RelV x u):absV u=some x:=by
 cases x with
 | non=>cases r;rfl
 | bl _=>cases r;rfl
 | int _=>obtain⟨t,rfl⟩:=r;rfl
 | str _=>obtain⟨t,rfl⟩:=r;rfl
 | byt _=>obtain⟨t,rfl⟩:=r;rfl
 | flt _=>obtain⟨t,rfl⟩:=r;rfl
 | ref _=>cases r;rfl
 | ty _=>cases r;rfl
theorem RelV.inj{x y:V}{u:Value}(r:RelV x u)(q:RelV y u):x=y:=bF (r.abs.symm.trans q.abs)
theorem Vals.inj{xs ys:List V}{us:List Value}(h:Vals xs us)(k:Vals ys us):xs=ys:=by
 induction h generalizing ys with
 | nil=>cases k;rfl
 | cons r _ ih=>cases k with | cons r' t'=>rw [r.inj r',ih t']
section
variable{X:Cx}{pins:List (Addr×Obj)}{σ : St}{H:Hp}{s:Shared}{a:Addr}{xs ys:List V}
theorem SqL.of{K:PySem.W.Frag}(h:H a=some (.lst xs)):SqL K H a xs :=.inl (.inl h)
theorem SqT.of{K:PySem.W.Frag}(h:H a=some (.tup xs)):SqT K H a xs :=.inl (.inl h)
theorem Inv.list(I:Inv X pins σ H s)(h:SqL X.K H a xs):∃its:List Value,Vals xs its/\PlainL s.heap a its.toArray/\xs.length<=sizeLine:=by
 rcases h with h | ⟨o,its,n,hk,hc,hd,hs,hz,r⟩
 ·obtain⟨z,its,n,r,e⟩:=h.ok I.hok;exact⟨its,r,⟨_,n,e,rfl,rfl,rfl⟩,z⟩
 ·refine⟨its.toList,r,⟨o,n,I.kIn a o hk,hc,hd,by simpa using hs⟩,?_⟩;have e:=r.length;simp only [aK] at e;lia
theorem Inv.tuple(I:Inv X pins σ H s)(h:SqT X.K H a xs):∃its:List Value,Vals xs its/\IsTup s.heap a its.toArray/\xs.length<=sizeLine:=by
 rcases h with h | ⟨o,its,n,hk,hc,hs,hz,r⟩
 ·obtain⟨z,its,r,p⟩:=h.ok I.hok;exact⟨its,r,p,z⟩
 ·refine⟨its.toList,r,⟨o,I.kIn a o hk,hc,n,by simpa using hs⟩,?_⟩;have e:=r.length;simp only [aK] at e;lia
theorem Inv.list_inj(I:Inv X pins σ H s)(h:SqL X.K H a xs)(h':SqL X.K H a ys):xs=ys:=by
 obtain⟨its,r,⟨o,n,e,_,_,d⟩,_⟩:=I.list h;obtain⟨its',r',⟨o',n',e',_,_,d'⟩,_⟩:=I.list h';rw [e] at e';cases e';rw [d] at d';injection d' with d1 _
 have:its=its':=by simpa using congrArg Array.toList d1
 subst this;exact r.inj r'
theorem Inv.tuple_inj(I:Inv X pins σ H s)(h:SqT X.K H a xs)(h':SqT X.K H a ys):xs=ys:=by
 obtain⟨its,r,⟨o,e,_,n,d⟩,_⟩:=I.tuple h;obtain⟨its',r',⟨o',e',_,n',d'⟩,_⟩:=I.tuple h';rw [e] at e';cases e';rw [d] at d';injection d' with d1 _
 have:its=its':=by simpa using congrArg Array.toList d1
 subst this;exact r.inj r'
end
abbrev Cx.wish(X:Cx)(E:Value->Shared->Prop):Cx :={ X with xe:=E }
abbrev Cx.nox(X:Cx):Cx:=X.wish λ_ _=>False
theorem Cx.Ok.wish{X:Cx}(ok:X.Ok)(E:Value->Shared->Prop):(X.wish E).Ok:=⟨ok.mod,ok.kind,ok.glob,ok.blt,ok.above,ok.inj,ok.has,ok.cab,ok.hd,ok.frames,ok.stk,ok.exf,ok.bs,ok.bsz,ok.noex,ok.exfs,ok.funs,ok.frf⟩
theorem Cx.Ok.unwish{X:Cx}{E:Value->Shared->Prop}(ok:(X.wish E).Ok):X.Ok:=⟨ok.mod,ok.kind,ok.glob,ok.blt,ok.above,ok.inj,ok.has,ok.cab,ok.hd,ok.frames,ok.stk,ok.exf,ok.bs,ok.bsz,ok.noex,ok.exfs,ok.funs,ok.frf⟩
section
variable{X:Cx}{pins:List (Addr×Obj)}{σ : St}{H:Hp}{s:Shared}{E:Value->Shared->Prop}
theorem Inv.wish(I:Inv X pins σ H s)(E:Value->Shared->Prop):Inv (X.wish E) pins σ H s:=⟨I.ok.wish E,I.os,I.bare,I.base,I.loc,I.cell,I.free,I.freeC,I.pin,I.hok,I.len⟩
theorem Inv.unwish(I:Inv (X.wish E) pins σ H s):Inv X pins σ H s:=⟨I.ok.unwish,I.os,I.bare,I.base,I.loc,I.cell,I.free,I.freeC,I.pin,I.hok,I.len⟩
theorem SP.unwish{D:Ends}{f:Flow}{s':Shared}(h:SP (X.wish E) pins D f s'):SP X pins D f s':=by
 cases f with
 | next=>obtain⟨σ',H',I,q⟩:=h;exact⟨σ',H',I.unwish,q⟩
 | brk=>obtain⟨σ',H',I,q⟩:=h;exact⟨σ',H',I.unwish,q⟩
 | cont=>obtain⟨σ',H',I,q⟩:=h;exact⟨σ',H',I.unwish,q⟩
 | ret u=>obtain⟨v,σ',H',I,r,q⟩:=h;exact⟨v,σ',H',I.unwish,r,q⟩
theorem PSs.nox{st:List Stmt}{t:TS}(h:PSs X.nox st t):PSs X st t:=λpins s σ H D I hw =>
 dE (h pins s σ H D (I.wish _) hw) (λ_ _ q=>q.unwish) λ_ _ z=>False.elim z
end
section
variable{X:Cx}{st:Stmt}{rest:List Stmt}{t u:TS}{e:Expr}{te:TE}{pos:Pos}
def tNext:TS:=λD σ H=>D.nx σ H
def tSeq(t u:TS):TS:=λD σ H=>t { D with nx:=u D } σ H
theorem qBg:PSs X [] tNext:=λ_ _ σ H _ I h=>wpAny_execs_nil ⟨σ,H,I,h⟩
theorem qA7(h1:PS X st t)(h2:PSs X rest u):PSs X (st::rest) (tSeq t u):=by
 intro pins s σ H D I h;refine wpAny_execs_cons (thn (h1 pins s σ H { D with nx:=u D } I h) λf s1 q=>?_);cases f with
 | next =>
  obtain⟨σ',H',I',q⟩:=q;exact h2 pins s1 σ' H' D I' q
 | ret v=>exact q
 | brk=>exact q
 | cont=>exact q
theorem qA9(h1:PS X st t):PSs X [st] t:=by
 intro pins s σ H D I h;refine wpAny_execs_cons (thn (h1 pins s σ H D I h) λf s1 q=>?_);cases f with
 | next=>exact wpAny_execs_nil q
 | ret v=>exact q
 | brk=>exact q
 | cont=>exact q
theorem Inv.quiet{pins:List (Addr×Obj)}{σ : St}{H:Hp}{s:Shared}(I:Inv X pins σ H s):interactive X.env=false:=by simp [interactive,I.ok.kind]
def tDrop(te:TE):TS:=λD σ H=>te σ H λ_ H1=>D.nx σ H1
theorem qC6(he:PE X e te)(hs:swapsWith e none pos.line X.env=pure false:=by rfl):PS X (.Expr e pos) (tDrop te):=by
 intro pins s σ H D I h;refine wpAny_Expr_any (thn (he pins s σ H _ I h) λv s1 hq_=>?_) I.quiet hs;obtain⟨x,H1,I1,r1,q1⟩:=hq_;exact⟨σ,H1,I1,q1⟩
def tRet(te:TE):TS:=λD σ H=>te σ H D.rt
theorem qAt(he:PE X e te):PS X (.Return (some e) pos) (tRet te):=by
 intro pins s σ H D I h;refine wpAny_Return_some (thn (he pins s σ H _ I h) λv s1 hq_=>?_);obtain⟨x,H1,I1,r1,q1⟩:=hq_;exact⟨x,σ,H1,I1,r1,q1⟩
def tIfS(c:TT)(t u:TS):TS:=λD σ H=>c σ H λb H1=>if b=true then t D σ H1 else u D σ H1
theorem qCh{c:Expr}{a b:List Stmt}{tc:TT}(hc:PT X c tc)(ha:PSs X a t)(hb:PSs X b u):PS X (.If c a b pos) (tIfS tc t u):=by
 intro pins s σ H D I h;refine wpAny_If (thn (hc pins s σ H _ I h) λd s1 hq_=>?_);obtain⟨H1,I1,q1⟩:=hq_;cases d with
 | true=>exact ha pins s1 σ H1 D I1 q1
 | false=>exact hb pins s1 σ H1 D I1 q1
end
abbrev TG:=V->St->Hp->(St->Hp->Prop)->Prop
abbrev TGs:=List V->St->Hp->(St->Hp->Prop)->Prop
def PG(X:Cx)(target:Expr)(t:TG):Prop :=
 ∀(pins:List (Addr×Obj)) (s:Shared) (σ : St) (H:Hp) (v:V) (u:Value) (Q:St->Hp->Prop),Inv X pins σ H s->RelV v u->t v σ H Q ->
  wpAny (model X.prog X.w) X.A (assign target X.env u) (λ_ s' => ∃ σ' H',Inv X pins σ' H' s'/\Q σ' H') X.xe s
def PGs(X:Cx)(ts:List Expr)(t:TGs):Prop :=
 ∀(pins:List (Addr×Obj)) (s:Shared) (σ : St) (H:Hp) (vs:List V) (us:List Value) (Q:St->Hp->Prop),Inv X pins σ H s->Vals vs us->t vs σ H Q ->
  wpAny (model X.prog X.w) X.A (assignInOrder ((assignEach ts X.env).map (·.2)) us) (λ_ s' => ∃ σ' H',Inv X pins σ' H' s'/\Q σ' H') X.xe s
abbrev TSet:=V->V->V->Hp->(Hp->Prop)->Prop
def PSet(X:Cx)(t:TSet):Prop :=
 ∀(pins:List (Addr×Obj)) (s:Shared) (σ : St) (H:Hp) (o i v:V) (ov iv u:Value) (Q:Hp->Prop),Inv X pins σ H s->RelV o ov->RelV i iv->RelV v u->t o i v H Q ->
  wpAny (model X.prog X.w) X.A (setItem ov iv u) (λ_ s' => ∃H',Inv X pins σ H' s'/\Q H') X.xe s
section
variable{X:Cx}{pos:Pos}
def gName(i:Nat):TG:=λv σ H Q=>Q (σ.set i (some v)) H
theorem qAb{i:Nat}{x:Str}(hN:X.N.Nodup)(hi:X.N[i]? = some x)(hx:Loc X.env.scope x)(hf:X.fn x=true\/X.env.scope.names.lookup x=some .local:=by first | exact .inl rfl | exact .inr rfl | assumption):PG X (.Name x pos) (gName i):=by
 intro pins s σ H v u Q I r h;exact wpAny_assign_Name (qFl I hN hi hx r (λs' I'=>⟨_,H,I',h⟩) hf)
def gNil:TGs:=λvs σ H Q=>vs = []/\Q σ H
def gCons(t:TG)(u:TGs):TGs:=λvs σ H Q => ∃v r,vs=v::r/\t v σ H λσ' H'=>u r σ' H' Q
theorem qBy:PGs X [] gNil:=by
 intro pins s σ H vs us Q I r h;obtain⟨e,h⟩:=h;subst e;cases r;exact assignInOrder_nil ⟨σ,H,I,h⟩
theorem qAj{e:Expr}{es:List Expr}{t:TG}{u:TGs}(h1:PG X e t)(h2:PGs X es u)(hs:(assignEach (e::es) X.env).map (·.2)=assign e X.env::(assignEach es X.env).map (·.2):=by rfl):PGs X (e::es) (gCons t u):=by
 intro pins s σ H vs us Q I r h;obtain⟨v,vr,e1,h⟩:=h;subst e1;cases r with
 | cons r rr =>
  rw [hs];refine assignInOrder_cons (thn (h1 pins s σ H _ _ _ I r h) λ_ s1 hq_=>?_);obtain⟨σ1,H1,I1,q1⟩:=hq_;exact h2 pins s1 σ1 H1 _ _ Q I1 rr q1
def gTup(K:PySem.W.Frag)(n:Nat)(t:TGs):TG:=λv σ H Q => ∃a xs,v = .ref a/\SqT K H a xs/\xs.length=n/\t xs σ H Q
theorem qFa{es:List Expr}{k:Nat}{t:TGs}{n:Nat}(hc:X.calm=true)(h:PGs X es t)(hn:(assignEach es X.env).length=n:=by rfl)(hst:(assignEach es X.env).findIdx? (·.1)=none:=by rfl):PG X (.Tuple es k pos) (gTup X.K n t):=by
 intro pins s σ H v u Q I r hw;obtain⟨a,xs,e1,hq,hl,hw⟩:=hw;subst e1;cases r;obtain⟨its,rv,ht,hz⟩:=I.tuple hq;refine assign_Tuple_tuple (I.ok.hd hc) ht (by simp [hn,<-hl,rv.length]) hst λh' hx=>?_;have I1:Inv X pins σ H { s with heap:=h' }:=I.kept (t':=s.toks) λb o e=>hx b o (bB (aX e)) e;exact h pins _ σ H xs _ Q I1 (by simpa using rv) hw
def gSub(to ti:TE)(t:TSet):TG:=λv σ H Q=>to σ H λo H1=>ti σ H1 λi H2=>t o i v H2 λH3=>Q σ H3
theorem qTh{o i:Expr}{to ti:TE}{t:TSet}(ho:PE X o to)(hi:PE X i ti)(hs:PSet X t)(ha:∀v,assign (.Subscript o i pos) X.env v=(do
   let ov <-holding [v] (eval o X.env)
   let iv <-holding [v,ov] (eval i X.env)
   standAt pos
   holding [v,ov,iv] (setItem ov iv v)
   release [v,ov,iv] []):=by intro _;rfl):PG X (.Subscript o i pos) (gSub to ti t):=by
 intro pins s σ H v u Q I r h;rw [ha];refine aA (bT (thn (ho pins s σ H _ I h) λov s1 hq_=>?_));obtain⟨x,H1,I1,r1,q1⟩:=hq_;refine aA (bT (thn (hi pins s1 σ H1 _ I1 q1) λiv s2 hq_=>?_));obtain⟨y,H2,I2,r2,q2⟩:=hq_;refine aA (eO (aA (bT (thn (hs pins s2 σ H2 x y v ov iv u _ I2 r1 r2 r q2) λ_ s3 hq_=>?_))));obtain⟨H3,I3,q3⟩:=hq_;exact wpAny_release ⟨σ,H3,I3,q3⟩
def tAsg(te:TE)(g:TG):TS:=λD σ H=>te σ H λx H1=>g x σ H1 D.nx
theorem qJg{tg e:Expr}{te:TE}{g:TG}(he:PE X e te)(hg:PG X tg g)(hs:swapsWithSole [tg] e pos.line X.env=pure false:=by rfl)(hw:swappedStores [tg] e X.env=pure none:=by rfl)(h1:(assignEach [tg] X.env).map (·.2) = [assign tg X.env]:=by rfl):PS X (.Assign [tg] e pos) (tAsg te g):=by
 intro pins s σ H D I h;refine wpAny_Assign_stores (thn (he pins s σ H _ I h) λv s1 hq_=>?_) hs hw;obtain⟨x,H1,I1,r1,q1⟩:=hq_;rw [h1];exact thn (hg pins s1 σ H1 x v _ I1 r1 q1) λ_ s2 q=>q
theorem qAo{i:Nat}{x:Str}{e:Expr}{te:TE}{pos':Pos}(hN:X.N.Nodup)(hi:X.N[i]? = some x)(hx:Loc X.env.scope x)(he:PE X e te)(hs:swapsWith e (some (.Name x pos')) pos.line X.env=pure false:=by rfl)(hf:X.fn x=true\/X.env.scope.names.lookup x=some .local:=by first | exact .inl rfl | exact .inr rfl | assumption):PS X (.Assign [.Name x pos'] e pos) (tAsg te (gName i)):=by
 intro pins s σ H D I h;refine wpAny_Assign_Name (thn (he pins s σ H _ I h) λv s1 hq_=>?_) hs;obtain⟨y,H1,I1,r1,q1⟩:=hq_;exact qFl I1 hN hi hx r1 (λs2 I2=>⟨_,H1,I2,q1⟩) hf
def tPar(i j:Nat)(ta:TA):TS:=λD σ H=>ta σ H λvs H1 => ∃v w,vs = [v,w]/\D.nx ((σ.set i (some v)).set j (some w)) H1
theorem qM0{i j:Nat}{x y:Str}{a b:Expr}{ta:TA}{px py pt:Pos}{kt k2 pt2}(hc:X.calm=true)(hN:X.N.Nodup)(hi:X.N[i]? = some x)(hj:X.N[j]? = some y)(hij:i≠j)(hx:X.env.scope.names.lookup x=some .local)(hy:X.env.scope.names.lookup y=some .local)(ha:PA X [a,b] ta)(hw:swappedStores [.Tuple [.Name x px,.Name y py] kt pt] (.Tuple [a,b] k2 pt2) X.env=pure (some [x,y]))(hs:swapsWithSole [.Tuple [.Name x px,.Name y py] kt pt] (.Tuple [a,b] k2 pt2) pos.line X.env=pure false:=by rfl):PS X (.Assign [.Tuple [.Name x px,.Name y py] kt pt] (.Tuple [a,b] k2 pt2) pos) (tPar i j ta):=by
 intro pins s σ H D I h;rw [exec_Assign_arm];refine aA (eO ?_);rw [hs];refine aA (aC ?_);rw [if_neg (by decide)];refine aA (Tuple_ (thn (ha _ pins s σ H _ I h) λus s1 hq_=>?_));obtain⟨vs,H1,I1,r1,q1⟩:=hq_;obtain⟨v,w,e1,q1⟩:=q1;subst e1;obtain⟨u1,u2,rfl,rv,rw'⟩:∃u1 u2,us = [u1,u2]/\RelV v u1/\RelV w u2:=by
  cases r1 with
  | cons p q =>
   cases q with
   | cons p' q' =>
    cases q';exact⟨_,_,rfl,p,p'⟩
 refine cZ ?_ (by show 2<=sizeLine;decide);have I2:Inv X pins σ H1 { s1 with heap:=s1.heap.push { cls :=.type "tuple",data :=.seq [u1,u2].toArray } }:=I1.kept (t':=s1.toks) λb o e=>aH _ e;rw [hw];refine aA (aC ?_);show wpAny (model X.prog X.w) X.A (do rule "assign.swapped-stores";let items <-unpackItems (.ref s1.heap.objs.size) 2 none;assignInOrder [λv=>bindName X.env y v,λv=>bindName X.env x v] items.reverse;pure Flow.next) _ _ _;refine aA (dA (aA (unpackItems_tuple (items := #[u1,u2]) (I.ok.hd hc) (IsTup.new s1.heap _) λh' hx'=>?_)));have I3:=I2.kept (h':=h') (t':=s1.toks) λb o e=>hx' b o (bB (aX e)) e
 show wpAny _ _ (assignInOrder [λv=>bindName X.env y v,λv=>bindName X.env x v] [u2,u1] >>= λ_=>pure Flow.next) _ _ _;refine aA (assignInOrder_cons (wpAny_bindName (qFl I3 hN hj (.inl hy) rw' (λs2 I4=>?_) (.inr hy))));refine assignInOrder_cons (wpAny_bindName (qFl I4 hN hi (.inl hx) rv (λs3 I5=>assignInOrder_nil (aC ?_)) (.inr hx)));rw [List.set_comm _ _ (cS hij)] at I5;exact⟨_,H1,I5,q1⟩
end
section
variable{X:Cx}{pos:Pos}
def qVz(c:TT)(tb:TS):TS:=λD σ H => ∃W:Nat->St->Hp->Prop,(∃m,W m σ H) /\ ∀m σ H,W m σ H ->
 c σ H λb H1=>if b=true then ∃N:St->Hp->Prop,(∀ σ' H',N σ' H' -> ∃m',m'<m/\W m' σ' H')/\tb { D with nx:=N,ct:=N,bk:=D.nx } σ H1 else D.nx σ H1
theorem qLz{c:Expr}{body:List Stmt}{tc:TT}{tb:TS}(hp:PassesOwn (model X.prog X.w) X.A X.env X.xe)(hc:PT X c tc)(hb:PSs X body tb):PS X (.While c body [] pos) (qVz tc tb):=by
 intro pins s σ H D I h;obtain⟨W,⟨m0,w0⟩,turn⟩:=h;refine wpAny_While (codeAny_whileLoop (λn s' => ∃ σ' H',Inv X pins σ' H' s'/\W n σ' H') ?_ m0 ⟨σ,H,I,w0⟩);rintro n s1 ⟨σ1,H1,I1,w1⟩;refine fX hp (thn (hc pins s1 σ1 H1 _ I1 (turn n σ1 H1 w1)) λb s2 hq_=>?_);obtain⟨H2,I2,q2⟩:=hq_;cases b with
 | true =>
  obtain⟨N,hN,q2⟩:=q2;rw [if_pos rfl];refine fX hp (thn (hb pins s2 σ1 H2 _ I2 q2) λf s3 q3=>?_);cases f with
  | next =>
   obtain⟨σ3,H3,I3,n3⟩:=q3;obtain⟨m',hm,w3⟩:=hN σ3 H3 n3;exact⟨m',hm,σ3,H3,I3,w3⟩
  | cont =>
   obtain⟨σ3,H3,I3,n3⟩:=q3;obtain⟨m',hm,w3⟩:=hN σ3 H3 n3;exact⟨m',hm,σ3,H3,I3,w3⟩
  | brk=>exact q3
  | ret v=>exact q3
 | false =>
  rw [if_neg aD];exact wpAny_execs_nil ⟨σ1,H2,I2,q2⟩
end
structure It where
 go:Nat->Hp->Prop
 yld:Nat->Hp->V->Hp->Prop
 stop:Nat->Hp->Prop
def FpOk(X:Cx)(pins:List (Addr×Obj))(H:Hp)(b:Addr):Prop:=H b=none/\b≠X.env.locals/\b∉X.fs/\(b∈X.ex\/X.s₀.heap.objs.size<=b)/\(∀x c,X.env.cells.lookup x=some c->c≠b) /\ ∀p∈X.pn++pins,p.1≠b
theorem Inv.fpOk{X:Cx}{pins:List (Addr×Obj)}{σ : St}{H H':Hp}{s:Shared}{b:Addr}(I:Inv X pins σ H s)(hb:s.heap.objs.size<=b)(hn:H' b=none):FpOk X pins H' b:=by
 refine⟨hn,hZ (bI I.lt hb),I.nofs hb,.inr (cA I.sz hb),λx c e z=>?_,λp hp z=>?_⟩
 ·obtain⟨v,q⟩:=I.cell x c e;exact absurd (bI q.lt (by rw [z];exact hb)) (fM _)
 ·exact absurd (bI (aX (I.pin p hp).1) (by rw [z];exact hb)) (fM _)
structure Turn(P:Program)(w:World)(K:PySem.W.Frag)(tg:Expr)(J:It)(fp:List Addr)(it:Addr)(tn:Nat->Heap->Prop):Prop where
 mem:it∈fp
 obj:∀i h,tn i h -> ∀b∈fp,∃o,h.get? b=some o /\ ∀v,o.data ≠ .cell v
 keep:∀i h h',tn i h->(∀b∈fp,∀o,h.get? b=some o->h'.get? b=some o)->tn i h'
 item:∀(X:Cx),X.prog=P->X.w=w->X.K=K->X.calm=true -> ∀(i:Nat) (pins:List (Addr×Obj)) (s:Shared) (σ : St) (H:Hp) (E:Value->Shared->Prop),Inv X pins σ H s->(∀b∈fp,FpOk X pins H b)->tn i s.heap->J.go i H ->
  wpAny (model P w) X.A (pyNext (.ref it)) (λr s1 => ∃u,r=some u /\
   wpAny (model P w) X.A (letOwnedTupleGo tg (.ref it) u) (λ_ s2 => ∃x H',Inv X pins σ H' s2/\RelV x u/\J.yld i H x H'/\tn (i+1) s2.heap /\ ∀b∈fp,H' b=none) E s1) E s
 done:∀(X:Cx),X.prog=P->X.w=w->X.K=K->X.calm=true -> ∀(i:Nat) (pins:List (Addr×Obj)) (s:Shared) (σ : St) (H:Hp) (E:Value->Shared->Prop),Inv X pins σ H s->(∀b∈fp,FpOk X pins H b)->tn i s.heap->J.stop i H ->
  wpAny (model P w) X.A (pyNext (.ref it)) (λr s1=>r=none/\Inv X pins σ H s1) E s
 self:∀(A:Around) (i:Nat) (s:Shared) (Q:Value->Shared->Prop) (E:Value->Shared->Prop),tn i s.heap->Q (.ref it) s->wpAny (model P w) A (pyIter (.ref it)) Q E s
abbrev TI:=St->Hp->(It->Hp->Prop)->Prop
def PIE(X:Cx)(pins:List (Addr×Obj))(σ : St)(tg:Expr)(R:It->Hp->Prop)(itv:Value)(s2:Shared):Prop :=
 ∃(it:Addr) (fp:List Addr) (tn:Nat->Heap->Prop) (J:It) (H':Hp),itv = .ref it/\Inv X pins σ H' s2/\Turn X.prog X.w X.K tg J fp it tn/\tn 0 s2.heap/\(∀b∈fp,FpOk X pins H' b)/\R J H'
def PI(X:Cx)(tg iter:Expr)(wi:TI):Prop :=
 ∀(pins:List (Addr×Obj)) (s:Shared) (σ : St) (H:Hp) (R:It->Hp->Prop),Inv X pins σ H s->wi σ H R ->
  wpAny (model X.prog X.w) X.A (eval iter X.env) (λv s1=>wpAny (model X.prog X.w) X.A (pyIter v) (PIE X pins σ tg R) X.xe s1) X.xe s
theorem qSq{M:Model}{A:Around}{E:Value->Shared->Prop}{s:Shared}{tg:Expr}{it:Addr}{u:Value}{o:Obj}{n:String}{vs:Array Value}{Q:Unit->Shared->Prop}(ho:s.heap.get? it=some o)(hc:o.cls = .type n)(hd:o.data = .fields vs)
  (hn : ["enumerate","zip","dict_itemiterator","dict_reverseitemiterator","odict_iterator","itertools.zip_longest","itertools.pairwise"].contains n=false) (hQ:Q () s):wpAny M A (letOwnedTupleGo tg (.ref it) u) Q E s:=by
 unfold letOwnedTupleGo;cases tg <;> first
  | exact aC hQ
  | (cases u <;> first
    | exact aC hQ
    | (refine aA (wpAny_load ho ?_)
       rw [hc,hd];show wpAny M A (if (["enumerate","zip","dict_itemiterator","dict_reverseitemiterator","odict_iterator","itertools.zip_longest","itertools.pairwise"].contains n&&vs[0]? == some (rawInt _))=true then _ else _) Q E s;rw [if_neg (by intro h;rw [hn,Bool.false_and] at h;cases h)]
       exact aC hQ))
def Itl(K:PySem.W.Frag)(a:Addr):It:=⟨λi H => ∃xs x,SqL K H a xs/\xs[i]? = some x,λi H x H'=>H'=H /\ ∀xs,SqL K H a xs->xs[i]? = some x,λi H => ∃xs,SqL K H a xs/\xs.length<=i⟩
def Itt(K:PySem.W.Frag)(a:Addr):It:=⟨λi H => ∃xs x,SqT K H a xs/\xs[i]? = some x,λi H x H'=>H'=H /\ ∀xs,SqT K H a xs->xs[i]? = some x,λi H => ∃xs,SqT K H a xs/\xs.length<=i⟩
def Itr(lo:Int)(n:Nat):It:=⟨λi _=>i<n,λi H x H'=>H'=H/\x = .int (lo+i),λi _=>n<=i⟩
theorem qO6{P:Program}{w:World}{K:PySem.W.Frag}{tg:Expr}(a it:Addr):Turn P w K tg (Itl K a) [it] it (λi h=>h.IsListIter it a i) where
 mem:=by simp
 obj:=λi h st b hb=>by
  have e:b=it:=by simpa using hb
  subst e;obtain⟨o,e,c,d⟩:=st;exact⟨o,e,λv z=>by rw [d] at z;cases z⟩
 keep:=λi h h' st k=>st.at λo e=>k it (by simp) o e
 item:=by
  intro X hP hw hK hc i pins s σ H E I hf st hg;subst hP hw hK;obtain⟨xs,x,hq,hx⟩:=hg;obtain⟨its,rv,p,hz⟩:=I.list hq;obtain⟨u,hu,ru⟩:=rv.get hx;obtain⟨f0,f1,f2,f3,f4,f5⟩:=hf it (by simp);refine wpAny_pyNext_list_item st p.isList (x:=u) (by simpa using hu) λh' st' sb=>?_;have I1:Inv X pins σ H { s with heap:=h' }:=I.turned (t':=s.toks) (λb o hb e=>(sb.2 b hb).trans e) f0 f1 f3 f4 f5;obtain⟨o,e,c,d⟩:=id st';exact⟨u,rfl,qSq (s :={ s with heap:=h' }) e c d (by decide) ⟨x,H,I1,ru,⟨rfl,λys hy=>by rw [I.list_inj hy hq];exact hx⟩,st',λb hb=>(hf b hb).1⟩⟩
 done:=by
  intro X hP hw hK hc i pins s σ H E I hf st hg;subst hP hw hK;obtain⟨xs,hq,hx⟩:=hg;obtain⟨its,rv,p,hz⟩:=I.list hq;obtain⟨f0,f1,f2,f3,f4,f5⟩:=hf it (by simp);have hl:=rv.length;exact wpAny_pyNext_list_end (I.ok.hd hc) st p.isList (by simp;lia) λh' eb=>⟨rfl,I.turned (t':=s.toks) (λb o hb e=>eb b o hb e) f0 f1 f3 f4 f5⟩
 self:=λ_ _ _ _ _ st h=>wpAny_pyIter_listiter st h
theorem qMy{P:Program}{w:World}{K:PySem.W.Frag}{tg:Expr}(a it:Addr):Turn P w K tg (Itt K a) [it] it (λi h=>h.IsTupleIter it a i) where
 mem:=by simp
 obj:=λi h st b hb=>by
  have e:b=it:=by simpa using hb
  subst e;obtain⟨o,e,c,d⟩:=st;exact⟨o,e,λv z=>by rw [d] at z;cases z⟩
 keep:=λi h h' st k=>st.at λo e=>k it (by simp) o e
 item:=by
  intro X hP hw hK hc i pins s σ H E I hf st hg;subst hP hw hK;obtain⟨xs,x,hq,hx⟩:=hg;obtain⟨its,rv,p,hz⟩:=I.tuple hq;obtain⟨u,hu,ru⟩:=rv.get hx;obtain⟨f0,f1,f2,f3,f4,f5⟩:=hf it (by simp);refine wpAny_pyNext_tuple_item st (show s.heap.IsTuple a its.toArray from p) (x:=u) (by simpa using hu) λh' st' sb=>?_;have I1:Inv X pins σ H { s with heap:=h' }:=I.turned (t':=s.toks) (λb o hb e=>(sb.2 b hb).trans e) f0 f1 f3 f4 f5;obtain⟨o,e,c,d⟩:=id st';exact⟨u,rfl,qSq (s :={ s with heap:=h' }) e c d (by decide) ⟨x,H,I1,ru,⟨rfl,λys hy=>by rw [I.tuple_inj hy hq];exact hx⟩,st',λb hb=>(hf b hb).1⟩⟩
 done:=by
  intro X hP hw hK hc i pins s σ H E I hf st hg;subst hP hw hK;obtain⟨xs,hq,hx⟩:=hg;obtain⟨its,rv,p,hz⟩:=I.tuple hq;obtain⟨f0,f1,f2,f3,f4,f5⟩:=hf it (by simp);have hl:=rv.length;exact wpAny_pyNext_tuple_end (I.ok.hd hc) st (show s.heap.IsTuple a its.toArray from p) (by simp;lia) λh' eb=>⟨rfl,I.turned (t':=s.toks) (λb o hb e=>eb b o hb e) f0 f1 f3 f4 f5⟩
 self:=λ_ _ _ _ _ st h=>wpAny_pyIter_tupleiter st h
theorem qMz{P:Program}{w:World}{K:PySem.W.Frag}{tg:Expr}(it:Addr)(lo:Int)(n:Nat):Turn P w K tg (Itr lo n) [it] it (λi h=>IsRangeIter h it (lo+(i:Nat)*1) ((n:Int) - (i:Nat)) 1) where
 mem:=by simp
 obj:=λi h st b hb=>by
  have e:b=it:=by simpa using hb
  subst e
  exact⟨_,st,λv z=>by
   have z':Data.fields _=Data.cell v:=z
   cases z'⟩
 keep:=λi h h' st k=>k it (by simp) _ st
 item:=by
  intro X hP hw hK hc i pins s σ H E I hf st hg;subst hP hw hK;obtain⟨f0,f1,f2,f3,f4,f5⟩:=hf it (by simp);have W:=Walks.range (prog:=X.prog) (w:=X.w) (I.ok.hd hc) it lo 1 n;refine W.item i s _ _ hg st λv h' tk hv st' kk=>?_;obtain⟨t,rfl⟩:=hv;have I1:Inv X pins σ H { s with heap:=h',toks:=tk }:=I.turned (λb o hb e=>kk b o (by simpa using hb) e) f0 f1 f3 f4 f5;refine⟨_,rfl,qSq (s :={ s with heap:=h',toks:=tk }) (n := "range_iterator") st' rfl rfl (by decide) ⟨.int (lo+i),H,I1,⟨t,?_⟩,⟨rfl,rfl⟩,st',λb hb=>(hf b hb).1⟩⟩;rw [Int.mul_one]
 done:=by
  intro X hP hw hK hc i pins s σ H E I hf st hg;subst hP hw hK;obtain⟨f0,f1,f2,f3,f4,f5⟩:=hf it (by simp);exact wpAny_pyNext_range_end (I.ok.hd hc) st (by have:n<=i:=hg;lia) λh' eb=>⟨rfl,I.turned (t':=s.toks) (λb o hb e=>eb b o hb e) f0 f1 f3 f4 f5⟩
 self:=λ_ _ _ _ _ st h=>wpAny_pyIter_rangeiter st h
section
variable{X:Cx}{tg:Expr}
def iList(K:PySem.W.Frag)(tl:TE):TI:=λσ H R=>tl σ H λx H1 => ∃a,x = .ref a/\(∃xs,SqL K H1 a xs)/\R (Itl K a) H1
def iTup(K:PySem.W.Frag)(tl:TE):TI:=λσ H R=>tl σ H λx H1 => ∃a,x = .ref a/\(∃xs,SqT K H1 a xs)/\R (Itt K a) H1
theorem qAy{l:Expr}{tl:TE}(hl:PE X l tl):PI X tg l (iList X.K tl):=by
 intro pins s σ H R I h;refine thn (hl pins s σ H _ I h) λv s1 hq_=>?_;obtain⟨x,H1,I1,r1,q1⟩:=hq_;obtain⟨a,e,⟨xs,hq⟩,q⟩:=q1;subst e;cases r1;obtain⟨its,rv,p,hz⟩:=I1.list hq;refine wpAny_pyIter_list p.isList ?_;refine⟨s1.heap.objs.size,[s1.heap.objs.size],_,_,H1,rfl,I1.kept (t':=s1.toks) λb o e=>aH _ e,qO6 a _,⟨_,bA _ rfl,rfl,rfl⟩,λb hb=>?_,q⟩;have e:b=s1.heap.objs.size:=by simpa using hb
 subst e;exact I1.fpOk (aE _) (I1.hok.fresh (aE _))
theorem qTg{l:Expr}{tl:TE}(hl:PE X l tl):PI X tg l (iTup X.K tl):=by
 intro pins s σ H R I h;refine thn (hl pins s σ H _ I h) λv s1 hq_=>?_;obtain⟨x,H1,I1,r1,q1⟩:=hq_;obtain⟨a,e,⟨xs,hq⟩,q⟩:=q1;subst e;cases r1;obtain⟨its,rv,p,hz⟩:=I1.tuple hq;refine wpAny_pyIter_tuple (show s1.heap.IsTuple a its.toArray from p) ?_;refine⟨s1.heap.objs.size,[s1.heap.objs.size],_,_,H1,rfl,I1.kept (t':=s1.toks) λb o e=>aH _ e,qMy a _,⟨_,bA _ rfl,rfl,rfl⟩,λb hb=>?_,q⟩;have e:b=s1.heap.objs.size:=by simpa using hb
 subst e;exact I1.fpOk (aE _) (I1.hok.fresh (aE _))
theorem qRp{pins:List (Addr×Obj)}{σ : St}{H:Hp}{s:Shared}{R:It->Hp->Prop}{E:Value->Shared->Prop}{lo hi:Int}{t u v:Tok}{tk:Nat}(I:Inv X pins σ H s)(h1 : -(2^62)<=lo)(h2:lo<2^62)(h3 : -(2^62)<=hi)(h4:hi<2^62)
  (q:R (Itr lo (hi - lo).toNat) H):wpAny (model X.prog X.w) X.A (pyIter (.ref s.heap.objs.size)) (PIE X pins σ tg R) E { s with heap:=s.heap.push { cls :=.type "range",data :=.fields #[.int lo t,.int hi u,.int 1 v] },toks:=tk }:=by
 refine wpAny_pyIter_range (IsRange.new ..) (small_one h1 h2 h3 h4) ?_;have I1:Inv X pins σ H { s with heap:=s.heap.push { cls :=.type "range",data :=.fields #[.int lo t,.int hi u,.int 1 v] },toks:=tk }:=I.kept λb o e=>aH _ e
 refine⟨(s.heap.push { cls :=.type "range",data :=.fields #[.int lo t,.int hi u,.int 1 v] }).objs.size,[(s.heap.push { cls :=.type "range",data :=.fields #[.int lo t,.int hi u,.int 1 v] }).objs.size],_,_,H,rfl,
  I1.kept (t':=tk) λb o e=>aH _ e,qMz _ lo (hi - lo).toNat,?_,λb hb=>?_,q⟩
 ·have e1:lo+((0:Nat):Int)*1=lo:=by simp
  have e2:(((hi - lo).toNat:Nat):Int) - ((0:Nat):Int)=Builtin.Range.rangeSize lo hi 1:=by rw [rangeSize_one];split <;> lia
  show IsRangeIter _ _ (lo+((0:Nat):Int)*1) ((((hi - lo).toNat:Nat):Int) - ((0:Nat):Int)) 1;rw [e1,e2];exact bA _ rfl
 ·have e:b=(s.heap.push { cls :=.type "range",data :=.fields #[.int lo t,.int hi u,.int 1 v] }).objs.size:=by simpa using hb
  subst e;exact I1.fpOk (aE _) (I1.hok.fresh (aE _))
def iRng1(ta:TA):TI:=λσ H R=>ta σ H λvs H1 => ∃j:Int,vs = [.int j] /\ -(2^62)<=j/\j<2^62/\R (Itr 0 j.toNat) H1
theorem qBr{a:Expr}{ta:TA}{p pos:Pos}(hg:Gl X "range")(hm:X.mg "range" = none)(ha:PA X [a] ta)(hs:starEach [a] X.env = [(false,eval a X.env)]:=by rfl):PI X tg (.Call (.Name "range" p) [a] [] pos) (iRng1 ta):=by
 intro pins s σ H R I h;refine Call_ (qJx I hg hm boot_range (gL (thn (ha pos pins s σ H _ I h) λus s1 hq_=>?_) hs rfl));obtain⟨vs,H1,I1,r1,q1⟩:=hq_;obtain⟨j,e,q1,q2,q⟩:=q1;subst e;cases r1 with
 | cons r rr =>
  cases rr;obtain⟨t,rfl⟩:=r;exact call_range_1 (qRp I1 (by lia) (by lia) q1 q2 (by simpa using q))
def tFor(wi:TI)(g:TG)(tb:TS):TS:=λD σ H=>wi σ H λJ H1 => ∃W:Nat->Nat->St->Hp->Prop,(∃m,W 0 m σ H1) /\ ∀i m σ H,W i m σ H ->
 (J.stop i H/\D.nx σ H)\/(J.go i H /\ ∃N:St->Hp->Prop,(∀ σ' H',N σ' H' -> ∃m',m'<m/\W (i+1) m' σ' H') /\ ∀x H',J.yld i H x H'->g x σ H' λσ2 H2=>tb { D with nx:=N,ct:=N,bk:=D.nx } σ2 H2)
def qJh(fp:List Addr)(h:Heap):List (Addr×Obj):=fp.filterMap λb=>(h.get? b).map λo=>(b,o)
theorem qDj{fp:List Addr}{h:Heap}{b:Addr}{o:Obj}(hb:b∈fp)(e:h.get? b=some o):(b,o)∈qJh fp h:=cP.mpr ⟨b,hb,by rw [e];rfl⟩
theorem qPl{fp:List Addr}{h:Heap}{p:Addr×Obj}(hp:p∈qJh fp h):p.1∈fp/\h.get? p.1=some p.2:=by
 obtain⟨b,hb,e⟩:=cP.mp hp;cases q:h.get? b with
 | none=>rw [q] at e;cases e
 | some o =>
  rw [q] at e;have e':(b,o)=p:=bF e;subst e';exact⟨hb,q⟩
theorem Inv.pinned{pins:List (Addr×Obj)}{σ : St}{H:Hp}{s:Shared}{fp:List Addr}(I:Inv X pins σ H s)(hf:∀b∈fp,FpOk X pins H b)(ho:∀b∈fp,∃o,s.heap.get? b=some o /\ ∀v,o.data ≠ .cell v):Inv X (pins++qJh fp s.heap) σ H s :=
 I.pins_of λp hp=>(aM.mp hp).elim (λz=>I.pin p (bM _ z)) λz=>by
  obtain⟨hb,e⟩:=qPl z;obtain⟨f0,f1,f2,_⟩:=hf p.1 hb;obtain⟨o,e',d⟩:=ho p.1 hb;rw [e] at e';cases e';exact⟨e,f0,f1,f2,d⟩
theorem Inv.unpinned{pins pl:List (Addr×Obj)}{σ : St}{H:Hp}{s:Shared}(I:Inv X (pins++pl) σ H s):Inv X pins σ H s:=I.pins_of λp hp=>I.pin p (bM _ (bO _ hp))
theorem qCb{iter:Expr}{body:List Stmt}{wi:TI}{g:TG}{tb:TS}{pos:Pos}(hp:PassesOwn (model X.prog X.w) X.A X.env X.xe)(hc:X.calm=true)(hi:PI X tg iter wi)(hg:PG X tg g)(hb:PSs X body tb)(hs:∀x,foldedSetIterable iter X.env x=pure x:=by intro _;rfl):PS X (.For tg iter body [] pos) (tFor wi g tb):=by
 intro pins s σ H D I h;refine wpAny_For (thn (hi pins s σ H _ I h) λv s1 h1=>thn h1 λitv s2 h2=>?_) hs;obtain⟨it,fp,tn,J,H2,e,I2,T,st2,f2,W,⟨m0,w0⟩,turn⟩:=h2;subst e;have stat:∀ {H':Hp},(∀b∈fp,H' b=none) -> ∀b∈fp,FpOk X pins H' b:=λhn b hb=>⟨hn b hb,(f2 b hb).2⟩;refine codeAny_forLoop_any (λn s' => ∃i σ' H',Inv X pins σ' H' s'/\tn i s'.heap/\(∀b∈fp,H' b=none)/\W i n σ' H') ?_ m0 ⟨0,σ,H2,I2,st2,λb hb=>(f2 b hb).1,w0⟩;rintro n s3 ⟨i,σ3,H3,I3,st3,fr3,w3⟩;rcases turn i n σ3 H3 w3 with ⟨stop,qn⟩ | ⟨go,N,hN,step⟩
 ·refine fX hp (thn (T.done X rfl rfl rfl hc i pins s3 σ3 H3 X.xe I3 (stat fr3) st3 stop) λr s4 hq_=>?_);obtain⟨hr,I4⟩:=hq_;subst hr;exact wpAny_execs_nil ⟨σ3,H3,I4,qn⟩
 ·refine fX hp (thn (T.item X rfl rfl rfl hc i pins s3 σ3 H3 X.xe I3 (stat fr3) st3 go) λr s4 hq_=>?_);obtain⟨u,hr,h4⟩:=hq_;subst hr;refine fX hp (thn h4 λ_ s5 hq_=>?_);obtain⟨x,H5,I5,r5,y5,st5,fr5⟩:=hq_;have I5':=I5.pinned (stat fr5) (T.obj _ _ st5);refine fX hp (thn (hg _ s5 σ3 H5 x u _ I5' r5 (step x H5 y5)) λ_ s6 hq_=>?_);obtain⟨σ6,H6,I6,q6⟩:=hq_;refine fX hp (thn (hb _ s6 σ6 H6 _ I6 q6) λf s7 q7=>?_);have again:∀ {σ7:St} {H7:Hp},Inv X (pins++qJh fp s5.heap) σ7 H7 s7->N σ7 H7 -> ∃m,m<n /\ ∃i σ' H',Inv X pins σ' H' s7/\tn i s7.heap/\(∀b∈fp,H' b=none)/\W i m σ' H':=λ{σ7 H7} I7 n7=>by
   obtain⟨m',hm,w7⟩:=hN σ7 H7 n7;refine⟨m',hm,i+1,σ7,H7,I7.unpinned,T.keep _ _ _ st5 λb hb o e=>(I7.pin (b,o) (bM _ (bM _ (qDj hb e)))).1,λb hb=>?_,w7⟩;obtain⟨o,e,d⟩:=T.obj _ _ st5 b hb;exact (I7.pin (b,o) (bM _ (bM _ (qDj hb e)))).2.1
  cases f with
  | next=>obtain⟨σ7,H7,I7,n7⟩:=q7;exact again I7 n7
  | cont=>obtain⟨σ7,H7,I7,n7⟩:=q7;exact again I7 n7
  | brk=>obtain⟨σ7,H7,I7,q7⟩:=q7;exact⟨σ7,H7,I7.unpinned,q7⟩
  | ret v=>obtain⟨x7,σ7,H7,I7,r7,q7⟩:=q7;exact⟨x7,σ7,H7,I7.unpinned,r7,q7⟩
end
theorem qSr{K:PySem.W.Frag}{a:Addr}{xs:List V}{g:TG}{tb:TS}{D:Ends}{σ : St}{H:Hp}(Pv:Nat->St->Hp->Prop)(h0:Pv 0 σ H)(hl:∀i σ H,i<=xs.length->Pv i σ H->SqL K H a xs)(hs:∀i x σ H,xs[i]? = some x->Pv i σ H->g x σ H λσ2 H2=>tb { D with nx:=Pv (i+1),ct:=Pv (i+1),bk:=D.nx } σ2 H2)(hd:∀ σ H,Pv xs.length σ H->D.nx σ H):∃W:Nat->Nat->St->Hp->Prop,(∃m,W 0 m σ H) /\ ∀i m σ H,W i m σ H ->
   ((Itl K a).stop i H/\D.nx σ H)\/((Itl K a).go i H /\ ∃N:St->Hp->Prop,(∀ σ' H',N σ' H' -> ∃m',m'<m/\W (i+1) m' σ' H') /\ ∀x H',(Itl K a).yld i H x H'->g x σ H' λσ2 H2=>tb { D with nx:=N,ct:=N,bk:=D.nx } σ2 H2):=by
 refine⟨λi m σ H=>m=xs.length - i/\i<=xs.length/\Pv i σ H,⟨xs.length,by simp,aU _,h0⟩,?_⟩;rintro i m σ H ⟨rfl,hi,p⟩;have q:=hl i σ H hi p;by_cases hlt:i<xs.length
 ·refine .inr ⟨⟨xs,xs[i],q,by simp [hlt]⟩,Pv (i+1),λσ' H' p'=>⟨xs.length - (i+1),by lia,rfl,hlt,p'⟩,λx H' y=>?_⟩;obtain⟨e,y⟩:=y;subst e;exact hs i x σ _ (y xs q) p
 ·have e:i=xs.length:=by lia
  subst e;exact .inl ⟨⟨xs,q,aE _⟩,hd σ H p⟩
theorem qQ8{lo:Int}{n:Nat}{g:TG}{tb:TS}{D:Ends}{σ : St}{H:Hp}(Pv:Nat->St->Hp->Prop)(h0:Pv 0 σ H)(hs:∀i σ H,i<n->Pv i σ H->g (.int (lo+i)) σ H λσ2 H2=>tb { D with nx:=Pv (i+1),ct:=Pv (i+1),bk:=D.nx } σ2 H2)(hd:∀ σ H,Pv n σ H->D.nx σ H):∃W:Nat->Nat->St->Hp->Prop,(∃m,W 0 m σ H) /\ ∀i m σ H,W i m σ H ->
   ((Itr lo n).stop i H/\D.nx σ H)\/((Itr lo n).go i H /\ ∃N:St->Hp->Prop,(∀ σ' H',N σ' H' -> ∃m',m'<m/\W (i+1) m' σ' H') /\ ∀x H',(Itr lo n).yld i H x H'->g x σ H' λσ2 H2=>tb { D with nx:=N,ct:=N,bk:=D.nx } σ2 H2):=by
 refine⟨λi m σ H=>m=n - i/\i<=n/\Pv i σ H,⟨n,by simp,aU _,h0⟩,?_⟩;rintro i m σ H ⟨rfl,hi,p⟩;by_cases hlt:i<n
 ·refine .inr ⟨hlt,Pv (i+1),λσ' H' p'=>⟨n - (i+1),by lia,rfl,hlt,p'⟩,λx H' y=>?_⟩;obtain⟨e,y⟩:=y;subst e y;exact hs i σ _ hlt p
 ·have e:i=n:=by lia
  subst e;exact .inl ⟨aE _,hd σ H p⟩
abbrev R2:=V->V->Hp->VK->Prop
def OpR(X:Cx)(f:Value->Value->Sem Value)(r:R2):Prop :=
 ∀(pins:List (Addr×Obj)) (s:Shared) (σ : St) (H:Hp) (x y:V) (v u:Value) (Q:VK),Inv X pins σ H s->RelV x v->RelV y u->r x y H Q ->
  wpAny (model X.prog X.w) X.A (f v u) (EP X pins σ Q) X.xe s
def UnR(X:Cx)(f:Value->Sem Value)(r:V->Hp->VK->Prop):Prop :=
 ∀(pins:List (Addr×Obj)) (s:Shared) (σ : St) (H:Hp) (x:V) (v:Value) (Q:VK),Inv X pins σ H s->RelV x v->r x H Q ->
  wpAny (model X.prog X.w) X.A (f v) (EP X pins σ Q) X.xe s
def CallR(X:Cx)(f:Value)(r:List V->Hp->VK->Prop):Prop :=
 ∀(pins:List (Addr×Obj)) (s:Shared) (σ : St) (H:Hp) (xs:List V) (us:List Value) (Q:VK),Inv X pins σ H s->Vals xs us->r xs H Q ->
  wpAny (model X.prog X.w) X.A (call f us) (EP X pins σ Q) X.xe s
def TruR(X:Cx)(r:V->Hp->(Bool->Hp->Prop)->Prop):Prop :=
 ∀(pins:List (Addr×Obj)) (s:Shared) (σ : St) (H:Hp) (x:V) (v:Value) (Q:Bool->Hp->Prop),Inv X pins σ H s->RelV x v->r x H Q ->
  wpAny (model X.prog X.w) X.A (truthy v) (TP X pins σ Q) X.xe s
def tOp(r:R2)(ta tb:TE):TE:=λσ H Q=>ta σ H λx H1=>tb σ H1 λy H2=>r x y H2 Q
def tUn(r:V->Hp->VK->Prop)(ta:TE):TE:=λσ H Q=>ta σ H λx H1=>r x H1 Q
def rI(C:Int->Int->Prop)(g:Int->Int->V):R2:=λx y H Q => ∃i j,x = .int i/\y = .int j/\C i j/\Q (g i j) H
def rI0(g:Int->Int->V):R2:=λx y H Q => ∃i j,x = .int i/\y = .int j/\Q (g i j) H
def rU(g:Int->V):V->Hp->VK->Prop:=λx H Q => ∃i,x = .int i/\Q (g i) H
section
variable{X:Cx}{a b c:Expr}{ta tb tc:TE}{pos:Pos}
theorem binT(ha:PE X a ta)(hb:PE X b tb){pins:List (Addr×Obj)}{s:Shared}{σ : St}{H:Hp}{R:V->V->Hp->Prop}(I:Inv X pins σ H s)(h:ta σ H λx H1=>tb σ H1 λy H2=>R x y H2){Q:Value->Shared->Prop}{f:Value->Value->Sem Value}(hf:∀v u s2 x y H2,Inv X pins σ H2 s2->RelV x v->RelV y u->R x y H2->wpAny (model X.prog X.w) X.A (f v u) Q X.xe s2):wpAny (model X.prog X.w) X.A (eval a X.env) (λv s₁ =>wpAny (model X.prog X.w) X.A (eval b X.env) (λu s₂ =>wpAny (model X.prog X.w) X.A (f v u) Q X.xe s₂) X.xe s₁) X.xe s:=by
 refine thn (ha pins s σ H _ I h) λv s1 hq_=>?_;obtain⟨x,H1,I1,r1,q1⟩:=hq_;refine thn (hb pins s1 σ H1 _ I1 q1) λu s2 hq_=>?_;obtain⟨y,H2,I2,r2,q2⟩:=hq_;exact hf v u s2 x y H2 I2 r1 r2 q2
theorem qAv{op:Operator}{r:R2}(ho:OpR X (binaryOp op) r)(ha:PE X a ta)(hb:PE X b tb):PE X (.BinOp a op b pos) (tOp r ta tb):=by
 intro pins s σ H Q I h;exact wpAny_BinOp (binT ha hb I h λv u s2 x y H2 I2 rx ry q=>ho pins s2 σ H2 x y v u Q I2 rx ry q)
theorem qRy{op:UnaryOp}{r:V->Hp->VK->Prop}(ho:UnR X (unaryOp op) r)(ha:PE X a ta):PE X (.UnaryOp op a pos) (tUn r ta):=by
 intro pins s σ H Q I h;refine UnaryOp_ (thn (ha pins s σ H _ I h) λv s1 hq_=>?_);obtain⟨x,H1,I1,r1,q1⟩:=hq_;exact ho pins s1 σ H1 x v Q I1 r1 q1
theorem opI{f:Value->Value->Sem Value}{C:Int->Int->Prop}{g:Int->Int->Int}(rule:∀(i j:Int) (t u:Tok) (s:Shared) (Q:Value->Shared->Prop) (E:Value->Shared->Prop),C i j->Q (.int (g i j) s.toks) { s with toks:=s.toks+1 }->wpAny (model X.prog X.w) X.A (f (.int i t) (.int j u)) Q E s):OpR X f (rI C λi j =>.int (g i j)):=by
 intro pins s σ H x y v u Q I rx ry h;obtain⟨i,j,rfl,rfl,hc,q⟩:=h;obtain⟨t,rfl⟩:=rx;obtain⟨t',rfl⟩:=ry;exact rule i j t t' s _ _ hc ⟨.int (g i j),H,I.tok _,⟨_,rfl⟩,q⟩
theorem opI0{f:Value->Value->Sem Value}{g:Int->Int->Int}(rule:∀(i j:Int) (t u:Tok) (s:Shared) (Q:Value->Shared->Prop) (E:Value->Shared->Prop),Q (.int (g i j) s.toks) { s with toks:=s.toks+1 }->wpAny (model X.prog X.w) X.A (f (.int i t) (.int j u)) Q E s):OpR X f (rI0 λi j =>.int (g i j)):=by
 intro pins s σ H x y v u Q I rx ry h;obtain⟨i,j,rfl,rfl,q⟩:=h;obtain⟨t,rfl⟩:=rx;obtain⟨t',rfl⟩:=ry;exact rule i j t t' s _ _ ⟨.int (g i j),H,I.tok _,⟨_,rfl⟩,q⟩
theorem opB0{f:Value->Value->Sem Value}{g:Int->Int->Bool}(rule:∀(i j:Int) (t u:Tok) (s:Shared) (Q:Value->Shared->Prop) (E:Value->Shared->Prop),Q (.bool (g i j)) s->wpAny (model X.prog X.w) X.A (f (.int i t) (.int j u)) Q E s):OpR X f (rI0 λi j =>.bl (g i j)):=by
 intro pins s σ H x y v u Q I rx ry h;obtain⟨i,j,rfl,rfl,q⟩:=h;obtain⟨t,rfl⟩:=rx;obtain⟨t',rfl⟩:=ry;exact rule i j t t' s _ _ ⟨.bl (g i j),H,I,rfl,q⟩
def CDiv(i j:Int):Prop:=0<j/\j<1073741824
def CPow(i j:Int):Prop:=0<=j/\j<=1000000/\i.natAbs<2^64
def CMul(i j:Int):Prop:=(-(2^64)<i/\i<2^64)\/(-(2^64)<j/\j<2^64)
theorem CMul.ok{i j:Int}(h:CMul i j):IntMulOk i j:=by
 rcases h with ⟨h1,h2⟩ | ⟨h1,h2⟩
 ·exact .of_left (intBits_le_64 h1 h2)
 ·exact .of_right (intBits_le_64 h1 h2)
theorem qBf:OpR X (binaryOp .Add) (rI0 λi j =>.int (i+j)):=opI0 λ_ _ _ _ _ _ _ q=>add_int q
theorem qPa:OpR X (binaryOp .Sub) (rI0 λi j =>.int (i - j)):=opI0 λ_ _ _ _ _ _ _ q=>sub_int q
theorem qJm:OpR X (binaryOp .Mult) (rI CMul λi j =>.int (i*j)):=opI λ_ _ _ _ _ _ _ hc q=>mul_int q hc.ok
theorem qPc:OpR X (binaryOp .FloorDiv) (rI CDiv λi j =>.int (i / j)):=opI λi j _ _ _ _ _ hc q=>by
 have h1:(0:Int)<j:=hc.1;have h2:j<1073741824:=hc.2;exact floordiv_int (by lia) (by rw [Int.fdiv_eq_ediv_of_nonneg i (by lia)];exact q) (.inl (PyProof.noPylong_small (by lia)))
theorem qEc:OpR X (binaryOp .Mod) (rI (λ_ j=>0<j) λi j =>.int (i%j)):=opI λi j _ _ _ _ _ hc q=>by
 have h1:(0:Int)<j:=hc;exact mod_int' (by lia) (by rw [Int.fmod_eq_emod_of_nonneg i (by lia)];exact q)
theorem qJk:OpR X (binaryOp .Pow) (rI CPow λi j =>.int (i^j.toNat)):=opI λ_ _ _ _ _ _ _ hc q=>pow_int_small hc.1 hc.2.1 hc.2.2 q
theorem unI{f:Value->Sem Value}{g:Int->Int}(rule:∀(i:Int) (t:Tok) (s:Shared) (Q:Value->Shared->Prop) (E:Value->Shared->Prop),Q (.int (g i) s.toks) { s with toks:=s.toks+1 }->wpAny (model X.prog X.w) X.A (f (.int i t)) Q E s):UnR X f (rU λi =>.int (g i)):=by
 intro pins s σ H x v Q I rx h;obtain⟨i,rfl,q⟩:=h;obtain⟨t,rfl⟩:=rx;exact rule i t s _ _ ⟨.int (g i),H,I.tok _,⟨_,rfl⟩,q⟩
theorem qLp:UnR X (unaryOp .USub) (rU λi =>.int (-i)):=unI λ_ _ _ _ _ q=>neg_int q
end
def scal:V->V->Bool
 | .non,.non=>true | .non,.int _=>true | .int _,.non=>true | .non,.bl _=>true | .bl _,.non=>true | .non,.str _=>true | .str _,.non=>true
 | .int _,.int _=>true | .bl _,.bl _=>true | .str _,.str _=>true | .byt _,.byt _=>true
 | .int _,.str _=>true | .str _,.int _=>true | .bl _,.str _=>true | .str _,.bl _=>true
 | _,_=>false
def rEq:R2:=λx y H Q=>scal x y=true/\Q (.bl (decide (x=y))) H
def rNe:R2:=λx y H Q=>scal x y=true/\Q (.bl (!decide (x=y))) H
theorem qQn{i j:Int}:decide (V.int i=V.int j)=(i == j):=by
 rw [dO];simp
theorem qTt{i j:Bool}:decide (V.bl i=V.bl j)=(i == j):=by
 rw [dO];simp
theorem qQm{i j:Str}:decide (V.str i=V.str j)=(i == j):=by
 rw [dO];simp
theorem qQo{i j:Array UInt8}:decide (V.byt i=V.byt j)=(i.toList == j.toList):=by
 rw [dO];cases i;cases j;simp
section
variable{X:Cx}{a b c:Expr}{ta tb tc:TE}{pos:Pos}
theorem qB2{pins:List (Addr×Obj)}{σ : St}{H:Hp}{s:Shared}{Q:VK}{k k':Bool}(I:Inv X pins σ H s)(q:Q (.bl k) H)(e:k=k'):EP X pins σ Q (.bool k') s:=by
 subst e;exact⟨.bl k,H,I,rfl,q⟩
theorem qBp:OpR X (compareOp .Eq) rEq:=by
 intro pins s σ H x y v u Q I rx ry h;obtain⟨hs,q⟩:=h;cases x with
 | non =>
  cases rx;cases y with
  | non=>cases ry;exact PySem.EqNone.eq_none_none (qB2 I q (by simp))
  | bl j=>cases ry;exact PySem.EqNone.eq_none_bool (qB2 I q (by simp))
  | int j=>obtain⟨t',rfl⟩:=ry;exact PySem.EqNone.eq_none_int (qB2 I q (by simp))
  | str j=>obtain⟨t',rfl⟩:=ry;exact PySem.EqNone.eq_none_str (qB2 I q (by simp))
  | _=>exact absurd (show false=true from hs) aD
 | bl i =>
  cases rx;cases y with
  | non=>cases ry;exact PySem.EqNone.eq_bool_none (qB2 I q (by simp))
  | bl j=>cases ry;exact eq_bool (qB2 I q qTt)
  | str j=>obtain⟨t',rfl⟩:=ry;exact PySem.EqMixed.eq_bool_str (qB2 I q (by simp))
  | _=>exact absurd (show false=true from hs) aD
 | int i =>
  obtain⟨t,rfl⟩:=rx;cases y with
  | non=>cases ry;exact PySem.EqNone.eq_int_none (qB2 I q (by simp))
  | int j=>obtain⟨t',rfl⟩:=ry;exact eq_int (qB2 I q qQn)
  | str j=>obtain⟨t',rfl⟩:=ry;exact PySem.EqMixed.eq_int_str (qB2 I q (by simp))
  | _=>exact absurd (show false=true from hs) aD
 | str i =>
  obtain⟨t,rfl⟩:=rx;cases y with
  | non=>cases ry;exact PySem.EqNone.eq_str_none (qB2 I q (by simp))
  | bl j=>cases ry;exact PySem.EqMixed.eq_str_bool (qB2 I q (by simp))
  | int j=>obtain⟨t',rfl⟩:=ry;exact PySem.EqMixed.eq_str_int (qB2 I q (by simp))
  | str j=>obtain⟨t',rfl⟩:=ry;exact eq_str (qB2 I q qQm)
  | _=>exact absurd (show false=true from hs) aD
 | byt i =>
  obtain⟨t,rfl⟩:=rx;cases y with
  | byt j=>obtain⟨t',rfl⟩:=ry;exact PySem.W.eq_bytes (qB2 I q qQo)
  | _=>exact absurd (show false=true from hs) aD
 | _=>cases y <;> exact absurd (show false=true from hs) aD
theorem qUr:OpR X (compareOp .NotEq) rNe:=by
 intro pins s σ H x y v u Q I rx ry h;obtain⟨hs,q⟩:=h;cases x with
 | non =>
  cases rx;cases y with
  | non=>cases ry;exact PySem.EqNone.ne_none_none (qB2 I q (by simp))
  | bl j=>cases ry;exact PySem.EqNone.ne_none_bool (qB2 I q (by simp))
  | int j=>obtain⟨t',rfl⟩:=ry;exact PySem.EqNone.ne_none_int (qB2 I q (by simp))
  | str j=>obtain⟨t',rfl⟩:=ry;exact PySem.EqNone.ne_none_str (qB2 I q (by simp))
  | _=>exact absurd (show false=true from hs) aD
 | bl i =>
  cases rx;cases y with
  | non=>cases ry;exact PySem.EqNone.ne_bool_none (qB2 I q (by simp))
  | bl j=>cases ry;exact ne_bool (qB2 I q (congrArg not qTt))
  | str j=>obtain⟨t',rfl⟩:=ry;exact PySem.EqMixed.ne_bool_str (qB2 I q (by simp))
  | _=>exact absurd (show false=true from hs) aD
 | int i =>
  obtain⟨t,rfl⟩:=rx;cases y with
  | non=>cases ry;exact PySem.EqNone.ne_int_none (qB2 I q (by simp))
  | int j=>obtain⟨t',rfl⟩:=ry;exact ne_int (qB2 I q (congrArg not qQn))
  | str j=>obtain⟨t',rfl⟩:=ry;exact PySem.EqMixed.ne_int_str (qB2 I q (by simp))
  | _=>exact absurd (show false=true from hs) aD
 | str i =>
  obtain⟨t,rfl⟩:=rx;cases y with
  | non=>cases ry;exact PySem.EqNone.ne_str_none (qB2 I q (by simp))
  | bl j=>cases ry;exact PySem.EqMixed.ne_str_bool (qB2 I q (by simp))
  | int j=>obtain⟨t',rfl⟩:=ry;exact PySem.EqMixed.ne_str_int (qB2 I q (by simp))
  | str j=>obtain⟨t',rfl⟩:=ry;exact ne_str (qB2 I q (congrArg not qQm))
  | _=>exact absurd (show false=true from hs) aD
 | byt i =>
  obtain⟨t,rfl⟩:=rx;cases y with
  | byt j=>obtain⟨t',rfl⟩:=ry;exact PySem.W.ne_bytes (qB2 I q (congrArg not qQo))
  | _=>exact absurd (show false=true from hs) aD
 | _=>cases y <;> exact absurd (show false=true from hs) aD
theorem qPb:OpR X (compareOp .Lt) (rI0 λi j =>.bl (decide (i<j))):=opB0 λ_ _ _ _ _ _ _ q=>lt_int q
theorem qYh:OpR X (compareOp .LtE) (rI0 λi j =>.bl (decide (i<=j))):=opB0 λ_ _ _ _ _ _ _ q=>le_int q
theorem qUs:OpR X (compareOp .Gt) (rI0 λi j =>.bl (decide (j<i))):=opB0 λ_ _ _ _ _ _ _ q=>gt_int q
theorem qXe:OpR X (compareOp .GtE) (rI0 λi j =>.bl (decide (j<=i))):=opB0 λ_ _ _ _ _ _ _ q=>ge_int q
theorem qUq:OpR X (compareOp .IsNot) (λx y H Q=>y = .non/\Q (.bl (!decide (x = .non))) H):=by
 intro pins s σ H x y v u Q I rx ry h;obtain⟨rfl,q⟩:=h;cases ry;refine isnot_none_gen (qB2 I q ?_);cases x <;> first
  | (cases rx;rfl)
  | (obtain⟨t,rfl⟩:=rx;rfl)
theorem qAf(b:Expr){op:CmpOp}(h:op ≠ .In:=by decide)(h2:op ≠ .NotIn:=by decide):behindInMarks op b=false:=by
 have e1:(op == CmpOp.In)=false:=by cases op <;> first | rfl | exact absurd rfl h
 have e2:(op == CmpOp.NotIn)=false:=by cases op <;> first | rfl | exact absurd rfl h2
 cases b <;> simp [behindInMarks,e1,e2]
theorem qBk{op:CmpOp}{r:R2}(ho:OpR X (compareOp op) r)(ha:PE X a ta)(hb:PE X b tb)(hm:behindInMarks op b=false):PE X (.Compare a [op] [b] pos) (tOp r ta tb):=by
 intro pins s σ H Q I h;exact wpAny_Compare1 (binT ha hb I h λv u s2 x y H2 I2 rx ry q=>ho pins s2 σ H2 x y v u Q I2 rx ry q) hm
def tTest(t:TE):TT:=λσ H Q=>t σ H λx H' => ∃k,x = .bl k/\Q k H'
theorem qAd{op:CmpOp}{r:R2}(ho:OpR X (compareOp op) r)(ha:PE X a ta)(hb:PE X b tb)(hm:behindInMarks op b=false):PT X (.Compare a [op] [b] pos) (tTest (tOp r ta tb)):=by
 intro pins s σ H Q I h;refine wpAny_isTrue_Compare1 (thn (ha pins s σ H _ I h) λv s1 hq_=>?_) hm;obtain⟨x,H1,I1,r1,q1⟩:=hq_;refine thn (hb pins s1 σ H1 _ I1 q1) λu s2 hq_=>?_;obtain⟨y,H2,I2,r2,q2⟩:=hq_;refine thn (ho pins s2 σ H2 x y v u _ I2 r1 r2 q2) λc s3 hq_=>?_;obtain⟨z,H3,I3,r3,k,e,q3⟩:=hq_;subst e;cases r3;exact fW ⟨H3,I3,q3⟩
def TruV(K:PySem.W.Frag)(x:V)(H:Hp)(k:Bool):Prop :=
 match x with
 | .non=>k=false
 | .bl b=>k=b
 | .int i=>k=(i != 0)
 | .str y=>y.length<=sizeLine/\k=((y.length:Int) != 0)
 | .byt y=>y.size<=sizeLine/\k=((y.size:Int) != 0)
 | .ref p=>(∃xs,SqL K H p xs/\k = !xs.isEmpty)\/(∃xs,SqT K H p xs/\k = !xs.isEmpty) \/ ∃kvs,H p=some (.dK kvs)/\k = !kvs.isEmpty
 | _=>False
theorem qNs{κ : Type}{kvs:List (κ × V)}{vs:List (κ × Value)}(r:KV kvs vs):(!vs.isEmpty) = !kvs.isEmpty:=by
 cases r <;> rfl
theorem qHq{xs:List V}{its:List Value}(r:Vals xs its):(!its.toArray.isEmpty) = !xs.isEmpty:=by
 cases r <;> simp
theorem qJt:(sizeLine:Nat)<2^63:=by rw [fE];decide
theorem qVy:TruR X (λx H Q => ∃k,TruV X.K x H k/\Q k H):=by
 intro pins s σ H x v Q I rx h;obtain⟨k,e,q⟩:=h;have hl:=qJt;have hs:sizeLine=16777216:=fE;cases x with
 | non =>
  cases rx;have e':k=false:=e;subst e';exact truthy_none ⟨H,I,q⟩
 | bl b =>
  cases rx;have e':k=b:=e;subst e';exact fW ⟨H,I,q⟩
 | int i =>
  obtain⟨t,rfl⟩:=rx;have e':k=(i != 0):=e;subst e';exact PySem.P.truthy_int ⟨H,I,q⟩
 | str y =>
  obtain⟨t,rfl⟩:=rx;obtain⟨hy,e'⟩:y.length<=sizeLine/\k=((y.length:Int) != 0):=e;subst e';exact PySem.P.truthy_str (by lia) ⟨H,I.tok _,q⟩
 | byt y =>
  obtain⟨t,rfl⟩:=rx;obtain⟨hy,e'⟩:y.size<=sizeLine/\k=((y.size:Int) != 0):=e;subst e';exact PySem.W.truthy_bytes (by lia) ⟨H,I.tok _,q⟩
 | ref p =>
  cases rx;have e':(∃xs,SqL X.K H p xs/\k = !xs.isEmpty)\/(∃xs,SqT X.K H p xs/\k = !xs.isEmpty) \/ ∃kvs,H p=some (.dK kvs)/\k = !kvs.isEmpty:=e;rcases e' with ⟨xs,hx,e'⟩ | ⟨xs,hx,e'⟩ | ⟨kvs,hx,e'⟩
  ·subst e';obtain⟨its,r,pl,hz⟩:=I.list hx;have hlen:=r.length;exact wpAny_truthy_list pl.isList (by simp only [aP];lia) ⟨H,I.tok _,by rw [qHq r];exact q⟩
  ·subst e';obtain⟨its,r,pl,hz⟩:=I.tuple hx;have hlen:=r.length;exact truthy_tuple pl (by simp only [aP];lia) ⟨H,I.tok _,by rw [qHq r];exact q⟩
  ·subst e';obtain⟨hz,hS,vs,r,m⟩:kvs.length<=sizeLine/\(p == sysModules)=false /\ ∃vs,KV kvs vs/\s.heap.DictOf (qBh X.prog X.w) p vs:=I.hok p _ hx;have hlen:kvs.length=vs.length:=cY r;exact wpAny_truthy_dict hS m (by lia) ⟨H,I.tok _,by rw [qNs r];exact q⟩
 | _=>exact (show False from e).elim
theorem qRu(ha:PE X a ta)(he:∀whole,isTrue a X.env whole=(do let v <-whole;standAt a.pos;holding [v] (truthy v))):PT X a (λσ H Q=>ta σ H λx H' => ∃k,TruV X.K x H' k/\Q k H'):=by
 intro pins s σ H Q I h;refine isTrue_plain (thn (ha pins s σ H _ I h) λv s1 hq_=>?_) (he _);obtain⟨x,H1,I1,r1,q1⟩:=hq_;exact qVy pins s1 σ H1 x v Q I1 r1 q1
theorem vals1{x:V}{us:List Value}(r:Vals [x] us):∃u,us = [u]/\RelV x u:=by
 cases r with
 | cons r1 r2=>cases r2;exact⟨_,rfl,r1⟩
theorem vals2{x y:V}{us:List Value}(r:Vals [x,y] us):∃u w',us = [u,w']/\RelV x u/\RelV y w':=by
 cases r with
 | cons r1 r2 =>
  cases r2 with
  | cons r3 r4=>cases r4;exact⟨_,_,rfl,r1,r3⟩
theorem qMt:CallR X (.builtin "abs") (λxs H Q => ∃i,xs = [.int i]/\Q (.int (if i<0 then -i else i)) H):=by
 intro pins s σ H xs us Q I r h;obtain⟨i,rfl,q⟩:=h;obtain⟨u,rfl,t,rfl⟩:=vals1 r;exact call_abs_int λu tk=>⟨.int (if i<0 then -i else i),H,I.tok _,⟨_,rfl⟩,q⟩
theorem qKh(hc:X.calm=true):CallR X (.builtin "max") (λxs H Q => ∃i j,xs = [.int i,.int j]/\Q (.int (if j>i then j else i)) H):=by
 intro pins s σ H xs us Q I r h;obtain⟨i,j,rfl,q⟩:=h;obtain⟨u,w',rfl,⟨t,rfl⟩,⟨t',rfl⟩⟩:=vals2 r;refine max_two_ints (I.ok.hd hc) λh' tk k=>⟨_,H,I.kept k,?_,q⟩;by_cases hj:j>i
 ·rw [if_pos hj,if_pos hj];exact⟨_,rfl⟩
 ·rw [if_neg hj,if_neg hj];exact⟨_,rfl⟩
theorem qQy(hc:X.calm=true):CallR X (.builtin "min") (λxs H Q => ∃i j,xs = [.int i,.int j]/\Q (.int (if j<i then j else i)) H):=by
 intro pins s σ H xs us Q I r h;obtain⟨i,j,rfl,q⟩:=h;obtain⟨u,w',rfl,⟨t,rfl⟩,⟨t',rfl⟩⟩:=vals2 r;refine min_two_ints (I.ok.hd hc) λh' tk k=>⟨_,H,I.kept k,?_,q⟩;by_cases hj:j<i
 ·rw [if_pos hj,if_pos hj];exact⟨_,rfl⟩
 ·rw [if_neg hj,if_neg hj];exact⟨_,rfl⟩
theorem qCq:CallR X (.type "int") (λxs H Q=>(∃i,xs = [.int i]/\Q (.int i) H) \/ ∃k,xs = [.bl k]/\Q (.int (if k then 1 else 0)) H):=by
 intro pins s σ H xs us Q I r h;rcases h with ⟨i,rfl,q⟩ | ⟨k,rfl,q⟩
 ·obtain⟨u,rfl,t,rfl⟩:=vals1 r;exact call_int_int ⟨.int i,H,I,⟨_,rfl⟩,q⟩
 ·obtain⟨u,rfl,r1⟩:=vals1 r;cases r1;exact call_int_bool ⟨.int (if k then 1 else 0),H,I.tok _,⟨_,rfl⟩,q⟩
end
structure ObjM(h:Heap)(x dx C:Addr)(mA:Str->Option Value):Prop where
 obj:h.get? x=some (PySem.W.instObj C dx)
 ns:h.Ns1 dx mA
 ne:dx≠x
theorem qPu{h:Heap}{dx:Addr}{mA:Str->Option Value}(n:h.Ns1 dx mA):∃od,h.get? dx=some od /\ ∀name,PySem.W.lookIn name od=some (mA name):=by
 obtain⟨o,es,ep,ho,hd,hk,_,hm⟩:=n;refine⟨o,ho,λname=>?_⟩;have e:=hm name;unfold nsFind findBy at e;rw [<-Array.find?_toList] at e;unfold PySem.W.lookIn;rw [hd];dsimp only;split
 ·rename_i y q;rw [q] at e;exact congrArg some e
 ·rename_i q;rw [q] at e;have a:es.toList.any (·.refKey)=false:=by
   rw [List.any_eq_false];intro y hy;obtain⟨z,t,hkey⟩:=hk y (Array.mem_toList_iff.mp hy);simp [DictEntry.refKey,hkey]
  have a' : ¬es.toList.any (·.refKey)=true:=by rw [a];exact aD
  rw [if_neg a'];exact congrArg some e
theorem ObjM.look{h:Heap}{x dx C:Addr}{mA:Str->Option Value}(I:ObjM h x dx C mA):∃od,PySem.W.InstAt h x (PySem.W.instObj C dx) C (some od) /\ ∀name,PySem.W.lookIn name od=some (mA name) :=
 let ⟨od,ho,hl⟩:=qPu I.ns
 ⟨od,⟨I.obj,rfl,rfl,ho⟩,hl⟩
theorem RelO.some_of{v:V}{o:Option Value}(r:RelO (some v) o):∃u,o=some u/\RelV v u:=by
 cases o with
 | none=>exact (show False from r).elim
 | some u=>exact⟨u,rfl,r⟩
section
variable{P:Program}{w:World}{H H':Hp}{h h':Heap}{a C dx:Addr}{fs fs':List (Str×V)}
theorem qVi(hok:HOk P w H h)(e:H a=some (.ins C dx fs)):∃mA,ObjM h a dx C mA/\(∀f,RelO (fs.lookup f) (mA f))/\PySem.Within mA (fs.map (·.1))/\fs.length<=1000/\H dx=some (.own a):=by
 obtain⟨d,z,ne,ob,mA,n,r,q⟩:=(show ObjOk P w H h a (.ins C dx fs) from hok a _ e);exact⟨mA,⟨ob,n,ne⟩,r,q,z,d⟩
end
structure Cls(K:PySem.W.Frag)(C:Addr):Prop where
 pg:PySem.W.plainGet K C Str.empty=true
 hd:PySem.W.hasDictIn K C=true
 po:PySem.W.plainOver K C=true
 sa:PySem.W.findIn K (.ref C) "__setattr__" = some (some (.builtin "object.__setattr__"))
theorem Cls.get{K:PySem.W.Frag}{C:Addr}(c:Cls K C)(f:Str):PySem.W.plainGet K C f=true:=c.pg
section
variable{X:Cx}{pins:List (Addr×Obj)}{σ : St}{H:Hp}{s:Shared}{A:Around}{E:Value->Shared->Prop}{Q:Value->Shared->Prop}{c:Value}{b:Bool}
inductive TyOf(K:PySem.W.Frag)(H:Hp):V->Value->Prop where
 | non:TyOf K H .non (.type "NoneType")
 | bl (x:Bool):TyOf K H (.bl x) (.type "bool")
 | int (i:Int):TyOf K H (.int i) (.type "int")
 | str (x:Str):TyOf K H (.str x) (.type "str")
 | flt (x:UInt64):TyOf K H (.flt x) (.type "float")
 | lst {a:Addr} {xs:List V} (e:H a=some (.lst xs)):TyOf K H (.ref a) (.type "list")
 | frz {a:Addr} {o:Obj} {xs:List V} (e:H a=some (.frz o (.lst xs))):TyOf K H (.ref a) (.type "list")
 | tup {a:Addr} {xs:List V} (e:H a=some (.tup xs)):TyOf K H (.ref a) (.type "tuple")
 | dK {a:Addr} {kvs:List (Key×V)} (e:H a=some (.dK kvs)):TyOf K H (.ref a) (.type "dict")
 | dT {a:Addr} {kvs:List (List Key×V)} (e:H a=some (.dT kvs)):TyOf K H (.ref a) (.type "dict")
 | ins {a C dx:Addr} {fs:List (Str×V)} (e:H a=some (.ins C dx fs)) (cl:Cls K C) (ha:PySem.W.findIn K (.ref C) "__class__" = some (some (.builtin "object.__class__")))
   (hn:PySem.W.specialIn K (.builtin "object.__class__") "__get__" = some (some (.builtin "getset_descriptor.__get__"))) (htk:PySem.W.takesIn K (.builtin "object.__class__")=some true)
   (hm:PySem.W.mroIn K C (.type "object")=some true):TyOf K H (.ref a) (.ref C)
theorem qQ2{x:V}{u t:Value}(I:Inv X pins σ H s)(rx:RelV x u)(ty:TyOf X.K H x t)(e:PySem.W.kitOne X.K t c=some b)(h:∀tk,Q (.bool b) { s with toks:=tk }):wpAny (model X.prog X.w) A (call (.builtin "isinstance") [u,c]) Q E s:=by
 cases ty with
 | non=>cases (show u=Value.none from rx);exact dG PySem.W.kitx_none I.kIn True.intro e (λz=>nomatch z) h
 | bl y=>cases (show u=Value.bool y from rx);exact dG PySem.W.kitx_bool I.kIn True.intro e (λz=>nomatch z) h
 | int i=>obtain⟨t,q⟩:=(show ∃t,u=Value.int i t from rx);cases q;exact dG PySem.W.kitx_int I.kIn True.intro e (λz=>nomatch z) h
 | str y=>obtain⟨t,q⟩:=(show ∃t,u=Value.str y t from rx);cases q;exact dG PySem.W.kitx_str I.kIn True.intro e (λz=>nomatch z) h
 | flt y=>obtain⟨t,q⟩:=(show ∃t,u=Value.float y t from rx);cases q;exact dG PySem.W.kitx_float I.kIn True.intro e (λz=>nomatch z) h
 | @lst a xs ea =>
  cases (show u=Value.ref a from rx);obtain⟨_,_,n,_,h1⟩:=(show ObjOk X.prog X.w H s.heap a (.lst xs) from I.hok a _ ea);exact dG PySem.W.kitx_list I.kIn ⟨_,h1,rfl⟩ e (λz=>nomatch z) h
 | @frz a ob xs ea =>
  cases (show u=Value.ref a from rx);obtain⟨_,_,_,n,_,h1⟩:=(show ObjOk X.prog X.w H s.heap a (.frz ob (.lst xs)) from I.hok a _ ea);exact dG PySem.W.kitx_list I.kIn ⟨_,h1,rfl⟩ e (λz=>nomatch z) h
 | @tup a xs ea =>
  cases (show u=Value.ref a from rx);obtain⟨_,_,_,p⟩:=(show ObjOk X.prog X.w H s.heap a (.tup xs) from I.hok a _ ea);obtain⟨o,h1,h2,_⟩:=p;exact dG PySem.W.kitx_tuple I.kIn ⟨o,h1,h2⟩ e (λz=>nomatch z) h
 | @dK a kvs ea =>
  cases (show u=Value.ref a from rx);obtain⟨_,_,vs,_,p⟩:=(show ObjOk X.prog X.w H s.heap a (.dK kvs) from I.hok a _ ea);obtain⟨o,es,ep,h1,h2,_⟩:=p;exact dG PySem.W.kitx_dict I.kIn ⟨o,h1,h2.1⟩ e (λz=>nomatch z) h
 | @dT a kvs ea =>
  cases (show u=Value.ref a from rx);obtain⟨_,_,xs,_,o,es,ep,h1,h2,_⟩:=(show ObjOk X.prog X.w H s.heap a (.dT kvs) from I.hok a _ ea);exact dG PySem.W.kitx_dict I.kIn ⟨o,h1,h2.1⟩ e (λz=>nomatch z) h
 | @ins a C dx fs ea cl ha hn htk hm =>
  cases (show u=Value.ref a from rx);obtain⟨mA,O,_⟩:=qVi I.hok ea;obtain⟨od,J,_⟩:=O.look;exact dG (PySem.W.kitx_own (cl.get _) cl.hd ha hn htk hm) I.kIn J e (λz=>nomatch z) h
end
structure Room(k:Nat)(A:Around):Prop where
 hd:A.handled=none
 dp:A.depth+3*k+5<recursionLimit
 un:A.units+16*k+200<cLine
 gd:A.guards=some []:=by rfl
theorem Room.mono{j k:Nat}{A:Around}(r:Room k A)(h:j<=k):Room j A:=⟨r.hd,by have:=r.dp;lia,by have:=r.un;lia,r.gd⟩
theorem Room.deeper{k:Nat}{A:Around}(r:Room (k+1) A)(env:Env):Room k (A.deeper env):=⟨r.hd,by have:=r.dp;show A.depth+1+3*k+5<_;lia,by have:=r.un;show A.units+3+16*k+200<_;lia,r.gd⟩
theorem Room.depth{k:Nat}{A:Around}(r:Room k A):A.depth<recursionLimit:=by have:=r.dp;lia
theorem Room.units{k:Nat}{A:Around}(r:Room k A):A.units+64<cLine:=by have:=r.un;lia
def tNil:TA:=λ_ H Q=>Q [] H
def tCons(ta:TE)(tr:TA):TA:=λσ H Q=>ta σ H λx H1=>tr σ H1 λxs H2=>Q (x::xs) H2
section
variable{X:Cx}{e:Expr}{es:List Expr}{te:TE}{t:TA}{pos:Pos}
theorem qA3:PA X [] tNil:=λ_ _ _ _ H Q I h=>Calls.spliced_nil ⟨[],H,I,.nil,h⟩
theorem qA0(ha:PE X e te)(hr:PA X es t)(hs:starEach (e::es) X.env=(false,eval e X.env)::starEach es X.env:=by rfl):PA X (e::es) (tCons te t):=by
 intro pos pins s σ H Q I h;rw [hs];show wpAny _ _ (spliced ((false,eval e X.env)::backTo pos (starEach es X.env))) _ _ s;refine Calls.spliced_cons (thn (ha pins s σ H _ I h) λu s1 hq_=>?_);obtain⟨x,H1,I1,r1,q1⟩:=hq_;refine thn (hr pos pins s1 σ H1 _ I1 q1) λus s2 hq_=>?_;obtain⟨xs,H2,I2,r2,q2⟩:=hq_;exact⟨x::xs,H2,I2,.cons r1 r2,q2⟩
def tTup(t:TA):TE:=λσ H Q=>t σ H λxs H1=>xs.length<=sizeLine /\ ∀p,H1 p=none->Q (.ref p) (upd H1 p (.tup xs))
def tLst(t:TA):TE:=λσ H Q=>t σ H λxs H1=>xs.length<=sizeLine /\ ∀p,H1 p=none->Q (.ref p) (upd H1 p (.lst xs))
theorem qBc{x1}(h:PA X es t):PE X (.Tuple es x1 pos) (tTup t):=by
 intro pins s σ H Q I hq;refine wpAny_Tuple_spliced (thn (h pos pins s σ H _ I hq) λus s1 hq_=>?_);obtain⟨xs,H1,I1,r,z,q⟩:=hq_;refine⟨by rw [<-r.length];exact z,?_⟩;have hf:H1 s1.heap.objs.size=none:=I1.hok.fresh (aE _);refine⟨.ref s1.heap.objs.size,upd H1 s1.heap.objs.size (.tup xs),I1.laid (t':=s1.toks) (λb u e=>aH _ e) (aE _) ?_,rfl,q _ hf⟩;exact⟨z,us,r,⟨_,bA _ rfl,rfl,_,rfl⟩⟩
theorem qB0(h:PA X es t):PE X (.List es pos) (tLst t):=by
 intro pins s σ H Q I hq;refine wpAny_List_spliced (thn (h pos pins s σ H _ I hq) λus s1 hq_=>?_);obtain⟨xs,H1,I1,r,z,q⟩:=hq_;refine⟨by rw [<-r.length];exact z,?_⟩;have hf:H1 s1.heap.objs.size=none:=I1.hok.fresh (aE _);refine⟨.ref s1.heap.objs.size,upd H1 s1.heap.objs.size (.lst xs),I1.laid (t':=s1.toks) (λb u e=>aH _ e) (aE _) ?_,rfl,q _ hf⟩;exact⟨z,us,0,r,bA _ rfl⟩
end
abbrev Sp:=List V->Hp->VK->XK->Prop
abbrev CXT:=List Env->Hp->Shared->XK->Value->Shared->Prop
structure Env0(P:Program)(w:World)(K:PySem.W.Frag)(mg:Str->Option Value)(base:Heap)(A:Around)(outer:List Env)(s:Shared)(H:Hp):Prop where
 frames:A.frames=some outer
 mod:Mod K mg base
 bs:∀b o,base.get? b=some o->s.heap.get? b=some o/\H b=none
 bsz:base.objs.size<=s.heap.objs.size
 funs:s.heap.FunFrames base outer
 frf:∀b∈frs outer,H b=none
 hok:HOk P w H s.heap
 bare:AllBare s.gens
def CE(outer:List Env)(P:Program)(w:World)(H:Hp)(s:Shared)(Q:VK)(u:Value)(s':Shared):Prop :=
 ∃v H',s'.os=s.os/\AllBare s'.gens/\Un (frs outer) [] H H' s.heap s'.heap/\HOk P w H' s'.heap/\RelV v u/\Q v H'
def CR(CX:CXT)(outer:List Env)(P:Program)(w:World)(H:Hp)(s:Shared)(Q:VK)(E:XK)(r:Result)(s':Shared):Prop :=
 match r with
 | .ok (.ret u)=>CE outer P w H s Q u s'
 | .ok _=>False
 | .error e=>CX outer H s E e s'
structure FnOk(P:Program)(w:World)(K:PySem.W.Frag)(mg:Str->Option Value)(base:Heap)(CX:CXT)(k:Nat)(f:Addr)(fd:FuncData)(ps:List Str)(sp:Sp):Prop where
 len:∀vs H Q E,sp vs H Q E->vs.length=ps.length
 run:∀(A:Around) (outer:List Env) (s:Shared) (H:Hp) (args:Args) (us:List Value) (vs:List V) (Q:VK) (E:XK),Room k A->Env0 P w K mg base A outer s H->BindsTo s fd args (ps.zip us)->Vals vs us->sp vs H Q E ->
  codeAny (model P w) A (.call (.ref f) args) (CR CX outer P w H s Q E) s
section
variable{X:Cx}{pins:List (Addr×Obj)}{σ : St}{H:Hp}{s s':Shared}
theorem Inv.env0(I:Inv X pins σ H s):Env0 X.prog X.w X.K X.mg X.base X.A X.stack s H:=⟨I.ok.frames,I.ok.mod,I.bs,cA I.ok.bsz I.sz,I.stack,I.stkFree,I.hok,I.bare⟩
theorem Inv.after{Q:VK}{u:Value}(I:Inv X pins σ H s)(h:CE X.stack X.prog X.w H s Q u s'):EP X pins σ Q u s':=by
 obtain⟨v,H',os,bare,un,hok,r,q⟩:=h;obtain⟨hh,g,d,t,os'⟩:=s';obtain rfl:os'=s.os:=os;exact⟨v,H',I.call (h':=hh) (g':=g) (d':=d) (t':=t) (ch :=[]) un hok bare (λb z=>absurd z (by simp)),r,q⟩
end
def tCall(sp:Sp)(dvs:List V)(E:XK)(t:TA):TE:=λσ H Q=>t σ H λvs H1=>sp (vs++dvs) H1 Q E
def Binds(K:PySem.W.Frag)(fd:FuncData)(ps:List Str)(ds:List Value):Prop :=
 ∀(s:Shared) (us:List Value),K.In s.heap->(us++ds).length=ps.length->BindsTo s fd ⟨us,[]⟩ (ps.zip (us++ds))
theorem Binds.all{K:PySem.W.Frag}{fd:FuncData}{ps:List Str}(h:∀us:List Value,us.length=ps.length->bindArgs fd ⟨us,[]⟩=pure (ps.zip us)):Binds K fd ps []:=λs us _ hl=>by
 rw [bW] at hl ⊢;exact .of_eq (h us hl)
def qR5(CX:CXT)(X:Cx)(E:XK):Prop := ∀(pins:List (Addr×Obj)) (σ : St) (H:Hp) (s:Shared) (e:Value) (s':Shared),Inv X pins σ H s->CX X.stack H s E e s'->X.xe e s'
section
variable{X:Cx}{CX:CXT}{k:Nat}{f C:Addr}{fd:FuncData}{ps:List Str}{sp:Sp}{dvs:List V}{ds:List Value}{E:XK}{x m:Str}{p pos apos:Pos}{e o:Expr}{es:List Expr}{ta:TE}{t:TA}
theorem qW9{pins:List (Addr×Obj)}{σ : St}{H:Hp}{s:Shared}{Q:VK}{us:List Value}{vs:List V}(F:FnOk X.prog X.w X.K X.mg X.base CX k f fd ps sp)(hr:Room k X.A)(hb:Binds X.K fd ps ds)(hd:Vals dvs ds)(hx:qR5 CX X E)(I:Inv X pins σ H s)(r:Vals vs us)(h:sp (vs++dvs) H Q E):wpAny (model X.prog X.w) X.A (call (.ref f) us) (EP X pins σ Q) X.xe s:=by
 have r2:Vals (vs++dvs) (us++ds):=r.append hd;have hl:(us++ds).length=ps.length:=by rw [<-r2.length];exact F.len _ _ _ _ h
 refine wpAny_call (iA (F.run X.A X.stack s H ⟨us,[]⟩ (us++ds) (vs++dvs) Q E hr I.env0 (hb s us I.kIn hl) r2 h) λr s' hq=>?_);cases r with
 | error e=>exact hx pins σ H s e s' I hq
 | ok fl =>
  cases fl with
  | ret u=>exact I.after hq
  | next=>exact False.elim hq
  | brk=>exact False.elim hq
  | cont=>exact False.elim hq
theorem qUl(F:FnOk X.prog X.w X.K X.mg X.base CX k f fd ps sp)(hr:Room k X.A)(hg:Gl X x)(hm:X.mg x=some (.ref f))(hk:PySem.W.keepIn X.K (.ref f)=true)(hb:Binds X.K fd ps ds)(hd:Vals dvs ds)(hx:qR5 CX X E)
  (ha:PA X (e::es) t) (hdb:(x == ("__debug__" : Str))=false:=by decide) (he:starEach (e::es) X.env=(false,eval e X.env)::starEach es X.env:=by rfl) (hpl:(backTo pos (starEach es X.env)).any (·.1)=false:=by rfl) :
  PE X (.Call (.Name x p) (e::es) [] pos) (tCall sp dvs E t):=by
 intro pins s σ H Q I h;refine wpAny_Call_Name_kw (qVf I hg hm ?_ hdb);refine PySem.W.callWith_K (h₀ :=X.base) I.ok.mod.kin hk (thn (ha pos pins s σ H _ I h) λus s1 hq_=>?_) he hpl;obtain⟨vs,H1,I1,r,q⟩:=hq_;refine⟨I1.kIn,?_⟩;exact qW9 F hr hb hd hx I1 r q
end
section
variable{X:Cx}{CX:CXT}{k:Nat}{f C:Addr}{fd:FuncData}{ps ks:List Str}{sp:Sp}{E:XK}{x m:Str}{p pos apos kpos:Pos}{e o:Expr}{es:List Expr}{kws:List Keyword}{te ta:TE}{t tk:TA}{nm:Option Str}
variable{g:List Value->List Value->List Value}{gV:List V->List V->List V}
end
structure FnScope(N P:List Str)(sc:Scope):Prop where
 kind:sc.kind = .function
 co:sc.isCoroutine=false
 gen:sc.isGenerator=false
 nd:N.Nodup
 pre:N.take P.length=P
 par:∀x∈P,sc.names.lookup x=some .local\/sc.names.lookup x=some .cell
 nofree:∀y∈sc.names,y.2 ≠ .free
theorem qKl{kindOf:Str->Option NameKind}{x:Str}:∀ {binds:List (Str×Value)} {m:Str->Option Value},(∀v,(x,v)∉binds)->bindL kindOf binds m x=m x
 | [],_,_=>rfl
 | (n,v)::r,m,h=>by
  unfold bindL;rw [qKl λw hw=>h w (aS _ hw)];split
  ·have:x≠n:=by rintro rfl;exact h v aR
   simp [this]
  ·rfl
theorem qKn{kindOf:Str->Option NameKind}{x:Str}:∀ {binds:List (Str×Value)} {m:Str->Option Value},(∀v,(x,v)∉binds)->bindC kindOf binds m x=m x
 | [],_,_=>rfl
 | (n,v)::r,m,h=>by
  unfold bindC;rw [qKn λw hw=>h w (aS _ hw)];split
  ·rfl
  ·have:x≠n:=by rintro rfl;exact h v aR
   simp [this]
theorem qKm{kindOf:Str->Option NameKind}{x:Str}{v:Value}:∀ {P:List Str} {vs:List Value} {i:Nat} {m:Str->Option Value},P.Nodup->P[i]? = some x->vs[i]? = some v->kindOf x=some .local ->
  bindL kindOf (P.zip vs) m x=some v
 | [],_,_,_,_,h,_,_=>by simp at h
 | _::_,[],_,_,_,_,h,_=>by simp at h
 | p::P,w::vs,0,m,nd,h1,h2,hk=>by
  simp at h1 h2;subst h1;subst h2;show bindL kindOf ((p,w)::P.zip vs) m p=_;unfold bindL;rw [qKl λv hv=>(fY.mp nd).1 (List.of_mem_zip hv).1,if_pos hk];simp
 | p::P,w::vs,i+1,m,nd,h1,h2,hk=>by
  show bindL kindOf ((p,w)::P.zip vs) m x=_;unfold bindL;exact qKm (i:=i) (fY.mp nd).2 (by simpa using h1) (by simpa using h2) hk
theorem qKo{kindOf:Str->Option NameKind}{x:Str}{v:Value}:∀ {P:List Str} {vs:List Value} {i:Nat} {m:Str->Option Value},P.Nodup->P[i]? = some x->vs[i]? = some v->kindOf x≠some .local ->
  bindC kindOf (P.zip vs) m x=some v
 | [],_,_,_,_,h,_,_=>by simp at h
 | _::_,[],_,_,_,_,h,_=>by simp at h
 | p::P,w::vs,0,m,nd,h1,h2,hk=>by
  simp at h1 h2;subst h1;subst h2;show bindC kindOf ((p,w)::P.zip vs) m p=_;unfold bindC;rw [qKn λv hv=>(fY.mp nd).1 (List.of_mem_zip hv).1,if_neg hk];simp
 | p::P,w::vs,i+1,m,nd,h1,h2,hk=>by
  show bindC kindOf ((p,w)::P.zip vs) m x=_;unfold bindC;exact qKo (i:=i) (fY.mp nd).2 (by simpa using h1) (by simpa using h2) hk
def start(N:List Str)(vs:List V):St:=vs.map some++List.replicate (N.length - vs.length) none
def cxOf(CX:CXT)(P:Program)(w:World)(K:PySem.W.Frag)(mg:Str->Option Value)(base:Heap)(N:List Str)(qual:Str)(scope:Scope)(f:Addr)(cd:Value)(A:Around)(outer:List Env)(s:Shared)(H:Hp)(E:XK):Cx where
 prog:=P
 w:=w
 K:=K
 mg:=mg
 base:=base
 A:=A.deeper (envOfC qual scope s.heap.objs.size f cd)
 N:=N
 s₀ :=s
 H₀ :=H
 env:=envOfC qual scope s.heap.objs.size f cd
 outer:=outer
 stack:=envOfC qual scope s.heap.objs.size f cd::outer
 ex :=[]
 calm:=true
 fn:=λ_=>true
 pn :=[]
 xe:=λe s'=>wpAny (model P w) (A.deeper (envOfC qual scope s.heap.objs.size f cd)) (leaving (envOfC qual scope s.heap.objs.size f cd) e) (λ_ s''=>CX outer H s E e s'') (λe' s''=>CX outer H s E e' s'') s'
theorem qMs{sc:Scope}{n:Nat}{x:Str}(h:sc.names.lookup x=some .cell):∃c,(cellsFrom n sc.names []).lookup x=some c:=by
 have q:=PySem.W.cellsFrom_some sc.names n [] (.inl h);exact Option.isSome_iff_exists.mp q
theorem qQ4{CX:CXT}{P:Program}{w:World}{K:PySem.W.Frag}{mg:Str->Option Value}{base:Heap}{N ps:List Str}{qual:Str}{scope:Scope}{f:Addr}{cd:Value}{A:Around}{outer:List Env}{s s1:Shared}{H:Hp}{E:XK}{us:List Value}{vs:List V}(S:FnScope N ps scope)(hd:A.handled=none)(e0:Env0 P w K mg base A outer s H)(hl:vs.length=ps.length)(r:Vals vs us)(x:InCallC s s.heap.objs.size (bindL (envOfC qual scope s.heap.objs.size f cd).kindOf (ps.zip us) λ_=>none) (cellsFrom (s.heap.objs.size+1) scope.names []) (bindC (envOfC qual scope s.heap.objs.size f cd).kindOf (ps.zip us) λ_=>none) s1):Inv (cxOf CX P w K mg base N qual scope f cd A outer s H E) [] (start N vs) H s1:=by
 have hpl:ps.length<=N.length:=by have:=congrArg List.length S.pre;rw [aV] at this;lia
 obtain⟨h1,tk,rfl,hk⟩:=x.done;have noA:∀b:Addr,b∉(cxOf CX P w K mg base N qual scope f cd A outer s H E).ex:=λb z=>absurd (show b∈([]:List Addr) from z) (by simp)
 refine⟨⟨e0.mod,S.kind,rfl,rfl,aE _,λy z c h1 h2=>?_,λy hy=>?_,λy c _ h=>?_,λ_=>hd,Around.frames_deeper e0.frames,.inr ⟨rfl,rfl⟩,λb z=>absurd z (noA b),e0.bs,e0.bsz,λb _ _=>noA b,λb z=>absurd z (noA b),e0.funs,e0.frf⟩,
  rfl,e0.bare,Un.kept hk,⟨_,x.toInCall.ns,λi y v h1 h2 h3=>?_⟩,λy c h=>⟨_,x.cell y c h⟩,e0.hok.fresh (aE _),λy c h=>?_,λp hp=>absurd (show p∈([]:List (Addr×Obj)) from hp) (by simp),e0.hok.kept hk,?_⟩
 ·exact name_of_addr x.apart (eJ h1) (eJ h2)
 ·have hy:scope.names.lookup y=some .cell\/scope.names.lookup y=some .free:=hy;rcases hy with hy | hy
  ·exact qMs hy
  ·exact absurd rfl (S.nofree _ (eJ hy))
 ·exact dX (x.above y c (eJ h))
 ·have hi:i<vs.length:=by
   unfold start at h2;by_cases hi:i<vs.length
   ·exact hi
   ·rw [eD (by simpa using hi)] at h2;rw [List.getElem?_replicate] at h2;split at h2 <;> cases h2
  have ha:vs[i]? = some v:=by
   unfold start at h2;rw [fS (by simpa using hi),aW] at h2;cases e:vs[i]? with
   | none=>rw [e] at h2;cases h2
   | some a=>rw [e] at h2;cases h2;rfl
  obtain⟨u,hu,rv⟩:=r.get ha;have hp:ps[i]? = some y:=by
   rw [<-S.pre,List.getElem?_take_of_lt (by lia)];exact h1
  have ndP:ps.Nodup:=by rw [<-S.pre];exact S.nd.sublist (List.take_sublist _ _)
  refine⟨u,rv,?_⟩;rcases S.par y (aO hp) with k | k
  ·exact .inl ⟨k,qKm ndP hp hu k⟩
  ·obtain⟨c,e⟩:=qMs (n:=s.heap.objs.size+1) k;refine .inr ⟨.inl k,c,e,?_⟩;have q:=x.cell y c e;rw [qKo ndP hp hu (by show scope.names.lookup y≠_;rw [k];decide)] at q;exact q
 ·exact e0.hok.fresh (dX (x.above y c (eJ h)))
 ·unfold start;show _=N.length;rw [aG,aB,List.length_replicate];lia
theorem qYk{CX:CXT}{P:Program}{w:World}{K:PySem.W.Frag}{mg:Str->Option Value}{base:Heap}{k:Nat}{f:Addr}{name qual:Str}{params:Arguments}{body:List Stmt}{scope:Scope}{dV kV doc pm cdv ct oc:Value}{an od:Option Addr}{osl:Array (Option Value)}{N ps:List Str}{sp:Sp}(lk:K.lookup f=some ⟨oc,od,.func (PySem.W.fnOf name qual params body scope dV kV doc pm an cdv ct),osl⟩)(hcd:PySem.W.codeIn K cdv qual=true)(S:FnScope N ps scope)(len:∀vs H Q E,sp vs H Q E->vs.length=ps.length)(hbody:∀(A:Around) (outer:List Env) (s:Shared) (H:Hp) (vs:List V) (Q:VK) (E:XK),Room k (A.deeper (envOfC qual scope s.heap.objs.size f cdv))->sp vs H Q E ->
   ∃t,PSs (cxOf CX P w K mg base N qual scope f cdv A outer s H E) body t/\t { nx:=λ_ H'=>Q .non H',rt:=Q } (start N vs) H) :
  FnOk P w K mg base CX (k+1) f (PySem.W.fnOf name qual params body scope dV kV doc pm an cdv ct) ps sp:=by
 refine⟨len,λA outer s H args us vs Q E hr e0 hb r hsp=>?_⟩;have hl:=len _ _ _ _ hsp;have KX:K.In s.heap:=e0.mod.kin.keeps λb o e=>(e0.bs b o e).1;have lim:s.heap.NoLimit:=e0.mod.nolimit.keeps λb o e=>(e0.bs b o e).1;have hkind:∀y∈ps.zip us,scope.names.lookup y.1=some .local\/(scope.names.lookup y.1=some .cell/\((cellsFrom (s.heap.objs.size+1) scope.names []).lookup y.1).isSome=true):=λ⟨n,v⟩ hy=>by
  rcases S.par n (List.of_mem_zip hy).1 with q | q
  ·exact .inl q
  ·exact .inr ⟨q,PySem.W.cellsFrom_some _ _ _ (.inl q)⟩
 refine codeAny_call_function hr.depth (KX _ _ lk) rfl S.co S.gen rfl (PySem.W.codeRec_of KX hcd) (hb _ _ _ _ ?_);refine wpAny_newFunctionEnv_cells S.kind hkind λenv he s1 x=>?_;subst he;refine⟨lim.keeps x.toInCall.keep,codeAny_func ?_⟩;obtain⟨t,ht,hq⟩:=hbody A outer s H vs Q E (hr.deeper _) hsp;have I:Inv (cxOf CX P w K mg base N qual scope f cdv A outer s H E) [] (start N vs) H s1:=qQ4 S hr.hd e0 hl r x;refine dE (ht [] s1 (start N vs) H _ I hq) (λfl s' hs=>?_) λe s' hs=>hs;have fin:∀ {σ':St} {H':Hp} {v:V} {u:Value},Inv (cxOf CX P w K mg base N qual scope f cdv A outer s H E) [] σ' H' s'->RelV v u->Q v H'->CE outer P w H s Q u s' :=
  λ{σ' H' v u} J rv q=>⟨v,H',J.os,J.bare,J.base,J.hok,rv,q⟩
 cases fl with
 | ret u =>
  obtain⟨v,σ',H',J,rv,q⟩:=hs;exact fin J rv q
 | next =>
  obtain⟨σ',H',J,q⟩:=hs;exact fin (v:=V.non) (u:=Value.none) J rfl q
 | brk =>
  obtain⟨_,_,_,q⟩:=hs;exact False.elim q
 | cont =>
  obtain⟨_,_,_,q⟩:=hs;exact False.elim q
section
variable{X:Cx}{x:Str}{p pos:Pos}{e:Expr}{es:List Expr}{t:TA}{id T:String}{r:List V->Hp->VK->Prop}
def tCB(r:List V->Hp->VK->Prop)(t:TA):TE:=λσ H Q=>t σ H λvs H1=>r vs H1 Q
theorem qAe(hc:CallR X (.builtin id) r)(hg:Gl X x)(hm:X.mg x=none)(hv:bootBuiltins x=some (.builtin id))(ha:PA X (e::es) t)(hn:x ≠ "__name__" :=by decide)(hdb:(x == ("__debug__" : Str))=false:=by decide)
  (he:starEach (e::es) X.env=(false,eval e X.env)::starEach es X.env:=by rfl) (hpl:(backTo pos (starEach es X.env)).any (·.1)=false:=by rfl):PE X (.Call (.Name x p) (e::es) [] pos) (tCB r t):=by
 intro pins s σ H Q I h;refine wpAny_Call_Name_kw (qJx I hg hm hv ?_ hn hdb);refine PyProof.Rows.callWith_builtin1 (thn (ha pos pins s σ H _ I h) λus s1 hq_=>?_) he hpl;obtain⟨vs,H1,I1,r1,q1⟩:=hq_;exact hc pins s1 σ H1 vs us Q I1 r1 q1
theorem qB5(hc:CallR X (.type T) r)(hg:Gl X x)(hm:X.mg x=none)(hv:bootBuiltins x=some (.type T))(ha:PA X (e::es) t)(hn:x ≠ "__name__" :=by decide)(hdb:(x == ("__debug__" : Str))=false:=by decide)
  (he:starEach (e::es) X.env=(false,eval e X.env)::starEach es X.env:=by rfl) (hpl:(backTo pos (starEach es X.env)).any (·.1)=false:=by rfl):PE X (.Call (.Name x p) (e::es) [] pos) (tCB r t):=by
 intro pins s σ H Q I h;refine wpAny_Call_Name_kw (qJx I hg hm hv ?_ hn hdb);refine gL (thn (ha pos pins s σ H _ I h) λus s1 hq_=>?_) he hpl;obtain⟨vs,H1,I1,r1,q1⟩:=hq_;exact hc pins s1 σ H1 vs us Q I1 r1 q1
end
end L2
namespace HT
open PySem PyProof.Rows
def lexLt:List Int->List Int->Bool
 | [],[]=>false
 | [],_::_=>true
 | _::_,[]=>false
 | x::xs,y::ys=>if x=y then lexLt xs ys else decide (x<y)
theorem lexLt_cons(x y:Int)(xs ys:List Int):lexLt (x::xs) (y::ys)=if x=y then lexLt xs ys else decide (x<y):=rfl
section
open PySem.SeqAt
open PySem.AutoSeq1 (wpAny_loadPart')
open PySem.MeetsSeq PySem.MeetsSeq2 PySem.MeetsSeq3
end
section
variable{prog:Program}{w:World}{A:Around}{E:Value->Shared->Prop}{s:Shared}
def sIx(n d:Nat):Option Int->Nat
 | none=>d
 | some v=>if v<0 then (v+(n:Int)).toNat else min v.toNat n
theorem sIx_none(n d:Nat):sIx n d none=d:=rfl
theorem sIx_nat(n d k:Nat):sIx n d (some (k:Int))=min k n:=by
 show (if (k:Int)<0 then ((k:Int)+(n:Int)).toNat else min (k:Int).toNat n)=min k n;rw [if_neg (by lia),cL]
theorem qW8(n d:Nat)(hd:d<=n)(o:Option Int):sIx n d o<=n:=by
 cases o with
 | none=>exact hd
 | some v =>
  show (if v<0 then (v+(n:Int)).toNat else min v.toNat n)<=n;by_cases hv:v<0
  ·rw [if_pos hv];lia
  ·rw [if_neg hv];exact Nat.min_le_right _ _
theorem qQw(v:Int)(n d:Nat):(if v<0 then max (v+(n:Int)) 0 else min v (n:Int))=((sIx n d (some v):Nat):Int):=by
 show (if v<0 then max (v+(n:Int)) 0 else min v (n:Int))=(((if v<0 then (v+(n:Int)).toNat else min v.toNat n):Nat):Int);by_cases hv:v<0
 ·simp only [if_pos hv];lia
 ·simp only [if_neg hv];lia
theorem qNz(lo hi:Option Int)(n:Nat):Builtin.Slice.sliceAdjust lo hi 1 (n:Int)=(((sIx n 0 lo:Nat):Int),((sIx n n hi:Nat):Int)):=by
 have h1 : ¬((1:Int)<0):=by lia
 unfold Builtin.Slice.sliceAdjust;simp only [h1,if_false];refine Prod.ext ?_ ?_
 ·cases lo with
  | none=>rfl
  | some v=>exact qQw v n 0
 ·cases hi with
  | none=>rfl
  | some v=>exact qQw v n n
theorem qNg(i j:Nat):Builtin.Slice.slicePlaces (i:Int) (j:Int) 1=j - i:=by
 unfold Builtin.Slice.slicePlaces;have h1:(1:Int)>0:=by lia
 simp only [h1,if_true,Int.ediv_one];split <;> lia
theorem qH6{v:Value}{o:Option Int}{Q:Option Int->Shared->Prop}(p:IsPart v o)(h:Q o s):wpAny (model prog w) A (Builtin.Slice.slicePartIndex v) Q E s:=by
 cases p with
 | none=>exact slicePart_none h
 | int i t=>exact slicePart_int h
theorem qFg{sl:Addr}{vl vu:Value}{lo hi:Option Int}{n:Nat}{Q:Int×Int×Nat->Shared->Prop}(hs:s.heap.IsSliceOf sl vl vu .none)(pl:IsPart vl lo)(pu:IsPart vu hi)(h:Q (((sIx n 0 lo:Nat):Int),1,sIx n n hi - sIx n 0 lo) s):wpAny (model prog w) A (Builtin.Slice.sliceApplied (.ref sl) (pure (n:Int))) Q E s:=by
 obtain⟨os,hos,hcs,hds⟩:=id hs;unfold Builtin.Slice.sliceApplied Builtin.Slice.sliceFields;refine aA (aA (wpAny_field hos hds (x:=vl) rfl (aA (wpAny_field hos hds (x:=vu) rfl (aA (wpAny_field hos hds (x :=.none) rfl (aC ?_)))))));refine aA (slicePart_none ?_);show wpAny _ _ (if ((1:Int) == 0)=true then _ else _) _ _ s;rw [if_neg (by decide)];refine aA (qH6 pl (aA (qH6 pu (aA (aC ?_)))));show wpAny _ _ (match Builtin.Slice.sliceAdjust lo hi 1 (n:Int) with | (lo,hi)=>pure (lo,(1:Int),Builtin.Slice.slicePlaces lo hi 1)) _ _ s;rw [qNz lo hi n];show wpAny _ _ (pure (((sIx n 0 lo:Nat):Int),(1:Int),Builtin.Slice.slicePlaces ((sIx n 0 lo:Nat):Int) ((sIx n n hi:Nat):Int) 1)) _ _ s
 rw [qNg];exact aC h
theorem qRx(xs:Array Value)(i k:Nat):((List.range k).filterMap λ(m:Nat)=>xs[((i:Int)+(m:Int)*1).toNat]?).toArray=((xs.toList.drop i).take k).toArray:=by
 have e:(λ(m:Nat)=>xs[((i:Int)+(m:Int)*1).toNat]?)=λm=>xs[i+m]? :=by
  funext m
  have:((i:Int)+(m:Int)*1).toNat=i+m:=by lia
  rw [this]
 rw [e];have:=pick_run xs i k;rw [List.filterMap_map] at this;have e2:((λx=>xs[x]?)∘λx=>i+x)=λm=>xs[i+m]? :=rfl;rw [e2] at this;rw [this]
theorem getItem_tuple_cut{t sl:Addr}{items:Array Value}{vl vu:Value}{lo hi:Option Int}{Q:Value->Shared->Prop}(ht:IsTup s.heap t items)(hs:s.heap.IsSliceOf sl vl vu .none)(pl:IsPart vl lo)(pu:IsPart vu hi)(hw : ¬(sIx items.size 0 lo=0/\sIx items.size items.size hi=items.size))
  (h:Q (.ref s.heap.objs.size) { s with heap:=s.heap.push { cls :=.type "tuple",data :=.seq ((items.toList.drop (sIx items.size 0 lo)).take (sIx items.size items.size hi - sIx items.size 0 lo)).toArray } })
  (hsz:items.size<=sizeLine):wpAny (model prog w) A (getItem (.ref t) (.ref sl)) Q E s:=by
 have htake:sizeOk (.seq ((items.toList.drop (sIx items.size 0 lo)).take (sIx items.size items.size hi - sIx items.size 0 lo)).toArray):=by
  show ((items.toList.drop (sIx items.size 0 lo)).take (sIx items.size items.size hi - sIx items.size 0 lo)).toArray.size<=sizeLine;rw [aP,aV,cJ,aK];lia
 have hj:sIx items.size items.size hi<=items.size:=qW8 _ _ (aE _) hi;obtain⟨os,hos,hcs,hds⟩:=id hs;have hTs:s.TypeIs (.ref sl) "slice" :=⟨os,hos,hcs⟩;unfold getItem
 try with_reducible refine bT ?_
 first | refine aA (aC ?_) | skip
 refine aA (wpAny_sequenceKey ht.typeIs (by decide) ?_)
 refine aA (wpAny_callSpecial?_slot (name:=Str.ofString "__getitem__") ht.typeIs fZ
  (cX fZ ht.typeIs entry_tuple_getitem ?_ (args_tuple_getitem _ _)))
 show wpAny _ _ (Builtin.Tuple.tupleItemsOf (.ref t) >>= _) _ _ s;refine aA (tupleItemsOf_ ht ?_);refine aA (wpAny_typeOf hTs ?_);rw [if_pos (by decide)];refine aA (qFg hs pl pu ?_);have hno : ¬((((sIx items.size 0 lo:Nat):Int) == 0&&(1:Int) == 1&&(sIx items.size items.size hi - sIx items.size 0 lo) == items.size)=true):=by
  intro q;rw [bD,bD] at q;have q1:((sIx items.size 0 lo:Nat):Int)=0:=eq_of_beq q.1.1;have q2:sIx items.size items.size hi - sIx items.size 0 lo=items.size:=eq_of_beq q.2;exact hw ⟨by lia,by lia⟩
 show wpAny _ _ (if (((sIx items.size 0 lo:Nat):Int) == 0&&(1:Int) == 1&&(sIx items.size items.size hi - sIx items.size 0 lo) == items.size)=true then _ else _) _ _ s;rw [if_neg hno,qRx]
 first
  | exact aA (m:=Builtin.Tuple.tupleExact _) (cZ (aC ⟨_,rfl,aC h⟩) htake)
  | exact aA (m:=Builtin.Tuple.tupleExact _) (cZ (aA (aC (aC ⟨_,rfl,aC h⟩))) htake)
  | exact aA (aA (m:=Builtin.Tuple.tupleExact _) (cZ (aC (aC ⟨_,rfl,aC h⟩)) htake))
  | exact aA (aA (m:=Builtin.Tuple.tupleExact _) (cZ (aC ⟨_,rfl,aC h⟩) htake))
end
end HT
namespace L2
open PySem PySem.Spec PyProof.Rows
abbrev TO:=St->Hp->(Option Int->Hp->Prop)->Prop
def PO(X:Cx)(e:Option Expr)(t:TO):Prop :=
 ∀(pins:List (Addr×Obj)) (s:Shared) (σ : St) (H:Hp) (Q:Option Int->Hp->Prop),Inv X pins σ H s->t σ H Q ->
  wpAny (model X.prog X.w) X.A (evalPart e X.env) (λu s' => ∃o H',Inv X pins σ H' s'/\IsPart u o/\Q o H') X.xe s
def qOb:TO:=λ_ H Q=>Q none H
def tPart(t:TE):TO:=λσ H Q=>t σ H λx H1 => ∃i,x = .int i/\Q (some i) H1
theorem qCn{ns:List Int}:∀ {us:List Value},Vals (ns.map V.int) us->IntsAre us ns:=by
 induction ns with
 | nil=>intro us r;rw [List.map_nil] at r;cases r;exact .nil
 | cons n ns ih =>
  intro us r;rw [bG] at r;cases r with
  | cons r1 r2 =>
   obtain⟨t,e⟩:=r1;subst e;exact .cons n t (ih r2)
section
variable{X:Cx}{e:Expr}{te:TE}{lo hi:Option Expr}{tl th:TO}{pos p2:Pos}
theorem qD7:PO X none qOb:=by
 intro pins s σ H Q I h;rw [evalPart_none];exact aC ⟨none,H,I,.none,h⟩
theorem qD6(h:PE X e te):PO X (some e) (tPart te):=by
 intro pins s σ H Q I hw;rw [evalPart_some];refine thn (h pins s σ H _ I hw) λu s1 hq_=>?_;obtain⟨x,H1,I1,r1,q1⟩:=hq_;obtain⟨i,rfl,q⟩:=q1;obtain⟨t,rfl⟩:=r1;exact⟨some i,H1,I1,.int i t,q⟩
def SlR(X:Cx)(r:V->Option Int->Option Int->Hp->VK->Prop):Prop :=
 ∀(pins:List (Addr×Obj)) (s:Shared) (σ : St) (H:Hp) (x:V) (v vl vu:Value) (lo hi:Option Int) (sl:Addr) (Q:VK),Inv X pins σ H s->RelV x v->s.heap.IsSliceOf sl vl vu .none->IsPart vl lo->IsPart vu hi->r x lo hi H Q ->
  ∃T id,typeLookup (.type T) "__getitem__" = pure (some (.builtin id))/\s.TypeIs v T/\wpAny (model X.prog X.w) X.A (getItem v (.ref sl)) (EP X pins σ Q) X.xe s
def tSl(r:V->Option Int->Option Int->Hp->VK->Prop)(te:TE)(tl th:TO):TE:=λσ H Q=>te σ H λx H1=>tl σ H1 λl H2=>th σ H2 λu H3=>r x l u H3 Q
theorem qCe{r:V->Option Int->Option Int->Hp->VK->Prop}(hr:SlR X r)(he:PE X e te)(hl:PO X lo tl)(hu:PO X hi th):PE X (.Subscript e (.Slice lo hi none p2) pos) (tSl r te tl th):=by
 intro pins s σ H Q I h;refine Subscript_ (thn (he pins s σ H _ I h) λv s1 hq_=>?_);obtain⟨x,H1,I1,r1,q1⟩:=hq_;refine wpAny_Slice (thn (hl pins s1 σ H1 _ I1 q1) λvl s2 hq_=>?_);obtain⟨l,H2,I2,pl,q2⟩:=hq_;refine thn (hu pins s2 σ H2 _ I2 q2) λvu s3 hq_=>?_;obtain⟨u,H3,I3,pu,q3⟩:=hq_;rw [evalPart_none];refine aC ?_;have I4:Inv X pins σ H3 { s3 with heap:=s3.heap.push { cls :=.type "slice",data :=.fields #[vl,vu,.none] } }:=I3.kept (t':=s3.toks) λb ob q=>aH _ q;obtain⟨T,id,hT,ht,hg⟩:=hr pins { s3 with heap:=s3.heap.push { cls :=.type "slice",data :=.fields #[vl,vu,.none] } } σ H3 x v vl vu l u s3.heap.objs.size Q I4 r1 (Heap.IsSliceOf.new ..) pl pu q3;show wpAny (model X.prog X.w) X.A (subscriptTail e (.Slice lo hi none p2) v (.ref s3.heap.objs.size)) (EP X pins σ Q) X.xe { s3 with heap:=s3.heap.push { cls :=.type "slice",data :=.fields #[vl,vu,.none] } }
 exact tail_any (ops :=[.ref s3.heap.objs.size,v]) ht hT hg (by with_unfolding_all rfl)
def cutV(xs:List V)(lo hi:Option Int):List V:=(xs.drop (HT.sIx xs.length 0 lo)).take (HT.sIx xs.length xs.length hi - HT.sIx xs.length 0 lo)
theorem qGq(xs:List V)(lo hi:Option Int):(cutV xs lo hi).length<=xs.length:=by
 unfold cutV;rw [aV,cJ];lia
def rSlT(K:PySem.W.Frag):V->Option Int->Option Int->Hp->VK->Prop:=λx lo hi H Q => ∃a xs,x = .ref a/\SqT K H a xs /\
 ¬(HT.sIx xs.length 0 lo=0/\HT.sIx xs.length xs.length hi=xs.length) /\ ∀p,H p=none->Q (.ref p) (upd H p (.tup (cutV xs lo hi)))
theorem qLu:SlR X (rSlT X.K):=by
 intro pins s σ H x v vl vu lo hi sl Q I rx hs pl pu h;obtain⟨a,xs,rfl,hx,hw,q⟩:=h;cases rx;obtain⟨its,r,ht,hz⟩:=I.tuple hx;have hlen:its.toArray.size=xs.length:=by rw [aP];exact r.length.symm
 refine⟨"tuple",_,fZ.lookup,ht.typeIs,?_⟩;refine HT.getItem_tuple_cut ht hs pl pu (by rw [hlen];exact hw) ?_ (by rw [hlen];exact hz);rw [hlen];refine⟨.ref s.heap.objs.size,_,I.laid (t':=s.toks) (o :=.tup (cutV xs lo hi)) (λb ob q=>aH _ q) (aE _) ?_,rfl,q _ (I.hok.fresh (aE _))⟩;exact⟨cA (qGq xs lo hi) hz,_,(r.drop (HT.sIx xs.length 0 lo)).take (HT.sIx xs.length xs.length hi - HT.sIx xs.length 0 lo),IsTup.new _ _⟩
end
def ixN(n:Nat)(i:Int):Option Nat:=if 0<=i then (if i<n then some i.toNat else none) else if -(n:Int)<=i then some (i+n).toNat else none
def atI{α : Type}(xs:List α)(i:Int):Option α :=(ixN xs.length i).bind λj=>xs[j]?
theorem qQ0{n:Nat}{i:Int}{j:Nat}(h:ixN n i=some j):seqIndex? i n=some j/\j<n /\ -(n:Int)<=i/\i<n:=by
 unfold ixN at h;by_cases h0:0<=i
 ·rw [if_pos h0] at h;by_cases h1:i<n
  ·rw [if_pos h1] at h;have e:i.toNat=j:=bF h;exact⟨by rw [seqIndex_of h0 h1,e],by lia,by lia,h1⟩
  ·rw [if_neg h1] at h;cases h
 ·rw [if_neg h0] at h;by_cases h1 : -(n:Int)<=i
  ·rw [if_pos h1] at h;have e:(i+n).toNat=j:=bF h;exact⟨by rw [seqIndex_neg (by lia) h1,e],by lia,h1,by lia⟩
  ·rw [if_neg h1] at h;cases h
theorem qR3{α : Type}{xs:List α}{i:Int}{v : α}(h:atI xs i=some v):∃j,seqIndex? i xs.length=some j/\xs[j]? = some v/\j<xs.length /\ -(xs.length:Int)<=i/\i<xs.length:=by
 unfold atI at h;cases e:ixN xs.length i with
 | none=>rw [e] at h;cases h
 | some j =>
  rw [e] at h;obtain⟨h1,h2,h3,h4⟩:=qQ0 e;exact⟨j,h1,h,h2,h3,h4⟩
theorem qBa{α : Type}{xs:List α}{j:Nat}{v : α}(h:xs[j]? = some v):atI xs (j:Int)=some v:=by
 have hj:j<xs.length:=(aI.mp h).1;have e:ixN xs.length (j:Int)=some j:=by
  unfold ixN;rw [if_pos (by lia),if_pos (by lia)];simp
 unfold atI;rw [e];exact h
def qVw(b:Expr):Prop := ∀o i,subscripted b false o i=operate [o,i] (getItem o i)
def IxR(X:Cx)(r:R2):Prop :=
 ∀(value slice:Expr) (pins:List (Addr×Obj)) (s:Shared) (σ : St) (H:Hp) (x y:V) (v u:Value) (Q:VK),Inv X pins σ H s->RelV x v->RelV y u->r x y H Q ->
  subscripted slice false v u=operate [v,u] (getItem v u)->wpAny (model X.prog X.w) X.A (subscriptTail value slice v u) (EP X pins σ Q) X.xe s
def MtR(X:Cx)(id:String)(r:V->List V->Hp->VK->Prop):Prop :=
 ∀(pins:List (Addr×Obj)) (s:Shared) (σ : St) (H:Hp) (x:V) (xs:List V) (v:Value) (us:List Value) (Q:VK),Inv X pins σ H s->RelV x v->Vals xs us->r x xs H Q ->
  wpAny (model X.prog X.w) X.A (call (.builtin id) (v::us)) (EP X pins σ Q) X.xe s
section
variable{X:Cx}{a b:Expr}{ta tb:TE}{pos:Pos}
theorem qAu{r:R2}(hr:IxR X r)(ha:PE X a ta)(hb:PE X b tb)(hs:qVw b):PE X (.Subscript a b pos) (tOp r ta tb):=by
 intro pins s σ H Q I h;exact Subscript_ (binT ha hb I h λv u s2 x y H2 I2 rx ry q=>hr a b pins s2 σ H2 x y v u Q I2 rx ry q (hs _ _))
def rIxL(K:PySem.W.Frag):R2:=λx y H Q => ∃p xs i v,x = .ref p/\y = .int i/\SqL K H p xs/\atI xs i=some v/\Q v H
def rIxT(K:PySem.W.Frag):R2:=λx y H Q => ∃p xs i v,x = .ref p/\y = .int i/\SqT K H p xs/\atI xs i=some v/\Q v H
theorem qAr:IxR X (rIxL X.K):=by
 intro value slice pins s σ H x y v u Q I rx ry h hs;obtain⟨p,xs,i,z,rfl,rfl,hq,he,q⟩:=h;cases rx;obtain⟨t,rfl⟩:=ry;obtain⟨its,r,pl,hz⟩:=I.list hq;obtain⟨j,h1,h2,h3,h4,h5⟩:=qR3 he;obtain⟨w,ew,rw'⟩:=r.get h2;have hl:=r.length;have hn:=qJt;have fin:EP X pins σ Q w s:=⟨z,H,I,rw',q⟩;by_cases h0:0<=i
 ·have hj:i.toNat=j:=by
   rw [seqIndex_of h0 h5] at h1;exact bF h1
  exact item_listR pl.isList h0 (by lia) (by rw [hj];simpa using ew) fin hs
 ·have hj:(i+(its.toArray.size:Int)).toNat=j:=by
   rw [seqIndex_neg (by lia) h4] at h1;rw [aP,<-hl];exact bF h1
  exact subscriptTail_builtinR (x:=w) pl.isList.typeIs slot_list_getitem.lookup
   (wpAny_getItem_list_neg (Q:=λr s'=>r=w/\EP X pins σ Q r s') pl.isList (by lia) (by rw [aP] <;> lia) (by lia) (by rw [hj];simpa using ew) ⟨rfl,fin⟩) hs
theorem qCf:IxR X (rIxT X.K):=by
 intro value slice pins s σ H x y v u Q I rx ry h hs;obtain⟨p,xs,i,z,rfl,rfl,hq,he,q⟩:=h;cases rx;obtain⟨t,rfl⟩:=ry;obtain⟨its,r,pl,hz⟩:=I.tuple hq;obtain⟨j,h1,h2,h3,h4,h5⟩:=qR3 he;obtain⟨w,ew,rw'⟩:=r.get h2;have hl:=r.length;have hn:=qJt;have fin:EP X pins σ Q w s:=⟨z,H,I,rw',q⟩;exact subscriptTail_builtinR (x:=w) pl.typeIs slot_tuple_getitem.lookup
  (getItem_tuple (j:=j) (Q:=λr s'=>r=w/\EP X pins σ Q r s') pl (by lia) (by lia) (by rw [aP,<-hl];exact h1) (by simpa using ew) ⟨rfl,fin⟩) hs
theorem qNq(its:List Value)(n j:Nat)(u:Value):Obj.mapSeq (·.setIfInBounds j u) { cls :=.type "list",data :=.seq its.toArray n } = { cls :=.type "list",data :=.seq (its.set j u).toArray n }:=by
 simp [Obj.mapSeq]
theorem Inv.lst{pins:List (Addr×Obj)}{σ : St}{H:Hp}{s:Shared}{p:Addr}{xs:List V}(I:Inv X pins σ H s)(h:H p=some (.lst xs)):∃(its:List Value) (n:Nat),Vals xs its/\s.heap.get? p=some { cls :=.type "list",data :=.seq its.toArray n }/\xs.length<=sizeLine:=by
 obtain⟨z,its,n,r,e⟩:=I.hok p _ h;exact⟨its,n,r,e,z⟩
theorem Inv.lstUpd{pins:List (Addr×Obj)}{σ : St}{H:Hp}{s:Shared}{p:Addr}{xs ys:List V}{its its':List Value}{n n':Nat}{f:Obj->Obj}(I:Inv X pins σ H s)(h:H p=some (.lst xs))
  (ho:s.heap.get? p=some { cls :=.type "list",data :=.seq its.toArray n }) (hf:f { cls :=.type "list",data :=.seq its.toArray n } = { cls :=.type "list",data :=.seq its'.toArray n' }) (r:Vals ys its') (hz:ys.length<=sizeLine) (t:Nat) :
  Inv X pins σ (upd H p (.lst ys)) { s with heap:=s.heap.update p f,toks:=t }:=by
 have e:(s.heap.update p f).get? p=some { cls :=.type "list",data :=.seq its'.toArray n' }:=by
  rw [dI f ho (by rw [hf] <;> rfl),hf]
 refine I.write (x:=p) (e:=p) (by rw [h];trivial) (.inl rfl) (λb u hb q=>(cH _ _ (cS hb)).trans q) ⟨_,e⟩ ?_;exact⟨hz,its',n',r,e⟩
def rSetL:V->V->V->Hp->(Hp->Prop)->Prop:=λo i v H Q => ∃p xs k j,o = .ref p/\i = .int k/\H p=some (.lst xs)/\ixN xs.length k=some j/\Q (upd H p (.lst (xs.set j v)))
theorem qLv:PSet X rSetL:=by
 intro pins s σ H o i v ov iv u Q I ro ri rv h;obtain⟨p,xs,k,j,rfl,rfl,hp,hj,q⟩:=h;cases ro;obtain⟨t,rfl⟩:=ri;obtain⟨its,n,r,ho,hz⟩:=I.lst hp;obtain⟨h1,h2,h3,h4⟩:=qQ0 hj;have hl:=r.length;have hn:=qJt;have I':Inv X pins σ (upd H p (.lst (xs.set j v))) { s with heap:=s.heap.update p (Obj.mapSeq (·.setIfInBounds j u)) } :=
  I.lstUpd hp ho (qNq its n j u) (r.set rv j) (by rw [List.length_set];exact hz) s.toks
 by_cases h0:0<=k
 ·have hk:k.toNat=j:=by
   rw [seqIndex_of h0 h4] at h1;exact bF h1
  exact PySem.W.ki_setAt ho h0 (by lia) (by rw [aP,<-hl];exact h4) (by rw [hk];exact⟨_,I',q⟩)
 ·have hk:(k+(its.toArray.size:Int)).toNat=j:=by
   rw [seqIndex_neg (by lia) h3] at h1;rw [aP,<-hl];exact bF h1
  exact PySem.W.ki_setBack ho (by lia) (by rw [aP,<-hl];exact h3) (by lia) (by rw [hk];exact⟨_,I',q⟩)
theorem qJ8(lo hi:Option Int)(n:Nat):(sliceBounds lo hi none n).1=((HT.sIx n 0 lo:Nat):Int)/\(sliceBounds lo hi none n).2.1=((HT.sIx n n hi:Nat):Int)/\(sliceBounds lo hi none n).2.2=1:=by
 refine⟨?_,?_,rfl⟩
 ·cases lo with
  | none=>simp [sliceBounds,HT.sIx]
  | some i =>
   simp only [sliceBounds,HT.sIx,Option.getD_none,show (1:Int)>0 by decide,if_true];by_cases h:i<0
   ·simp only [h,if_true] <;> lia
   ·simp only [h,if_false] <;> lia
 ·cases hi with
  | none=>simp [sliceBounds,HT.sIx]
  | some i =>
   simp only [sliceBounds,HT.sIx,Option.getD_none,show (1:Int)>0 by decide,if_true];by_cases h:i<0
   ·simp only [h,if_true] <;> lia
   ·simp only [h,if_false] <;> lia
theorem qI8(its:List Value)(lo hi:Option Int):slicePick its.toArray lo hi none=((its.drop (HT.sIx its.length 0 lo)).take (HT.sIx its.length its.length hi - HT.sIx its.length 0 lo)).toArray:=by
 obtain⟨h1,h2,h3⟩:=qJ8 lo hi its.toArray.size;unfold slicePick;rw [h1,h2,h3];simp only [sliceRange_one,pick_run,aP] <;> rfl
def rSlL(K:PySem.W.Frag):V->Option Int->Option Int->Hp->VK->Prop:=λx lo hi H Q => ∃a xs,x = .ref a/\SqL K H a xs /\ ∀p,H p=none->Q (.ref p) (upd H p (.lst (cutV xs lo hi)))
theorem qL3:SlR X (rSlL X.K):=by
 intro pins s σ H x v vl vu lo hi sl Q I rx hs pl pu h;obtain⟨a,xs,rfl,hx,q⟩:=h;cases rx;obtain⟨its,r,ht,hz⟩:=I.list hx;have hlen:=r.length;refine⟨"list",_,slot_list_getitem.lookup,ht.isList.typeIs,?_⟩;refine wpAny_getItem_list_slice ht.isList hs pl pu .none (by simp) ?_ (by rw [aP] <;> lia);rw [qI8,<-hlen];refine⟨.ref s.heap.objs.size,_,I.laid (t':=s.toks) (o :=.lst (cutV xs lo hi)) (λb ob q=>aH _ q) (aE _) ?_,rfl,q _ (I.hok.fresh (aE _))⟩;exact⟨cA (qGq xs lo hi) hz,_,0,(r.drop (HT.sIx xs.length 0 lo)).take (HT.sIx xs.length xs.length hi - HT.sIx xs.length 0 lo),bA _ rfl⟩
def flatV:V->Bool
 | .non=>true
 | .bl _=>true
 | .int _=>true
 | .str _=>true
 | _=>false
def eqV:V->V->Bool
 | .non,.non=>true
 | .bl a,.bl b=>a == b
 | .bl a,.int b=>(if a then 1 else 0) == b
 | .int a,.bl b=>a == (if b then 1 else 0)
 | .int a,.int b=>a == b
 | .str a,.str b=>a == b
 | _,_=>false
theorem qXs{A:Around}{s:Shared}{y x:V}{u v:Value}(ry:RelV y u)(rx:RelV x v)(fy:flatV y=true)(fx:flatV x=true):SeqAt.EqAt A s u v (eqV y x):=by
 cases y with
 | non =>
  cases ry;cases x with
  | non=>cases rx;exact SeqAt.EqAt.same _
  | bl b=>cases rx;exact SeqAt.EqAt.none_bool b
  | int b=>obtain⟨t,rfl⟩:=rx;exact SeqAt.EqAt.none_int b t
  | str b=>obtain⟨t,rfl⟩:=rx;exact SeqAt.EqAt.none_str b t
  | _=>exact absurd (show false=true from fx) aD
 | bl a =>
  cases ry;cases x with
  | non=>cases rx;exact SeqAt.EqAt.bool_none a
  | bl b=>cases rx;exact SeqAt.EqAt.bool_bool a b
  | int b=>obtain⟨t,rfl⟩:=rx;exact SeqAt.EqAt.bool_int a b t
  | str b=>obtain⟨t,rfl⟩:=rx;exact SeqAt.EqAt.bool_str a b t
  | _=>exact absurd (show false=true from fx) aD
 | int a =>
  obtain⟨t',rfl⟩:=ry;cases x with
  | non=>cases rx;exact SeqAt.EqAt.int_none a t'
  | bl b=>cases rx;exact SeqAt.EqAt.int_bool a t' b
  | int b=>obtain⟨t,rfl⟩:=rx;exact SeqAt.EqAt.int_int a t' b t
  | str b=>obtain⟨t,rfl⟩:=rx;exact SeqAt.EqAt.int_str a t' b t
  | _=>exact absurd (show false=true from fx) aD
 | str a =>
  obtain⟨t',rfl⟩:=ry;cases x with
  | non=>cases rx;exact SeqAt.EqAt.str_none a t'
  | bl b=>cases rx;exact SeqAt.EqAt.str_bool a t' b
  | int b=>obtain⟨t,rfl⟩:=rx;exact SeqAt.EqAt.str_int a t' b t
  | str b=>obtain⟨t,rfl⟩:=rx;exact SeqAt.EqAt.str_str a t' b t
  | _=>exact absurd (show false=true from fx) aD
 | _=>exact absurd (show false=true from fy) aD
def eqU(x:V)(u:Value):Bool:=match u with
 | .none=>eqV .non x
 | .bool b=>eqV (.bl b) x
 | .int i _=>eqV (.int i) x
 | .str z _=>eqV (.str z) x
 | _=>false
theorem qTr{x y:V}{u:Value}(r:RelV y u)(f:flatV y=true):eqU x u=eqV y x:=by
 cases y with
 | non=>cases r;rfl
 | bl b=>cases r;rfl
 | int i=>obtain⟨t,rfl⟩:=r;rfl
 | str z=>obtain⟨t,rfl⟩:=r;rfl
 | _=>exact absurd (show false=true from f) aD
theorem qJ1{x:V}{xs:List V}{us:List Value}(h:Vals xs us)(f:xs.all flatV=true):us.any (eqU x)=xs.any λy=>eqV y x:=by
 induction h with
 | nil=>rfl
 | cons r t ih =>
  rw [List.all_cons,bD] at f;rw [List.any_cons,List.any_cons,qTr r f.1,ih f.2]
theorem qFt{A:Around}{s:Shared}{x:V}{v:Value}(rx:RelV x v)(fx:flatV x=true){xs:List V}{us:List Value}(h:Vals xs us)(f:xs.all flatV=true):∀u∈us,SeqAt.EqAt A s u v (eqU x u):=by
 induction h with
 | nil=>intro u hu;cases hu
 | cons r t ih =>
  intro u' hu;rw [List.all_cons,bD] at f;rcases aT.mp hu with rfl | hu
  ·rw [qTr r f.1];exact qXs r rx f.1 fx
  ·exact ih f.2 u' hu
def inV(x:V)(xs:List V):Bool:=xs.any λy=>eqV y x
def rIn(K:PySem.W.Frag)(neg:Bool):R2:=λx y H Q => ∃p xs,y = .ref p/\(SqL K H p xs\/SqT K H p xs)/\flatV x=true/\xs.all flatV=true/\Q (.bl (if neg then !inV x xs else inV x xs)) H
theorem qEd:OpR X (compareOp .In) (rIn X.K false):=by
 intro pins s σ H x y v u Q I rx ry h;obtain⟨p,xs,rfl,hq,fx,fs,q⟩:=h;cases ry;rcases hq with hq | hq
 ·obtain⟨its,r,pl,hz⟩:=I.list hq;refine SeqAt.in_listAt (eqU x) pl.isList (λw hw=>qFt rx fx r fs w (by simpa using hw)) ⟨.bl _,H,I,rfl,?_⟩;rw [show its.toArray.any (eqU x)=its.any (eqU x) by simp,qJ1 r fs];exact q
 ·obtain⟨its,r,pl,hz⟩:=I.tuple hq;refine SeqAt.in_tupleAt (eqU x) pl (λw hw=>qFt rx fx r fs w (by simpa using hw)) ⟨.bl _,H,I,rfl,?_⟩;rw [show its.toArray.any (eqU x)=its.any (eqU x) by simp,qJ1 r fs];exact q
theorem qJl:OpR X (compareOp .NotIn) (rIn X.K true):=by
 intro pins s σ H x y v u Q I rx ry h;obtain⟨p,xs,rfl,hq,fx,fs,q⟩:=h;cases ry;rcases hq with hq | hq
 ·obtain⟨its,r,pl,hz⟩:=I.list hq;refine SeqAt.notIn_listAt (eqU x) pl.isList (λw hw=>qFt rx fx r fs w (by simpa using hw)) ⟨.bl _,H,I,rfl,?_⟩;rw [show its.toArray.any (eqU x)=its.any (eqU x) by simp,qJ1 r fs];exact q
 ·obtain⟨its,r,pl,hz⟩:=I.tuple hq;refine SeqAt.notIn_tupleAt (eqU x) pl (λw hw=>qFt rx fx r fs w (by simpa using hw)) ⟨.bl _,H,I,rfl,?_⟩;rw [show its.toArray.any (eqU x)=its.any (eqU x) by simp,qJ1 r fs];exact q
theorem qAh:CallR X (.builtin "len") (λxs H Q => ∃p ys,xs = [.ref p]/\(SqL X.K H p ys\/SqT X.K H p ys)/\Q (.int ys.length) H):=by
 intro pins s σ H xs us Q I r h;obtain⟨p,ys,rfl,hq,q⟩:=h;obtain⟨u,rfl,rx⟩:=vals1 r;cases rx;have hn:=qJt;rcases hq with hq | hq
 ·obtain⟨its,r',pl,hz⟩:=I.list hq;have hlen:=r'.length;exact Calls.call_len_list pl.isList (by simp only [aP] <;> lia) ⟨.int ys.length,H,I.tok _,⟨s.toks+1,by rw [aP,hlen]⟩,q⟩
 ·obtain⟨its,r',pl,hz⟩:=I.tuple hq;have hlen:=r'.length;exact len_tuple pl (by simp only [aP] <;> lia) ⟨.int ys.length,H,I.tok _,⟨s.toks+1,by rw [aP,hlen]⟩,q⟩
theorem qFe:CallR X (.type "list") (λxs H Q => ∃p ys,xs = [.ref p]/\(SqL X.K H p ys\/SqT X.K H p ys) /\ ∀l,H l=none->Q (.ref l) (upd H l (.lst ys))):=by
 intro pins s σ H xs us Q I r h;obtain⟨p,ys,rfl,hq,q⟩:=h;obtain⟨u,rfl,rx⟩:=vals1 r;cases rx;have fin:∀(its:List Value),Vals ys its->ys.length<=sizeLine -> ∀(h':Heap) (c':Nat),(∀b o',s.heap.get? b=some o'->h'.get? b=some o') ->
   h'.get? s.heap.objs.size=some { cls :=.type "list",dict:=none,data :=.seq its.toArray c',slots := #[] }->EP X pins σ Q (.ref s.heap.objs.size) { s with heap:=h' }:=λits r' hz h' c' kp e =>
  ⟨.ref s.heap.objs.size,_,I.laid (t':=s.toks) kp (aE _) (show ObjOk X.prog X.w _ h' _ (.lst ys) from⟨hz,its,c',r',e⟩),rfl,q _ (I.hok.fresh (aE _))⟩
 rcases hq with hq | hq
 ·obtain⟨its,r',pl,hz⟩:=I.list hq;have hlen:=r'.length;obtain⟨o,ho,hc,n,hd⟩:=pl.isList;exact call_list_seq p (.inl rfl) ho hc hd (λh' c' kp e=>fin its r' hz h' c' kp e) (by simp only [aP] <;> lia)
 ·obtain⟨its,r',pl,hz⟩:=I.tuple hq;have hlen:=r'.length;obtain⟨o,ho,hc,n,hd⟩:=pl;exact call_list_seq p (.inr rfl) ho hc hd (λh' c' kp e=>fin its r' hz h' c' kp e) (by simp only [aP] <;> lia)
def tyV(K:PySem.W.Frag)(T:String)(x:V)(H:Hp):Prop:=match x with
 | .str _=>T = "str"
 | .int _=>T = "int"
 | .ref p=>(T = "list" /\ ∃xs,SqL K H p xs)\/(T = "tuple" /\ ∃o,K.lookup p=some o/\o.cls = .type "tuple" /\ o.dict=none) \/
   (T = "dict" /\ ((∃kvs,H p=some (.dK kvs)) \/ ∃kvs,H p=some (.dT kvs)))\/(T = "set" /\ ∃S n,H p=some (.set S n))
 | _=>False
theorem qT9{pins:List (Addr×Obj)}{σ : St}{H:Hp}{s:Shared}{T:String}{x:V}{v:Value}(I:Inv X pins σ H s)(r:RelV x v)(ty:tyV X.K T x H):s.TypeIs v T /\ ∀a,v = .ref a -> ∃ob,s.heap.get? a=some ob/\ob.dict=none:=by
 cases x with
 | str z =>
  obtain⟨t,rfl⟩:=r;cases (show T = "str" from ty);exact⟨typeIs_str s z t,λ_ e=>nomatch e⟩
 | int i =>
  obtain⟨t,rfl⟩:=r;cases (show T = "int" from ty);exact⟨typeIs_int s i t,λ_ e=>nomatch e⟩
 | ref p =>
  cases r;rcases ty with ⟨rfl,xs,hq⟩ | ⟨rfl,o,hk,hc,hd⟩ | ⟨rfl,hk⟩ | ⟨rfl,S,n,hk⟩
  ·obtain⟨its,_,pl,_⟩:=I.list hq;refine⟨pl.isList.typeIs,λa e=>?_⟩;cases e;obtain⟨o,n,e,c,hd,_⟩:=pl;exact⟨o,e,hd⟩
  ·refine⟨⟨o,I.kIn p o hk,hc⟩,λa e=>?_⟩;cases e;exact⟨o,I.kIn _ o hk,hd⟩
  ·have z:∃o,s.heap.get? p=some o/\o.ExactDict:=by
    rcases hk with ⟨kvs,hk⟩ | ⟨kvs,hk⟩
    ·obtain⟨_,_,_,_,o,_,_,e,ex,_⟩:=I.hok p _ hk;exact⟨o,e,ex⟩
    ·obtain⟨_,_,_,_,o,_,_,e,ex,_⟩:=I.hok p _ hk;exact⟨o,e,ex⟩
   obtain⟨o,e,ex⟩:=z;refine⟨⟨o,e,ex.1⟩,λa e2=>?_⟩;cases e2;exact⟨o,e,ex.2.1⟩
  ·obtain⟨o,_,_,_,e,ex,_⟩:=I.hok p _ hk;refine⟨⟨o,e,ex.1⟩,λa e2=>?_⟩;cases e2;exact⟨o,e,ex.2.1⟩
 | _=>exact False.elim ty
def tBM0(K:PySem.W.Frag)(T:String)(r:V->List V->Hp->VK->Prop)(to:TE):TE:=λσ H Q=>to σ H λx H1=>tyV K T x H1/\r x [] H1 Q
def tBM(K:PySem.W.Frag)(T:String)(r:V->List V->Hp->VK->Prop)(to:TE)(t:TA):TE:=λσ H Q=>to σ H λx H1=>tyV K T x H1/\t σ H1 λxs H2=>r x xs H2 Q
variable{o e:Expr}{es:List Expr}{to:TE}{t:TA}{name:Str}{apos cpos:Pos}{T id:String}{r:V->List V->Hp->VK->Prop}
theorem qX8(pa:PlainAttrs T)(slot:Slot T name id)(hty:typeOf (.builtin id)=pure (.type "method_descriptor"))(hm:MtR X id r)(ho:PE X o to)
  (hbase:attributeBase o name X.env (eval o X.env)=eval o X.env:=by rfl) (hline:(apos.endLine == cpos.line)=true:=by rfl):PE X (.Call (.Attribute o name apos) [] [] cpos) (tBM0 X.K T r to):=by
 intro pins s σ H Q I h;refine wpAny_Call_method0_late hbase hline (thn (ho pins s σ H _ I h) λv s1 hq_=>?_);obtain⟨x,H1,I1,r1,ty,q1⟩:=hq_;obtain⟨h1,h2⟩:=qT9 I1 r1 ty;exact⟨T,id,pa,slot,hty,h1,h2,Calls.callWith_builtin rfl (PySem.evalArgs_none (hm pins s1 σ H1 x [] v [] Q I1 r1 .nil q1))⟩
theorem qEb(pa:PlainAttrs T)(slot:Slot T name id)(hty:typeOf (.builtin id)=pure (.type "method_descriptor"))(hm:MtR X id r)(ho:PE X o to)(ha:PA X (e::es) t)
  (hbase:attributeBase o name X.env (eval o X.env)=eval o X.env:=by rfl)
  (hfew:((backTo cpos (starEach (e::es) X.env)).all (λx => !x.1)&&(backToKw cpos (keywordEach [] X.env)).all (λx=>x.1.isSome)
   && decide ((e::es).length+([]:List Keyword).length+(if ([]:List Keyword).isEmpty then 0 else 1)<30))=true:=by rfl)
  (hline:(apos.endLine == cpos.line)=true:=by rfl) (hs:starEach (e::es) X.env=(false,eval e X.env)::starEach es X.env:=by rfl) (hplain:(backTo cpos (starEach es X.env)).any (·.1)=false:=by rfl) :
  PE X (.Call (.Attribute o name apos) (e::es) [] cpos) (tBM X.K T r to t):=by
 intro pins s σ H Q I h;refine wpAny_Call_method_late hbase hfew hline rfl (thn (ho pins s σ H _ I h) λv s1 hq_=>?_);obtain⟨x,H1,I1,r1,ty,q1⟩:=hq_;obtain⟨h1,h2⟩:=qT9 I1 r1 ty;refine⟨T,id,pa,slot,hty,h1,h2,?_⟩;have hA:=ha cpos pins s1 σ H1 _ I1 q1;rw [hs] at hA ⊢;refine Calls.callWith_builtin (by show (false||(backTo cpos (starEach es X.env)).any (·.1))=false;rw [hplain] <;> rfl) (Calls.evalArgs_plain ?_);refine thn hA λus s2 hq_=>?_;obtain⟨vs,H2,I2,r2,q2⟩:=hq_;exact hm pins s2 σ H2 x vs v us Q I2 r1 r2 q2
end
def MtM(X:Cx)(id:String)(r:V->List V->Hp->VK->Prop):Prop :=
 ∀(pins:List (Addr×Obj)) (s:Shared) (σ : St) (H:Hp) (x:V) (xs:List V) (v:Value) (us:List Value) (Q:VK),Inv X pins σ H s->RelV x v->Vals xs us->r x xs H Q ->
  wpAny (model X.prog X.w) X.A (call (.builtin id) (v::us)) (EP X pins σ Q) X.xe s
theorem Vals.one{x:V}{us:List Value}(h:Vals [x] us):∃u,us = [u]/\RelV x u:=by
 cases h with | cons r t=>cases t;exact⟨_,rfl,r⟩
theorem Vals.zero:∀ {us:List Value},Vals [] us->us = []
 | _,.nil=>rfl
theorem Vals.dropLast{xs:List V}{us:List Value}(h:Vals xs us):Vals xs.dropLast us.dropLast:=by
 induction h with
 | nil=>exact .nil
 | cons r t ih =>
  cases t with
  | nil=>exact .nil
  | cons q t'=>exact .cons r ih
theorem Vals.eraseIdx:∀ {xs:List V} {us:List Value} (i:Nat),Vals xs us->Vals (xs.eraseIdx i) (us.eraseIdx i)
 | _,_,_,.nil =>.nil
 | _,_,0,.cons _ t=>t
 | _,_,i+1,.cons r t =>.cons r (Vals.eraseIdx i t)
theorem Vals.rep{xs:List V}{us:List Value}(h:Vals xs us):∀k:Nat,Vals (List.replicate k xs).flatten (List.replicate k us).flatten
 | 0 =>.nil
 | k+1=>by
  rw [gD,gD,List.flatten_cons,List.flatten_cons];exact Vals.append h (Vals.rep h k)
theorem qNt{α : Type}(l:List α):l.eraseIdx (l.length - 1)=l.dropLast:=by
 induction l with
 | nil=>rfl
 | cons a r ih =>
  cases r with
  | nil=>rfl
  | cons b r =>
   have e:(a::b::r).length - 1=((b::r).length - 1)+1:=by
    have h1:(a::b::r).length=r.length+2:=rfl;have h2:(b::r).length=r.length+1:=rfl;lia
   rw [e,List.eraseIdx_cons_succ,ih]
   all_goals rfl
theorem qJv{α : Type}:∀(l:List α) (i:Nat),(l.eraseIdx i).length<=l.length
 | [],_=>aE _
 | _::_,0=>cM _
 | _::r,i+1=>Nat.succ_le_succ (qJv r i)
theorem qK4(its:List Value):∀(k:Nat) (acc:List Value),
  List.foldl (λx1 x2=>x1++x2) acc.toArray (List.replicate k its.toArray)=(acc++(List.replicate k its).flatten).toArray
 | 0,acc=>by simp
 | k+1,acc=>by
  have e:acc.toArray++its.toArray=(acc++its).toArray:=by simp
  have e2:(acc++its)++(List.replicate k its).flatten=acc++(List.replicate (k+1) its).flatten:=by
   rw [gD,List.flatten_cons,bU]
  rw [<-e2,<-qK4 its k (acc++its),<-e,gD,List.foldl_cons]
section
variable{X:Cx}{pins:List (Addr×Obj)}{σ : St}{H:Hp}{s:Shared}{l b:Addr}{xs ys zs:List V}
theorem Inv.lset{its its':List Value}{n:Nat}{f:Array Value->Array Value}{t':Nat}(I:Inv X pins σ H s)(hH:H l=some (.lst xs))
  (e:s.heap.get? l=some { cls :=.type "list",data :=.seq its.toArray n }) (hf:f its.toArray=its'.toArray) (hv:Vals ys its') (hz:ys.length<=sizeLine) :
  Inv X pins σ (upd H l (.lst ys)) { s with heap:=s.heap.update l (Obj.mapSeq f),toks:=t' }:=by
 have q:=PySem.IsL.update e f;rw [hf] at q;refine I.write (x:=l) (e:=l) (by rw [hH];exact trivial) (.inl rfl) (λb' u hb hu=>(cH s.heap (Obj.mapSeq f) (cS hb)).trans hu) ⟨_,q⟩ ?_;exact⟨hz,its',_,hv,q⟩
theorem Inv.lnew{its:List Value}{t':Nat}(I:Inv X pins σ H s)(hv:Vals ys its)(hz:ys.length<=sizeLine):Inv X pins σ (upd H s.heap.objs.size (.lst ys)) { s with heap:=s.heap.push { cls :=.type "list",data :=.seq its.toArray },toks:=t' } :=
 I.laid (λ_ _ q=>aH _ q) (aE _) ⟨hz,its,0,hv,bA _ rfl⟩
theorem Inv.fresh(I:Inv X pins σ H s):H s.heap.objs.size=none:=I.hok.fresh (aE _)
theorem Inv.lstM(I:Inv X pins σ H s)(hH:H l=some (.lst xs)):xs.length<=sizeLine /\ ∃(its:List Value) (n:Nat),Vals xs its/\xs.length=its.length/\s.heap.get? l=some { cls :=.type "list",data :=.seq its.toArray n }:=by
 obtain⟨z,its,n,r,e⟩:=I.hok l _ hH;exact⟨z,its,n,r,r.length,e⟩
theorem qM9{n:Nat}(h:n<=sizeLine):Builtin.List.listTooLong n=false:=by
 unfold Builtin.List.listTooLong;exact decide_eq_false (by lia)
end
section
variable{X:Cx}
def qIb:V->List V->Hp->VK->Prop:=λx vs H Q => ∃l xs y,x = .ref l/\vs = [y]/\H l=some (.lst xs)/\xs.length<sizeLine/\Q .non (upd H l (.lst (xs ++ [y])))
theorem qBl:MtM X "list.append" qIb:=by
 intro pins s σ H x vs v us Q I rx rv h;obtain⟨l,xs,y,rfl,rfl,hH,hz,q⟩:=h;cases rx;obtain⟨u,rfl,ru⟩:=rv.one;obtain⟨z,its,n,r,hl,e⟩:=I.lstM hH;refine call_meets F.slot_list_append ⟨_,e,rfl⟩ F.entry_list_append (F.args_list_append_2 _ _) (PySem.list_append l its.toArray n u (by rw [aP];lia)) ⟨e,?_⟩;refine⟨.non,_,I.lset (its':=its ++ [u]) hH e (by simp) (r.append (.cons ru .nil)) ?_,rfl,q⟩;rw [aG,cT];lia
def qUh:V->List V->Hp->VK->Prop:=λx vs H Q => ∃l b xs zs,x = .ref l/\vs = [.ref b]/\H l=some (.lst xs)/\H b=some (.lst zs)/\xs.length+zs.length<=sizeLine/\Q .non (upd H l (.lst (xs++zs)))
theorem qJp:MtM X "list.extend" qUh:=by
 intro pins s σ H x vs v us Q I rx rv h;obtain⟨l,b,xs,zs,rfl,rfl,hH,hB,hz,q⟩:=h;cases rx;obtain⟨u,rfl,ru⟩:=rv.one;cases ru;obtain⟨z,its,n,r,hl,e⟩:=I.lstM hH;obtain⟨z2,its2,n2,r2,hl2,e2⟩:=I.lstM hB;have hsz:its.toArray.size+its2.toArray.size<=sizeLine:=by rw [aP,aP];lia
 have hlong : ¬(!its.toArray.isEmpty&&Builtin.List.listTooLong (its.toArray.size+its2.toArray.size))=true:=by
  rw [qM9 hsz,Bool.and_false];exact aD
 refine call_meets F.slot_list_extend ⟨_,e,rfl⟩ F.entry_list_extend (F.args_list_extend_2 _ _)
  (AutoSeq1.list_extend_list_list_0 l its.toArray n b its2.toArray n2 hlong (by rw [aP];lia) (by lia)) ⟨e,e2,?_⟩
 refine⟨.non,_,I.lset (its':=its++its2) hH e (by simp) (r.append r2) ?_,rfl,q⟩;rw [aG];lia
def rPop:V->List V->Hp->VK->Prop:=λx vs H Q => ∃l xs y,x = .ref l/\vs = []/\H l=some (.lst xs)/\xs[xs.length - 1]? = some y/\Q y (upd H l (.lst xs.dropLast))
theorem qXh:MtM X "list.pop" rPop:=by
 intro pins s σ H x vs v us Q I rx rv h;obtain⟨l,xs,y,rfl,rfl,hH,hy,q⟩:=h;cases rx;have hus:=rv.zero;subst hus;obtain⟨z,its,n,r,hl,e⟩:=I.lstM hH;obtain⟨u,hu,ru⟩:=r.get hy;have hy':its.toArray[its.toArray.size - 1]? = some u:=by
  show its.toArray[its.length - 1]? = some u;rw [<-aY,<-hl];exact hu
 refine call_meets F.slot_list_pop ⟨_,e,rfl⟩ F.entry_list_pop (F.args_list_pop_1 _) (MeetsSeq.list_pop_last l its.toArray n u hy' (by rw [aP];lia)) ⟨e,?_⟩;refine⟨y,_,I.lset (its':=its.dropLast) hH e ?_ r.dropLast ?_,ru,q⟩
 ·show its.toArray.eraseIdxIfInBounds (its.toArray.size - 1)=its.dropLast.toArray;rw [aP,List.eraseIdxIfInBounds_toArray,qNt]
 ·rw [List.length_dropLast];lia
def qX2:V->List V->Hp->VK->Prop:=λx vs H Q => ∃l xs i k y,x = .ref l/\vs = [.int i]/\H l=some (.lst xs) /\ -(2^63)<=i/\i<2^63/\seqIndex? i xs.length=some k/\xs[k]? = some y/\Q y (upd H l (.lst (xs.eraseIdx k)))
theorem qMb:MtM X "list.pop" qX2:=by
 intro pins s σ H x vs v us Q I rx rv h;obtain⟨l,xs,i,k,y,rfl,rfl,hH,h1,h2,hk,hy,q⟩:=h;cases rx;obtain⟨u,rfl,ru⟩:=rv.one;obtain⟨t,rfl⟩:=ru;obtain⟨z,its,n,r,hl,e⟩:=I.lstM hH;obtain⟨w,hw,rw'⟩:=r.get hy;refine call_meets F.slot_list_pop ⟨_,e,rfl⟩ F.entry_list_pop (F.args_list_pop_2 _ _)
  (MeetsSeq.list_pop_at l its.toArray n i t k w (fitsIndex_both h1 h2) (by rw [aP,<-hl];exact hk) (by rw [<-aY];exact hw) (by rw [aP];lia)) ⟨e,?_⟩
 refine⟨y,_,I.lset (its':=its.eraseIdx k) hH e ?_ (r.eraseIdx k) ?_,rw',q⟩
 ·show its.toArray.eraseIdxIfInBounds k=(its.eraseIdx k).toArray;rw [List.eraseIdxIfInBounds_toArray]
 ·have:=qJv xs k;lia
def rCat:R2:=λx y H Q => ∃l b xs zs,x = .ref l/\y = .ref b/\H l=some (.lst xs)/\H b=some (.lst zs)/\xs.length+zs.length<=sizeLine /\ ∀p,H p=none->Q (.ref p) (upd H p (.lst (xs++zs)))
theorem qGg:OpR X (binaryOp .Add) rCat:=by
 intro pins s σ H x y v u Q I rx ry h;obtain⟨l,b,xs,zs,rfl,rfl,hH,hB,hz,q⟩:=h;cases rx;cases ry;obtain⟨z,its,n,r,hl,e⟩:=I.lstM hH;obtain⟨z2,its2,n2,r2,hl2,e2⟩:=I.lstM hB;refine PySem.P.add_list e e2 ?_ (by rw [aP,aP];lia);have ea:its.toArray++its2.toArray=(its++its2).toArray:=by simp
 rw [ea];exact⟨.ref _,_,I.lnew (t':=s.toks) (r.append r2) (by rw [aG];lia),rfl,q _ I.fresh⟩
def rRep:R2:=λx y H Q => ∃l k xs,x = .ref l/\y = .int k/\H l=some (.lst xs) /\ -(2^63)<=k/\k<2^63/\xs.length*k.toNat<=sizeLine /\
 ∀p,H p=none->Q (.ref p) (upd H p (.lst (List.replicate k.toNat xs).flatten))
theorem qVe{α : Type}(xs:List α)(k:Nat):(List.replicate k xs).flatten.length=k*xs.length:=by
 induction k with
 | zero=>simp
 | succ k ih=>rw [gD,List.flatten_cons,aG,ih,Nat.succ_mul,Nat.add_comm]
theorem qXc:OpR X (binaryOp .Mult) rRep:=by
 intro pins s σ H x y v u Q I rx ry h;obtain⟨l,k,xs,rfl,rfl,hH,h1,h2,hz,q⟩:=h;cases rx;obtain⟨t,rfl⟩:=ry;obtain⟨z,its,n,r,hl,e⟩:=I.lstM hH;have hlen:its.toArray.size*k.toNat<=sizeLine:=by rw [aP,<-hl];exact hz
 have hcap : ¬its.toArray.size*k.toNat>(2^63 - 1) / 8:=by
  have:(sizeLine:Nat)<=(2^63 - 1) / 8:=by decide
  lia
 have hfit : ¬(!Builtin.List.listFitsIndex k)=true:=by
  rw [fitsIndex_both h1 h2];exact aD
 have hlong : ¬Builtin.List.listTooLong (its.toArray.size*k.toNat)=true:=by
  rw [qM9 hlen];exact aD
 have hnew:List.foldl (λx1 x2=>x1++x2) #[] (List.replicate (if its.toArray.isEmpty=true then 0 else k.toNat) its.toArray)=(List.replicate k.toNat its).flatten.toArray:=by
  have f0:∀m:Nat,List.foldl (λx1 x2=>x1++x2) #[] (List.replicate m its.toArray)=(List.replicate m its).flatten.toArray:=λm=>by
   have:=qK4 its m [];rw [List.nil_append] at this;exact this
  rw [f0];cases its with
  | nil=>simp
  | cons a r'=>rw [if_neg (by simp)]
 refine wpAny_binaryOp_repeat_ref (T := "list") (U := "int") (by decide) ⟨_,e,rfl⟩ (λs'=>typeIs_int s' k t) noFill_list_mul F.fills_int_mul F.slot_int_rmul repeat_list F.slot_int_index.lookup
  (call_meets F.slot_int_rmul (typeIs_int s k t) F.entry_int_rmul (F.args_int_rmul_2 _ _) (int___rmul___int_list k t l its.toArray n)
   ⟨e,rfl,⟨_,e,rfl⟩,call_meets F.slot_list_mul ⟨_,e,rfl⟩ F.entry_list_mul (F.args_list_mul_2 _ _) (AutoListH.list___mul___list_int_3 l its.toArray n k t hfit hcap hlong) ⟨e,?_⟩⟩)
 rw [hnew];exact⟨.ref _,_,I.lnew (t':=s.toks) (r.rep k.toNat) (by rw [qVe,Nat.mul_comm];exact hz),rfl,q _ I.fresh⟩
end
section
variable{κ : Type} [DecidableEq κ]
def valV(kvs:List (κ × V))(k : κ):Option V:=(kvs.find? λkv=>decide (kv.1=k)).map (·.2)
def putK(kvs:List (κ × V))(k : κ)(v:V):List (κ × V):=if (kvs.any λkv=>decide (kv.1=k))=true then kvs.map (λkv=>if kv.1=k then (kv.1,v) else kv) else kvs ++ [(k,v)]
theorem qFh{p : κ × V}{r:List (κ × V)}{k : κ}(e:p.1=k):valV (p::r) k=some p.2:=by simp [valV,gM,e]
theorem qFi{p : κ × V}{r:List (κ × V)}{k : κ}(e : ¬p.1=k):valV (p::r) k=valV r k:=by simp [valV,gM,e]
theorem qI0(k : κ):∀kvs:List (κ × V),(kvs.any λkv=>decide (kv.1=k))=(valV kvs k).isSome
 | []=>rfl
 | p::r=>by
  rw [List.any_cons];by_cases e:p.1=k
  ·simp only [qFh e,decide_eq_true e,Bool.true_or,Option.isSome_some]
  ·rw [qFi e,decide_eq_false e,Bool.false_or];exact qI0 k r
theorem qCx(kvs:List (κ × V))(k : κ)(v:V):(putK kvs k v).length<=kvs.length+1:=by
 unfold putK;split
 ·rw [aB];lia
 ·rw [aG,bY,List.length_nil];lia
theorem qRt{kvs:List (κ × V)}{k : κ}(v:V)(h:valV kvs k=none):putK kvs k v=kvs ++ [(k,v)]:=by
 unfold putK;rw [qI0,h];exact if_neg (by decide)
theorem RelO.isSome_eq{o:Option V}{u:Option Value}(r:RelO o u):o.isSome=u.isSome:=by
 cases o with
 | none=>cases u with
  | none=>rfl
  | some _=>exact (show False from r).elim
 | some _=>cases u with
  | none=>exact (show False from r).elim
  | some _=>rfl
theorem KV.val{kvs:List (κ × V)}{vs:List (κ × Value)}(r:KV kvs vs)(k : κ):RelO (valV kvs k) (valueAt vs k):=by
 unfold KV at r
 induction r with
 | nil=>exact True.intro
 | @cons p q ps qs h t ih =>
  obtain⟨h1,h2⟩:=h;by_cases e:p.1=k
  ·have e':q.1=k:=h1.symm.trans e;have b:valueAt (q::qs) k=some q.2:=by simp [valueAt,gM,e']
   rw [qFh e,b];exact h2
  ·have e' : ¬q.1=k:=λz=>e (h1.trans z);have b:valueAt (q::qs) k=valueAt qs k:=by simp [valueAt,gM,e']
   rw [qFi e,b];exact ih
theorem KV.any{kvs:List (κ × V)}{vs:List (κ × Value)}(r:KV kvs vs)(k : κ):(kvs.any λkv=>decide (kv.1=k))=vs.any λkv=>decide (kv.1=k):=by
 unfold KV at r
 induction r with
 | nil=>rfl
 | cons h t ih=>rw [List.any_cons,List.any_cons,ih,h.1]
theorem KV.repl{kvs:List (κ × V)}{vs:List (κ × Value)}(r:KV kvs vs)(k : κ){y:V}{u:Value}(ry:RelV y u):KV (kvs.map λkv=>if kv.1=k then (kv.1,y) else kv) (vs.map λkv=>if kv.1=k then (kv.1,u) else kv):=by
 unfold KV at r ⊢
 induction r with
 | nil=>exact .nil
 | @cons p q ps qs h t ih =>
  rw [bG,bG];refine .cons ?_ ih;obtain⟨h1,h2⟩:=h;by_cases e:p.1=k
  ·rw [if_pos e,if_pos (h1.symm.trans e)];exact⟨h1,ry⟩
  ·rw [if_neg e,if_neg (λz=>e (h1.trans z))];exact⟨h1,h2⟩
theorem KV.put{kvs:List (κ × V)}{vs:List (κ × Value)}(r:KV kvs vs)(k : κ){y:V}{u:Value}(ry:RelV y u):KV (putK kvs k y) (stored vs k u):=by
 unfold putK stored;rw [r.any k];by_cases e:(vs.any λkv=>decide (kv.1=k))=true
 ·rw [if_pos e,if_pos e];exact r.repl k ry
 ·rw [if_neg e,if_neg e];exact hU r ⟨rfl,ry⟩
theorem KV.length{kvs:List (κ × V)}{vs:List (κ × Value)}(r:KV kvs vs):kvs.length=vs.length:=cY r
end
theorem qNr{P:Program}{w:World}{k:Key}{u:Value}(r:RelV (kV k) u):(qBh P w).is k u=true:=by
 cases k with
 | inl i=>obtain⟨t,e⟩:=(show ∃t,u=Value.int i t from r);subst e;exact qE3 P w i t
 | inr x=>obtain⟨t,e⟩:=(show ∃t,u=Value.str x t from r);subst e;exact qLc P w x t
theorem qK1{P:Program}{w:World}:∀ {ks:List Key} {us:List Value},Vals (ks.map kV) us->ItemsAre (qBh P w) ks us
 | [],_,r=>by rw [List.map_nil] at r;cases r;exact .nil
 | k::ks,_,r=>by
  rw [bG] at r;cases r with
  | cons h t=>exact .cons (qNr h) (qK1 t)
abbrev KT(H:Hp):List (List Key×V)->List (List Key×Addr×Value)->Prop:=Paired λp q=>p.1=q.1/\H q.2.1=some (.tup (p.1.map kV))/\RelV p.2 q.2.2
theorem KT.val{H:Hp}{kvs:List (List Key×V)}{xs:List (List Key×Addr×Value)}(r:KT H kvs xs)(k:List Key):RelO (valV kvs k) ((atKey xs k).map (·.2)):=by
 induction r with
 | nil=>exact True.intro
 | @cons p q ps qs h t ih =>
  obtain⟨h1,_,h2⟩:=h;by_cases e:p.1=k
  ·have e':q.1=k:=h1.symm.trans e;have b:atKey (q::qs) k=some q.2:=by simp [atKey,gM,e']
   rw [qFh e,b];exact h2
  ·have e' : ¬q.1=k:=λz=>e (h1.trans z);have b:atKey (q::qs) k=atKey qs k:=by simp [atKey,gM,e']
   rw [qFi e,b];exact ih
theorem KT.repl{H:Hp}{kvs:List (List Key×V)}{xs:List (List Key×Addr×Value)}(r:KT H kvs xs)(k:List Key){y:V}{u:Value}(ry:RelV y u):KT H (kvs.map λkv=>if kv.1=k then (kv.1,y) else kv) (xs.map (putAt k u)):=by
 induction r with
 | nil=>exact .nil
 | @cons p q ps qs h t ih =>
  rw [bG,bG];refine .cons ?_ ih;obtain⟨h1,h2,h3⟩:=h;unfold putAt;by_cases e:p.1=k
  ·rw [if_pos e,if_pos (h1.symm.trans e)];exact⟨h1,h2,ry⟩
  ·rw [if_neg e,if_neg (λz=>e (h1.trans z))];exact⟨h1,h2,h3⟩
theorem KT.put{H:Hp}{kvs:List (List Key×V)}{xs:List (List Key×Addr×Value)}(r:KT H kvs xs)(k:List Key){b:Addr}{y:V}{u:Value}(hb:H b=some (.tup (k.map kV)))(ry:RelV y u):KT H (putK kvs k y) (storedH xs k b u):=by
 have e:(kvs.any λkv=>decide (kv.1=k))=(atKey xs k).isSome:=by
  rw [qI0,(r.val k).isSome_eq,Option.isSome_map]
 unfold putK storedH;rw [e];by_cases q:(atKey xs k).isSome=true
 ·rw [if_pos q,if_pos q];exact r.repl k ry
 ·rw [if_neg q,if_neg q];exact hU r ⟨rfl,hb,ry⟩
theorem KT.keeps{H H':Hp}{kvs:List (List Key×V)}{xs:List (List Key×Addr×Value)}(r:KT H kvs xs)(ht:∀b ys,H b=some (.tup ys)->H' b=some (.tup ys)):KT H' kvs xs:=Paired.mapP r λ_ _ z=>⟨z.1,ht _ _ z.2.1,z.2.2⟩
section
variable{P:Program}{w:World}{H:Hp}{h:Heap}{a:Addr}
theorem qWc{u:HO}(ok:HOk P w H h)(e:Rd H a u):ObjOk P w H h a u:=e.ok ok
theorem qQi{kvs:List (Key×V)}(ok:HOk P w H h)(e:Rd H a (.dK kvs)):kvs.length<=sizeLine/\(a == sysModules)=false /\ ∃vs,KV kvs vs/\h.DictOf (qBh P w) a vs:=show ObjOk P w H h a (.dK kvs) from qWc ok e
theorem qSx{kvs:List (Key×V)}(ok:HOk P w H h)(e:H a=some (.dK kvs)):kvs.length<=sizeLine/\(a == sysModules)=false /\ ∃vs,KV kvs vs/\h.DictOf (qBh P w) a vs:=qQi ok (.inl e)
theorem qK0{ks:List Key}(ok:HOk P w H h)(e:H a=some (.tup (ks.map kV))):(tupleKind (qBh P w)).is h ks a:=by
 obtain⟨_,its,r,o,h1,h2,n,h3⟩:=(show ObjOk P w H h a (.tup (ks.map kV)) from ok a _ e);exact⟨o,its.toArray,n,h1,h2,h3,by simpa using qK1 r⟩
theorem qQf{kvs:List (List Key×V)}(ok:HOk P w H h)(e:Rd H a (.dT kvs)):kvs.length<=sizeLine/\(a == sysModules)=false /\
  ∃xs,KT H kvs xs/\h.DictOfH (tupleKind (qBh P w)) a xs:=by
 obtain⟨z,y,xs,r,o,es,ep,h1,h2,h3,h4,h5⟩:=(show ObjOk P w H h a (.dT kvs) from qWc ok e);refine⟨z,y,xs,r,o,es,ep,h1,h2,h3,h4,λx hx=>?_,h5⟩;have all:∀ {l:List (List Key×V)} {m:List (List Key×Addr×Value)},KT H l m -> ∀x∈m,(tupleKind (qBh P w)).is h x.1 x.2.1:=by
  intro l m q
  induction q with
  | nil=>intro x hx;exact nomatch hx
  | @cons p q ps qs hq t ih =>
   intro x hx;rcases aT.mp hx with e | hx
   ·subst e;exact qK0 ok (by rw [<-hq.1];exact hq.2.1)
   ·exact ih x hx
 exact all r x hx
theorem qYl{kvs:List (List Key×V)}(ok:HOk P w H h)(e:H a=some (.dT kvs)):kvs.length<=sizeLine/\(a == sysModules)=false /\
  ∃xs,KT H kvs xs/\h.DictOfH (tupleKind (qBh P w)) a xs:=qQf ok (.inl e)
end
def DGet(H:Hp)(a:Addr)(y:V)(r:Option V):Prop:=(∃kvs k,Rd H a (.dK kvs)/\y=kV k/\r=valV kvs k) \/ ∃kvs k b,Rd H a (.dT kvs)/\y = .ref b/\H b=some (.tup (k.map kV))/\r=valV kvs k
def DPut(H:Hp)(a:Addr)(y v:V)(H':Hp):Prop :=
 (∃kvs k,H a=some (.dK kvs)/\y=kV k/\kvs.length<sizeLine/\H'=upd H a (.dK (putK kvs k v))) \/
 ∃kvs k b,H a=some (.dT kvs)/\y = .ref b/\H b=some (.tup (k.map kV))/\kvs.length<sizeLine/\H'=upd H a (.dT (putK kvs k v))
theorem DGet.k{H:Hp}{a:Addr}{kvs:List (Key×V)}{k:Key}(e:H a=some (.dK kvs)):DGet H a (kV k) (valV kvs k) :=.inl ⟨kvs,k,.inl e,rfl,rfl⟩
theorem DGet.t{H:Hp}{a b:Addr}{kvs:List (List Key×V)}{k:List Key}(e:H a=some (.dT kvs))(eb:H b=some (.tup (k.map kV))):DGet H a (.ref b) (valV kvs k) :=.inr ⟨kvs,k,b,.inl e,rfl,eb,rfl⟩
theorem DPut.t{H:Hp}{a b:Addr}{kvs:List (List Key×V)}{k:List Key}{v:V}(e:H a=some (.dT kvs))(eb:H b=some (.tup (k.map kV)))(hl:kvs.length<sizeLine):DPut H a (.ref b) v (upd H a (.dT (putK kvs k v))) :=.inr ⟨kvs,k,b,e,rfl,eb,hl,rfl⟩
section
variable{X:Cx}{pins:List (Addr×Obj)}{σ : St}{H:Hp}{s:Shared}{a:Addr}{y v:V}{u r:Value}{o:Option V}{A:Around}{E:Value->Shared->Prop}
theorem Inv.big(I:Inv X pins σ H s):sysModules<s.heap.objs.size:=by
 have h:mainGlobals<s.heap.objs.size:=(I.mod.glob.keeps I.bk).lt;exact Nat.lt_trans (by decide) h
theorem qQr{Q:Value->Shared->Prop}(hu:A.units+1<cLine)(I:Inv X pins σ H s)(g:DGet H a y (some v))(ry:RelV y u)(h:∀w' s',Inv X pins σ H s'->RelV v w'->Q w' s'):wpAny (model X.prog X.w) A (getItem (.ref a) u) Q E s:=by
 rcases g with ⟨kvs,k,e,ey,l⟩ | ⟨kvs,k,b,e,ey,eb,l⟩
 ·subst ey;obtain⟨z,hd,vs,rel,dd⟩:=qQi I.hok e;obtain⟨w',hw,rw'⟩:=RelO.some_of (v:=v) (o:=valueAt vs k) (by rw [l];exact rel.val k);exact wpAny_getItem_of (qNr ry) dd.mapOf hw (h w' _ (I.tok _) rw')
 ·subst ey;cases (show u=Value.ref b from ry);obtain⟨z,hd,xs,rel,dd⟩:=qQf I.hok e;obtain⟨w',hw,rw'⟩:=RelO.some_of (v:=v) (o:=(atKey xs k).map (·.2)) (by rw [l];exact rel.val k);obtain⟨p,hp,hp2⟩:=Option.map_eq_some_iff.mp hw;refine wpAny_getItem_heap (fN hu) (qK0 I.hok eb) dd hp ?_;rw [hp2];exact h w' _ (I.tok _) rw'
theorem d_in{Q:Value->Shared->Prop}(hu:A.units+1<cLine)(I:Inv X pins σ H s)(g:DGet H a y o)(ry:RelV y u)(h:∀s',Inv X pins σ H s'->Q (.bool o.isSome) s'):wpAny (model X.prog X.w) A (compareOp .In u (.ref a)) Q E s:=by
 rcases g with ⟨kvs,k,e,ey,l⟩ | ⟨kvs,k,b,e,ey,eb,l⟩
 ·subst ey;obtain⟨z,hd,vs,rel,dd⟩:=qQi I.hok e;refine wpAny_in_of (qNr ry) hd dd.mapOf ?_;rw [<-(rel.val k).isSome_eq,<-l];exact h _ (I.tok _)
 ·subst ey;cases (show u=Value.ref b from ry);obtain⟨z,hd,xs,rel,dd⟩:=qQf I.hok e;refine wpAny_in_heap (fN hu) (qK0 I.hok eb) hd dd ?_;have q:=(rel.val k).isSome_eq;rw [Option.isSome_map] at q;rw [<-q,<-l];exact h _ (I.tok _)
theorem qVo{Q:Value->Shared->Prop}(hu:A.units+1<cLine)(I:Inv X pins σ H s)(g:DGet H a y o)(ry:RelV y u)(h:∀s',Inv X pins σ H s'->Q (.bool (!o.isSome)) s'):wpAny (model X.prog X.w) A (compareOp .NotIn u (.ref a)) Q E s:=by
 rcases g with ⟨kvs,k,e,ey,l⟩ | ⟨kvs,k,b,e,ey,eb,l⟩
 ·subst ey;obtain⟨z,hd,vs,rel,dd⟩:=qQi I.hok e;refine wpAny_notIn_of (qNr ry) hd dd.mapOf ?_;rw [<-(rel.val k).isSome_eq,<-l];exact h _ (I.tok _)
 ·subst ey;cases (show u=Value.ref b from ry);obtain⟨z,hd,xs,rel,dd⟩:=qQf I.hok e;refine wpAny_notIn_heap (fN hu) (qK0 I.hok eb) hd dd ?_;have q:=(rel.val k).isSome_eq;rw [Option.isSome_map] at q;rw [<-q,<-l];exact h _ (I.tok _)
theorem qIr{h':Heap}{t':Nat}{ob:HO}(I:Inv X pins σ H s)(mu:Mut (H a))(hs:Heap.SameBut a s.heap h')(he:∃q,h'.get? a=some q)(new:ObjOk X.prog X.w (upd H a ob) h' a ob):Inv X pins σ (upd H a ob) { s with heap:=h',toks:=t' } :=
 I.write (x:=a) (e:=a) mu (.inl rfl) (λb q hb z=>(hs.2 b hb).trans z) he new
theorem qTs{P:Program}{w:World}{H':Hp}{h':Heap}{kvs:List (Key×V)}{vs:List (Key×Value)}(z:kvs.length<=sizeLine)(hd:(a == sysModules)=false)(rel:KV kvs vs)(dd:h'.DictOf (qBh P w) a vs):ObjOk P w H' h' a (.dK kvs):=⟨z,hd,vs,rel,dd⟩
theorem qQq{H':Hp}{Q:Unit->Shared->Prop}(hu:A.units+1<cLine)(I:Inv X pins σ H s)(g:DPut H a y v H')(ry:RelV y u)(rv:RelV v r)(h:∀s',Inv X pins σ H' s'->Q () s'):wpAny (model X.prog X.w) A (setItem (.ref a) u r) Q E s:=by
 rcases g with ⟨kvs,k,e,ey,l,eH⟩ | ⟨kvs,k,b,e,ey,eb,l,eH⟩
 ·subst ey eH;obtain⟨z,hd,vs,rel,dd⟩:=qSx I.hok e;have hz:vs.length<=sizeLine:=by rw [<-rel.length];exact z
  have hl:(putK kvs k v).length<=sizeLine:=by have:=qCx kvs k v;lia
  refine wpAny_setItem_pairs (hsz:=hz) (qNr ry) dd λh' dd' hs=>h _ ?_;have he:∃q,h'.get? a=some q:=let ⟨q,_,_,hq,_⟩:=dd';⟨q,hq⟩
  exact qIr I (by rw [e];exact True.intro) hs he (qTs hl hd (rel.put k rv) dd')
 ·subst ey eH;cases (show u=Value.ref b from ry);obtain⟨z,hd,xs,rel,dd⟩:=qYl I.hok e;have hz:xs.length<=sizeLine:=by rw [<-cY rel];exact z
  have hl:(putK kvs k v).length<=sizeLine:=by have:=qCx kvs k v;lia
  refine wpAny_setItem_heap (hsz:=hz) (fN hu) (qK0 I.hok eb) dd λh' dd' hs=>h _ ?_;obtain⟨q,es,ep,hq,h2,h3,h4,_,h5⟩:=dd';refine qIr I (by rw [e];exact True.intro) hs ⟨q,hq⟩ ⟨hl,hd,_,(rel.put k eb rv).keeps λc ys ec=>?_,q,es,ep,hq,h2,h3,h4,h5⟩;rw [qA4 (qNk ec e (λz=>nomatch z))];exact ec
end
def NoSl(i:Expr):Prop := ∀ov iv,subscripted i false ov iv=operate [ov,iv] (getItem ov iv)
theorem qU0{prog:Program}{w:World}{A:Around}{E:Value->Shared->Prop}{s:Shared}{env:Env}{value slice:Expr}{pos:Pos}{T id:String}{Q:Value->Shared->Prop}
  (hl:typeLookup (.type T) "__getitem__" = pure (some (.builtin id))) (hs:NoSl slice)
  (h:wpAny (model prog w) A (eval value env) (λo s₁ =>wpAny (model prog w) A (eval slice env) (λi s₂ =>s₂.TypeIs o T/\wpAny (model prog w) A (getItem o i) Q E s₂) E s₁) E s) :
  wpAny (model prog w) A (eval (.Subscript value slice pos) env) Q E s:=by
 refine Subscript_ (dE h (λo s₁ h₁ =>dE h₁ (λi s₂ h₂=>?_) λ_ _ x=>x) λ_ _ x=>x);obtain⟨hT,h₂⟩:=h₂;unfold subscriptTail;refine aA ?_;rw [getitemInPython_of_ne hT.not_modules];refine aA (wpAny_specialOf hT hl ?_);have fin:wpAny (model prog w) A (subscripted slice false o i) (λr s₃ =>wpAny (model prog w) A (letTemporaryGo value o r >>= λ_=>pure r) Q E s₃) E s₂ :=by
  rw [hs o i];exact wpAny_operating (dE h₂ (λr s₃ h₃ =>aA (wpAny_letTemporaryGo (aC h₃))) λ_ _ x=>x)
 first
  | exact aC (aA fin)
  | exact aA (aC (aA fin))
  | exact aA fin
theorem qLg{X:Cx}{pins:List (Addr×Obj)}{σ : St}{H:Hp}{s:Shared}{a:Addr}{y:V}{o:Option V}(I:Inv X pins σ H s)(g:DGet H a y o):s.TypeIs (.ref a) "dict" :=by
 rcases g with ⟨kvs,k,e,_,_⟩ | ⟨kvs,k,b,e,_,_,_⟩
 ·obtain⟨_,_,vs,_,dd⟩:=qQi I.hok e;exact dd.typeIs
 ·obtain⟨_,_,xs,_,dd⟩:=qQf I.hok e;exact dd.typeIs
def tDGet(td ty:TE):TE:=λσ H Q=>td σ H λx H1=>ty σ H1 λy H2 => ∃a v,x = .ref a/\DGet H2 a y (some v)/\Q v H2
def tDIn(ty td:TE):TE:=λσ H Q=>ty σ H λy H1=>td σ H1 λx H2 => ∃a o,x = .ref a/\DGet H2 a y o/\Q (.bl o.isSome) H2
def qOc(ty td:TE):TE:=λσ H Q=>ty σ H λy H1=>td σ H1 λx H2 => ∃a o,x = .ref a/\DGet H2 a y o/\Q (.bl (!o.isSome)) H2
def sDPut(td ty tv:TE):TS:=λD σ H=>tv σ H λv H1=>td σ H1 λx H2=>ty σ H2 λy H3 => ∃a H4,x = .ref a/\DPut H3 a y v H4/\D.nx σ H4
section
variable{X:Cx}{o i e value:Expr}{pos pos' tpos:Pos}{td ty tv:TE}
theorem qIg(hu:X.A.units+1<cLine)(ho:PE X o td)(hi:PE X i ty)(hs:NoSl i):PE X (.Subscript o i pos) (tDGet td ty):=by
 intro pins s σ H Q I h;refine qU0 PySem.F.slot_dict_getitem.lookup hs (thn (ho pins s σ H _ I h) λu s1 hq_=>?_);obtain⟨x,H1,I1,rx,q1⟩:=hq_;refine thn (hi pins s1 σ H1 _ I1 q1) λiv s2 hq_=>?_;obtain⟨y,H2,I2,ry,a,v,ex,g,q2⟩:=hq_;subst ex;obtain rfl:u=Value.ref a:=rx;exact⟨qLg I2 g,qQr hu I2 g ry λw' s3 I3 rw'=>⟨v,H2,I3,rw',q2⟩⟩
theorem qX9(hu:X.A.units+1<cLine)(hi:PE X i ty)(ho:PE X o td):PC X .In i o (tDIn ty td):=by
 intro pins s σ H Q I h;refine thn (hi pins s σ H _ I h) λiv s1 hq_=>?_;obtain⟨y,H1,I1,ry,q1⟩:=hq_;refine thn (ho pins s1 σ H1 _ I1 q1) λu s2 hq_=>?_;obtain⟨x,H2,I2,rx,a,ov,ex,g,q2⟩:=hq_;subst ex;obtain rfl:u=Value.ref a:=rx;exact d_in hu I2 g ry λs3 I3=>⟨.bl ov.isSome,H2,I3,rfl,q2⟩
theorem qP9(hu:X.A.units+1<cLine)(hi:PE X i ty)(ho:PE X o td):PC X .NotIn i o (qOc ty td):=by
 intro pins s σ H Q I h;refine thn (hi pins s σ H _ I h) λiv s1 hq_=>?_;obtain⟨y,H1,I1,ry,q1⟩:=hq_;refine thn (ho pins s1 σ H1 _ I1 q1) λu s2 hq_=>?_;obtain⟨x,H2,I2,rx,a,ov,ex,g,q2⟩:=hq_;subst ex;obtain rfl:u=Value.ref a:=rx;exact qVo hu I2 g ry λs3 I3=>⟨.bl (!ov.isSome),H2,I3,rfl,q2⟩
theorem qP4(hu:X.A.units+1<cLine)(ho:PE X o td)(hi:PE X i ty)(hv:PE X value tv)(hs:swapsWith value (some (.Subscript o i pos')) pos.line X.env=pure false):PS X (.Assign [.Subscript o i pos'] value pos) (sDPut td ty tv):=by
 intro pins s σ H D I h;refine wpAny_Assign_Subscript (thn (hv pins s σ H _ I h) λr s1 hq_=>?_) hs;obtain⟨v,H1,I1,rv,q1⟩:=hq_;refine thn (ho pins s1 σ H1 _ I1 q1) λu s2 hq_=>?_;obtain⟨x,H2,I2,rx,q2⟩:=hq_;refine thn (hi pins s2 σ H2 _ I2 q2) λiv s3 hq_=>?_;obtain⟨y,H3,I3,ry,a,H4,ex,g,q3⟩:=hq_;subst ex;obtain rfl:u=Value.ref a:=rx;exact qQq hu I3 g ry rv λs4 I4=>⟨σ,H4,I4,q3⟩
end
theorem qSy{P:Program}{w:World}{H:Hp}(h:Heap)(hb:sysModules<h.objs.size):ObjOk P w H (h.push { cls :=.type "dict",data :=.dict #[] }) h.objs.size (.dK []):=⟨aU _,beq_eq_false_iff_ne.mpr (cS (bB hb)),[],.nil,Heap.DictOf.new h⟩
theorem qSw{P:Program}{w:World}{H:Hp}(h:Heap)(hb:sysModules<h.objs.size):ObjOk P w H (h.push { cls :=.type "dict",data :=.dict #[] }) h.objs.size (.dT []):=⟨aU _,beq_eq_false_iff_ne.mpr (cS (bB hb)),[],.nil,_,#[],0,bA _ rfl,⟨rfl,rfl,rfl⟩,rfl,rfl,List.nodup_nil⟩
def qTa:TE:=λ_ H Q => ∀p,H p=none->Q (.ref p) (upd H p (.dK []))
def qW0:TE:=λ_ H Q => ∀p,H p=none->Q (.ref p) (upd H p (.dT []))
section
variable{X:Cx}{pos:Pos}
theorem qM7:PE X (.Dict [] [] pos) qTa:=λpins s σ H Q I h =>
 wpAny_Dict_empty ⟨.ref s.heap.objs.size,_,I.laid (a:=s.heap.objs.size) (o :=.dK []) (t':=s.toks) (λ_ _ q=>aH _ q) (aE _) (qSy s.heap I.big),rfl,h _ (I.hok.fresh (aE _))⟩
theorem qRz:PE X (.Dict [] [] pos) qW0:=λpins s σ H Q I h =>
 wpAny_Dict_empty ⟨.ref s.heap.objs.size,_,I.laid (a:=s.heap.objs.size) (o :=.dT []) (t':=s.toks) (λ_ _ q=>aH _ q) (aE _) (qSw s.heap I.big),rfl,h _ (I.hok.fresh (aE _))⟩
end
def qJq(kvs more:List (Key×V)):List (Key×V):=more.foldl (λacc kv=>putK acc kv.1 kv.2) kvs
theorem qEf:∀(more kvs:List (Key×V)),(qJq kvs more).length<=kvs.length+more.length
 | [],kvs=>by show kvs.length<=kvs.length+0;lia
 | p::r,kvs=>by
  have h1:=qEf r (putK kvs p.1 p.2);have h2:=qCx kvs p.1 p.2;show (qJq (putK kvs p.1 p.2) r).length<=_;rw [bY];lia
structure M1(X:Cx)(o:Expr)(m:Str)(apos:Pos)(e:Expr)(cpos:Pos):Prop where
 base:attributeBase o m X.env (eval o X.env)=eval o X.env
 few:((backTo cpos (starEach [e] X.env)).all (λx => !x.1)&&(backToKw cpos (keywordEach [] X.env)).all (λx=>x.1.isSome)
  && decide (([e]:List Expr).length+([]:List Keyword).length+(if ([]:List Keyword).isEmpty then 0 else 1)<30))=true
 line:(apos.endLine == cpos.line)=true
 trees:backTo cpos (starEach [e] X.env) = [(false,eval e X.env)]
def IsD(H:Hp)(a:Addr):Prop:=(∃kvs,Rd H a (.dK kvs)) \/ ∃kvs,Rd H a (.dT kvs)
def qW1(td ty tx:TE):TE:=λσ H Q=>td σ H λx H1 => ∃a,x = .ref a/\IsD H1 a/\ty σ H1 λy H2=>tx σ H2 λz H3 => ∃o,DGet H3 a y o/\Q (o.getD z) H3
end L2
namespace Att
open PySem PySem.W PySem.Calls PyProof.Rows
theorem qGn{P:Params}{h:Heap}:∀(ns:List Int) (vs:List Value),WellAll P h vs (ns.map WData.int)->IntsAre vs ns:=by
 intro ns
 induction ns with
 | nil =>
  intro vs w;rw [List.map_nil] at w;cases w;exact .nil
 | cons n ns ih =>
  intro vs w;rw [bG] at w;cases w with
  | cons a b =>
   cases a;exact .cons _ _ (ih _ b)
theorem qOp{l:OpenLaw}{n:Nat}(hn:l.most=some n){P:Params}{h:Heap}{args:List WData}{vals:List Value}(hpre:l.row.toRowW.claim.pre args=true)(hwl:WellAll P h vals args):∃a vs ns,vals = [Value.ref a]/\args = [WData.list (ns.map WData.int)]/\h.get? a=some { cls :=.type "list",data :=.seq vs.toArray }/\IntsAre vs ns/\ns.length<=n:=by
 have hsh:WShape.hasAll [] args [.list .int]=true:=(pre_splitW hpre).1;have hc:l.pre.holds [] { args:=args }=true:=(pre_splitW hpre).2;obtain⟨d,r,rfl,h1,h2⟩:=hasAllW_cons hsh;obtain rfl:=hasAllW_nil h2;obtain⟨xs,rfl,h3⟩:=hasW_list h1;obtain⟨ns,rfl⟩:=items_int h3;have hlen:ns.length<=n:=by
  unfold OpenLaw.pre at hc;have h4:(WTm.not (.lt (.lit (.int (n:Int))) (.len (.arg 0)))).holds [] { args :=[.list (ns.map .int)] }=true:=by
   have h4:=(holds_andW hc).1;rw [hn] at h4;exact h4
  have h5:=condW_of h4 (w_not (w_lt w_lit (w_len_list (w_arg rfl))));rw [aB] at h5;refine Nat.le_of_not_lt λq=>?_;have q':(n:Int)<((ns.length:Nat):Int):=by lia
  first
   | (rw [decide_eq_true q'] at h5;exact absurd h5 (by decide))
   | (simp at h5;lia)
 cases hwl with
 | cons w1 w2 =>
  cases w2;cases w1 with
  | list ho hall=>exact⟨_,_,ns,rfl,rfl,ho,qGn ns _ hall,hlen⟩
theorem qP5(l:OpenLaw)(args:List WData):l.row.toRowW.claim.post args (.bool true) args=true :=
 postW_of (r:=l.row.toRowW) (X:=(true == true))
  (show WShape.has [] (.bool true) .bool=true by first | rfl | decide | simp [WShape.has,WShape.arms,WShape.armsAll])
  (show (WTm.eq .res (.lit (.bool true))).value [] { args:=args,res:=some (.bool true),after:=args }=some (.bool (true == true)) from w_eq_bool (w_res rfl) w_lit) rfl
theorem attach_call{l:OpenLaw}{n:Nat}{q:Program}{loose:List Str}{XP:(Str->Option Value)->Heap->Prop}{YP:World->Heap->Prop}{d:DefRec}(hn:l.most=some n)(hdf:d.params.defaults = [])(call:∀(w:World) (s₀ s₁ : Shared) (mg mb:Str->Option Value) (fa:Addr) (o:Obj) (pm cd doc:Value) (a:Addr) (vs:List Value) (ns:List Int),
   Ground q loose [] XP w s₀ mg mb s₁.heap->YP w s₁.heap ->
   s₁.heap.get? fa=some o->o.data = .func (docDef d.name d.params d.body d.scope pm cd doc)->s₁.heap.CodeRec cd d.name->mg d.name=some (.ref fa) ->
   s₁.heap.get? a=some { cls :=.type "list",data :=.seq vs.toArray }->IntsAre vs ns->ns.length<=n->s₁.gens = #[] ->
   codeAny (model l.prog w) callerA (.call (.ref fa) ⟨[.ref a],[]⟩) (λr s'=>r = .ok (.ret (.bool true))/\OldK s₁.heap s'.heap/\s'.os=s₁.os/\AllBare s'.gens) s₁) :
  WalkO q loose XP YP l.row.toRowW d [] (λf vs=>PySem.call f vs):=by
 intro w s₀ s₁ mg mb G Y fa o pm cd doc dV kV ho hd hcd hD hmg hg args vals as hpre hlay hrd hwl hlo;obtain rfl:dV = .none:=Dflts.none hD hdf;obtain rfl:kV = .none:=Dflts.noKw hD;obtain⟨a,vs,ns,rfl,rfl,hobj,hints,hlen⟩:=qOp hn hpre hwl;refine enter_call (iA (call w s₀ s₁ mg mb fa o pm cd doc a vs ns G Y ho (fd_plain hd) hcd hmg hobj hints hlen hg) λr s' hq=>?_);obtain⟨rfl,h2,h3,h4⟩:=hq;exact⟨.inl ⟨.bool true,.bool true,[],rfl,λ_=>rfl,.bool true,qP5 l _,λ_=>⟨List.Pairwise.nil,λ_ hm=>(nomatch hm)⟩⟩,h2,h3,h4⟩
end Att
namespace L2
open PySem PySem.Spec PyProof.Rows
theorem qFz{vs:List Value}{ns:List Int}(h:IntsAre vs ns):Vals (ns.map V.int) vs:=by
 induction h with
 | nil=>exact .nil
 | cons n t _ ih=>exact .cons ⟨t,rfl⟩ ih
def Only(H:Hp):Prop := ∀b,H b=none \/ ∃o xs,H b=some (.frz o (.lst xs))
theorem qSk{P:Program}{w:World}{K:PySem.W.Frag}{mg mb:Str->Option Value}{CX:CXT}{k:Nat}{fa a:Addr}{fd:FuncData}{x:Str}{sp:Sp}{s₁ : Shared}{vs:List Value}{ns:List Int}
  (KX:K.In s₁.heap) (hns:s₁.heap.Ns mainGlobals mg) (hb:s₁.heap.Ns builtinsNs mb) (hbb:∀x:Str,x ≠ "__name__" -> mb x=bootBuiltins x) (hlim:s₁.heap.NoLimit) (hg:s₁.gens = #[])
  (ha:s₁.heap.get? a=some { cls :=.type "list",data :=.seq vs.toArray }) (hi:IntsAre vs ns) (hl:ns.length<=sizeLine) (hr:Room k callerA)
  (F:∀base:Heap,K.In base->base.Ns mainGlobals mg->FnOk P w K mg base CX k fa fd [x] sp) (hbind:∀(s:Shared) (u:Value),BindsTo s fd ⟨[u],[]⟩ [(x,u)])
  (hsp:∀H:Hp,Only H->SqL K H a (ns.map V.int)->sp [.ref a] H (λv _=>v = .bl true) λ_ _ _=>False)
  (hCX:∀H e s',CX [] H s₁ (λ_ _ _=>False) e s'->False) :
  codeAny (model P w) callerA (.call (.ref fa) ⟨[.ref a],[]⟩) (λr s'=>r = .ok (.ret (.bool true))/\OldK s₁.heap s'.heap/\s'.os=s₁.os/\AllBare s'.gens) s₁ :=by
 have rv:=qFz hi;have lenV:=hi.length;have core:∀H:Hp,Only H->SqL K H a (ns.map V.int)->HOk P w H s₁.heap->(∀b,H b≠none->b=a)->(H a≠none->K.lookup a=none) ->
   codeAny (model P w) callerA (.call (.ref fa) ⟨[.ref a],[]⟩) (λr s'=>r = .ok (.ret (.bool true))/\OldK s₁.heap s'.heap/\s'.os=s₁.os/\AllBare s'.gens) s₁ :=by
  intro H hO hS hok hA hK;have base_of:∀ {b:Addr} {o:Obj},s₁.heap.get? b=some o->H b=none->(hidT s₁.heap H).get? b=some o:=λe n=>qSp e n;have noA:∀ {b:Addr} {o:Obj} {es:Array DictEntry} {ep:Nat},s₁.heap.get? b=some o->o.data = .dict es ep->H b=none:=λ{b o es ep} e d=>by
   cases q:H b with
   | none=>rfl
   | some u =>
    have e':b=a:=hA b (by rw [q];simp);subst e';rw [ha] at e;cases e;have d':Data.seq vs.toArray _=Data.dict es ep:=d;cases d'
  have nsK:∀ {b:Addr} {m:Str->Option Value},s₁.heap.Ns b m->(hidT s₁.heap H).Ns b m:=λ{b m} ⟨o,es,ep,e,d,r⟩=>⟨o,es,ep,base_of e (noA e d),d,r⟩
  have hKb:K.In (hidT s₁.heap H):=λb o e=>base_of (KX b o e) (by
   cases q:H b with
   | none=>rfl
   | some u =>
    have e':b=a:=hA b (by rw [q];simp);subst e'
    rw [hK (by rw [q];simp)] at e;cases e)
  have hM:Mod K mg (hidT s₁.heap H):=⟨hKb,nsK hns,⟨mb,nsK hb,hbb⟩,let ⟨mc,h1,h2⟩:=hlim;⟨mc,nsK h1,h2⟩⟩;have e0:Env0 P w K mg (hidT s₁.heap H) callerA [] s₁ H:=⟨rfl,hM,λb o e=>qV3 e,Nat.le_of_eq (qQ5 _ _),trivial,λb hb=>absurd (show b∈([]:List Addr) from hb) (by simp),hok,.of_eq hg⟩;refine iA ((F _ hKb (nsK hns)).run callerA [] s₁ H ⟨[.ref a],[]⟩ [.ref a] [.ref a] _ _ hr e0 (hbind s₁ (.ref a)) (.cons rfl .nil) (hsp H hO hS)) λr s' h=>?_;cases r with
  | error e=>exact (hCX H e s' h).elim
  | ok fl =>
   cases fl with
   | next=>exact False.elim h
   | brk=>exact False.elim h
   | cont=>exact False.elim h
   | ret u =>
    obtain⟨v,H',os,bare,un,hok',r',q⟩:=h;have q':v = .bl true:=q;subst q';obtain rfl:u=Value.bool true:=r';refine⟨rfl,OldK.of_keep λb o e=>?_,os,bare⟩;cases q:H b with
    | none=>exact un.keep b o e q (by intro z;exact absurd (show b∈([]:List Addr) from z) (by simp)) (by simp)
    | some u =>
     rcases hO b with z | ⟨ob,xs,z⟩
     ·rw [q] at z;cases z
     ·have z2:=un.frzs b ob _ z;obtain⟨e1,_⟩:=hok b _ z;obtain⟨e2,_⟩:=hok' b _ z2;rw [e] at e1;cases e1;exact e2
 cases hk:K.lookup a with
 | some o =>
  have e:=KX a o hk;rw [ha] at e;cases e;refine core (λ_=>none) (λ_ =>.inl rfl) (.inr ⟨_,vs.toArray,_,hk,rfl,rfl,rfl,by rw [aP,lenV];exact hl,by simpa using rv⟩) (λb u z=>by have z':(none:Option HO)=some u:=z;cases z') (λb z=>absurd rfl z) λz=>absurd rfl z
 | none =>
  refine core (λb=>if b=a then some (.frz { cls :=.type "list",data :=.seq vs.toArray } (.lst (ns.map V.int))) else none) (λb=>?_) (.inl (.inr ⟨{ cls :=.type "list",data :=.seq vs.toArray },if_pos rfl⟩)) (λb u z=>?_) (λb z=>?_) λ_=>hk
  ·by_cases hb:b=a
   ·exact .inr ⟨_,_,if_pos hb⟩
   ·exact .inl (if_neg hb)
  ·by_cases hb:b=a
   ·have z':=(if_pos hb).symm.trans z;cases z';subst hb;exact⟨ha,by rw [aB];exact hl,vs,_,rv,ha⟩
   ·have z':=(if_neg hb).symm.trans z;cases z'
  ·by_cases hb:b=a
   ·exact hb
   ·exact absurd (if_neg hb) z
theorem qTv{l:PySem.W.OpenLaw}{n k:Nat}{q:Program}{loose:List Str}{XP:(Str->Option Value)->Heap->Prop}{YP:World->Heap->Prop}{d:DefRec}{K:Params->PySem.W.Frag}{CX:World->CXT}{sp:World->Sp}{x:Str}(hn:l.most=some n)(hn2:n<=sizeLine)(hdf:d.params.defaults = [])(hr:Room k callerA)(hY:∀(w:World) (h:Heap),YP w h->(K w.params).In h)(F:∀(w:World) (mg:Str->Option Value) (fa:Addr) (h:Heap),(K w.params).In h->h.Ns mainGlobals mg->mg d.name=some (.ref fa) ->
   ∃fd:FuncData,(∀(s:Shared) (u:Value),BindsTo s fd ⟨[u],[]⟩ [(x,u)]) /\
    ∀base:Heap,(K w.params).In base->base.Ns mainGlobals mg->FnOk l.prog w (K w.params) mg base (CX w) k fa fd [x] (sp w))
  (hsp:∀(w:World) (H:Hp) (a:Addr) (ns:List Int),ns.length<=n->Only H->SqL (K w.params) H a (ns.map V.int)->sp w [.ref a] H (λv _=>v = .bl true) λ_ _ _=>False)
  (hCX:∀(w:World) (H:Hp) (s:Shared) (e:Value) (s':Shared),CX w [] H s (λ_ _ _=>False) e s'->False) :
  PySem.W.WalkO q loose XP YP l.row.toRowW d [] (λf vs=>PySem.call f vs):=by
 refine Att.attach_call hn hdf λw s₀ s₁ mg mb fa o pm cd doc a vs ns G Y ho hd hcd hmg hobj hints hlen hg=>?_;have KX:=hY w _ Y;obtain⟨fd,hb,hF⟩:=F w mg fa _ KX G.T.g hmg;exact qSk KX G.T.g G.T.b G.T.builtins G.T.nolimit hg hobj hints (cA hlen hn2) hr hF hb (λH hO hS=>hsp w H a ns hlen hO hS) λH e s'=>hCX w H s₁ e s'
def qAk(s:Stmt):Arguments:=match s with
 | .FunctionDef _ a _ _ _ _ _ _ _ _=>a
 | _ =>{ posonlyargs :=[],args :=[],vararg:=none,kwonlyargs :=[],kw_defaults :=[],kwarg:=none,defaults :=[] }
def qAi(s:Stmt):List Stmt:=match s with
 | .FunctionDef _ _ b _ _ _ _ _ _ _=>b
 | _ =>[]
def qA8(s:Stmt):Scope:=match s with
 | .FunctionDef _ _ _ _ _ _ sc _ _ _=>sc
 | _ =>{ kind :=.function,names :=[],isGenerator:=false,isCoroutine:=false }
abbrev CX0:CXT:=λ_ _ _ _ _ _=>False
abbrev E0:XK:=λ_ _ _=>False
theorem pass0{X:Cx}:qR5 CX0 X E0:=λ_ _ _ _ _ _ _ h=>h.elim
structure Fun(K:PySem.W.Frag)(x qual:Str)(st:Stmt)(f:Addr)(fd:FuncData):Prop where
 ex:∃(oc:Value) (od:Option Addr) (kV doc pm:Value) (an:Option Addr) (cdv ct:Value) (osl:Array (Option Value)),
  fd=PySem.W.fnOf x qual (qAk st) (qAi st) (qA8 st) .none kV doc pm an cdv ct/\K.lookup f=some ⟨oc,od,.func fd,osl⟩/\PySem.W.codeIn K cdv qual=true
 kp:PySem.W.keepIn K (.ref f)=true
section
variable{P:Program}{w:World}{K:PySem.W.Frag}{mg:Str->Option Value}{base:Heap}
theorem Fun.ok{x qual:Str}{st:Stmt}{f:Addr}{fd:FuncData}{N ps:List Str}{k:Nat}{sp:Sp}(F:Fun K x qual st f fd)(S:FnScope N ps (qA8 st))(len:∀vs H Q E,sp vs H Q E->vs.length=ps.length)(hbody:∀(cdv:Value) (A:Around) (outer:List Env) (s:Shared) (H:Hp) (vs:List V) (Q:VK) (E:XK),Room k (A.deeper (envOfC qual (qA8 st) s.heap.objs.size f cdv))->sp vs H Q E ->
   ∃t,PSs (cxOf CX0 P w K mg base N qual (qA8 st) f cdv A outer s H E).nox (qAi st) t/\t { nx:=λ_ H'=>Q .non H',rt:=Q } (start N vs) H):FnOk P w K mg base CX0 (k+1) f fd ps sp:=by
 obtain⟨oc,od,kV,doc,pm,an,cdv,ct,osl,rfl,lk,hcd⟩:=F.ex;refine qYk lk hcd S len λA outer s H vs Q E hr hsp=>?_;obtain⟨t,h,q⟩:=hbody cdv A outer s H vs Q E hr hsp;exact⟨t,h.nox,q⟩
theorem Fun.binds{x qual:Str}{st:Stmt}{f:Addr}{fd:FuncData}{ps:List Str}(F:Fun K x qual st f fd)(h:∀(kV doc pm:Value) (an:Option Addr) (cdv ct:Value) (us:List Value),us.length=ps.length->bindArgs (PySem.W.fnOf x qual (qAk st) (qAi st) (qA8 st) .none kV doc pm an cdv ct) ⟨us,[]⟩=pure (ps.zip us)):Binds K fd ps []:=by
 obtain⟨oc,od,kV,doc,pm,an,cdv,ct,osl,rfl,lk,hcd⟩:=F.ex;exact .all (h kV doc pm an cdv ct)
theorem qTq{x qual:Str}{st:Stmt}{f:Addr}{oc:Value}{od an:Option Addr}{osl:Array (Option Value)}{kV doc pm cdv ct:Value}(l:K.lookup f=some ⟨oc,od,.func (PySem.W.fnOf x qual (qAk st) (qAi st) (qA8 st) .none kV doc pm an cdv ct),osl⟩)(c:PySem.W.codeIn K cdv qual=true)(k:PySem.W.keepIn K (.ref f)=true):Fun K x qual st f (PySem.W.fnOf x qual (qAk st) (qAi st) (qA8 st) .none kV doc pm an cdv ct):=⟨⟨oc,od,kV,doc,pm,an,cdv,ct,osl,rfl,l,c⟩,k⟩
end
theorem qIm{A:Around}{k:Nat}(hr:Room k A):A.units+1<cLine:=fO (Nat.add_le_add_left (by decide:1<=64) _) hr.units
theorem qAc{n:Nat}(h:n<=1000):n<sizeLine:=fO h (by decide)
section
variable{X:Cx}
theorem pv(i:Nat){x:Str}{pos:Pos}(hN:X.N[i]? = some x:=by rfl)(hv:Vis X.env.scope x:=by first | exact Or.inl rfl | exact Or.inr (Or.inl rfl) | exact Or.inr (Or.inr rfl))(hd:(x == ("__debug__" : Str))=false:=by decide)
  (hcd:(x == ("__classdict__" : Str))=false:=by decide):PE X (.Name x pos) (tVar i):=qX5 hN hv hd hcd
end
theorem iteF{A B:Prop}(h:B):if false=true then A else B:=by
 rw [if_neg aD];exact h
theorem iteT{A B:Prop}(h:A):if true=true then A else B:=by
 rw [if_pos rfl];exact h
theorem ite2{c A B:Prop} [Decidable c] (h1:c->A)(h2 : ¬c->B):if c then A else B:=by
 by_cases h:c
 ·rw [if_pos h];exact h1 h
 ·rw [if_neg h];exact h2 h
def Same(H H':Hp):Prop := ∀b o,H b=some o->H' b=some o
theorem Same.seq{K:PySem.W.Frag}{H H':Hp}{a:Addr}{xs:List V}(e:Same H H')(h:SqL K H a xs):SqL K H' a xs:=by
 rcases h with (h | ⟨o,h⟩) | h
 ·exact .inl (.inl (e _ _ h))
 ·exact .inl (.inr ⟨o,e _ _ h⟩)
 ·exact .inr h
end L2
set_option maxHeartbeats 4000000
namespace L2
open PySem PySem.Spec PyProof.Rows
abbrev TB:=St->Hp->(St->Hp->Prop)->Prop
def PB(X:Cx)(m:Sem Unit)(B:TB):Prop :=
 ∀(pins:List (Addr×Obj)) (s:Shared) (σ : St) (H:Hp) (Q:St->Hp->Prop),Inv X pins σ H s->B σ H Q ->
  wpAny (model X.prog X.w) X.A m (λ_ s' => ∃ σ' H',Inv X pins σ' H' s'/\Q σ' H') X.xe s
def tAll:List TT->TT
 | []=>λ_ H Q=>Q true H
 | t::r=>λσ H Q=>t σ H λb H1=>if b=true then tAll r σ H1 Q else Q false H1
inductive PTs(X:Cx):List Expr->List TT->Prop
 | nil:PTs X [] []
 | cons {e es t ts}:PT X e t->PTs X es ts->PTs X (e::es) (t::ts)
def qEl(ifs:List Expr)(env:Env)(b:Bool):Sem Bool:=forIn ifs b λc r=>if r=true then do let ok <-isTrue c env (eval c env);pure (ForInStep.yield ok) else pure (ForInStep.yield r)
theorem qG0{M:Model}{A:Around}{E:Value->Shared->Prop}{env:Env}{Q:Bool->Shared->Prop}{s:Shared}(h:Q false s):∀ifs:List Expr,wpAny M A (qEl ifs env false) Q E s
 | []=>aC h
 | c::r=>by
  unfold qEl;simp only [List.forIn_cons,cQ,if_false];exact aA (aC (qG0 h r))
theorem qLr{X:Cx}:∀ {ifs:List Expr} {ts:List TT},PTs X ifs ts -> ∀(pins:List (Addr×Obj)) (s:Shared) (σ : St) (H:Hp) (Q:Bool->Hp->Prop),Inv X pins σ H s->tAll ts σ H Q ->
  wpAny (model X.prog X.w) X.A (qEl ifs X.env true) (TP X pins σ Q) X.xe s
 | _,_,.nil,pins,s,σ,H,Q,I,h=>aC ⟨H,I,h⟩
 | _,_,.cons (es:=es) h1 h2,pins,s,σ,H,Q,I,h=>by
  unfold qEl;simp only [List.forIn_cons,if_true];refine aA (aA (thn (h1 pins s σ H _ I h) λb s1 hq_=>?_));obtain⟨H1,I1,q1⟩:=hq_;refine aC ?_;cases b with
  | true=>exact qLr h2 pins s1 σ H1 Q I1 q1
  | false=>exact qG0 (show TP X pins σ Q false s1 from⟨H1,I1,q1⟩) es
def LoopT(J:It)(g:TG)(tt:TT)(B:TB):TB:=λσ H Q => ∃W:Nat->Nat->St->Hp->Prop,(∃m,W 0 m σ H) /\ ∀i m σ H,W i m σ H ->
 (J.stop i H/\Q σ H)\/(J.go i H /\ ∀x H',J.yld i H x H'->g x σ H' λσ2 H2=>tt σ2 H2 λb H3 =>
  if b=true then B σ2 H3 (λσ3 H4 => ∃m',m'<m/\W (i+1) m' σ3 H4) else ∃m',m'<m/\W (i+1) m' σ2 H3)
def CompR(X:Cx)(pins:List (Addr×Obj))(Q:St->Hp->Prop):Result->Shared->Prop
 | .ok _,s' => ∃ σ' H',Inv X pins σ' H' s'/\Q σ' H'
 | .error _,_=>False
structure ClauseAt(X:Cx)(e:Expr)(d:Nat)(acc:Value)(tg iter:Expr)(ifs:List Expr)(beh:Sem Unit):Prop where
 quiet:∀it,(Code.compLoop e d it acc X.env).quiet=true
 under:∀it,X.A.under (Code.compLoop e d it acc X.env)=X.A
 den:∀it,(model X.prog X.w).den (.compLoop e d it acc X.env)=(compTurn e d it acc X.env).onRaise (λx=>do noteFrame x X.env;theTreesLotGoes x)
 turn:∀it,compTurn e d it acc X.env=(do
   standAt iter.pos
   match <-pyNext it with
   | none=>pure (.done .next)
   | some v =>
    letOwnedTupleGo tg it v
    assign tg X.env v
    let ok <-qEl ifs X.env true
    if ok then beh
    again (.compLoop e d it acc X.env))
 start:∀(it:Value) (R:Result->Shared->Prop) (s:Shared),codeAny (model X.prog X.w) X.A (.compLoop e d it acc X.env) R s ->
  wpAny (model X.prog X.w) X.A (pyIter it) (λit' s'=>codeAny (model X.prog X.w) X.A (.compLoop e d it' acc X.env) R s') (λ_ _=>False) s->codeAny (model X.prog X.w) X.A (.compStart e d it acc X.env) R s
theorem qK8{X:Cx}{e:Expr}{d:Nat}{acc:Value}{tg iter:Expr}{ifs:List Expr}{beh:Sem Unit}{J:It}{fp:List Addr}{it:Addr}{tn:Nat->Heap->Prop}{g:TG}{tts:List TT}{B:TB}(hxe:X.xe=λ_ _=>False)(hc:X.calm=true)(C:ClauseAt X e d acc tg iter ifs beh)(T:Turn X.prog X.w X.K tg J fp it tn)(hg:PG X tg g)(ht:PTs X ifs tts)(hb:PB X beh B){pins:List (Addr×Obj)}{σ : St}{H:Hp}{s:Shared}{Q:St->Hp->Prop}(I:Inv X pins σ H s)(st:tn 0 s.heap)(f:∀b∈fp,FpOk X pins H b)(q:LoopT J g (tAll tts) B σ H Q):codeAny (model X.prog X.w) X.A (.compLoop e d (.ref it) acc X.env) (CompR X pins Q) s:=by
 obtain⟨W,⟨m0,w0⟩,turn⟩:=q;have stat:∀ {H':Hp},(∀b∈fp,H' b=none) -> ∀b∈fp,FpOk X pins H' b:=λhn b hb=>⟨hn b hb,(f b hb).2⟩;refine codeAny_loop (C.quiet _) (λn s' => ∃i σ' H',Inv X pins σ' H' s'/\tn i s'.heap/\(∀b∈fp,H' b=none)/\W i n σ' H') ?_ m0 ⟨0,σ,H,I,st,λb hb=>(f b hb).1,w0⟩;rintro n s3 ⟨i,σ3,H3,I3,st3,fr3,w3⟩;rw [C.under,C.den];refine wpAny_noted ?_;rw [C.turn];refine aA (eO ?_);have lift:∀ {α : Type} {t:Sem α} {R : α -> Shared->Prop} {s:Shared},wpAny (model X.prog X.w) X.A t R X.xe s->wpAny (model X.prog X.w) X.A t R (notedBy (model X.prog X.w) X.A X.env λx s'=>CompR X pins Q (.error x) s') s:=by
  intro α t R s h;rw [hxe] at h;exact dE h (λ_ _ z=>z) λ_ _ z=>z.elim
 rcases turn i n σ3 H3 w3 with ⟨stop,qn⟩ | ⟨go,step⟩
 ·refine aA (lift (thn (T.done X rfl rfl rfl hc i pins s3 σ3 H3 X.xe I3 (stat fr3) st3 stop) λr s4 hq_=>?_));obtain⟨hr,I4⟩:=hq_;subst hr;exact aC ⟨σ3,H3,I4,qn⟩
 ·refine aA (lift (thn (T.item X rfl rfl rfl hc i pins s3 σ3 H3 X.xe I3 (stat fr3) st3 go) λr s4 hq_=>?_));obtain⟨u,hr,h4⟩:=hq_;subst hr;refine aA (lift (thn h4 λ_ s5 hq_=>?_));obtain⟨x,H5,I5,r5,y5,st5,fr5⟩:=hq_;have I5':=I5.pinned (stat fr5) (T.obj _ _ st5);refine aA (lift (thn (hg _ s5 σ3 H5 x u _ I5' r5 (step x H5 y5)) λ_ s6 hq_=>?_));obtain⟨σ6,H6,I6,q6⟩:=hq_;have again:∀ {σ7:St} {H7:Hp} {s7:Shared},Inv X (pins++qJh fp s5.heap) σ7 H7 s7->(∃m',m'<n/\W (i+1) m' σ7 H7) -> ∃m,m<n /\ ∃i σ' H',Inv X pins σ' H' s7/\tn i s7.heap/\(∀b∈fp,H' b=none)/\W i m σ' H':=λ{σ7 H7 s7} I7 ⟨m',hm,w7⟩=>by
   refine⟨m',hm,i+1,σ7,H7,I7.unpinned,T.keep _ _ _ st5 λb hb o e=>(I7.pin (b,o) (bM _ (bM _ (qDj hb e)))).1,λb hb=>?_,w7⟩;obtain⟨o,e,_⟩:=T.obj _ _ st5 b hb;exact (I7.pin (b,o) (bM _ (bM _ (qDj hb e)))).2.1
  refine aA (lift (thn (qLr ht _ s6 σ6 H6 _ I6 q6) λok s7 hq_=>?_));obtain⟨H7,I7,q7⟩:=hq_;cases ok with
  | false =>
   exact aC ⟨rfl,again I7 q7⟩
  | true =>
   refine aA (lift (thn (hb _ s7 σ6 H7 _ I7 q7) λ_ s8 hq_=>?_));obtain⟨σ8,H8,I8,q8⟩:=hq_;exact aC ⟨rfl,again I8 q8⟩
theorem qEz(env:Env):∀(names:List (Str×NameKind)) (cs:List (Str×Addr)),(∀x∈names,x.2 = .free -> ∃c,env.cells.lookup x.1=some c) ->
  (∀x c,cs.lookup x=some c->env.cells.lookup x=some c) ->
  ∃cl,(forIn names cs λ(x:Str×NameKind) (r:List (Str×Addr))=>(if (x.2 == NameKind.free)=true then do let c <-cellOf env x.1;pure (ForInStep.yield ((x.1,c)::r)) else pure (ForInStep.yield r):Sem (ForInStep (List (Str×Addr)))))=pure cl /\
   (∀x c,cl.lookup x=some c->env.cells.lookup x=some c)/\(∀x,(x,NameKind.free)∈names\/(∃c,cs.lookup x=some c) -> ∃c,cl.lookup x=some c)
 | [],cs,_,h2=>⟨cs,rfl,h2,λx h=>h.elim (λz=>nomatch z) id⟩
 | (n,k)::r,cs,h1,h2=>by
  rw [List.forIn_cons];have hr:∀x∈r,x.2 = .free -> ∃c,env.cells.lookup x.1=some c:=λx hx=>h1 x (aS _ hx);by_cases hk:k = .free
  ·subst hk;obtain⟨c,hc⟩:=h1 (n,.free) aR rfl;have hcell:cellOf env n=pure c:=by unfold cellOf;rw [hc]
   obtain⟨cl,e,a,b⟩:=qEz env r ((n,c)::cs) hr (λx d hx=>by
    rw [gX] at hx;cases hxn:x == n with
    | true =>
     rw [hxn] at hx;have:x=n:=eq_of_beq hxn;cases hx;rw [this];exact hc
    | false=>rw [hxn] at hx;exact h2 x d hx)
   refine⟨cl,?_,a,λx hx=>b x ?_⟩
   ·rw [hcell];exact e
   ·by_cases hxn:x=n
    ·exact .inr ⟨c,by rw [gX,hxn,beq_self_eq_true]⟩
    ·rcases hx with hx | ⟨d,hx⟩
     ·rcases aT.mp hx with z | z
      ·exact absurd (congrArg Prod.fst z) hxn
      ·exact .inl z
     ·refine .inr ⟨d,?_⟩;have:(x == n)=false:=by simpa using hxn
      rw [gX,this];exact hx
  ·have hb:(k == NameKind.free)=false:=by simpa using hk
   obtain⟨cl,e,a,b⟩:=qEz env r cs hr h2;refine⟨cl,?_,a,λx hx=>b x ?_⟩
   ·show (if (k == NameKind.free)=true then _ else _) >>= _=_;rw [hb];exact e
   ·rcases hx with hx | hx
    ·rcases aT.mp hx with z | z
     ·exact absurd (congrArg Prod.snd z).symm hk
     ·exact .inl z
    ·exact .inr hx
theorem qHv{scope:Scope}{env:Env}(h:∀x∈scope.names,x.2 = .free -> ∃c,env.cells.lookup x.1=some c):∃cl,closureFor scope env=pure cl/\(∀x c,cl.lookup x=some c->env.cells.lookup x=some c) /\ ∀x,(x,NameKind.free)∈scope.names -> ∃c,cl.lookup x=some c:=by
 obtain⟨cl,e,a,b⟩:=qEz env scope.names [] h (λx c hx=>nomatch hx);refine⟨cl,?_,a,λx hx=>b x (.inl hx)⟩;unfold closureFor;show (forIn scope.names ([]:List (Str×Addr)) _) >>= _=_;have e2:(forIn scope.names ([]:List (Str×Addr)) λ(x:Str×NameKind) (r:List (Str×Addr))=>(match x with | (name,kind)=>if (kind == NameKind.free)=true then do let c <-cellOf env name;pure (ForInStep.yield ((name,c)::r)) else pure (ForInStep.yield r):Sem (ForInStep (List (Str×Addr)))))=pure cl:=e;rw [e2];rfl
def relK(env:Env)(x:Str)(k:NameKind):NameKind:=if (k == .free&&env.scope.kind == .function&&env.kindOf x == some .cell)=true then .cell else k
theorem qDw(env:Env)(x:Str):∀names:List (Str×NameKind),
  (names.map λ(n,k)=>if (k == NameKind.free&&env.scope.kind == .function&&env.kindOf n == some .cell) then (n,NameKind.cell) else (n,k)).lookup x=(names.lookup x).map (relK env x)
 | []=>rfl
 | (n,k)::r=>by
  have ih:=qDw env x r;show List.lookup x ((if (k == NameKind.free&&env.scope.kind == .function&&env.kindOf n == some .cell)=true then (n,NameKind.cell) else (n,k))::_)=_;have e:(if (k == NameKind.free&&env.scope.kind == .function&&env.kindOf n == some .cell)=true then (n,NameKind.cell) else (n,k))=(n,relK env n k):=by
   unfold relK;split <;> rfl
  rw [e,gX,gX];cases hx:x == n with
  | true=>have:=eq_of_beq hx;subst this;rfl
  | false=>exact ih
theorem qFb(scope:Scope)(env:Env)(x:Str):(relabel scope env).names.lookup x=(scope.names.lookup x).map (relK env x):=qDw env x scope.names
def qAm(X:Cx)(own:List Str)(cap:List Nat)(scope:Scope)(cl:List (Str×Addr))(s:Shared)(H:Hp)(ex:List Addr):Cx :=
 { X with N:=own++cap.map (λj=>X.N.getD j ""),env:=compEnvC scope cl s.heap.objs.size X.env,s₀ :=s,H₀ :=H,outer:=X.stack,ex:=ex,fn:=λ_=>false,pn :=[],xe:=λ_ _=>False }
def qKa(own:List Str)(cap:List Nat)(σ : St):St:=own.map (λ_=>none)++cap.map (λj=>(σ[j]?).join)
structure CompScope(X:Cx)(own:List Str)(cap:List Nat)(scope:Scope):Prop where
 kind:scope.kind = .function
 nocell:∀x∈scope.names,x.2 ≠ .cell
 names:∀x∈scope.names,x.2 = .local->scope.names.lookup x.1=some .local
 free:∀x∈scope.names,x.2 = .free->X.env.kindOf x.1=some .cell\/X.env.kindOf x.1=some .free
 own:∀x∈own,scope.names.lookup x=some .local
 caps:∀j∈cap,scope.names.lookup (X.N.getD j "")=some .free/\j<X.N.length
theorem qT2{X:Cx}{own:List Str}{cap:List Nat}{scope:Scope}{cl:List (Str×Addr)}{pins:List (Addr×Obj)}{σ : St}{H:Hp}{s:Shared}{fp:List Addr}{h':Heap}{tk:Nat}(S:CompScope X own cap scope)(I:Inv X pins σ H s)(hcl:∀x c,cl.lookup x=some c->X.env.cells.lookup x=some c)(hfr:∀x,(x,NameKind.free)∈scope.names -> ∃c,cl.lookup x=some c)(hf:∀b∈fp,FpOk X pins H b)(hlt:∀b∈fp,b<s.heap.objs.size)(hns:h'.Ns s.heap.objs.size (λx=>([]:List (Str×Value)).reverse.lookup x))(hk:∀b u,s.heap.get? b=some u->h'.get? b=some u):Inv (qAm X own cap scope cl s H fp) [] (qKa own cap σ) H { s with heap:=h',toks:=tk }:=by
 have kc:∀x k,(relabel scope X.env).names.lookup x=some k->(k = .cell\/k = .free)->(x,NameKind.free)∈scope.names:=by
  intro x k e hk;rw [qFb] at e;cases q:scope.names.lookup x with
  | none=>rw [q] at e;cases e
  | some k0 =>
   rw [q] at e;have e':relK X.env x k0=k:=bF e;have hm:=eJ q;have h0:k0 ≠ .cell:=S.nocell _ hm;have:k0 = .free:=by
    unfold relK at e';by_cases hb:(k0 == NameKind.free&&X.env.scope.kind == .function&&X.env.kindOf x == some .cell)=true
    ·simp only [bD,beq_iff_eq] at hb;exact hb.1.1
    ·rw [if_neg hb] at e';rcases hk with z | z
     ·exact absurd (e'.trans z) h0
     ·exact e'.trans z
   rw [this] at hm;exact hm
 have ok:(qAm X own cap scope cl s H fp).Ok :={
  mod:=I.ok.mod
  kind:=S.kind
  glob:=I.ok.glob
  blt:=I.ok.blt
  above:=aE _
  inj:=λx y c e1 e2=>I.ok.inj x y c (hcl x c e1) (hcl y c e2)
  has:=λx hx=>by
   rcases hx with hx | hx
   ·exact hfr x (kc x _ hx (.inl rfl))
   ·exact hfr x (kc x _ hx (.inr rfl))
  cab:=λx c h=>absurd h (show ¬(false=true) from aD)
  hd:=I.ok.hd
  frames:=I.ok.frames
  stk :=.inl rfl
  exf:=λb hb=>⟨bB (hlt b hb),λx c e=>(hf b hb).2.2.2.2.1 x c (hcl x c e)⟩
  bs:=I.bs
  bsz:=cA I.ok.bsz I.sz
  noex:=λb o e hb=>by
   rcases (hf b hb).2.2.2.1 with z | z
   ·exact I.ok.noex b o e z
   ·exact absurd (bI (aX e) (cA I.ok.bsz z)) (fM _)
  exfs:=λb hb hm=>by
   rcases aT.mp (I.stkSub b hm) with z | z
   ·exact (hf b hb).2.1 z
   ·exact (hf b hb).2.2.1 z
  funs:=I.stack
  frf:=I.stkFree }
 refine⟨ok,rfl,I.bare,Un.kept hk,⟨_,hns,λi x v e1 e2 e3=>?_⟩,λx c e=>?_,I.hok.fresh (aE _),λx c e=>I.freeC x c (hcl x c e),λp hp=>absurd (show p∈([]:List (Addr×Obj)) from hp) (by simp),I.hok.kept hk,?_⟩
 ·have e1:(own++cap.map (λj=>X.N.getD j ""))[i]? = some x:=e1;have e2:(own.map (λ_=>(none:Option V))++cap.map (λj=>(σ[j]?).join))[i]? = some (some v):=e2;by_cases hi:i<own.length
  ·rw [fS (by simpa using hi),aW] at e2;cases q:own[i]? with
   | none=>rw [q] at e2;cases e2
   | some y=>rw [q] at e2;cases e2
  ·rw [eD (by simpa using hi),aW] at e1;rw [eD (by simpa using hi),aW,aB] at e2;cases q:cap[i - own.length]? with
   | none=>rw [q] at e2;cases e2
   | some j =>
    rw [q] at e1 e2;have e1':X.N.getD j "" = x:=bF e1;have e2':(σ[j]?).join=some v:=bF e2;obtain⟨hj,hlj⟩:=S.caps j (aO q);rw [e1'] at hj;have hNj:X.N[j]? = some x:=by
     rw [aF hlj,<-e1',bK,aF hlj];rfl
    have hσ : σ[j]? = some (some v):=by
     cases z : σ[j]? with
     | none=>rw [z] at e2';cases e2'
     | some o=>rw [z] at e2';rw [show o=some v from e2']
    obtain⟨m,hn,hl⟩:=I.loc;have hm:=eJ hj;have hkx:=S.free _ hm rfl;have vis:Vis X.env.scope x:=by
     rcases hkx with z | z
     ·exact .inr (.inl z)
     ·exact .inr (.inr z)
    obtain⟨u,r,l⟩:=hl j x v hNj hσ vis;refine⟨u,r,.inr ?_⟩;rcases l with ⟨kl,_⟩ | ⟨_,c,hc,z⟩
    ·rcases hkx with z | z
     ·rw [kl] at z;cases z
     ·rw [kl] at z;cases z
    ·obtain⟨c',hc'⟩:=hfr x hm;have:=hcl x c' hc';rw [hc] at this;cases this;refine⟨?_,c,hc',?_⟩
     ·have q:(relabel scope X.env).names.lookup x=some (relK X.env x .free):=by rw [qFb,hj];rfl
      show (relabel scope X.env).names.lookup x=some .cell\/(relabel scope X.env).names.lookup x=some .free;rw [q];unfold relK;split
      ·exact .inl rfl
      ·exact .inr rfl
     ·obtain⟨o,ho,hd⟩:=z;exact⟨o,hk c o ho,hd⟩
 ·obtain⟨v,o,ho,hd⟩:=I.cell x c (hcl x c e);exact⟨v,o,hk c o ho,hd⟩
 ·show (own.map (λ_=>(none:Option V))++cap.map (λj=>(σ[j]?).join)).length=(own++cap.map (λj=>X.N.getD j "")).length;simp only [aG,aB]
def qKs(X:Cx)(m:Sem Value)(o:HO):Prop :=
 ∀(pins:List (Addr×Obj)) (s:Shared) (σ : St) (H:Hp) (E:Value->Shared->Prop) (Q:Value->Shared->Prop),Inv X pins σ H s ->
  (∀l s',s.heap.objs.size<=l->H l=none->Inv X pins σ (upd H l o) s'->(∀b u,s.heap.get? b=some u->s'.heap.get? b=some u)->Q (.ref l) s')->wpAny (model X.prog X.w) X.A m Q E s
theorem qJ2{X:Cx}:qKs X (newList []) (.lst []):=by
 intro pins s σ H E Q I h;exact gE (h _ _ (aE _) I.fresh (I.lnew (its :=[]) (t':=s.toks) .nil (aU _)) λb u e=>aH _ e)
theorem qK9{X:Cx}{e:Expr}{tg iter:Expr}{ifs:List Expr}{scope:Scope}{own:List Str}{cap:List Nat}{newAcc:Sem Value}{o:HO}{cl:List (Str×Addr)}{behOf:Value->Env->Sem Unit}{g:TG}{tts:List TT}{Bof:Addr->TB}(hc:X.calm=true)(S:CompScope X own cap scope)(hcl:∀x c,cl.lookup x=some c->X.env.cells.lookup x=some c)(hfr:∀x,(x,NameKind.free)∈scope.names -> ∃c,cl.lookup x=some c)(hacc:qKs X newAcc o)(hC:∀s H ex l,ClauseAt (qAm X own cap scope cl s H ex) e 0 (.ref l) tg iter ifs (behOf (.ref l) (qAm X own cap scope cl s H ex).env))(hg:∀s H ex,PG (qAm X own cap scope cl s H ex) tg g)(ht:∀s H ex,PTs (qAm X own cap scope cl s H ex) ifs tts)(hb:∀s H ex l,PB (qAm X own cap scope cl s H ex) (behOf (.ref l) (qAm X own cap scope cl s H ex).env) (Bof l)){pins:List (Addr×Obj)}{σ : St}{s2:Shared}{itv:Value}{Q:Addr->Hp->Prop}{E:Value->Shared->Prop}{R:Value->Addr->Result->Shared->Prop}(h:PIE X pins σ tg (λJ H1 => ∀l,H1 l=none->LoopT J g (tAll tts) (Bof l) (qKa own cap σ) (upd H1 l o) λ_ H2=>Q l H2) itv s2)(hR:∀l C s' H',Inv X pins σ H' s'->FpOk X pins H' C->(∃m,s'.heap.Ns C m)->Q l H'->R (.ref l) C (.ok .next) s')(hok:∀acc C f s',R acc C (.ok .next) s'->R acc C (.ok f) s'):wpAny (model X.prog X.w) X.A newAcc (λacc s₃ =>wpAny (model X.prog X.w) X.A (newFunctionEnv scope X.env.globals cl [] X.env.qual none .none (some X.env)) (λcenv s₄ =>
   codeAny (model X.prog X.w) X.A (.compStart e 0 itv acc { cenv with scope:=relabel scope X.env }) (R acc cenv.locals) s₄) E s₃) E s2:=by
 obtain⟨it,fp,tn,J,H2,rfl,I2,T,st2,f2,q⟩:=h;have lt2:∀b∈fp,b<s2.heap.objs.size:=λb hb=>by
  obtain⟨ob,e,_⟩:=T.obj _ _ st2 b hb;exact aX e
 refine hacc pins s2 σ H2 E _ I2 λl s3 hl hn I3 k3=>?_;have q':=q l hn;have f3:∀b∈fp,FpOk X pins (upd H2 l o) b:=λb hb=>by
  obtain⟨a1,a2⟩:=f2 b hb;refine⟨?_,a2⟩;rw [qA4 (bB (bI (lt2 b hb) hl))];exact a1
 have lt3:∀b∈fp,b<s3.heap.objs.size:=λb hb=>by
  obtain⟨ob,e,_⟩:=T.obj _ _ st2 b hb;exact aX (k3 b ob e)
 refine wpAny_newFunctionEnv S.nocell (by intro y hy;simp at hy) (λh1 hns hsb=>?_) S.kind;have k4:∀b u,s3.heap.get? b=some u->h1.get? b=some u:=λb u e=>by
  exact hsb.extBut b u (bB (aX e)) (aH _ e)
 have I4:Inv (qAm X own cap scope cl s3 (upd H2 l o) fp) [] (qKa own cap σ) (upd H2 l o) { s3 with heap:=h1,toks:=s3.toks+([]:List (Str×Value)).length }:=qT2 S I3 hcl hfr f3 lt3 hns k4;have st4:tn 0 h1:=T.keep _ _ _ st2 λb hb ob e=>k4 b ob (k3 b ob e);have f4:∀b∈fp,FpOk (qAm X own cap scope cl s3 (upd H2 l o) fp) [] (upd H2 l o) b:=λb hb=>by
  obtain⟨a0,a1,a2,a3,a4,a5⟩:=f3 b hb;refine⟨a0,bB (lt3 b hb),λhm=>?_,.inl hb,λx c ex=>a4 x c (hcl x c ex),λp hp=>absurd (show p∈([]:List (Addr×Obj)) from hp) (by simp)⟩;rcases aT.mp (I3.stkSub b hm) with z | z
  ·exact a1 z
  ·exact a2 z
 have fin:∀(r:Result) (s':Shared),CompR (qAm X own cap scope cl s3 (upd H2 l o) fp) [] (λ_ H2=>Q l H2) r s'->R (.ref l) s3.heap.objs.size r s':=by
  intro r s' hr;cases r with
  | error x=>exact (show False from hr).elim
  | ok f =>
   obtain⟨σ5,H5,I5,q5⟩:=(show ∃ σ' H',Inv (qAm X own cap scope cl s3 (upd H2 l o) fp) [] σ' H' s'/\Q l H' from hr);have I6:Inv X pins σ H5 s':=I3.call' (ch:=fp) I5.os I5.base I5.hok I5.bare λb hb=>(f3 b hb).2.2.2 |> λ⟨z1,z2,z3⟩=>⟨z1,(f3 b hb).2.1,z2,z3⟩
   refine hok _ _ _ _ (hR l _ s' H5 I6 (I3.fpOk (aE _) I5.free) ?_ q5);obtain⟨m,hm,_⟩:=I5.loc;exact⟨m,hm⟩
 have loop:∀s4:Shared,s4 = { s3 with heap:=h1,toks:=s3.toks+([]:List (Str×Value)).length } ->
   codeAny (model X.prog X.w) X.A (.compLoop e 0 (.ref it) (.ref l) (qAm X own cap scope cl s3 (upd H2 l o) fp).env) (R (.ref l) s3.heap.objs.size) s4:=by
  rintro s4 rfl;exact iA (qK8 (X:=qAm X own cap scope cl s3 (upd H2 l o) fp) rfl hc (hC _ _ _ _) T (hg _ _ _) (ht _ _ _) (hb _ _ _ l) I4 st4 f4 q') fin
 exact (hC s3 (upd H2 l o) fp l).start (.ref it) _ _ (loop _ rfl) (T.self _ 0 _ _ _ st4 (loop _ rfl))
section
variable{X:Cx}{e:Expr}{tg iter:Expr}{ifs:List Expr}{gs:List Comprehension}{scope:Scope}{own:List Str}{cap:List Nat}{newAcc:Sem Value}{o:HO}{behOf:Value->Env->Sem Unit}{wi:TI}{g:TG}{tts:List TT}{Bof:Addr->TB}{cpos:Pos}
def tComp(own:List Str)(cap:List Nat)(o:HO)(wi:TI)(g:TG)(tts:List TT)(Bof:Addr->TB):TE:=λσ H Q=>wi σ H λJ H1 => ∀l,H1 l=none->LoopT J g (tAll tts) (Bof l) (qKa own cap σ) (upd H1 l o) λ_ H2=>Q (.ref l) H2
theorem qMn(hc:X.calm=true)(S:CompScope X own cap scope)(hcl:clausesOf e=⟨tg,iter,ifs,0⟩::gs)(hi:PI X tg iter wi)(hacc:qKs X newAcc o)(hC:∀cl s H ex l,ClauseAt (qAm X own cap scope cl s H ex) e 0 (.ref l) tg iter ifs (behOf (.ref l) (qAm X own cap scope cl s H ex).env))(hg:∀cl s H ex,PG (qAm X own cap scope cl s H ex) tg g)(ht:∀cl s H ex,PTs (qAm X own cap scope cl s H ex) ifs tts)(hb:∀cl s H ex l,PB (qAm X own cap scope cl s H ex) (behOf (.ref l) (qAm X own cap scope cl s H ex).env) (Bof l))(hs:∀x,foldedSetIterable iter X.env x=pure x):∀(pins:List (Addr×Obj)) (s:Shared) (σ : St) (H:Hp) (Q:VK),Inv X pins σ H s->tComp own cap o wi g tts Bof σ H Q ->
   wpAny (model X.prog X.w) X.A (comprehension e scope X.env cpos newAcc false (eval iter X.env)) (EP X pins σ Q) X.xe s:=by
 intro pins s σ H Q I h;obtain⟨cl,hclos,h1,h2⟩:=qHv (scope:=scope) (env:=X.env) λx hx hf=>I.ok.has x.1 (S.free x hx hf);refine wpAny_comprehension_free (use:=none) hcl hs hclos S.kind S.names (thn (hi pins s σ H _ I h) λv s1 q1=>thn q1 λitv s2 q2=>?_);refine qK9 (R:=λacc C=>compPost (model X.prog X.w) X.A X.xe none (EP X pins σ Q) acc C) hc S h1 h2 hacc (hC cl) (hg cl) (ht cl) (hb cl) q2 (λl C s' H' I' fC hm q=>?_) (λacc C f s' z=>z);obtain⟨m,hm⟩:=hm;refine⟨m,hm,λh' sb=>⟨.ref l,H',I'.turned (t':=s'.toks) (λb o hb e=>(sb.2 b hb).trans e) fC.1 fC.2.1 fC.2.2.2.1 fC.2.2.2.2.1 fC.2.2.2.2.2,rfl,q⟩⟩
theorem qMo{i:Nat}{x:Str}{px:Pos}(hc:X.calm=true)(S:CompScope X own cap scope)(hcl:clausesOf e=⟨tg,iter,ifs,0⟩::gs)(hi:PI X tg iter wi)(hacc:qKs X newAcc o)(hC:∀cl s H ex l,ClauseAt (qAm X own cap scope cl s H ex) e 0 (.ref l) tg iter ifs (behOf (.ref l) (qAm X own cap scope cl s H ex).env))(hg:∀cl s H ex,PG (qAm X own cap scope cl s H ex) tg g)(ht:∀cl s H ex,PTs (qAm X own cap scope cl s H ex) ifs tts)(hb:∀cl s H ex l,PB (qAm X own cap scope cl s H ex) (behOf (.ref l) (qAm X own cap scope cl s H ex).env) (Bof l))(hs:∀x,foldedSetIterable iter X.env x=pure x)(hN:X.N.Nodup)(hix:X.N[i]? = some x)(hx:Loc X.env.scope x)(hf:X.fn x=true\/X.env.scope.names.lookup x=some .local):∀(pins:List (Addr×Obj)) (s:Shared) (σ : St) (H:Hp) (D:Ends),Inv X pins σ H s->tComp own cap o wi g tts Bof σ H (λv H1=>D.nx (σ.set i (some v)) H1) ->
   wpAny (model X.prog X.w) X.A (comprehension e scope X.env cpos newAcc false (eval iter X.env) (some (assign (.Name x px) X.env))) (λ_ s'=>SP X pins D .next s') X.xe s:=by
 intro pins s σ H D I h;obtain⟨cl,hclos,h1,h2⟩:=qHv (scope:=scope) (env:=X.env) λx hx hf=>I.ok.has x.1 (S.free x hx hf);refine wpAny_comprehension_free (use:=some (assign (.Name x px) X.env)) hcl hs hclos S.kind S.names (thn (hi pins s σ H _ I h) λv s1 q1=>thn q1 λitv s2 q2=>?_);refine qK9 (R:=λacc C=>compPost (model X.prog X.w) X.A X.xe (some (assign (.Name x px) X.env)) (λ_ s'=>SP X pins D .next s') acc C) hc S h1 h2 hacc (hC cl) (hg cl) (ht cl) (hb cl) q2 (λl C s' H' I' fC hm q=>?_) (λacc C f s' z=>z);obtain⟨m,hm⟩:=hm;show wpAny (model X.prog X.w) X.A (assign (.Name x px) X.env (.ref l)) _ X.xe s';refine wpAny_assign_Name (qJ4 (v :=.ref l) I' hN hix hx rfl (λs'' I'' hq_=>?_) hf);obtain⟨a,sa,ha⟩:=hq_
 have hCa:C≠a:=by
  rcases ha with z | z
  ·rw [z];exact fC.2.1
  ·exact cS (fC.2.2.2.2.1 x a z)
 refine⟨m,hm.sameBut sa hCa,λh' sb=>⟨_,H',I''.turned (t':=s''.toks) (λb o hb e=>(sb.2 b hb).trans e) fC.1 fC.2.1 fC.2.2.2.1 fC.2.2.2.2.1 fC.2.2.2.2.2,q⟩⟩
end
def eApp(te:TE)(l:Addr):TB:=λσ H Q=>te σ H λv H1 => ∃vs,H1 l=some (.lst vs)/\vs.length<sizeLine/\Q σ (upd H1 l (.lst (vs ++ [v])))
def qGv(elt:Expr)(acc:Value)(env:Env):Sem Unit:=do let _ <-call (.builtin "list.append") [acc,<-eval elt env]
theorem qL9{X:Cx}{elt:Expr}{te:TE}{l:Addr}(he:PE X elt te):PB X (qGv elt (.ref l) X.env) (eApp te l):=by
 intro pins s σ H Q I h;refine aA (thn (he pins s σ H _ I h) λv s1 hq_=>?_);obtain⟨x,H1,I1,r1,vs,e,hz,q⟩:=hq_;refine aA (thn (qBl pins s1 σ H1 (.ref l) [x] (.ref l) [v] (λ_ H2=>Q σ H2) I1 rfl (.cons r1 .nil) ⟨l,vs,x,rfl,rfl,e,hz,q⟩) λu s2 hq_=>?_);obtain⟨z,H2,I2,_,q2⟩:=hq_;exact aC ⟨σ,H2,I2,q2⟩
theorem qGr{X:Cx}{elt tg iter:Expr}{ifs:List Expr}{scope:Scope}{pos:Pos}{acc:Value}:ClauseAt X (.ListComp elt [⟨tg,iter,ifs,0⟩] scope pos) 0 acc tg iter ifs (qGv elt acc X.env) where
 quiet:=λ_=>rfl
 under:=λ_=>rfl
 den:=λ_=>rfl
 turn:=λ_=>rfl
 start:=λit R s h0 h=>codeAny_compStart_list h0 (dE h (λ_ _ z=>z) λ_ _ z=>z.elim)
theorem Inv.turnLaid{X:Cx}{pins:List (Addr×Obj)}{σ : St}{H:Hp}{s:Shared}{h':Heap}{t':Nat}{ch:List Addr}{p:Addr}{o:HO}(I:Inv X pins σ H s)(k:∀b u,b∉ch->s.heap.get? b=some u->h'.get? b=some u)(hth:∀b∈ch,∃u,h'.get? b=some u)(hf:∀b∈ch,FpOk X pins H b)(hp:s.heap.objs.size<=p)(new:ObjOk X.prog X.w (upd H p o) h' p o):Inv X pins σ (upd H p o) { s with heap:=h',toks:=t' }:=by
 have hn:H p=none:=I.hok.fresh hp;have nch:∀b u,H b=some u->b∉ch:=λb u e hb=>by rw [(hf b hb).1] at e;cases e
 refine I.step (g':=s.gens) (d':=s.drawn) (ch:=ch) (λb hb=>?_) (λb u _ _ hc e _=>k b u hc e) (λb u _ _ hc e _=>⟨u.slots,k b u hc e⟩) (λb u _ e n=>?_)
  (λb u hc e=>⟨u,k b u hc e⟩) (λb xs e=>?_) (λb ob xs e=>?_) (λb ps e=>?_) (λm hm=>?_) (λb u e=>?_) I.bare
 ·obtain⟨_,a1,_,a3,a4,a5⟩:=hf b hb;exact⟨a3,a1,a4,a5⟩
 ·rw [qA4 (bB (bI (aX e) hp))];exact n
 ·rw [qA4 (qA2 e hn)];exact e
 ·rw [qA4 (qA2 e hn)];exact e
 ·exact⟨#[],by rw [qA4 (qA2 e hn),e];simp⟩
 ·obtain⟨ob,es,ep,ho,r⟩:=hm;exact⟨ob,es,ep,k _ ob (λhb=>(hf _ hb).2.1 rfl) ho,r⟩
 ·by_cases hb:b=p
  ·subst hb;rw [qA1] at e;cases e;exact new
  ·rw [qA4 hb] at e;refine (I.hok b u e).stay (λc v hc q=>k c v ?_ q) (λc q=>by rw [qA4 (qA2 q hn)];exact q) λc xs q=>by rw [qA4 (qA2 q hn)];exact q
   rcases hc with z | z
   ·rw [z];exact nch b u e
   ·exact nch c _ z
def Ite(K:PySem.W.Frag)(a:Addr):It:=⟨λi H => ∃xs x,SqL K H a xs/\xs[i]? = some x,λi H x H' => ∃p y,x = .ref p/\H p=none/\(∀ys,SqL K H a ys->ys[i]? = some y)/\H'=upd H p (.tup [.int (i:Int),y]),λi H => ∃xs,SqL K H a xs/\xs.length<=i⟩
theorem qO7{P:Program}{w:World}{K:PySem.W.Frag}{elts:List Expr}{k:Nat}{pos:Pos}(a e it:Addr)(hne:e≠it):Turn P w K (.Tuple elts k pos) (Ite K a) [e,it] e (λi h=>(∃old,IsEnum h e it (i:Nat) old)/\h.IsListIter it a i) where
 mem:=by simp
 obj:=λi h st b hb=>by
  obtain⟨⟨old,he⟩,⟨o,h1,h2,h3⟩⟩:=st;rcases aT.mp hb with z | z
  ·subst z
   exact⟨_,he,λv z=>by
    have z':Data.fields _=Data.cell v:=z
    cases z'⟩
  ·have z:b=it:=by simpa using z
   subst z;exact⟨o,h1,λv z=>by rw [h3] at z;cases z⟩
 keep:=λi h h' st kk=>by
  obtain⟨⟨old,he⟩,hi⟩:=st;exact⟨⟨old,kk e (by simp) _ he⟩,hi.at λo q=>kk it (by simp) o q⟩
 item:=by
  intro X hP hw hK hc i pins s σ H E I hf st hg;subst hP hw hK;obtain⟨xs,x,hq,hx⟩:=hg;obtain⟨⟨old,he⟩,hi⟩:=st;obtain⟨its,rv,p,hz⟩:=I.list hq;obtain⟨u,hu,ru⟩:=rv.get hx;refine wpAny_pyNext_enum_item he hi p.isList (x:=u) (by simpa using hu) hne λh1 heo hi1 ht hsz hk=>?_;refine⟨_,rfl,wpAny_letOwnedTupleGo_enum heo λh2 he2 hs2=>?_⟩;have helt:e<s.heap.objs.size:=aX he;have hs2':Heap.SameBut e h1 h2:=hs2;have I1:Inv X pins σ (upd H s.heap.objs.size (.tup [.int (i:Int),x])) { s with heap:=h2,toks:=s.toks+1 }:=by
   refine I.turnLaid (ch :=[e,it]) (λb o hb q=>?_) (λb hb=>?_) hf (aE _) ?_
   ·have h1':b≠e:=λz=>hb (by simp [z]);have h2':b≠it:=λz=>hb (by simp [z]);exact (hs2'.2 b h1').trans (hk b o h1' h2' q)
   ·rcases aT.mp hb with z | z
    ·subst z;exact⟨_,he2⟩
    ·have z:b=it:=by simpa using z
     subst z;obtain⟨o,q,_⟩:=hi1;exact⟨o,(hs2'.2 _ (cS hne)).trans q⟩
   ·refine⟨by show 2<=sizeLine;decide,[.int (i:Int) s.toks,u],.cons ⟨_,rfl⟩ (.cons ru .nil),⟨_,(hs2'.2 _ (hZ helt)).trans ht,rfl,_,rfl⟩⟩
  refine⟨.ref s.heap.objs.size,_,I1,rfl,⟨s.heap.objs.size,x,rfl,I.fresh,λys hy=>by rw [I.list_inj hy hq];exact hx,rfl⟩,⟨⟨_,by
   have:((i+1:Nat):Int)=(i:Int)+1:=by lia
   rw [this];exact he2⟩,hi1.extBut hs2'.extBut (cS hne)⟩,λb hb=>?_⟩
  have hlt:b<s.heap.objs.size:=by
   rcases aT.mp hb with z | z
   ·rw [z];exact helt
   ·have z:b=it:=by simpa using z
    rw [z];obtain⟨o,q,_⟩:=hi;exact aX q
  rw [qA4 (bB hlt)];exact (hf b hb).1
 done:=by
  intro X hP hw hK hc i pins s σ H E I hf st hg;subst hP hw hK;obtain⟨xs,hq,hx⟩:=hg;obtain⟨⟨old,he⟩,hi⟩:=st;obtain⟨its,rv,p,hz⟩:=I.list hq;obtain⟨f0,f1,f2,f3,f4,f5⟩:=hf it (by simp);have hl:=rv.length;exact wpAny_pyNext_enum_end (I.ok.hd hc) he hi p.isList (by simp;lia) λh' eb=>⟨rfl,I.turned (t':=s.toks) (λb o hb q=>eb b o hb q) f0 f1 f3 f4 f5⟩
 self:=λ_ _ _ _ _ st h=>by
  obtain⟨⟨old,he⟩,_⟩:=st;exact wpAny_pyIter_enum he h
section
variable{X:Cx}{elts:List Expr}{k:Nat}{tpos:Pos}
def iEnum(K:PySem.W.Frag)(ta:TA):TI:=λσ H R=>ta σ H λvs H1 => ∃a,vs = [.ref a]/\(∃xs,SqL K H1 a xs)/\R (Ite K a) H1
theorem qL8{a:Expr}{ta:TA}{p pos:Pos}(hg:Gl X "enumerate")(hm:X.mg "enumerate" = none)(ha:PA X [a] ta)(hs:starEach [a] X.env = [(false,eval a X.env)]:=by rfl):PI X (.Tuple elts k tpos) (.Call (.Name "enumerate" p) [a] [] pos) (iEnum X.K ta):=by
 intro pins s σ H R I h;refine Call_ (qJx I hg hm boot_enumerate (gL (thn (ha pos pins s σ H _ I h) λus s1 hq_=>?_) hs rfl));obtain⟨vs,H1,I1,r1,q1⟩:=hq_;obtain⟨l,e,⟨xs,hq⟩,q⟩:=q1;subst e;obtain⟨u,rfl,ru⟩:=vals1 r1;cases ru;obtain⟨its,rv,pl,hz⟩:=I1.list hq;refine call_enumerate_list pl.isList λh' he hi hsz hk=>?_;refine wpAny_pyIter_enum he ?_;have I2:Inv X pins σ H1 { s1 with heap:=h' }:=I1.kept (t':=s1.toks) hk;refine⟨s1.heap.objs.size+1,[s1.heap.objs.size+1,s1.heap.objs.size],_,_,H1,rfl,I2,qO7 l (s1.heap.objs.size+1) s1.heap.objs.size (hZ (fK _)),⟨⟨_,he⟩,hi⟩,λb hb=>?_,q⟩;have hge:s1.heap.objs.size<=b:=by
  rcases aT.mp hb with z | z
  ·rw [z];exact cM _
  ·have z:b=s1.heap.objs.size:=by simpa using z
   rw [z];exact aE _
 exact I1.fpOk hge (I1.hok.fresh hge)
end
section
variable{X:Cx}{elt tg iter tg2 iter2:Expr}{ifs ifs2:List Expr}{scope:Scope}{own:List Str}{cap:List Nat}{wi wi2:TI}{g g2:TG}{tts tts2:List TT}{te:TE}{pos:Pos}
theorem qCl(own:List Str)(cap:List Nat)(hc:X.calm=true)(S:CompScope X own cap scope)(hi:PI X tg iter wi)(hg:∀cl s H ex,PG (qAm X own cap scope cl s H ex) tg g)(ht:∀cl s H ex,PTs (qAm X own cap scope cl s H ex) ifs tts)(he:∀cl s H ex,PE (qAm X own cap scope cl s H ex) elt te)(hs:∀x,foldedSetIterable iter X.env x=pure x:=by intro _;rfl):PE X (.ListComp elt [⟨tg,iter,ifs,0⟩] scope pos) (tComp own cap (.lst []) wi g tts (eApp te)):=by
 intro pins s σ H Q I h;exact qMn (behOf:=qGv elt) hc S rfl hi qJ2 (λ_ _ _ _ _=>qGr) hg ht (λcl s H ex l=>qL9 (he cl s H ex)) hs pins s σ H Q I h
theorem qRv{i:Nat}{x:Str}{px spos:Pos}(own:List Str)(cap:List Nat)(hc:X.calm=true)(S:CompScope X own cap scope)(hN:X.N.Nodup)(hix:X.N[i]? = some x)(hx:Loc X.env.scope x)(hi:PI X tg iter wi)(hg:∀cl s H ex,PG (qAm X own cap scope cl s H ex) tg g)(ht:∀cl s H ex,PTs (qAm X own cap scope cl s H ex) ifs tts)(he:∀cl s H ex,PE (qAm X own cap scope cl s H ex) elt te)(hsw:swapsWith (.ListComp elt [⟨tg,iter,ifs,0⟩] scope pos) (some (.Name x px)) spos.line X.env=pure true:=by rfl)(hs:∀x,foldedSetIterable iter X.env x=pure x:=by intro _;rfl)(hf:X.fn x=true\/X.env.scope.names.lookup x=some .local:=by first | exact .inl rfl | exact .inr rfl | assumption):PS X (.Assign [.Name x px] (.ListComp elt [⟨tg,iter,ifs,0⟩] scope pos) spos) (tAsg (tComp own cap (.lst []) wi g tts (eApp te)) (gName i)):=by
 intro pins s σ H D I h;rw [exec_Assign_Name_used _ _ _ _ hsw];refine aA (eO (aA ?_));show wpAny _ X.A (do let _ <-comprehension (.ListComp elt [⟨tg,iter,ifs,0⟩] scope pos) scope X.env _ (newList []) false (eval iter X.env) (some (assign (.Name x px) X.env))) _ _ s;refine aA (thn (qMo (behOf:=qGv elt) hc S rfl hi qJ2 (λ_ _ _ _ _=>qGr) hg ht (λcl s H ex l=>qL9 (he cl s H ex)) hs hN hix hx hf pins s σ H D I h) λ_ s' hq=>?_);exact aC (aC hq)
def qIy(e iter2:Expr)(d:Nat)(acc:Value)(env:Env):Sem Unit:=do
 let x <-eval iter2 env
 standAt iter2.pos
 let x <-foldedSetIterable iter2 env x
 let _ <-runOwn (.compStart e d (<-holding [x] (pyIter x)) acc env) env
def bNext(wi2:TI)(g2:TG)(tts2:List TT)(B:TB):TB:=λσ H Q=>wi2 σ H λJ H1=>LoopT J g2 (tAll tts2) B σ H1 Q
theorem qUo{e:Expr}{d:Nat}{acc:Value}{beh:Sem Unit}{B:TB}(hxe:X.xe=λ_ _=>False)(hc:X.calm=true)(C:ClauseAt X e d acc tg2 iter2 ifs2 beh)(hi:PI X tg2 iter2 wi2)(hg:PG X tg2 g2)(ht:PTs X ifs2 tts2)(hb:PB X beh B)(hs:∀x,foldedSetIterable iter2 X.env x=pure x):PB X (qIy e iter2 d acc X.env) (bNext wi2 g2 tts2 B):=by
 intro pins s σ H Q I h;refine aA (thn (hi pins s σ H _ I h) λv s1 q1=>aA (eO (aA (wpAny_of_eq (hs v) (aA (bT (thn q1 λitv s2 q2=>?_)))))));obtain⟨it,fp,tn,J,H2,rfl,I2,T,st2,f2,q⟩:=q2;have L:=qK8 hxe hc C T hg ht hb I2 st2 f2 q;refine aA (wpAny_runOwn ?_);refine iA (C.start (.ref it) (CompR X pins Q) s2 L (T.self _ 0 _ _ _ st2 L)) λr s' hr=>?_;cases r with
 | error x=>exact (show False from hr).elim
 | ok f=>exact aC hr
theorem qH2{elt:Expr}{gens:List Comprehension}{scope:Scope}{pos:Pos}{acc:Value}{d:Nat}{tg iter:Expr}{ifs:List Expr}(hd:gens[d]? = some ⟨tg,iter,ifs,0⟩)(it:Value)(R:Result->Shared->Prop)(s:Shared)(h0:codeAny (model X.prog X.w) X.A (.compLoop (.ListComp elt gens scope pos) d it acc X.env) R s)(h:wpAny (model X.prog X.w) X.A (pyIter it) (λit' s'=>codeAny (model X.prog X.w) X.A (.compLoop (.ListComp elt gens scope pos) d it' acc X.env) R s') (λ_ _=>False) s):codeAny (model X.prog X.w) X.A (.compStart (.ListComp elt gens scope pos) d it acc X.env) R s:=by
 refine codeAny_of_tree ?_;show wpAny _ X.A ((compStart (.ListComp elt gens scope pos) d it acc X.env).onRaise (λx=>do noteFrame x X.env;standAt theWindowsPlace)) _ _ s;refine wpAny_notedAt ?_;unfold compStart;have e1:(clausesOf (.ListComp elt gens scope pos))[d]? = some ⟨tg,iter,ifs,0⟩:=hd;rw [e1];show wpAny _ _ (ask >>= _) _ _ s;refine aA (dY (wpAny_ite ?_));have h':wpAny (model X.prog X.w) X.A (pyIter it) (λit' s'=>codeAny (model X.prog X.w) X.A (.compLoop (.ListComp elt gens scope pos) d it' acc X.env) R s') (notedBy (model X.prog X.w) X.A X.env λx s'=>R (.error x) s') s:=dE h (λ_ _ z=>z) λ_ _ z=>z.elim;split
 ·first
   | exact aA (aC (aC (And.intro rfl h0)))
   | exact aC (And.intro rfl h0)
 ·first
   | exact aA (dA (aA (eO (aA (dE h' (λit' s' h'=>aC (And.intro rfl h')) λ_ _ x=>x)))))
   | (refine aA (dA ?_);show wpAny _ _ (standAt iter.pos >>= _) _ _ s;exact aA (eO (aA (dE h' (λit' s' h'=>aC (And.intro rfl h')) λ_ _ x=>x))))
theorem qIt{acc:Value}:ClauseAt X (.ListComp elt [⟨tg,iter,ifs,0⟩,⟨tg2,iter2,ifs2,0⟩] scope pos) 0 acc tg iter ifs (qIy (.ListComp elt [⟨tg,iter,ifs,0⟩,⟨tg2,iter2,ifs2,0⟩] scope pos) iter2 1 acc X.env) where
 quiet:=λ_=>rfl
 under:=λ_=>rfl
 den:=λ_=>rfl
 turn:=λit=>by
  have e:compTurn (.ListComp elt [⟨tg,iter,ifs,0⟩,⟨tg2,iter2,ifs2,0⟩] scope pos) 0 it acc X.env=(do
   standAt iter.pos
   match <-pyNext it with
   | none=>pure (.done .next)
   | some v =>
    letOwnedTupleGo tg it v
    assign tg X.env v
    let ok <-qEl ifs X.env true
    if ok then
     let x <-eval iter2 X.env
     standAt iter2.pos
     let x <-foldedSetIterable iter2 X.env x
     let _ <-runOwn (.compStart (.ListComp elt [⟨tg,iter,ifs,0⟩,⟨tg2,iter2,ifs2,0⟩] scope pos) 1 (<-holding [x] (pyIter x)) acc X.env) X.env
    again (.compLoop (.ListComp elt [⟨tg,iter,ifs,0⟩,⟨tg2,iter2,ifs2,0⟩] scope pos) 0 it acc X.env)):=rfl
  rw [e];unfold qIy;simp only [bind_assoc,pure_bind]
  first
   | done
   | rfl
   | (congr 1;funext _;congr 1;funext r;cases r <;> rfl)
 start:=λit R s=>qH2 rfl it R s
theorem qIs{acc:Value}:ClauseAt X (.ListComp elt [⟨tg,iter,ifs,0⟩,⟨tg2,iter2,ifs2,0⟩] scope pos) 1 acc tg2 iter2 ifs2 (qGv elt acc X.env) where
 quiet:=λ_=>rfl
 under:=λ_=>rfl
 den:=λ_=>rfl
 turn:=λ_=>rfl
 start:=λit R s=>qH2 rfl it R s
end
end L2
namespace Srt
open PySem PySem.W PyProof.Rows
section
variable(lt:Nat->Nat->Bool)
structure Ord:Prop where
 asym:∀a b,lt a b=true->lt b a=false
 trans:∀a b c,lt b a=false->lt c b=false->lt c a=false
abbrev at'(p:Array Nat)(i:Nat):Nat:=p.getD i 0
end
variable{lt:Nat->Nat->Bool}
theorem Ord.irr(O:Ord lt)(a:Nat):lt a a=false:=by
 cases h:lt a a with
 | false=>rfl
 | true=>rw [<-h];exact (O.asym a a h)
theorem at_eq{p q:Array Nat}{i j:Nat}(h:p[i]? = q[j]?):at' p i=at' q j:=by
 unfold at';rw [bZ,bZ,h]
theorem at_rev{p:Array Nat}{i j:Nat}(hj:j<=p.size)(k:Nat):at' (kas_rev p i j) k=if i<=k/\k<j then at' p (i+j - 1 - k) else at' p k:=by
 have h:=getElem?_mirror_all (i:=i) hj k;by_cases c:i<=k/\k<j
 ·rw [if_pos c] at h ⊢;exact at_eq h
 ·rw [if_neg c] at h ⊢;exact at_eq h
theorem at_bub{p:Array Nat}{k l:Nat}(hk:k<p.size)(hl:l<=k)(i:Nat):at' (bubble p k (k - l)) i=if i=l then at' p k else if l<i/\i<=k then at' p (i - 1) else at' p i:=by
 have h:=getElem?_bubble hk (k - l) (by lia) i;have e:k - (k - l)=l:=by lia
 rw [e] at h;by_cases c:i=l
 ·rw [if_pos c] at h ⊢;exact at_eq h
 ·rw [if_neg c] at h ⊢;by_cases d:l<i/\i<=k
  ·rw [if_pos d] at h ⊢;exact at_eq h
  ·rw [if_neg d] at h ⊢;exact at_eq h
end Srt
namespace L2
open PySem PySem.Spec PyProof.Rows
section
variable{X:Cx}
def qWy(K:PySem.W.Frag):List V->Hp->VK->Prop:=λxs H Q => ∃(a:Addr) (ns:List Int),xs = [.ref a]/\SqL K H a (ns.map V.int)/\ns.length<64 /\ ∀(l:Addr) (ns':List Int),H l=none->ns'.Perm ns->ns'.Pairwise (· <= ·)->Q (.ref l) (upd H l (.lst (ns'.map V.int)))
theorem qNw:CallR X (.builtin "sorted") (qWy X.K):=by
 intro pins s σ H xs us Q I r h;obtain⟨a,ns,rfl,hq,hz,q⟩:=h;obtain⟨u,rfl,ru⟩:=vals1 r;cases ru;obtain⟨its,rv,pl,_⟩:=I.list hq;have hl:=rv.length;rw [aB] at hl;refine sorted_ints pl.isList (qCn rv) (by lia) λout ns' a1 a2 a3=>?_;obtain⟨e,he⟩:=sortedAll_at s.heap its out;have hlen:=a2.length_eq;have hn:H (s.heap.objs.size+1)=none:=I.hok.fresh (cM _);have rv':Vals (ns'.map V.int) out.toList:=qFz a1;refine⟨.ref (s.heap.objs.size+1),_,I.laid (t':=s.toks) (o :=.lst (ns'.map V.int)) (λb u e=>sortedAll_old e) (cM _) ⟨?_,out.toList,e,rv',by simpa using he⟩,rfl,q _ ns' hn a2 a3⟩;rw [aB,fE];lia
end
end L2
namespace Srt
open PySem PySem.W PyProof.Rows
theorem qMg:∀a b:List Int,HT.lexLt a b=true->HT.lexLt b a=false
 | [],[],h=>by simp [HT.lexLt] at h
 | [],_::_,_=>rfl
 | _::_,[],h=>by simp [HT.lexLt] at h
 | x::xs,y::ys,h=>by
  rw [HT.lexLt_cons] at h ⊢;by_cases e:x=y
  ·subst e;simp only [if_true] at h ⊢;exact qMg xs ys h
  ·rw [if_neg e] at h;rw [if_neg (λz=>e z.symm)];have:x<y:=of_decide_eq_true h;exact decide_eq_false (by lia)
theorem qJu:∀a b c:List Int,HT.lexLt b a=false->HT.lexLt c b=false->HT.lexLt c a=false
 | a,[],[],h,_=>by cases a <;> first | rfl | exact h
 | [],_,_::_,_,_=>rfl
 | _,_::_,[],_,h=>by simp [HT.lexLt] at h
 | _::_,[],_::_,h,_=>by simp [HT.lexLt] at h
 | x::xs,y::ys,z::zs,h1,h2=>by
  rw [HT.lexLt_cons] at h1 h2 ⊢;by_cases e1:y=x
  ·subst e1;simp only [if_true] at h1;by_cases e2:z=y
   ·subst e2;simp only [if_true] at h2 ⊢;exact qJu xs ys zs h1 h2
   ·rw [if_neg e2] at h2 ⊢;exact h2
  ·rw [if_neg e1] at h1;have g1 : ¬y<x:=of_decide_eq_false h1;by_cases e2:z=y
   ·subst e2;rw [if_neg e1];exact h1
   ·rw [if_neg e2] at h2;have g2 : ¬z<y:=of_decide_eq_false h2;rw [if_neg (by lia)];exact decide_eq_false (by lia)
theorem lex_ord(ts:List (List Int)):Ord (λi j=>HT.lexLt (ts.getD i []) (ts.getD j [])):=⟨λ_ _=>qMg _ _,λ_ _ _=>qJu _ _ _⟩
theorem katlex{prog:Program}{w:World}{A:Around}{s:Shared}{Q:Bool->Shared->Prop}{fin:Bool}:∀ {ns ms:List Int} {us ws:List Value} {i:Nat},IntsAre us ns->IntsAre ws ms->fin=decide (ns.length<ms.length)->Q (HT.lexLt ns ms) s ->
  KatLex prog w A true fin Q (us.zip ws) i s
 | [],[],_,_,_,.nil,.nil,hf,q=>by subst hf;exact q
 | [],_::_,_,_,_,.nil,.cons _ _ _,hf,q=>by subst hf;exact q
 | _::_,[],_,_,_,.cons _ _ _,.nil,hf,q=>by
  subst hf;exact q
 | n::ns,m::ms,_,_,i,.cons _ t h1,.cons _ t' h2,hf,q=>by
  rw [HT.lexLt_cons] at q;refine kat_cons (gW ?_);by_cases e:n=m
  ·subst e;rw [beq_self_eq_true];rw [if_pos rfl] at q;exact kat_yes (katlex h1 h2 (by subst hf;simp) q)
  ·rw [if_neg e] at q;have:(n == m)=false:=beq_eq_false_iff_ne.mpr e;rw [this];refine kat_no ?_;cases b:(true&&i == 0) with
   | true=>exact oneLt_int q
   | false=>exact kat_one _ _ (lt_int (show PySem.W.BoolBack Q (.bool (decide (n<m))) s from q))
def TupAt(h:Heap):List Value->List (List Int)->Prop:=Paired λu t => ∃a o xs k,u=Value.ref a/\h.get? a=some o/\o.cls = .type "tuple" /\ o.data = .seq xs k/\IntsAre xs.toList t
theorem TupAt.get{h:Heap}:∀ {us:List Value} {ts:List (List Int)} (i:Nat),TupAt h us ts->i<ts.length -> ∃a o xs k,us.getD i Value.none=Value.ref a/\h.get? a=some o/\o.data = .seq xs k/\IntsAre xs.toList (ts.getD i [])
 | _,_,_,.nil,hi=>absurd hi (by simp)
 | _,_,0,.cons ⟨a,o,xs,k,e,h1,h2,h3,h4⟩ _,_=>⟨a,o,xs,k,e,h1,h3,h4⟩
 | _::us,_::ts,i+1,.cons _ r,hi=>TupAt.get i r (by simpa using hi)
theorem TupAt.firsts{h:Heap}:∀ {us:List Value} {ts:List (List Int)},TupAt h us ts->(∀t∈ts,t ≠ []) -> ∃fs:List Value,KatTups h us fs/\fs.length=us.length /\ ∀v∈fs,∃i t,v=Value.int i t
 | _,_,.nil,_=>⟨[],trivial,rfl,λ_ h=>nomatch h⟩
 | _::us,t::ts,.cons ⟨a,o,xs,k,e,h1,h2,h3,h4⟩ r,hn=>by
  obtain⟨fs,a1,a2,a3⟩:=TupAt.firsts r λt ht=>hn t (aS _ ht);have hne:=hn t aR;obtain⟨l⟩:=xs;have h4:IntsAre l t:=h4;cases h4 with
  | nil=>exact absurd rfl hne
  | cons n tk hr =>
   subst e;refine⟨Value.int n tk::fs,KatTups.cons h1 h2 h3 rfl a1,by simp [a2],λv hv=>?_⟩;rcases aT.mp hv with z | z
   ·exact⟨n,tk,z⟩
   ·exact a3 v z
end Srt
namespace L2
open PySem PySem.Spec PyProof.Rows
def TupI(K:PySem.W.Frag)(H:Hp):List V->List (List Int)->Prop:=Paired λv t => ∃a,v = .ref a/\SqT K H a (t.map V.int)
theorem TupI.len{K:PySem.W.Frag}{H:Hp}{vs:List V}{ts:List (List Int)}(h:TupI K H vs ts):vs.length=ts.length:=cY h
section
variable{X:Cx}{pins:List (Addr×Obj)}{σ : St}{H:Hp}{s:Shared}
theorem TupI.at(I:Inv X pins σ H s):∀ {vs:List V} {us:List Value} {ts:List (List Int)},TupI X.K H vs ts->Vals vs us->Srt.TupAt s.heap us ts
 | _,_,_,.nil,.nil =>.nil
 | _,_,_,.cons ⟨a,e,hq⟩ r,.cons ru rr=>by
  subst e;cases ru;obtain⟨its,rv,⟨o,h1,h2,n,h3⟩,_⟩:=I.tuple hq;exact .cons ⟨a,o,its.toArray,n,rfl,h1,h2,h3,by simpa using qCn rv⟩ (TupI.at I r rr)
end
theorem qO5{vs:List V}{us:List Value}(r:Vals vs us)(i:Nat):RelV (vs.getD i .non) (us.getD i Value.none):=by
 cases e:vs[i]? with
 | none =>
  have e2:=r.none_of e;rw [bK,bK,e,e2];rfl
 | some x =>
  obtain⟨u,hu,ru⟩:=r.get e;rw [bK,bK,e,hu];exact ru
theorem qHz{vs:List V}{us:List Value}(r:Vals vs us):∀l:List Nat,Vals (l.map λi=>vs.getD i .non) (l.map λi=>us.getD i Value.none)
 | [] =>.nil
 | i::l =>.cons (qO5 r i) (qHz r l)
theorem qEe{α β : Type}(da : α)(db : β):∀(vs:List α) (ts:List β),vs.length=ts.length->(List.range vs.length).map (λi=>(vs.getD i da,ts.getD i db))=vs.zip ts:=by
 intro vs ts h;refine List.ext_getElem? λi=>?_;rw [aW];by_cases hi:i<vs.length
 ·have h2:i<ts.length:=by lia
  have hz:i<(vs.zip ts).length:=by rw [List.length_zip];lia
  rw [List.getElem?_range hi,aF hz,List.getElem_zip];simp [bK,hi,h2]
 ·rw [dJ (by simpa using hi),dJ (by rw [List.length_zip];lia)];rfl
section
variable{X:Cx}
def qWw(K:PySem.W.Frag):List V->Hp->VK->Prop:=λxs H Q => ∃(a:Addr) (vs:List V) (ts:List (List Int)),xs = [.ref a]/\SqL K H a vs/\TupI K H vs ts/\(∀t∈ts,t ≠ [])/\ts.length<64 /\
 ∀(l:Addr) (ps:List (V×List Int)),H l=none->ps.Perm (vs.zip ts)->(ps.map (·.2)).Pairwise (λa b=>HT.lexLt b a=false)->Q (.ref l) (upd H l (.lst (ps.map (·.1))))
theorem qHk{prog:Program}{w:World}{A:Around}{E:Value->Shared->Prop}{s:Shared}{l:Addr}{v:Value}{Q:Value->Shared->Prop}(hl:s.heap.IsList l [v].toArray)
  (h:∀h' c,(∀b o,s.heap.get? b=some o->h'.get? b=some o)->h'.get? (s.heap.objs.size+1)=some (seqObj "list" #[v] c)->Q (.ref (s.heap.objs.size+1)) { s with heap:=h' }):wpAny (model prog w) A (call (.builtin "sorted") [.ref l]) Q E s:=by
 refine fT kind_sorted plain_sorted entry_sorted (args_sorted1 _) ?_;unfold Builtin.«sorted»;refine aA (m:=checkCount "sorted" 1 1 _) (aC (aA (collect_list hl (aA (gE ?_)))));generalize hh:(s.heap.push (seqObj "list" #[] 0)).update s.heap.objs.size (Obj.mapSeq (· ++ [v].toArray))=h1;have z1:h1.objs.size=s.heap.objs.size+1:=by rw [<-hh,gY,size_push']
 have k1:∀b o,s.heap.get? b=some o->h1.get? b=some o:=λb o e=>by
  have hb:b<s.heap.objs.size:=aX e;rw [<-hh,gF _ _ _ _ (bB hb),fA _ _ _ (bB hb)];exact e
 have g2:(h1.push (seqObj "list" [v].toArray 0)).get? h1.objs.size=some (seqObj "list" [v].toArray 0):=bA _ rfl;show wpAny _ _ _ _ _ { s with heap:=h1.push (seqObj "list" [v].toArray 0) };rw [z1] at g2 ⊢;refine aA (bT (cX slot_list_sort ⟨_,g2,rfl⟩ entry_list_sort ?_ (args_list_sort _)));rw [list_sort_plain];obtain⟨e1,g3⟩:∃e1,((h1.push (seqObj "list" [v].toArray 0)).update (s.heap.objs.size+1) (Obj.mapSeq λ_ => #[])).get? (s.heap.objs.size+1)=some (seqObj "list" #[] e1):=⟨_,fF g2 λ_ => #[]⟩;refine aA (listItems_at g2 rfl (aA (listUpdate_at g2 rfl (aA (seqEpoch_at g3 rfl (aA (wpAny_newTuple (aA (gE (bT ?_)))))))))) 
 dsimp only;rw [if_pos (by simp),if_pos (by simp)];refine aA (aC ?_);rw [StateT.run_pure];refine aA (aC ?_);dsimp only;have z2:((h1.push (seqObj "list" [v].toArray 0)).update (s.heap.objs.size+1) (Obj.mapSeq λ_=>(#[]:Array Value))).objs.size=s.heap.objs.size+2:=by rw [gY,size_push',z1]
 have g4:((((h1.push (seqObj "list" [v].toArray 0)).update (s.heap.objs.size+1) (Obj.mapSeq λ_=>(#[]:Array Value))).push (seqObj "tuple" [v].toArray 0)).push (seqObj "list" #[] 0)).get? (s.heap.objs.size+1)=some (seqObj "list" #[] e1):=by
  rw [fA _ _ _ (bB (by rw [size_push',z2];exact eK (fK _))),fA _ _ _ (bB (by rw [z2];exact fK _))];exact g3
 have ha:Array.map (λx:Keyed=>x.snd) (arrOf (SortSt.mk' general' ([v].toArray.zip [v].toArray) #[] 7 none)) = #[v]:=by
  show Array.map (λx:Keyed=>x.snd) ([v].toArray.zip [v].toArray) = #[v];simp
 rw [ha];refine aA (seqEpoch_at g4 rfl (aA (listUpdate_at g4 rfl ?_ (hsz2:=by show 1<=_;decide))));simp only [bne_self_eq_false,cQ,if_false];obtain⟨c,g5⟩:∃c,(((((h1.push (seqObj "list" [v].toArray 0)).update (s.heap.objs.size+1) (Obj.mapSeq λ_=>(#[]:Array Value))).push (seqObj "tuple" [v].toArray 0)).push (seqObj "list" #[] 0)).update (s.heap.objs.size+1) (Obj.mapSeq λ_ => #[v])).get? (s.heap.objs.size+1)=some (seqObj "list" #[v] c):=⟨_,fF g4 λ_ => #[v]⟩;refine aC ⟨_,rfl,aC ⟨_,rfl,h (((((h1.push (seqObj "list" [v].toArray 0)).update (s.heap.objs.size+1) (Obj.mapSeq λ_=>(#[]:Array Value))).push (seqObj "tuple" [v].toArray 0)).push (seqObj "list" #[] 0)).update (s.heap.objs.size+1) (Obj.mapSeq λ_ => #[v])) c (λb o e=>?_) g5⟩⟩
 have hb:b<s.heap.objs.size:=aX e;have l1:b<s.heap.objs.size+1:=eK hb;rw [gF _ _ _ _ (bB l1),fA _ _ _ (bB (by rw [size_push',z2];exact eK (eK l1))),fA _ _ _ (bB (by rw [z2];exact eK l1)),gF _ _ _ _ (bB l1),fA _ _ _ (bB (by rw [z1];exact l1))];exact k1 b o e
end
theorem Same.seqT{K:PySem.W.Frag}{H H':Hp}{a:Addr}{xs:List V}(e:Same H H')(h:SqT K H a xs):SqT K H' a xs:=by
 rcases h with (h | ⟨o,h⟩) | h
 ·exact .inl (.inl (e _ _ h))
 ·exact .inl (.inr ⟨o,e _ _ h⟩)
 ·exact .inr h
mutual
def Den(K:PySem.W.Frag)(G:Hp):PyData->V->Prop
 | .none,v=>v = .non
 | .bool b,v=>v = .bl b
 | .int i,v=>v = .int i
 | .str x,v=>v = .str x
 | .list ds,v => ∃a vs,v = .ref a/\SqL K G a vs/\DenL K G ds vs
 | .tuple ds,v => ∃a vs,v = .ref a/\SqT K G a vs/\DenL K G ds vs
 | .dict _,_=>False
def DenL(K:PySem.W.Frag)(G:Hp):List PyData->List V->Prop
 | [],vs=>vs = []
 | d::ds,vs => ∃v r,vs=v::r/\Den K G d v/\DenL K G ds r
end
section
variable{K:PySem.W.Frag}{G G':Hp}
mutual
theorem Den.mono(h:Same G G'):∀ {d:PyData} {v:V},Den K G d v->Den K G' d v
 | .none,_,e=>by simp only [Den] at e ⊢;exact e
 | .bool _,_,e=>by simp only [Den] at e ⊢;exact e
 | .int _,_,e=>by simp only [Den] at e ⊢;exact e
 | .str _,_,e=>by simp only [Den] at e ⊢;exact e
 | .list ds,_,e=>by
  simp only [Den] at e ⊢;obtain⟨a,vs,e1,e2,e3⟩:=e;exact⟨a,vs,e1,h.seq e2,DenL.mono h e3⟩
 | .tuple ds,_,e=>by
  simp only [Den] at e ⊢;obtain⟨a,vs,e1,e2,e3⟩:=e;exact⟨a,vs,e1,h.seqT e2,DenL.mono h e3⟩
 | .dict _,_,e=>by simp only [Den] at e
theorem DenL.mono(h:Same G G'):∀ {ds:List PyData} {vs:List V},DenL K G ds vs->DenL K G' ds vs
 | [],_,e=>by simp only [DenL] at e ⊢;exact e
 | d::ds,_,e=>by
  simp only [DenL] at e ⊢;obtain⟨v,r,e1,e2,e3⟩:=e;exact⟨v,r,e1,Den.mono h e2,DenL.mono h e3⟩
end
theorem DenL.len:∀ {ds:List PyData} {vs:List V},DenL K G ds vs->vs.length=ds.length
 | [],_,e=>by simp only [DenL] at e;rw [e];rfl
 | d::ds,_,e=>by
  simp only [DenL] at e;obtain⟨v,r,rfl,_,e3⟩:=e;simp [DenL.len e3]
theorem DenL.nil:DenL K G [] []:=by simp only [DenL]
theorem DenL.cons{d:PyData}{ds:List PyData}{v:V}{vs:List V}(h1:Den K G d v)(h2:DenL K G ds vs):DenL K G (d::ds) (v::vs):=by
 simp only [DenL];exact⟨v,vs,rfl,h1,h2⟩
theorem DenL.append:∀ {ds es:List PyData} {vs ws:List V},DenL K G ds vs->DenL K G es ws->DenL K G (ds++es) (vs++ws)
 | [],_,_,_,e,f=>by simp only [DenL] at e;subst e;exact f
 | d::ds,_,_,_,e,f=>by
  simp only [DenL] at e;obtain⟨v,r,rfl,e2,e3⟩:=e;exact .cons e2 (DenL.append e3 f)
theorem DenL.get:∀ {ds:List PyData} {vs:List V} {i:Nat} {v:V},DenL K G ds vs->vs[i]? = some v -> ∃d,ds[i]? = some d/\Den K G d v
 | [],_,_,_,e,h=>by simp only [DenL] at e;subst e;simp at h
 | d::ds,_,0,_,e,h=>by
  simp only [DenL] at e;obtain⟨v,r,rfl,e2,e3⟩:=e;simp at h;subst h;exact⟨d,rfl,e2⟩
 | d::ds,_,i+1,_,e,h=>by
  simp only [DenL] at e;obtain⟨v,r,rfl,e2,e3⟩:=e;exact DenL.get (i:=i) e3 (by simpa using h)
theorem DenL.get':∀ {ds:List PyData} {vs:List V} {i:Nat} {d:PyData},DenL K G ds vs->ds[i]? = some d -> ∃v,vs[i]? = some v/\Den K G d v
 | [],_,_,_,e,h=>by simp at h
 | d::ds,_,0,_,e,h=>by
  simp only [DenL] at e;obtain⟨v,r,rfl,e2,e3⟩:=e;simp at h;subst h;exact⟨v,rfl,e2⟩
 | d::ds,_,i+1,_,e,h=>by
  simp only [DenL] at e;obtain⟨v,r,rfl,e2,e3⟩:=e;exact DenL.get' (i:=i) e3 (by simpa using h)
theorem Den.int{i:Int}:Den K G (.int i) (.int i):=by simp only [Den]
theorem Den.list{ds:List PyData}{a:Addr}{vs:List V}(h:SqL K G a vs)(e:DenL K G ds vs):Den K G (.list ds) (.ref a):=by simp only [Den];exact⟨a,vs,rfl,h,e⟩
theorem Den.tuple{ds:List PyData}{a:Addr}{vs:List V}(h:SqT K G a vs)(e:DenL K G ds vs):Den K G (.tuple ds) (.ref a):=by simp only [Den];exact⟨a,vs,rfl,h,e⟩
theorem Den.ofInt{i:Int}{v:V}(h:Den K G (.int i) v):v = .int i:=by simpa only [Den] using h
theorem Den.ofStr{i:Str}{v:V}(h:Den K G (.str i) v):v = .str i:=by simpa only [Den] using h
theorem Den.ofList{ds:List PyData}{v:V}(h:Den K G (.list ds) v):∃a vs,v = .ref a/\SqL K G a vs/\DenL K G ds vs:=by simpa only [Den] using h
theorem Den.ofTuple{ds:List PyData}{v:V}(h:Den K G (.tuple ds) v):∃a vs,v = .ref a/\SqT K G a vs/\DenL K G ds vs:=by simpa only [Den] using h
theorem DenL.ofCons{d:PyData}{ds:List PyData}{vs:List V}(h:DenL K G (d::ds) vs):∃v r,vs=v::r/\Den K G d v/\DenL K G ds r:=by simpa only [DenL] using h
theorem DenL.ofNil{vs:List V}(h:DenL K G [] vs):vs = []:=by simpa only [DenL] using h
theorem DenL.ints:∀ {ns:List Int} {vs:List V},DenL K G (ns.map PyData.int) vs->vs=ns.map V.int
 | [],_,e=>e.ofNil
 | n::ns,_,e=>by
  obtain⟨v,r,rfl,e2,e3⟩:=DenL.ofCons e;rw [e2.ofInt,DenL.ints e3];rfl
theorem DenL.ofInts:∀ns:List Int,DenL K G (ns.map PyData.int) (ns.map V.int)
 | [] =>.nil
 | n::ns =>.cons .int (DenL.ofInts ns)
end
section
variable{X:Cx}{pins:List (Addr×Obj)}{σ : St}{H:Hp}{s:Shared}
mutual
theorem Den.reads(I:Inv X pins σ H s):∀ {d:PyData} {v:V} {u:Value},Den X.K H d v->RelV v u -> ∃as,Reads s.heap u d as
 | .none,_,_,e,r=>by simp only [Den] at e;subst e;cases r;exact⟨_,.none⟩
 | .bool b,_,_,e,r=>by simp only [Den] at e;subst e;cases r;exact⟨_,.bool b⟩
 | .int i,_,_,e,r=>by simp only [Den] at e;subst e;obtain⟨t,rfl⟩:=r;exact⟨_,.int i t⟩
 | .str x,_,_,e,r=>by simp only [Den] at e;subst e;obtain⟨t,rfl⟩:=r;exact⟨_,.str x t⟩
 | .list ds,_,_,e,r=>by
  simp only [Den] at e;obtain⟨a,vs,rfl,e2,e3⟩:=e;cases r;obtain⟨its,rv,⟨o,n,h1,h2,h3,h4⟩,_⟩:=I.list e2;obtain⟨as,ra⟩:=DenL.reads I e3 rv;exact⟨_,.list h1 h2 h4 (by simpa using ra)⟩
 | .tuple ds,_,_,e,r=>by
  simp only [Den] at e;obtain⟨a,vs,rfl,e2,e3⟩:=e;cases r;obtain⟨its,rv,⟨o,h1,h2,n,h4⟩,_⟩:=I.tuple e2;obtain⟨as,ra⟩:=DenL.reads I e3 rv;exact⟨_,.tuple h1 h2 h4 (by simpa using ra)⟩
 | .dict _,_,_,e,_=>by simp only [Den] at e
theorem DenL.reads(I:Inv X pins σ H s):∀ {ds:List PyData} {vs:List V} {us:List Value},DenL X.K H ds vs->Vals vs us -> ∃as,ReadsAll s.heap us ds as
 | [],_,_,e,r=>by simp only [DenL] at e;subst e;cases r;exact⟨_,.nil⟩
 | d::ds,_,_,e,r=>by
  simp only [DenL] at e;obtain⟨v,vr,rfl,e2,e3⟩:=e;cases r with
  | cons r1 r2 =>
   obtain⟨as,ra⟩:=Den.reads I e2 r1;obtain⟨bs,rb⟩:=DenL.reads I e3 r2;exact⟨_,.cons ra rb⟩
end
end
mutual
theorem qHu{K:PySem.W.Frag}{G:Hp}:∀ {d:PyData} {v:V},Den K G d v->d.hasDict=false
 | .none,_,_=>by simp only [PyData.hasDict]
 | .bool _,_,_=>by simp only [PyData.hasDict]
 | .int _,_,_=>by simp only [PyData.hasDict]
 | .str _,_,_=>by simp only [PyData.hasDict]
 | .list ds,_,e=>by
  simp only [Den] at e;obtain⟨a,vs,rfl,e2,e3⟩:=e;simp only [PyData.hasDict];exact qE6 e3
 | .tuple ds,_,e=>by
  simp only [Den] at e;obtain⟨a,vs,rfl,e2,e3⟩:=e;simp only [PyData.hasDict];exact qE6 e3
 | .dict _,_,e=>by simp only [Den] at e
theorem qE6{K:PySem.W.Frag}{G:Hp}:∀ {ds:List PyData} {vs:List V},DenL K G ds vs->PyData.hasDictAll ds=false
 | [],_,_=>by simp only [PyData.hasDictAll]
 | d::ds,_,e=>by
  simp only [DenL] at e;obtain⟨v,vr,rfl,e2,e3⟩:=e;simp only [PyData.hasDictAll,qHu e2,qE6 e3,Bool.or_false]
end
section
variable{X:Cx}{k:Nat}
def rRepr(K:PySem.W.Frag):List V->Hp->VK->Prop:=λxs H Q => ∃(a:Addr) (d:PyData),xs = [.ref a]/\Den K H d (.ref a)/\d.showable=true/\d.depth<=100/\d.shown.length<=sizeLine/\Q (.str d.shown) H
theorem qKg(hr:Room k X.A):CallR X (.builtin "repr") (rRepr X.K):=by
 intro pins s σ H xs us Q I r h;obtain⟨a,d,rfl,hd,h1,h2,h3,q⟩:=h;obtain⟨u,rfl,ru⟩:=vals1 r;cases ru;obtain⟨as,ra⟩:=Den.reads I hd (show RelV (.ref a) (Value.ref a) from rfl);have hu:=hr.un;exact repr_of_reads' ra h1 (λz=>by rw [qHu hd] at z;cases z) hr.gd (by lia) (λ_ _ e=>e) (λh' u tk kk=>⟨.str d.shown,H,I.kept (t':=tk) kk,⟨_,rfl⟩,q⟩) h3
def rEqD(K:PySem.W.Frag)(neg:Bool):R2:=λx y H Q => ∃da db,Den K H da x/\Den K H db y/\SeqAt.shaped da=true/\SeqAt.shaped db=true/\Q (.bl (if neg then !PyData.eqv da db else PyData.eqv da db)) H
theorem qPd(hr:Room k X.A):OpR X (compareOp .Eq) (rEqD X.K false):=by
 intro pins s σ H x y v u Q I rx ry h;obtain⟨da,db,ha,hb,h1,h2,q⟩:=h;obtain⟨as,ra⟩:=Den.reads I ha rx;obtain⟨bs,rb⟩:=Den.reads I hb ry;exact SeqAt.compareEq_shaped ra rb h1 h2 hr.units ⟨.bl _,H,I,rfl,q⟩
theorem qM8(hr:Room k X.A):OpR X (compareOp .NotEq) (rEqD X.K true):=by
 intro pins s σ H x y v u Q I rx ry h;obtain⟨da,db,ha,hb,h1,h2,q⟩:=h;obtain⟨as,ra⟩:=Den.reads I ha rx;obtain⟨bs,rb⟩:=Den.reads I hb ry;exact SeqAt.compareNe_shaped ra rb h1 h2 hr.units ⟨.bl _,H,I,rfl,q⟩
end
mutual
theorem qMm:∀d:PyData,d.hasDict=false->PyData.eqv d d=true
 | .none,_=>by simp only [PyData.eqv]
 | .bool _,_=>by simp only [PyData.eqv,beq_self_eq_true]
 | .int _,_=>by simp only [PyData.eqv,beq_self_eq_true]
 | .str _,_=>by simp only [PyData.eqv,beq_self_eq_true]
 | .list ds,h=>by simp only [PyData.eqv];exact qE5 ds (by simpa only [PyData.hasDict] using h)
 | .tuple ds,h=>by simp only [PyData.eqv];exact qE5 ds (by simpa only [PyData.hasDict] using h)
 | .dict _,h=>by simp [PyData.hasDict] at h
theorem qE5:∀ds:List PyData,PyData.hasDictAll ds=false->PyData.eqvAll ds ds=true
 | [],_=>by simp only [PyData.eqvAll]
 | d::ds,h=>by
  simp only [PyData.hasDictAll,Bool.or_eq_false_iff] at h;simp only [PyData.eqvAll,qMm d h.1,qE5 ds h.2,eY]
end
end L2
namespace Miss
open PySem PySem.Spec PyProof.Rows
theorem qVd:typeLookup (.type "list") "keys" = pure none:=am_miss_of_fast (by decide +kernel)
theorem qYi:typeLookup (.type "list") "__getattr__" = pure none:=am_miss_of_fast (by decide +kernel)
section
variable{prog:Program}{w:World}{A:Around}{E:Value->Shared->Prop}{a:Addr}{its:Array Value}{n:Nat}
theorem entry{u:Tok}:Meets (Builtin.«object.__getattribute__» ⟨[.ref a,.str "keys" u],[]⟩) (λA R s=>s.heap.get? a=some { cls :=.type "list",dict:=none,data :=.seq its n,slots := #[] }/\raisesAttr (.ref a) "keys" A R s) :=
 Meets.of_wp λprog w A R s hs=>by
  obtain⟨hp,g,d,tk,os⟩:=s;obtain⟨hx,hs⟩:=hs;have hT:(⟨hp,g,d,tk,os⟩:Shared).TypeIs (.ref a) "list" :=⟨_,hx,rfl⟩;have f4:=qVd;unfold Builtin.«object.__getattribute__»
  repeat (any_goals (first | assumption | wp_step))
  exact wpAny_raiseAttrError hs.1 hs.2 (attrMsg_fits (by decide +kernel) (by rw [fE];decide +kernel))
theorem no_keys{s:Shared}{Q:Option Value->Shared->Prop}(hA:A.handled=none)(hx:s.heap.get? a=some { cls :=.type "list",dict:=none,data :=.seq its n,slots := #[] })
  (h:∀h' tk,(∀b o,s.heap.get? b=some o->h'.get? b=some o)->Q none { s with heap:=h',toks:=tk }):wpAny (model prog w) A (getAttr? (.ref a) "keys") Q E s:=by
 obtain⟨hp,g,d,tk,os⟩:=s;have hT:∀tk,(⟨hp,g,d,tk,os⟩:Shared).TypeIs (.ref a) "list" :=λ_=>⟨_,hx,rfl⟩;have f1:=sub_AttributeError;have f3:=iB.lookup;have f4:=iB.bind (.ref a);have f5:=qYi;unfold getAttr? getAttrBy? getAttrBy
 repeat (any_goals (first | assumption | ((with_reducible show wpAny _ _ (call (Value.builtin "list.__getattribute__") _ _) _ _ _);refine call_meets iB (hT _) F.entry_list_ga (F.args_list_getattribute_2 _ _) (entry (its:=its) (n:=n)) ⟨hx,hA,λh' tk' e x=>?_⟩) | wp_step))
 obtain⟨t',u',he⟩:=x.there;show wpAny _ _ (getattributeRaised _ _ (Value.type "list") _ _ _ _) _ _ _;unfold getattributeRaised
 repeat (any_goals (first | assumption | wp_step))
 exact h _ _ x.keeps
theorem entry_loop:entryFor table "dict.update.loop" = some Builtin.«dict.update.loop» :=entryFor_of_tree (by kernel_rfl)
theorem plain_loop:plainId "dict.update.loop" = true:=by decide +kernel
end
end Miss
namespace L2
open PySem PySem.Spec PyProof.Rows
def ePut(tk tv:TE)(l:Addr):TB:=λσ H Q=>tk σ H λx H1=>tv σ H1 λy H2 => ∃kvs k,x=kV k/\H2 l=some (.dK kvs)/\kvs.length<sizeLine/\Q σ (upd H2 l (.dK (putK kvs k y)))
def Itd(d:Addr)(o:Obj)(kvs:List (Key×V)):It:=⟨λi H=>H d=some (.frz o (.dK kvs))/\i<kvs.length,λi H x H'=>H'=H /\ ∃k v,kvs[i]? = some (k,v)/\x=kV k,λi H=>H d=some (.frz o (.dK kvs))/\kvs.length<=i⟩
theorem qXn{P:Program}{w:World}{k:Key}{u:Value}(h:(qBh P w).is k u=true):RelV (kV k) u:=by
 rcases qB6 h with ⟨i,t,rfl,rfl⟩ | ⟨x,t,rfl,rfl⟩
 ·exact⟨t,rfl⟩
 ·exact⟨t,rfl⟩
theorem KV.keyAt{κ : Type}:∀ {kvs:List (κ × V)} {vs:List (κ × Value)} {i:Nat} {k : κ} {v:V},KV kvs vs->kvs[i]? = some (k,v) -> ∃x,vs[i]? = some (k,x)
 | _,_,_,_,_,.nil,e=>by simp at e
 | _,_,0,_,_,.cons (b:=b) r _,e=>by
  simp at e;subst e;obtain⟨b1,b2⟩:=b;have:_=b1:=r.1;exact⟨b2,by simp [<-this]⟩
 | _,_,i+1,k,v,.cons _ t,e=>KV.keyAt (i:=i) (v:=v) t (by simpa using e)
section
variable{P:Program}{w:World}{K:PySem.W.Frag}{tg:Expr}
theorem qQ6{H:Hp}{h:Heap}{d:Addr}{o:Obj}{kvs:List (Key×V)}{es:Array DictEntry}{ep:Nat}(ok:HOk P w H h)(e:H d=some (.frz o (.dK kvs)))(hd:o.data = .dict es ep):kvs.length<=sizeLine/\(d == sysModules)=false /\ ∃vs,KV kvs vs/\h.DictAt (qBh P w) d vs ep:=by
 obtain⟨ho,z,hs,vs,rel,o2,es2,ep2,h1,h2,h3,h4⟩:=ok d _ e;rw [ho] at h1;cases h1;rw [hd] at h3;cases h3;exact⟨z,hs,vs,rel,o,es,ho,h2,hd,h4⟩
theorem qO8(d it:Addr)(o:Obj)(kvs:List (Key×V)){es:Array DictEntry}{ep:Nat}(hd:o.data = .dict es ep):Turn P w K tg (Itd d o kvs) [it] it (λi h=>h.IsKeyIter it d i kvs.length ep) where
 mem:=by simp
 obj:=λi h st b hb=>by
  have e:b=it:=by simpa using hb
  subst e;obtain⟨ob,e,c,dd⟩:=st;exact⟨ob,e,λv z=>by rw [dd] at z;cases z⟩
 keep:=λi h h' st k=>st.at λob e=>k it (by simp) ob e
 item:=by
  intro X hP hw hK hc i pins s σ H E I hf st hg;subst hP hw hK;obtain⟨hq,hi⟩:=hg;obtain⟨z,hs,vs,rel,dd⟩:=qQ6 I.hok hq hd;obtain⟨⟨k,v⟩,hx⟩:∃p,kvs[i]? = some p:=⟨kvs[i],by simp [hi]⟩;obtain⟨x,hxv⟩:=rel.keyAt hx;obtain⟨f0,f1,f2,f3,f4,f5⟩:=hf it (by simp);have hl:=rel.length;refine wpAny_pyNext_dict_item (by rw [<-hl];exact st) dd hxv λkey h' hkey st' sb=>?_;have I1:Inv X pins σ H { s with heap:=h' }:=I.turned (t':=s.toks) (λb ob hb e=>(sb.2 b hb).trans e) f0 f1 f3 f4 f5;obtain⟨ob,e,c,d2⟩:=id st';exact⟨key,rfl,qSq (s :={ s with heap:=h' }) e c d2 (by decide) ⟨kV k,H,I1,qXn hkey,⟨rfl,k,v,hx,rfl⟩,by rw [<-hl] at st';exact st',λb hb=>(hf b hb).1⟩⟩
 done:=by
  intro X hP hw hK hc i pins s σ H E I hf st hg;subst hP hw hK;obtain⟨hq,hi⟩:=hg;obtain⟨z,hs,vs,rel,dd⟩:=qQ6 I.hok hq hd;obtain⟨f0,f1,f2,f3,f4,f5⟩:=hf it (by simp);have hl:=rel.length;exact wpAny_pyNext_dict_end (I.ok.hd hc) (by rw [<-hl];exact st) dd (by simp;lia) λh' eb=>⟨rfl,I.turned (t':=s.toks) (λb ob hb e=>eb b ob hb e) f0 f1 f3 f4 f5⟩
 self:=λ_ _ _ _ _ st h=>wpAny_pyIter_keyiter st h
end
theorem Inv.freeze{X:Cx}{pins:List (Addr×Obj)}{σ : St}{H:Hp}{s:Shared}{d:Addr}{o:Obj}{u:HO}(I:Inv X pins σ H s)(e:H d=some u)(mu:Mut (some u))(ho:s.heap.get? d=some o)(hu:∀H':Hp,ObjOk X.prog X.w H' s.heap d u):Inv X pins σ (upd H d (.frz o u)) s:=by
 have:=I.write (x:=d) (e:=d) (o :=.frz o u) (h':=s.heap) (t':=s.toks) (by rw [e];exact mu) (.inl rfl) (λb v _ q=>q) ⟨o,ho⟩ ⟨ho,hu _⟩;exact this
section
variable{X:Cx}{tg:Expr}
def iDict(td:TE):TI:=λσ H R=>td σ H λx H1 => ∃d kvs,x = .ref d/\H1 d=some (.dK kvs) /\ ∀o,R (Itd d o kvs) (upd H1 d (.frz o (.dK kvs)))
end
def PairsAt(H:Hp):List V->List (Key×V)->Prop:=Paired λv kv => ∃a,v = .ref a/\H a=some (.tup [kV kv.1,kv.2])
theorem PairsAt.mono{H H':Hp}(h:∀b xs,H b=some (.tup xs)->H' b=some (.tup xs)){vs:List V}{kvs:List (Key×V)}(p:PairsAt H vs kvs):PairsAt H' vs kvs:=Paired.mapP p λ_ _ ⟨a,e,q⟩=>⟨a,e,h _ _ q⟩
theorem qT7{X:Cx}{pins:List (Addr×Obj)}{σ : St}{l d it:Addr}(hh:X.A.handled=none):∀ {more:List (Key×V)} {items:List V} {i:Nat} {A:Around} {H:Hp} {s:Shared} {kvs:List (Key×V)} {R:Result->Shared->Prop},A.handled=none->Inv X pins σ H s->s.heap.IsListIter it l i->FpOk X pins H it ->
  H l=some (.lst items)->H d=some (.dK kvs)->l≠d->PairsAt H (items.drop i) more->kvs.length+more.length<=sizeLine->(∀s',Inv X pins σ (upd H d (.dK (qJq kvs more))) s'->R (.ok (.ret .none)) s') ->
  codeAny (model X.prog X.w) A (.builtin "dict.update.loop" ⟨[.ref d,.ref it,rawInt i,.none],[]⟩) R s
 | [],items,i,A,H,s,kvs,R,hA,I,st,hf,hl,hd,hne,hp,hz,h=>by
  refine fG Miss.entry_loop ?_;rw [dS Miss.plain_loop _];obtain⟨its,n,r,ho,_⟩:=I.lst hl;have hlen:items.length<=i:=by
   have:=cY hp;rw [cJ] at this;have e:([]:List (Key×V)).length=0:=rfl;lia
  have hl2:=r.length;show wpAny _ _ (pyNext (.ref it) >>= _) _ _ s;obtain⟨f0,f1,f2,f3,f4,f5⟩:=hf;refine aA (wpAny_pyNext_list_end (show A.in1.handled=none from hA) st (l:=l) (items:=its.toArray) ⟨_,ho,rfl,n,rfl⟩ (by simp;lia) λh' eb=>?_);have I1:Inv X pins σ H { s with heap:=h' }:=I.turned (t':=s.toks) (λb ob hb e=>eb b ob hb e) f0 f1 f3 f4 f5;have e1:upd H d (.dK (qJq kvs []))=H:=by
   funext b
   by_cases hb:b=d
   ·subst hb;rw [qA1,hd];rfl
   ·rw [qA4 hb]
  rw [e1] at h;show wpAny _ _ (Builtin.Dict.addKeywords d [] >>= _) _ _ _;exact aA (aC (aC (h _ I1)))
 | (k,w)::more,items,i,A,H,s,kvs,R,hA,I,st,hf,hl,hd,hne,hp,hz,h=>by
  refine fG Miss.entry_loop ?_;rw [dS Miss.plain_loop _];obtain⟨its,n,r,ho,_⟩:=I.lst hl;have hl2:=r.length;cases e0:items.drop i with
  | nil=>rw [e0] at hp;cases hp
  | cons v rest =>
   rw [e0] at hp;cases hp with
   | cons hv hr =>
    obtain⟨a,rfl,ha⟩:=hv;have hi:items[i]? = some (.ref a):=by rw [<-List.head?_drop,e0];rfl
    obtain⟨u,hu,ru⟩:=r.get hi;cases ru;obtain⟨f0,f1,f2,f3,f4,f5⟩:=id hf;show wpAny _ _ (pyNext (.ref it) >>= _) _ _ s;refine aA (wpAny_pyNext_list_item st (l:=l) (items:=its.toArray) ⟨_,ho,rfl,n,rfl⟩ (x :=.ref a) (by simpa using hu) λh' st' sb=>?_);have I1:Inv X pins σ H { s with heap:=h' }:=I.turned (t':=s.toks) (λb ob hb e=>(sb.2 b hb).trans e) f0 f1 f3 f4 f5;obtain⟨_,its2,rt,ob,ho2,hc2,n2,hd2⟩:=(show ObjOk X.prog X.w H h' a (.tup [kV k,w]) from I1.hok a _ ha);obtain⟨uk,uw,rfl,rk,rw'⟩:=vals2 rt;refine aA (bT (aA (wpAny_tryCatch ?_)));unfold Builtin.Dict.pairItems;refine aA (wpAny_typeOf (T := "tuple") ⟨ob,ho2,hc2⟩ ?_);rw [if_pos (by decide)];refine aA (wpAny_seqItems ho2 hd2 (aC ?_))
    show wpAny _ _ (holding [uk,uw] (dictSet d uk uw)) _ _ _;obtain⟨z,hs,vs,rel,dd⟩:=qSx I1.hok hd;have hz2:kvs.length+(more.length+1)<=sizeLine:=hz;have hl3:(putK kvs k w).length<=kvs.length+1:=qCx kvs k w;refine bT (wpAny_dictSet_pairs (qNr rk) dd (λh2 dd' sb2=>aC ?_) (by rw [<-rel.length];exact z));have he:∃q,h2.get? d=some q:=let ⟨q,_,_,hq,_⟩:=dd';⟨q,hq⟩
    have I2:Inv X pins σ (upd H d (.dK (putK kvs k w))) { s with heap:=h2,toks:=s.toks+1 }:=qIr (s :={ s with heap:=h' }) (t':=s.toks+1) I1 (by rw [hd];exact True.intro) sb2 he (qTs (by lia) hs (rel.put k rw') dd');have hitd:it≠d:=λz=>by rw [z,hd] at f0;cases f0
    have tk:∀b xs,H b=some (.tup xs)->upd H d (.dK (putK kvs k w)) b=some (.tup xs):=λb xs q=>by
     rw [qA4 (qNk q hd (by intro z;cases z))];exact q
    refine⟨plainId_quiet Miss.plain_loop _,?_⟩;have e3:(i:Int)+1=((i+1:Nat):Int):=by lia
    rw [e3];refine qT7 hh (more:=more) (items:=items) (i:=i+1) (kvs:=putK kvs k w) hA I2 (st'.extBut sb2.extBut hitd) ⟨by rw [qA4 hitd];exact f0,f1,f2,f3,f4,f5⟩ (by rw [qA4 hne];exact hl) qA1 hne ?_ (by lia) λs' I'=>h s' ?_
    ·have e4:items.drop (i+1)=rest:=by rw [<-List.tail_drop,e0];rfl
     rw [e4];exact PairsAt.mono tk hr
    ·rw [qTw] at I';exact I'
def qP1:V->List V->Hp->VK->Prop:=λx vs H Q => ∃d l kvs items more,x = .ref d/\vs = [.ref l]/\H d=some (.dK kvs)/\H l=some (.lst items)/\PairsAt H items more/\kvs.length+more.length<=sizeLine/\Q .non (upd H d (.dK (qJq kvs more)))
theorem qPn{X:Cx}(hc:X.calm=true):MtM X "dict.update" qP1:=by
 intro pins s σ H x vs v us Q I rx rv h;obtain⟨d,l,kvs,items,more,rfl,rfl,hd,hl,hp,hz,q⟩:=h;cases rx;obtain⟨u,rfl,ru⟩:=rv.one;cases ru;have hne:l≠d:=qNk hl hd (by intro z;cases z);obtain⟨z,hs,ws,rel,dd⟩:=qSx I.hok hd;obtain⟨its,n,r,ho,_⟩:=I.lst hl;have hA:=I.ok.hd hc;refine wpAny_call (codeAny_call_builtin iC.plain PySem.F.entry_dict_update (iC.check _ _ _ _ _ _ _ _ dd.typeIs (PySem.F.args_dict_update_2 _ _) ?_));unfold Builtin.«dict.update»;refine aA ?_;unfold Builtin.Dict.selfAndRest;refine aA (wpAny_notOrdered_dict dd.typeIs ?_);show wpAny _ _ (pure (d,[Value.ref l])) _ _ s;refine aC ?_;show wpAny _ _ (Builtin.Dict.updateFrom "dict.update" d (.ref l) [] .none) _ _ s
 unfold Builtin.Dict.updateFrom;refine aA (wpAny_typeOf (T := "list") ⟨_,ho,rfl⟩ ?_);rw [if_pos (by decide)];refine aA (Miss.no_keys hA ho λh' tk kp=>?_);have I1:Inv X pins σ H { s with heap:=h',toks:=tk }:=I.kept kp;show wpAny _ _ (if true=true then _ else _) _ _ _;rw [if_pos rfl];refine aA (dA ?_);refine aA (wpAny_pyIter_list (l:=l) (items:=its.toArray) ⟨_,kp _ _ ho,rfl,n,rfl⟩ ?_);have I2:Inv X pins σ H { s with heap:=h'.push { cls :=.type "list_iterator",data :=.fields #[.ref l,.int 0 0] },toks:=tk }:=I1.kept (t':=tk) λb ob e=>aH _ e;refine aC ⟨plainId_quiet Miss.plain_loop _,?_⟩;exact qT7 (i:=0) hA hA I2 ⟨_,bA _ rfl,rfl,rfl⟩ (I1.fpOk (aE _) (I1.hok.fresh (aE _))) hl hd hne hp hz λs' I'=>⟨.non,_,I',rfl,q⟩
def wo(ts:List Addr)(H:Hp):Hp:=λb=>if b∈ts then none else H b
theorem qRa{ts:List Addr}{H:Hp}{b:Addr}(h:b∈ts):wo ts H b=none:=if_pos h
theorem qD0{ts:List Addr}{H:Hp}{b:Addr}(h:b∉ts):wo ts H b=H b:=if_neg h
theorem qKt(ts:List Addr)(H:Hp):Same (wo ts H) H:=λb o e=>by
 by_cases h:b∈ts
 ·rw [qRa h] at e;cases e
 ·rw [qD0 h] at e;exact e
def Ext(ts:List Addr)(H H':Hp):Prop := ∀b o,b∉ts->H b=some o->H' b=some o
theorem Ext.refl(ts:List Addr)(H:Hp):Ext ts H H:=λ_ _ _ h=>h
theorem Ext.trans{ts:List Addr}{H H1 H2:Hp}(a:Ext ts H H1)(b:Ext ts H1 H2):Ext ts H H2:=λc o h e=>b c o h (a c o h e)
theorem Ext.same{ts:List Addr}{H H':Hp}(a:Ext ts H H'):Same (wo ts H) (wo ts H'):=λb o e=>by
 by_cases h:b∈ts
 ·rw [qRa h] at e;cases e
 ·rw [qD0 h] at e ⊢;exact a b o h e
theorem Ext.put{ts:List Addr}{H:Hp}{t:Addr}{o:HO}(h:t∈ts):Ext ts H (upd H t o):=λb u hb e=>by
 have ne:b≠t:=λz=>hb (by rw [z];exact h);rw [qA4 ne];exact e
theorem Ext.laid{ts:List Addr}{H:Hp}{l:Addr}{o:HO}(h:H l=none):Ext ts H (upd H l o):=λb u _ e=>by
 rw [qA4 (qA2 e h)];exact e
theorem Ext.mono{ts us:List Addr}{H H':Hp}(a:Ext ts H H')(h:∀b∈ts,b∈us):Ext us H H':=λb o hb e=>a b o (λz=>hb (h b z)) e
theorem Ext.drop{ts:List Addr}{l:Addr}{H H':Hp}(a:Ext (l::ts) H H')(h:H l=none):Ext ts H H':=λb o hb e=>a b o (λz=>by
 rcases aT.mp z with y | y
 ·rw [y,h] at e;cases e
 ·exact hb y) e
theorem qU7{ts us:List Addr}{H:Hp}(h:∀b∈ts,b∈us):Same (wo us H) (wo ts H):=λb o e=>by
 by_cases hb:b∈us
 ·rw [qRa hb] at e;cases e
 ·rw [qD0 hb] at e;rw [qD0 (λz=>hb (h b z))];exact e
def yo(H0:Hp)(ts:List Addr)(H:Hp):Hp:=λb=>match H0 b with
 | some _=>none
 | none=>wo ts H b
theorem qAz{H0:Hp}{ts:List Addr}{H:Hp}{b:Addr}(h0:H0 b=none)(h:b∉ts):yo H0 ts H b=H b:=by
 unfold yo;rw [h0];exact qD0 h
theorem qCr{H0:Hp}{ts:List Addr}{H:Hp}{b:Addr}{o:HO}(h:yo H0 ts H b=some o):H0 b=none/\b∉ts/\H b=some o:=by
 unfold yo at h;cases z:H0 b with
 | some _=>rw [z] at h;cases h
 | none =>
  rw [z] at h;have h:wo ts H b=some o:=h;by_cases hb:b∈ts
  ·rw [qRa hb] at h;cases h
  ·rw [qD0 hb] at h;exact⟨rfl,hb,h⟩
theorem Ext.none{ts:List Addr}{H H':Hp}{b:Addr}(a:Ext ts H H')(h:b∉ts)(e:H' b=none):H b=none:=by
 cases z:H b with
 | none=>rfl
 | some o=>rw [a _ _ h z] at e;cases e
theorem Ext.young{H0:Hp}{ts:List Addr}{H H':Hp}(a:Ext ts H H'):Same (yo H0 ts H) (yo H0 ts H'):=λb o e=>by
 obtain⟨h0,h1,h2⟩:=qCr e;rw [qAz h0 h1];exact a b o h1 h2
theorem qHy{H0:Hp}{ts us:List Addr}{H:Hp}(h:∀b∈ts,b∈us):Same (yo H0 us H) (yo H0 ts H):=λb o e=>by
 obtain⟨h0,h1,h2⟩:=qCr e;rw [qAz h0 (λz=>h1 (h b z))];exact h2
theorem yo_same{H0:Hp}{ts:List Addr}{H:Hp}:Same (yo H0 ts H) H:=λb o e=>(qCr e).2.2
theorem qR7{H0 H1:Hp}{ts us:List Addr}{H:Hp}(a:Ext ts H0 H1)(h:∀b∈ts,b∈us):Same (yo H1 us H) (yo H0 us H):=λb o e=>by
 obtain⟨h0,h1,h2⟩:=qCr e;rw [qAz (a.none (λz=>h1 (h b z)) h0) h1];exact h2
theorem qLo{H0 H1:Hp}{ts us:List Addr}{H:Hp}(h:∀b∈us,b∈ts\/H1 b≠none):Same (yo H1 ts H) (yo H1 us H):=λb o e=>by
 obtain⟨h0,h1,h2⟩:=qCr e;rw [qAz h0 (λz=>(h b z).elim h1 (λy=>y h0))];exact h2
def Tape(H:Hp)(t:Addr)(k:Nat):Prop := ∃(a b c:Int),H t=some (.lst [.int a,.int b,.int c])/\0<=a/\0<=b/\b<2^62/\0<=c/\c<=k
theorem Tape.mono{H:Hp}{t:Addr}{k j:Nat}(h:Tape H t k)(hk:k<=j):Tape H t j:=by
 obtain⟨a,b,c,h1,h2,h3,h4,h5,h6⟩:=h;exact⟨a,b,c,h1,h2,h3,h4,h5,by lia⟩
theorem Tape.ext{H H':Hp}{t:Addr}{k:Nat}{ts:List Addr}(h:Tape H t k)(e:Ext ts H H')(ht:t∉ts):Tape H' t k:=by
 obtain⟨a,b,c,h1,r⟩:=h;exact⟨a,b,c,e _ _ ht h1,r⟩
theorem Tape.ne{H:Hp}{t l:Addr}{k:Nat}(h:Tape H t k)(hl:H l=none):l≠t:=by
 obtain⟨a,b,c,h1,_⟩:=h;exact (qA2 h1 hl).symm
def qDv:Sp:=λvs H Q _ => ∃(t:Addr) (k:Nat) (n:Int),vs = [.ref t,.int n]/\Tape H t k/\k<=2^40/\0<n/\n<2^24 /\ ∀(r:Int) (H':Hp),0<=r->r<n->Tape H' t (k+1)->Ext [t] H H'->(∀b,b≠t->H' b=H b)->Q (.int r) H'
section
variable{K:PySem.W.Frag}{σ : St}{H:Hp}{Q:VK}{p:Addr}{xs:List V}{i j:Int}{v:V}{ta tb te to ti:TE}{r:R2}{t u:TS}{D:Ends}{n m:Nat}{tt t2:TT}{tl tr:TA}
theorem r_op(h:ta σ H λx H1=>tb σ H1 λy H2=>r x y H2 Q):tOp r ta tb σ H Q:=h
theorem qOv(h : σ[n]? = some (some v))(q:Q v H):tVar n σ H Q:=⟨v,h,q⟩
theorem r_c(q:Q v H):tC v σ H Q:=q
theorem r_i0{g:Int->Int->V}(q:Q (g i j) H):rI0 g (.int i) (.int j) H Q:=⟨i,j,rfl,rfl,q⟩
theorem qL6(c:(-(2^64)<i/\i<2^64)\/(-(2^64)<j/\j<2^64))(q:Q (.int (i*j)) H):rI CMul (λi j =>.int (i*j)) (.int i) (.int j) H Q:=⟨i,j,rfl,rfl,c,q⟩
theorem qNa(c1:0<=j)(c2:j<=1000000)(c3:i.natAbs<2^64)(q:Q (.int (i^j.toNat)) H):rI CPow (λi j =>.int (i^j.toNat)) (.int i) (.int j) H Q:=⟨i,j,rfl,rfl,⟨c1,c2,c3⟩,q⟩
theorem qWp(c1:0<j)(c2:j<1073741824)(q:Q (.int (i / j)) H):rI CDiv (λi j =>.int (i / j)) (.int i) (.int j) H Q:=⟨i,j,rfl,rfl,⟨c1,c2⟩,q⟩
theorem qGa(c:0<j)(q:Q (.int (i%j)) H):rI (λ_ j=>0<j) (λi j =>.int (i%j)) (.int i) (.int j) H Q:=⟨i,j,rfl,rfl,c,q⟩
theorem r_un{g:Int->V}(h:ta σ H λx H1=>rU g x H1 Q):tUn (rU g) ta σ H Q:=h
theorem r_u{g:Int->V}(q:Q (g i) H):rU g (.int i) H Q:=⟨i,rfl,q⟩
theorem qC2(h:SqL K H p xs)(e:atI xs i=some v)(q:Q v H):rIxL K (.ref p) (.int i) H Q:=⟨p,xs,i,v,rfl,rfl,h,e,q⟩
theorem qDt(h:SqT K H p xs)(e:atI xs i=some v)(q:Q v H):rIxT K (.ref p) (.int i) H Q:=⟨p,xs,i,v,rfl,rfl,h,e,q⟩
theorem qWf(h:t { D with nx:=u D } σ H):tSeq t u D σ H:=h
theorem qYf{g:TG}(h:te σ H λx H1=>g x σ H1 D.nx):tAsg te g D σ H:=h
theorem qNb{R:St->Hp->Prop}(q:R (σ.set n (some v)) H):gName n v σ H R:=q
theorem qY3(h:te σ H D.rt):tRet te D σ H:=h
theorem qOy(h:te σ H λ_ H1=>D.nx σ H1):tDrop te D σ H:=h
theorem qF8(h:D.nx σ H):tNext D σ H:=h
theorem qYm(h:tt σ H λb H1=>if b=true then t D σ H1 else u D σ H1):tIfS tt t u D σ H:=h
theorem qWd{R:Bool->Hp->Prop}(h:te σ H λx H' => ∃k,x = .bl k/\R k H'):tTest te σ H R:=h
theorem r_tB{R:Bool->Hp->Prop}(h:te σ H λx H' => ∃k,x = .bl k/\R k H'):tB te σ H R:=h
theorem qXx{b:Bool}{R:Bool->Prop}(q:R b):∃k,V.bl b = .bl k/\R k:=⟨b,rfl,q⟩
theorem qWm{ts:TSet}{R:St->Hp->Prop}(h:to σ H λo H1=>ti σ H1 λi H2=>ts o i v H2 λH3=>R σ H3):gSub to ti ts v σ H R:=h
theorem qTd{R:Hp->Prop}(h:H p=some (.lst xs))(e:ixN xs.length i=some n)(q:R (upd H p (.lst (xs.set n v)))):rSetL (.ref p) (.int i) v H R:=⟨p,xs,i,n,rfl,rfl,h,e,q⟩
theorem qRq{R:List V->Hp->Prop}(q:R [] H):tNil σ H R:=q
theorem qOz{R:List V->Hp->Prop}(h:ta σ H λx H1=>tr σ H1 λxs H2=>R (x::xs) H2):tCons ta tr σ H R:=h
theorem qY2(h:tl σ H λxs H1=>xs.length<=sizeLine /\ ∀p,H1 p=none->Q (.ref p) (upd H1 p (.tup xs))):tTup tl σ H Q:=h
theorem qY8(h:tl σ H λxs H1=>xs.length<=sizeLine /\ ∀p,H1 p=none->Q (.ref p) (upd H1 p (.lst xs))):tLst tl σ H Q:=h
theorem qWr{sp:Sp}{dvs:List V}{E:XK}(h:tl σ H λvs H1=>sp (vs++dvs) H1 Q E):tCall sp dvs E tl σ H Q:=h
theorem r_cb{rr:List V->Hp->VK->Prop}(h:tl σ H λvs H1=>rr vs H1 Q):tCB rr tl σ H Q:=h
theorem qY9(h:tt σ H λb H1=>if b=true then ta σ H1 Q else tb σ H1 Q):tIf tt ta tb σ H Q:=h
theorem qWt{R:Bool->Hp->Prop}(h:tt σ H λc H1=>if c=true then t2 σ H1 R else R false H1):tAnd tt t2 σ H R:=h
theorem r_or{R:Bool->Hp->Prop}(h:tt σ H λc H1=>if c=true then R true H1 else t2 σ H1 R):tOr tt t2 σ H R:=h
theorem qY6{R:Bool->Hp->Prop}(h:tt σ H λc H1=>R (!c) H1):tNot tt σ H R:=h
theorem qY4(h:tl σ H λvs H1 => ∃v w,vs = [v,w]/\D.nx ((σ.set n (some v)).set m (some w)) H1):tPar n m tl D σ H:=h
end
section
variable{K:PySem.W.Frag}{σ : St}{H:Hp}{Q:VK}{l t:Addr}{xs:List V}{i j n:Int}{v y:V}{k:Nat}{E:XK}
theorem qBb(hT:Tape H t k)(hk:k<=2^40)(h0:0<n)(h1:n<2^24)(q:∀r H',0<=r->r<n->Tape H' t (k+1)->Ext [t] H H'->(∀b,b≠t->H' b=H b)->Q (.int r) H'):qDv ([.ref t,.int n] ++ []) H Q E:=⟨t,k,n,rfl,hT,hk,h0,h1,q⟩
theorem qC5(q:Q (.bl (decide (i=j))) H):rEq (.int i) (.int j) H Q:=⟨rfl,by
 have e:decide (V.int i=V.int j)=decide (i=j):=by rw [dO];simp
 rw [e];exact q⟩
theorem qNc{a b:Str}(q:Q (.bl (decide (a=b))) H):rEq (.str a) (.str b) H Q:=⟨rfl,by
 have e:decide (V.str a=V.str b)=decide (a=b):=by rw [dO];simp
 rw [e];exact q⟩
theorem qDs{R:Prop}(h:H l=some (.lst xs))(q:R):tyV K "list" (.ref l) H/\R:=⟨.inl ⟨rfl,_,SqL.of h⟩,q⟩
theorem qDu(h:H l=some (.lst xs))(hz:xs.length<sizeLine)(q:Q .non (upd H l (.lst (xs ++ [y])))):qIb (.ref l) [y] H Q:=⟨l,xs,y,rfl,rfl,h,hz,q⟩
theorem bit01(b:Bool):0<=(if b=true then (1:Int) else 0)/\(if b=true then (1:Int) else 0)<=1:=by cases b <;> decide
end
theorem len2{n:Nat}(h:n<=1000):n<=sizeLine:=cA h (by decide)
theorem qBx{CX:CXT}{P:Program}{w:World}{K:PySem.W.Frag}{mg:Str->Option Value}{base:Heap}{N:List Str}{qual:Str}{scope:Scope}{f:Addr}{cd:Value}{A:Around}{outer:List Env}{s:Shared}{H:Hp}{E:XK}:(cxOf CX P w K mg base N qual scope f cd A outer s H E).nox.K=K:=rfl
theorem qBi{X:Cx}{own:List Str}{cap:List Nat}{scope:Scope}{cl:List (Str×Addr)}{s:Shared}{H:Hp}{ex:List Addr}:(qAm X own cap scope cl s H ex).K=X.K:=rfl
def Has(P:Program)(w:World)(K:PySem.W.Frag)(mg:Str->Option Value)(base:Heap)(x:Str)(k:Nat)(ps:List Str)(sp:Sp):Prop :=
 ∃f fd,FnOk P w K mg base CX0 k f fd ps sp/\mg x=some (.ref f)/\PySem.W.keepIn K (.ref f)=true/\Binds K fd ps []
theorem qAq{X:Cx}{x:Str}{k j:Nat}{ps:List Str}{sp:Sp}{e:Expr}{es:List Expr}{t:TA}{p pos:Pos}(h:Has X.prog X.w X.K X.mg X.base x k ps sp)(hr:Room j X.A)(hj:k<=j)(ha:PA X (e::es) t)(hg:Gl X x:=by rfl)
  (hdb:(x == ("__debug__" : Str))=false:=by decide) (he:starEach (e::es) X.env=(false,eval e X.env)::starEach es X.env:=by rfl) (hpl:(backTo pos (starEach es X.env)).any (·.1)=false:=by rfl) :
  PE X (.Call (.Name x p) (e::es) [] pos) (tCall sp [] E0 t):=by
 obtain⟨f,fd,G,hm,hk,hb⟩:=h;exact qUl G (hr.mono hj) hg hm hk hb .nil pass0 ha hdb he hpl
def qOf(K:PySem.W.Frag):Sp:=λvs H Q _ => ∃(a:Addr) (ns:List Int) (k:Nat),vs = [.ref a,.int k]/\SqL K H a (ns.map V.int)/\k<=100 /\ ∀(t:Addr) (H':Hp),H t=none->Tape H' t 0->Same H H'->Q (.ref t) H'
def qU1(c:Nat)(lo hi:Int):Sp:=λvs H Q _ => ∃(t:Addr) (k:Nat),vs = [.ref t]/\Tape H t k/\k+c<=2^40 /\ ∀(r:Int) (H':Hp),lo<=r->r<=hi->Tape H' t (k+c)->Ext [t] H H'->Q (.int r) H'
abbrev qOi:Sp:=qU1 3 1 12
abbrev qI5:Sp:=qU1 3 (-(10^12)) (10^12)
def chk(X:Cx)(own:List Str)(cap:List Nat)(scope:Scope):Bool :=
 decide (scope.kind = .function)&&(scope.names.all λx=>decide (x.2 ≠ .cell))&&(scope.names.all λx => !decide (x.2 = .local)||decide (scope.names.lookup x.1=some .local)) &&
 (scope.names.all λx => !decide (x.2 = .free)||(decide (X.env.scope.names.lookup x.1=some .cell)||decide (X.env.scope.names.lookup x.1=some .free)))&&(own.all λx=>decide (scope.names.lookup x=some .local)) &&
 (cap.all λj=>decide (scope.names.lookup (X.N.getD j "")=some .free)&&decide (j<X.N.length))
theorem CompScope.of{X:Cx}{own:List Str}{cap:List Nat}{scope:Scope}(h:chk X own cap scope=true):CompScope X own cap scope:=by
 unfold chk at h;simp only [bD,List.all_eq_true,decide_eq_true_eq,Bool.or_eq_true,Bool.not_eq_true',decide_eq_false_iff_not] at h;obtain⟨⟨⟨⟨⟨h1,h2⟩,h3⟩,h4⟩,h5⟩,h6⟩:=h;exact⟨h1,λx hx=>h2 x hx,λx hx e=>(h3 x hx).resolve_left (λz=>z e),λx hx e=>(h4 x hx).resolve_left (λz=>z e),h5,λj hj=>h6 j hj⟩
section
variable{K:PySem.W.Frag}{a:Addr}{xs:List V}{g:TG}{tt:TT}{B:TB}{σ : St}{H:Hp}{Q:St->Hp->Prop}
theorem qIj{J:It}{n:Nat}(Pv:Nat->St->Hp->Prop)(h0:Pv 0 σ H)(hgo:∀i σ H,i<n->Pv i σ H->J.go i H)(hst:∀ σ H,Pv n σ H->J.stop n H)(hs:∀i σ H (R:St->Hp->Prop),i<n->Pv i σ H->(∀ σ' H',Pv (i+1) σ' H'->R σ' H') -> ∀x H',J.yld i H x H'->g x σ H' λσ2 H2=>tt σ2 H2 λb H3=>if b=true then B σ2 H3 R else R σ2 H3)(hd:∀ σ H,Pv n σ H->Q σ H):LoopT J g tt B σ H Q:=by
 refine⟨λi m σ H=>m=n - i/\i<=n/\Pv i σ H,⟨n,by simp,aU _,h0⟩,?_⟩;rintro i m σ H ⟨rfl,hi,p⟩;by_cases hlt:i<n
 ·refine .inr ⟨hgo i σ H hlt p,λx H' y=>?_⟩;exact hs i σ H _ hlt p (λσ' H' p'=>⟨n - (i+1),by lia,rfl,hlt,p'⟩) x H' y
 ·have e:i=n:=by lia
  subst e;exact .inl ⟨hst σ H p,hd σ H p⟩
theorem qAp(Pv:Nat->St->Hp->Prop)(h0:Pv 0 σ H)(hl:∀i σ H,i<=xs.length->Pv i σ H->SqL K H a xs)(hs:∀i x σ H (R:St->Hp->Prop),xs[i]? = some x->Pv i σ H->(∀ σ' H',Pv (i+1) σ' H'->R σ' H')->g x σ H λσ2 H2=>tt σ2 H2 λb H3=>if b=true then B σ2 H3 R else R σ2 H3)(hd:∀ σ H,Pv xs.length σ H->Q σ H):LoopT (Itl K a) g tt B σ H Q:=by
 refine qIj (n:=xs.length) Pv h0 (λi σ H hi p=>⟨xs,xs[i],hl i σ H (dX hi) p,by simp [hi]⟩) (λσ H p=>⟨xs,hl _ σ H (aE _) p,aE _⟩) (λi σ H R hi p hR x H' y=>?_) hd;obtain⟨e,y⟩:=y;subst e;exact hs i x σ _ R (y xs (hl i σ _ (dX hi) p)) p hR
theorem qDm{lo:Int}{n:Nat}(Pv:Nat->St->Hp->Prop)(h0:Pv 0 σ H)(hs:∀i σ H (R:St->Hp->Prop),i<n->Pv i σ H->(∀ σ' H',Pv (i+1) σ' H'->R σ' H')->g (.int (lo+i)) σ H λσ2 H2=>tt σ2 H2 λb H3=>if b=true then B σ2 H3 R else R σ2 H3)(hd:∀ σ H,Pv n σ H->Q σ H):LoopT (Itr lo n) g tt B σ H Q:=by
 refine qIj (n:=n) Pv h0 (λi σ H hi p=>hi) (λσ H p=>aE _) (λi σ H R hi p hR x H' y=>?_) hd;obtain⟨e,y⟩:=y;subst e y;exact hs i σ _ R hi p hR
theorem qPt{o:Obj}{kvs:List (Key×V)}(Pv:Nat->St->Hp->Prop)(h0:Pv 0 σ H)(hl:∀i σ H,i<=kvs.length->Pv i σ H->H a=some (.frz o (.dK kvs)))(hs:∀i k v σ H (R:St->Hp->Prop),kvs[i]? = some (k,v)->Pv i σ H->(∀ σ' H',Pv (i+1) σ' H'->R σ' H')->g (kV k) σ H λσ2 H2=>tt σ2 H2 λb H3=>if b=true then B σ2 H3 R else R σ2 H3)(hd:∀ σ H,Pv kvs.length σ H->Q σ H):LoopT (Itd a o kvs) g tt B σ H Q:=by
 refine qIj (n:=kvs.length) Pv h0 (λi σ H hi p=>⟨hl i σ H (dX hi) p,hi⟩) (λσ H p=>⟨hl _ σ H (aE _) p,aE _⟩) (λi σ H R hi p hR x H' y=>?_) hd;obtain⟨e,k,v,hk,e2⟩:=y;subst e e2;exact hs i k v σ _ R hk p hR
end
theorem qIn{K:PySem.W.Frag}{a:Addr}{xs:List V}{g:TG}{tb:TS}{D:Ends}{σ : St}{H:Hp}(Pv:Nat->St->Hp->Prop)(h0:Pv 0 σ H)(hl:∀i σ H,i<=xs.length->Pv i σ H->SqL K H a xs)(hs:∀i x σ H p,xs[i]? = some x->Pv i σ H->H p=none->g (.ref p) σ (upd H p (.tup [.int i,x])) λσ2 H2=>tb { D with nx:=Pv (i+1),ct:=Pv (i+1),bk:=D.nx } σ2 H2)(hd:∀ σ H,Pv xs.length σ H->D.nx σ H):∃W:Nat->Nat->St->Hp->Prop,(∃m,W 0 m σ H) /\ ∀i m σ H,W i m σ H ->
   ((Ite K a).stop i H/\D.nx σ H)\/((Ite K a).go i H /\ ∃N:St->Hp->Prop,(∀ σ' H',N σ' H' -> ∃m',m'<m/\W (i+1) m' σ' H') /\ ∀x H',(Ite K a).yld i H x H'->g x σ H' λσ2 H2=>tb { D with nx:=N,ct:=N,bk:=D.nx } σ2 H2):=by
 refine⟨λi m σ H=>m=xs.length - i/\i<=xs.length/\Pv i σ H,⟨xs.length,by simp,aU _,h0⟩,?_⟩;rintro i m σ H ⟨rfl,hi,p⟩;have q:=hl i σ H hi p;by_cases hlt:i<xs.length
 ·refine .inr ⟨⟨xs,xs[i],q,by simp [hlt]⟩,Pv (i+1),λσ' H' p'=>⟨xs.length - (i+1),by lia,rfl,hlt,p'⟩,λx H' y=>?_⟩;obtain⟨r,y,e,hr,hy,e2⟩:=y;subst e e2;exact hs i y σ H r (hy xs q) p hr
 ·have e:i=xs.length:=by lia
  subst e;exact .inl ⟨⟨xs,q,aE _⟩,hd σ H p⟩
abbrev intsD(ns:List Int):PyData :=.list (ns.map .int)
def NxOk(m:Int)(nx:List (List Int)):Prop:=(nx.length:Int)=m /\ ∀ns∈nx,ns = []\/(∃x,ns = [x]/\1<=x/\x<m) \/ ∃x y,ns = [x,y]/\x≠y/\1<=x/\x<m/\1<=y/\y<m
def qKy(K:PySem.W.Frag):Sp:=λvs H Q _ => ∃(t:Addr) (k:Nat) (m:Int),vs = [.ref t,.int m]/\Tape H t k/\k+30<=2^40/\1<=m/\m<=12 /\
 ∀(l:Addr) (nx:List (List Int)) (H':Hp),H l=none->Tape H' t (k+30)->Ext [t] H H'->NxOk m nx->Den K (yo H [t] H') (.list (nx.map intsD)) (.ref l)->Q (.ref l) H'
section
variable{K:PySem.W.Frag}{σ : St}{H:Hp}{Q:VK}{l d:Addr}{xs:List V}{i j:Int}{v y:V}{to ta tb te td ty tk tv tx:TE}{tl:TA}{wi:TI}{g:TG}{tts:List TT}{D:Ends}{tb2:TS}
theorem qYe{T:String}{r:V->List V->Hp->VK->Prop}(h:to σ H λx H1=>tyV K T x H1/\tl σ H1 λxs H2=>r x xs H2 Q):tBM K T r to tl σ H Q:=h
theorem qYd{T:String}{r:V->List V->Hp->VK->Prop}(h:to σ H λx H1=>tyV K T x H1/\r x [] H1 Q):tBM0 K T r to σ H Q:=h
theorem qY1{R:Prop}{kvs:List (Key×V)}(h:H d=some (.dK kvs))(q:R):tyV K "dict" (.ref d) H/\R:=⟨.inr (.inr (.inl ⟨rfl,.inl ⟨_,h⟩⟩)),q⟩
theorem qTe{own:List Str}{cap:List Nat}{o:HO}{Bof:Addr->TB}(h:wi σ H λJ H1 => ∀l,H1 l=none->LoopT J g (tAll tts) (Bof l) (qKa own cap σ) (upd H1 l o) λ_ H2=>Q (.ref l) H2):tComp own cap o wi g tts Bof σ H Q:=h
theorem qOx{R:It->Hp->Prop}(h:te σ H λx H1 => ∃a,x = .ref a/\(∃xs,SqL K H1 a xs)/\R (Itl K a) H1):iList K te σ H R:=h
theorem qUb{R:It->Hp->Prop}(h:tl σ H λvs H1 => ∃a,vs = [.ref a]/\(∃xs,SqL K H1 a xs)/\R (Ite K a) H1):iEnum K tl σ H R:=h
theorem qUc{R:It->Hp->Prop}(h:te σ H λx H1 => ∃d kvs,x = .ref d/\H1 d=some (.dK kvs) /\ ∀o,R (Itd d o kvs) (upd H1 d (.frz o (.dK kvs)))):iDict te σ H R:=h
theorem qWk{R:It->Hp->Prop}(h:te σ H λx H1 => ∃a,x = .ref a/\(∃xs,SqT K H1 a xs)/\R (Itt K a) H1):iTup K te σ H R:=h
theorem qWg{R:It->Hp->Prop}(h:tl σ H λvs H1 => ∃j:Int,vs = [.int j] /\ -(2^62)<=j/\j<2^62/\R (Itr 0 j.toNat) H1):iRng1 tl σ H R:=h
theorem qYb(h:wi σ H λJ H1 => ∃W:Nat->Nat->St->Hp->Prop,(∃m,W 0 m σ H1) /\ ∀i m σ H,W i m σ H ->
 (J.stop i H/\D.nx σ H)\/(J.go i H /\ ∃N:St->Hp->Prop,(∀ σ' H',N σ' H' -> ∃m',m'<m/\W (i+1) m' σ' H') /\ ∀x H',J.yld i H x H'->g x σ H' λσ2 H2=>tb2 { D with nx:=N,ct:=N,bk:=D.nx } σ2 H2)):tFor wi g tb2 D σ H:=h
theorem qUe(h:∀p,H p=none->Q (.ref p) (upd H p (.dK []))):qTa σ H Q:=h
theorem qYc(h:ty σ H λy H1=>td σ H1 λx H2 => ∃a o,x = .ref a/\DGet H2 a y o/\Q (.bl o.isSome) H2):tDIn ty td σ H Q:=h
theorem qRr(h:ty σ H λy H1=>td σ H1 λx H2 => ∃a o,x = .ref a/\DGet H2 a y o/\Q (.bl (!o.isSome)) H2):qOc ty td σ H Q:=h
theorem qWq(h:td σ H λx H1=>ty σ H1 λy H2 => ∃a v,x = .ref a/\DGet H2 a y (some v)/\Q v H2):tDGet td ty σ H Q:=h
theorem qUf(h:td σ H λx H1 => ∃a,x = .ref a/\IsD H1 a/\ty σ H1 λy H2=>tx σ H2 λz H3 => ∃o,DGet H3 a y o/\Q (o.getD z) H3):qW1 td ty tx σ H Q:=h
theorem qWo(h:tv σ H λv H1=>td σ H1 λx H2=>ty σ H2 λy H3 => ∃a H4,x = .ref a/\DPut H3 a y v H4/\D.nx σ H4):sDPut td ty tv D σ H:=h
theorem qWs{R:St->Hp->Prop}(h:te σ H λv H1 => ∃vs,H1 l=some (.lst vs)/\vs.length<sizeLine/\R σ (upd H1 l (.lst (vs ++ [v])))):eApp te l σ H R:=h
theorem qWh{R:St->Hp->Prop}(h:tk σ H λx H1=>tv σ H1 λy H2 => ∃kvs k,x=kV k/\H2 l=some (.dK kvs)/\kvs.length<sizeLine/\R σ (upd H2 l (.dK (putK kvs k y)))):ePut tk tv l σ H R:=h
theorem qWv{R:Bool->Hp->Prop}(h:R true H):tAll [] σ H R:=h
theorem qWu{tt:TT}{R:Bool->Hp->Prop}(h:tt σ H λb H1=>if b=true then R true H1 else R false H1):tAll [tt] σ H R:=h
theorem qCk{n:Nat}{t:TGs}{R:St->Hp->Prop}(h:SqT K H l xs)(hn:xs.length=n)(q:t xs σ H R):gTup K n t (.ref l) σ H R:=⟨l,xs,rfl,h,hn,q⟩
theorem qUd{t:TG}{u:TGs}{R:St->Hp->Prop}(h:t v σ H λσ' H'=>u xs σ' H' R):gCons t u (v::xs) σ H R:=⟨v,xs,rfl,h⟩
theorem qWn{R:St->Hp->Prop}(h:R σ H):gNil [] σ H R:=⟨rfl,h⟩
theorem r_sl{r:V->Option Int->Option Int->Hp->VK->Prop}{t1 t2:TO}(h:te σ H λx H1=>t1 σ H1 λl H2=>t2 σ H2 λu H3=>r x l u H3 Q):tSl r te t1 t2 σ H Q:=h
theorem qY7{R:Option Int->Hp->Prop}(h:R none H):qOb σ H R:=h
theorem qWi{R:Option Int->Hp->Prop}(h:te σ H λx H1 => ∃i,x = .int i/\R (some i) H1):tPart te σ H R:=h
end
def Nx(N A:St->Hp->Prop):Prop := ∀ σ H,A σ H->N σ H
theorem qEx{N A:St->Hp->Prop}{σ : St}{H:Hp}(h:Nx N A)(q:A σ H):N σ H:=h σ H q
def NxV(Q' Q:VK):Prop := ∀v H,Q v H->Q' v H
theorem qXr{Q' Q:VK}{v:V}{H:Hp}(h:NxV Q' Q)(q:Q v H):Q' v H:=h v H q
theorem qCp{K:PySem.W.Frag}{a:Addr}{xs:List V}{g:TG}{tb:TS}{D:Ends}{σ : St}{H:Hp}(Pv:Nat->St->Hp->Prop)(h0:Pv 0 σ H)(hl:∀i σ H,i<=xs.length->Pv i σ H->SqL K H a xs)(hs:∀i x σ H,xs[i]? = some x->Pv i σ H -> ∀(N B C:St->Hp->Prop) (R:VK),Nx N (Pv (i+1))->Nx C (Pv (i+1))->NxV R D.rt->g x σ H λσ2 H2=>tb ⟨N,R,B,C⟩ σ2 H2)(hd:∀ σ H,Pv xs.length σ H->D.nx σ H):∃W:Nat->Nat->St->Hp->Prop,(∃m,W 0 m σ H) /\ ∀i m σ H,W i m σ H ->
   ((Itl K a).stop i H/\D.nx σ H)\/((Itl K a).go i H /\ ∃N:St->Hp->Prop,(∀ σ' H',N σ' H' -> ∃m',m'<m/\W (i+1) m' σ' H') /\ ∀x H',(Itl K a).yld i H x H'->g x σ H' λσ2 H2=>tb { D with nx:=N,ct:=N,bk:=D.nx } σ2 H2) :=
 qSr Pv h0 hl (λi x σ H hx hp=>hs i x σ H hx hp _ _ _ _ (λ_ _ h=>h) (λ_ _ h=>h) (λ_ _ h=>h)) hd
theorem qCo{lo:Int}{n:Nat}{g:TG}{tb:TS}{D:Ends}{σ : St}{H:Hp}(Pv:Nat->St->Hp->Prop)(h0:Pv 0 σ H)(hs:∀i σ H,i<n->Pv i σ H -> ∀(N B C:St->Hp->Prop) (R:VK),Nx N (Pv (i+1))->Nx C (Pv (i+1))->NxV R D.rt->g (.int (lo+i)) σ H λσ2 H2=>tb ⟨N,R,B,C⟩ σ2 H2)(hd:∀ σ H,Pv n σ H->D.nx σ H):∃W:Nat->Nat->St->Hp->Prop,(∃m,W 0 m σ H) /\ ∀i m σ H,W i m σ H ->
   ((Itr lo n).stop i H/\D.nx σ H)\/((Itr lo n).go i H /\ ∃N:St->Hp->Prop,(∀ σ' H',N σ' H' -> ∃m',m'<m/\W (i+1) m' σ' H') /\ ∀x H',(Itr lo n).yld i H x H'->g x σ H' λσ2 H2=>tb { D with nx:=N,ct:=N,bk:=D.nx } σ2 H2) :=
 qQ8 Pv h0 (λi σ H hx hp=>hs i σ H hx hp _ _ _ _ (λ_ _ h=>h) (λ_ _ h=>h) (λ_ _ h=>h)) hd
theorem qQ9{K:PySem.W.Frag}{a:Addr}{xs:List V}{g:TG}{tb:TS}{D:Ends}{σ : St}{H:Hp}(Pv:Nat->St->Hp->Prop)(h0:Pv 0 σ H)(hl:∀i σ H,i<=xs.length->Pv i σ H->SqL K H a xs)(hs:∀i x σ H p,xs[i]? = some x->Pv i σ H->H p=none -> ∀(N B C:St->Hp->Prop) (R:VK),Nx N (Pv (i+1))->Nx C (Pv (i+1))->NxV R D.rt->g (.ref p) σ (upd H p (.tup [.int i,x])) λσ2 H2=>tb ⟨N,R,B,C⟩ σ2 H2)(hd:∀ σ H,Pv xs.length σ H->D.nx σ H):∃W:Nat->Nat->St->Hp->Prop,(∃m,W 0 m σ H) /\ ∀i m σ H,W i m σ H ->
   ((Ite K a).stop i H/\D.nx σ H)\/((Ite K a).go i H /\ ∃N:St->Hp->Prop,(∀ σ' H',N σ' H' -> ∃m',m'<m/\W (i+1) m' σ' H') /\ ∀x H',(Ite K a).yld i H x H'->g x σ H' λσ2 H2=>tb { D with nx:=N,ct:=N,bk:=D.nx } σ2 H2) :=
 qIn Pv h0 hl (λi x σ H p hx hp hn=>hs i x σ H p hx hp hn _ _ _ _ (λ_ _ h=>h) (λ_ _ h=>h) (λ_ _ h=>h)) hd
inductive Deed where
 | set (b n:Int)
 | add (b o:Int)
 | tell (b:Int)
 | call (c:Int)
 | save (b:Int)
 | back (b:Int)
def deedD:Deed->PyData
 | .set b n =>.tuple [.str "set",.int b,.int n]
 | .add b o =>.tuple [.str "add",.int b,.int o]
 | .tell b =>.tuple [.str "tell",.int b]
 | .call c =>.tuple [.str "call",.int c]
 | .save b =>.tuple [.str "save",.int b]
 | .back b =>.tuple [.str "back",.int b]
def qGx(works:Int):Deed->Prop
 | .set b n=>0<=b/\b<8 /\ -(10^12)<=n/\n<=10^12
 | .add b o=>0<=b/\b<8/\0<=o/\o<8
 | .tell b=>0<=b/\b<8
 | .call c=>0<=c/\c<works
 | .save b=>0<=b/\b<8
 | .back b=>0<=b/\b<8
def endD:List Int->PyData
 | [] =>.tuple [.str "out"]
 | [x] =>.tuple [.str "go",.int x]
 | x::y::_ =>.tuple [.str "fork",.int x,.int y]
structure Blk where
 ds:List Deed
 ns:List Int
def blkD(b:Blk):PyData :=.tuple [.list (b.ds.map deedD),endD b.ns]
def workD(w:List Blk):PyData :=.list (w.map blkD)
def NsOk(m:Int)(ns:List Int):Prop:=ns = []\/(∃x,ns = [x]/\1<=x/\x<m) \/ ∃x y,ns = [x,y]/\x≠y/\1<=x/\x<m/\1<=y/\y<m
structure BlkOk(m works:Int)(b:Blk):Prop where
 ns:NsOk m b.ns
 ds:∀d∈b.ds,qGx works d
 few:b.ds.length<=20
structure WorkOk(m works:Int)(w:List Blk):Prop where
 len:(w.length:Int)=m
 blk:∀b∈w,BlkOk m works b
structure BsOk(bs:List Int):Prop where
 one:1<=bs.length
 few:bs.length<=8
 all:∀b∈bs,0<=b/\b<8
theorem qWl{k c:Nat}{lo hi:Int}{t:Addr}{H:Hp}{Q:VK}{E:XK}(hT:Tape H t k)(hk:k+c<=2^40)(q:∀r H',lo<=r->r<=hi->Tape H' t (k+c)->Ext [t] H H'->Q (.int r) H'):qU1 c lo hi ([.ref t] ++ []) H Q E:=⟨t,k,rfl,hT,hk,q⟩
theorem qJ0{ns:List Int}{r:Int}(h0:0<=r)(h1:r<ns.length):∃n,n∈ns/\atI (ns.map V.int) r=some (.int n):=by
 obtain⟨j,rfl⟩:=dP h0;have hj:j<ns.length:=by exact_mod_cast h1
 refine⟨ns[j],dZ hj,?_⟩;have:=qBa (xs:=ns.map V.int) (j:=j) (by rw [aW,aF hj];rfl);exact this
section
variable{X:Cx}
def qX1:List V->Hp->VK->Prop:=λxs H Q => ∃j:Int,xs = [.int j] /\ ∀l,H l=none->Q (.ref l) (upd H l (.rng 0 j))
theorem qLk:CallR X (.type "range") qX1:=by
 intro pins s σ H xs us Q I r h;obtain⟨j,rfl,q⟩:=h;obtain⟨u,rfl,t,rfl⟩:=vals1 r;refine call_range_1 ⟨.ref s.heap.objs.size,_,?_,rfl,q _ (I.hok.fresh (aE _))⟩;exact I.laid (λb o e=>aH _ e) (aE _) ⟨_,_,_,bA _ rfl⟩
def qRs:List V->Hp->VK->Prop:=λxs H Q => ∃(p:Addr) (j:Nat),xs = [.ref p]/\H p=some (.rng 0 j)/\j<=1000 /\ ∀l,H l=none->Q (.ref l) (upd H l (.lst ((List.range j).map λ(i:Nat)=>V.int (i:Int))))
theorem qIv(hh:X.A.handled=none):CallR X (.type "list") qRs:=by
 intro pins s σ H xs us Q I r h;obtain⟨p,j,rfl,hp,hj,q⟩:=h;obtain⟨u,rfl,rx⟩:=vals1 r;cases rx;obtain⟨t,u,v,e⟩:∃t u v,s.heap.get? p=some { cls :=.type "range",data :=.fields #[.int 0 t,.int (j:Int) u,.int 1 v] }:=I.hok p _ hp;refine call_list_range hh e (small_one (by decide) (by decide) (by lia) (by lia)) (n:=j) (by rw [rangeSize_one];split <;> lia) (by lia) λh' tk acc c kp hS hI=>?_;refine⟨.ref s.heap.objs.size,_,I.laid (o :=.lst ((List.range j).map λ(i:Nat)=>V.int (i:Int))) kp (aE _) (show _/\_ from⟨?_,acc.toList,c,?_,?_⟩),rfl,q _ (I.hok.fresh (aE _))⟩
 ·rw [aB,bV];exact len2 hj
 ·have hl:acc.toList.length=j:=by rw [aK];exact hI.1
  have hv:∀(i:Nat) v,acc.toList[i]? = some v -> ∃t,v=Value.int (i:Int) t:=λi v hv=>by
   obtain⟨t,h⟩:=hI.2 i v (by rw [<-hv,aY]);exact⟨t,by rw [h];congr 1;lia⟩
  generalize acc.toList=us at hl hv;subst hl;have key:∀(us:List Value) (k:Nat),(∀(i:Nat) v,us[i]? = some v -> ∃t,v=Value.int ((k+i:Nat):Int) t)->Vals ((List.range' k us.length).map λ(i:Nat)=>V.int (i:Int)) us:=by
   intro us
   induction us with
   | nil=>intro k _;exact .nil
   | cons u us ih =>
    intro k h;obtain⟨t,rfl⟩:=h 0 u rfl;refine .cons ⟨t,rfl⟩ (ih (k+1) λi v e=>?_);obtain⟨t,e⟩:=h (i+1) v e;exact⟨t,by rw [e];congr 1;lia⟩
  have:=key us 0 (λi v e=>by obtain⟨t,h⟩:=hv i v e;exact⟨t,by rw [h];congr 1;lia⟩)
  rwa [<-List.range_eq_range'] at this
 ·rw [Array.toArray_toList];exact hS
variable{K:PySem.W.Frag}
theorem qSo(K:PySem.W.Frag)(hK:X.K=K):IxR X (rIxL K):=hK▸qAr
theorem qBt(K:PySem.W.Frag)(hK:X.K=K):IxR X (rIxT K):=hK▸qCf
theorem qRi(K:PySem.W.Frag)(hK:X.K=K):SlR X (rSlL K):=hK▸qL3
theorem qOm(K:PySem.W.Frag)(hK:X.K=K):SlR X (rSlT K):=hK▸qLu
theorem qMh(K:PySem.W.Frag)(hK:X.K=K):CallR X (.builtin "len") (λxs H Q => ∃p ys,xs = [.ref p]/\(SqL K H p ys\/SqT K H p ys)/\Q (.int ys.length) H):=hK▸qAh
theorem qMe(K:PySem.W.Frag)(hK:X.K=K):CallR X (.type "list") (λxs H Q => ∃p ys,xs = [.ref p]/\(SqL K H p ys\/SqT K H p ys) /\ ∀l,H l=none->Q (.ref l) (upd H l (.lst ys))):=hK▸qFe
theorem qIf(K:PySem.W.Frag)(hK:X.K=K){tg l:Expr}{tl:TE}(hl:PE X l tl):PI X tg l (iList K tl):=hK▸qAy hl
theorem qEu(K:PySem.W.Frag)(hK:X.K=K){es:List Expr}{pos:Pos}{k:Nat}{t:TGs}{n:Nat}(hc:X.calm=true)(h:PGs X es t)(hn:(assignEach es X.env).length=n:=by rfl)(hst:(assignEach es X.env).findIdx? (·.1)=none:=by rfl):PG X (.Tuple es k pos) (gTup K n t):=hK▸qFa hc h hn hst
theorem qX7(K:PySem.W.Frag)(hK:X.K=K){T:String}{name:Str}{id:String}{r:V->List V->Hp->VK->Prop}{o e:Expr}{es:List Expr}{to:TE}{t:TA}{apos cpos:Pos}(pa:PlainAttrs T)(slot:Slot T name id)(hty:typeOf (.builtin id)=pure (.type "method_descriptor"))(hm:MtR X id r)(ho:PE X o to)(ha:PA X (e::es) t)
  (hbase:attributeBase o name X.env (eval o X.env)=eval o X.env:=by rfl)
  (hfew:((backTo cpos (starEach (e::es) X.env)).all (λx => !x.1)&&(backToKw cpos (keywordEach [] X.env)).all (λx=>x.1.isSome)
   && decide ((e::es).length+([]:List Keyword).length+(if ([]:List Keyword).isEmpty then 0 else 1)<30))=true:=by rfl)
  (hline:(apos.endLine == cpos.line)=true:=by rfl) (hs:starEach (e::es) X.env=(false,eval e X.env)::starEach es X.env:=by rfl) (hplain:(backTo cpos (starEach es X.env)).any (·.1)=false:=by rfl) :
  PE X (.Call (.Attribute o name apos) (e::es) [] cpos) (tBM K T r to t):=hK▸qEb pa slot hty hm ho ha hbase hfew hline hs hplain
theorem qTb{j n:Nat}(h:j<n):seqIndex? (j:Int) n=some j:=by
 show (if (decide (0<=if (j:Int)<0 then (j:Int)+n else j)&&decide ((if (j:Int)<0 then (j:Int)+n else j)<n))=true then some (if (j:Int)<0 then (j:Int)+n else (j:Int)).toNat else none)=some j;have e:(if (j:Int)<0 then (j:Int)+n else (j:Int))=j:=if_neg (by lia);rw [e,decide_eq_true (show (0:Int)<=j by lia),decide_eq_true (show (j:Int)<n by lia)];rfl
theorem qGk{α β : Type}{f : α -> β}:∀(l:List α) (n:Nat),(l.eraseIdx n).map f=(l.map f).eraseIdx n
 | [],_=>rfl
 | _::_,0=>rfl
 | a::l,n+1=>congrArg (f a :: ·) (qGk l n)
end
abbrev nexD(w:List Blk):PyData :=.list (w.map λb=>intsD b.ns)
def qOj(K:PySem.W.Frag):Sp:=λvs H Q _ => ∃(a:Addr) (w:List Blk),vs = [.ref a]/\Den K H (workD w) (.ref a)/\(∀b∈w,b.ns.length<=2)/\w.length<=12 /\
 ∀(l:Addr) (H':Hp),H l=none->Ext [] H H'->Den K (yo H [] H') (nexD w) (.ref l)->Q (.ref l) H'
theorem qQe{ns:List Int}(h:ns.length<=2):∃w:Str,endD ns = .tuple (.str w::ns.map .int):=by
 match ns,h with
 | [],_=>exact⟨_,rfl⟩
 | [x],_=>exact⟨_,rfl⟩
 | [x,y],_=>exact⟨_,rfl⟩
theorem Ext.toSame{H H':Hp}(e:Ext [] H H'):Same H H':=λb o h=>e b o (by simp) h
abbrev pairD(p:Int×Int):PyData :=.tuple [.int p.1,.int p.2]
abbrev qBm(ps:List (Int×Int)):PyData :=.list (ps.map pairD)
def srt:List Int->List Int
 | [x,y]=>if x<=y then [x,y] else [y,x]
 | l=>l
def outs(m i:Int)(ns:List Int):List (Int×Int):=(srt ns).map (λx=>(i,x))++(if ns = [] then [(i,m)] else [])
def qAa(w:List Blk):Nat->List (Int×Int)
 | 0 =>[(-1,0)]
 | i+1=>qAa w i++outs w.length i ((w[i]?.map Blk.ns).getD [])
def qJ5(K:PySem.W.Frag):Sp:=λvs H Q _ => ∃(a:Addr) (w:List Blk) (m works:Int),vs = [.ref a]/\Den K H (workD w) (.ref a)/\WorkOk m works w/\m<=12 /\
 ∀(l:Addr) (H':Hp),H l=none->Ext [] H H'->Den K (yo H [] H') (qBm (qAa w w.length)) (.ref l)->Q (.ref l) H'
theorem NsOk.few{m:Int}{ns:List Int}(h:NsOk m ns):ns.length<=2:=by
 rcases h with h | ⟨x,h,_⟩ | ⟨x,y,h,_⟩ <;> subst h <;> simp
theorem NsOk.range{m:Int}{ns:List Int}(h:NsOk m ns):∀x∈ns,1<=x/\x<m:=by
 rcases h with h | ⟨x,h,h1,h2⟩ | ⟨x,y,h,_,h1,h2,h3,h4⟩ <;> subst h <;> intro z hz
 ·cases hz
 ·rw [aQ.mp hz];exact⟨h1,h2⟩
 ·rcases aT.mp hz with e | e
  ·rw [e];exact⟨h1,h2⟩
  ·rw [aQ.mp e];exact⟨h3,h4⟩
theorem qW2{m:Int}{ns ns':List Int}(h:NsOk m ns)(hp:ns'.Perm ns)(hs:ns'.Pairwise (· <= ·)):ns'=srt ns:=by
 rcases h with h | ⟨x,h,_⟩ | ⟨x,y,h,hne,_⟩ <;> subst h
 ·exact List.perm_nil.mp hp
 ·exact List.perm_singleton.mp hp
 ·match ns',hp.length_eq with
  | [a,b],_ =>
   have ha:a=x\/a=y:=by simpa using hp.subset (aR ..)
   have hb:b=x\/b=y:=by simpa using hp.subset (aS _ (aQ.mpr rfl))
   have hx:x=a\/x=b:=by simpa using hp.symm.subset (aR ..)
   have hy:y=a\/y=b:=by simpa using hp.symm.subset (aS _ (aQ.mpr rfl))
   have hab:a<=b:=by simpa using hs
   show [a,b]=if x<=y then [x,y] else [y,x]
   split
   ·have:a=x/\b=y:=by lia
    rw [this.1,this.2]
   ·have:a=y/\b=x:=by lia
    rw [this.1,this.2]
theorem qOe{ns:List Int}:(srt ns).length=ns.length:=by
 unfold srt;split
 ·split <;> rfl
 ·rfl
theorem qS0{m i:Int}{ns:List Int}(h:ns.length<=2):(outs m i ns).length<=2:=by
 unfold outs;rw [aG,aB,qOe];split
 ·next h=>subst h;exact cM 1
 ·simp;lia
theorem qBe{w:List Blk}(h:∀b∈w,b.ns.length<=2):∀i,(qAa w i).length<=1+2*i
 | 0=>aE _
 | i+1=>by
  have:=qBe h i;have h2:((w[i]?.map Blk.ns).getD []).length<=2:=by
   cases z:w[i]? with
   | none=>decide
   | some b=>exact h b (aO z)
  have:=qS0 (m:=w.length) (i:=i) h2;show (qAa w i++outs _ _ _).length<=_;rw [aG];lia
theorem qFc(ns:List Int):PyData.eqv (intsD ns) (.list [])=decide (ns = []):=by
 cases ns with
 | nil=>rfl
 | cons x r=>rfl
theorem qOn{m:Int}{ns:List Int}(h:NsOk m ns):SeqAt.shaped (intsD ns)=true:=by
 rcases h with h | ⟨x,h,_⟩ | ⟨x,y,h,_⟩ <;> subst h <;> rfl
theorem qXg{X:Cx}(K:PySem.W.Frag)(hK:X.K=K):OpR X (compareOp .NotIn) (rIn K true):=hK▸qJl
theorem inK{X:Cx}(K:PySem.W.Frag)(hK:X.K=K):OpR X (compareOp .In) (rIn K false):=hK▸qEd
theorem qVl{a b:Int}:eqV (.int a) (.int b)=decide (a=b):=by
 first | rfl | (unfold eqV;simp)
theorem qC8(x:Int):∀ns:List Int,inV (.int x) (ns.map V.int)=decide (x∈ns)
 | []=>rfl
 | n::r=>by
  have ih:=qC8 x r;show (eqV (.int n) (.int x)||inV (.int x) (r.map V.int))=_;rw [ih,qVl];by_cases h1:n=x
  ·subst h1;simp
  ·by_cases h2:x∈r
   ·simp [h2]
   ·simp [h1,h2,cS h1]
theorem qBu:∀ns:List Int,(ns.map V.int).all flatV=true
 | []=>rfl
 | _::r=>qBu r
theorem qWj{K:PySem.W.Frag}{x:Int}{ns:List Int}{p:Addr}{H:Hp}{Q:VK}(h:SqL K H p (ns.map V.int))(q:Q (.bl (!decide (x∈ns))) H):rIn K true (.int x) (.ref p) H Q:=⟨p,_,rfl,.inl h,rfl,qBu ns,by rw [if_pos rfl,qC8];exact q⟩
theorem qW3{n:Nat}(h:n<=100000):n<sizeLine:=fO h (by decide)
theorem qB1{α β : Type}{f : α -> β}{l:List α}{i:Nat}{y : β}(h:(l.map f)[i]? = some y):∃x,l[i]? = some x/\y=f x:=by
 rw [aW] at h;cases z:l[i]? with
 | none=>rw [z] at h;cases h
 | some x=>rw [z] at h;exact⟨x,rfl,(bF h).symm⟩
theorem qAw{α : Type}{l:List α}{i:Nat}{x : α}(h:l[i]? = some x):l.take (i+1)=l.take i ++ [x]:=by rw [dB,h];rfl
def nxt(w:List Blk)(i:Int):List Int:=if 0<=i then ((w[i.toNat]?).map Blk.ns).getD [] else []
inductive Reach(nx:Int->List Int)(a:Int):Int->Prop
 | refl:Reach nx a a
 | step {b c:Int}:Reach nx a b->c∈nx b->Reach nx a c
theorem qV4{w:List Blk}{i:Nat}{b:Blk}(h:w[i]? = some b):nxt w (i:Int)=b.ns:=by
 unfold nxt;rw [if_pos (by lia),cL,h];rfl
theorem qHl{m works:Int}{w:List Blk}(h:WorkOk m works w)(i:Int):NsOk m (nxt w i):=by
 unfold nxt;split
 ·cases z:w[i.toNat]? with
  | none=>exact .inl rfl
  | some b=>exact (h.blk b (aO z)).ns
 ·exact .inl rfl
theorem Reach.range{m works a x:Int}{w:List Blk}(h:WorkOk m works w)(ha:0<=a/\a<m)(r:Reach (nxt w) a x):0<=x/\x<m:=by
 induction r with
 | refl=>exact ha
 | step _ hc _=>have:=(qHl h _).range _ hc;lia
def cnt(p:Int->Bool):Nat->Nat
 | 0=>0
 | m+1=>cnt p m+(if p (m:Int)=true then 1 else 0)
theorem qKc(p:Int->Bool):∀m,cnt p m<=m
 | 0=>aE _
 | m+1=>by
  have:=qKc p m;show cnt p m+_<=_;split <;> lia
theorem qMp{p q:Int->Bool}(h:∀i,p i=true->q i=true):∀m,cnt p m<=cnt q m
 | 0=>aE _
 | m+1=>by
  have:=qMp h m;show cnt p m+_<=cnt q m+_;by_cases hp:p (m:Int)=true
  ·rw [if_pos hp,if_pos (h _ hp)];lia
  ·rw [if_neg hp];lia
theorem qQs{p q:Int->Bool}{x:Int}(h:∀i,p i=true->q i=true)(hq:q x=true)(hp:p x=false):∀m:Nat,0<=x->x<m->cnt p m<cnt q m
 | 0,h0,h1=>by lia
 | m+1,h0,h1=>by
  show cnt p m+_<cnt q m+_;by_cases e:x=(m:Int)
  ·subst e;have:=qMp h m;rw [if_neg (by rw [hp];decide),if_pos hq];lia
  ·have:=qQs h hq hp m h0 (by lia);by_cases hp:p (m:Int)=true
   ·rw [if_pos hp,if_pos (h _ hp)];lia
   ·rw [if_neg hp];lia
theorem qQt{p:Int->Bool}:∀m:Nat,cnt p m=m -> ∀x:Int,0<=x->x<m->p x=true
 | 0,_,x,h0,h1=>by lia
 | m+1,h,x,h0,h1=>by
  have hle:=qKc p m;have h:cnt p m+(if p (m:Int)=true then 1 else 0)=m+1:=h;by_cases hp:p (m:Int)=true
  ·rw [if_pos hp] at h;by_cases e:x=(m:Int)
   ·rw [e];exact hp
   ·exact qQt m (by lia) x h0 (by lia)
  ·rw [if_neg hp] at h;lia
section
variable(nx:Int->List Int)(a:Int)
def lay:Nat->List Int×List Int
 | 0=>([],[a])
 | j+1=>let f:=(lay j).2.flatMap λb=>(nx b).filter λx => !decide (x∈(lay j).1);((lay j).1++f,f)
variable{nx a}
theorem lay_further{j:Nat}{x:Int}:x∈(lay nx a (j+1)).2↔(∃b∈(lay nx a j).2,x∈nx b)/\x∉(lay nx a j).1:=by
 show x∈(lay nx a j).2.flatMap _↔_;simp only [dH,cE,Bool.not_eq_true',decide_eq_false_iff_not];constructor
 ·rintro⟨b,hb,h1,h2⟩;exact⟨⟨b,hb,h1⟩,h2⟩
 ·rintro⟨⟨b,hb,h1⟩,h2⟩;exact⟨b,hb,h1,h2⟩
theorem qLd{j:Nat}:(lay nx a (j+1)).1=(lay nx a j).1++(lay nx a (j+1)).2:=rfl
theorem qPp{x:Int}:∀ {j:Nat},x∈(lay nx a j).1 -> ∃i,i<=j/\x∈(lay nx a i).2
 | 0,h=>absurd h (by simp [lay])
 | j+1,h=>by
  rw [qLd] at h;rcases aM.mp h with h | h
  ·obtain⟨i,hi,e⟩:=qPp h;exact⟨i,by lia,e⟩
  ·exact⟨j+1,aE _,h⟩
theorem qJz{x:Int}:∀ {j:Nat},x∈(lay nx a j).2->Reach nx a x
 | 0,h=>by
  have:x=a:=by simpa [lay] using h
  rw [this];exact .refl
 | j+1,h=>by
  obtain⟨⟨b,hb,h1⟩,_⟩:=lay_further.mp h;exact .step (qJz hb) h1
theorem qOs{x:Int}(r:Reach nx a x):∃j,x∈(lay nx a j).2:=by
 induction r with
 | refl=>exact⟨0,by simp [lay]⟩
 | @step b c _ hc ih =>
  obtain⟨j,hj⟩:=ih;by_cases hm:c∈(lay nx a j).1
  ·obtain⟨i,_,e⟩:=qPp hm;exact⟨i,e⟩
  ·exact⟨j+1,lay_further.mpr ⟨⟨b,hj,hc⟩,hm⟩⟩
theorem qMj{j:Nat}(h:(lay nx a (j+1)).2 ≠ []):(lay nx a j).2 ≠ []:=by
 intro e;apply h;show (lay nx a j).2.flatMap _ = [];rw [e];rfl
theorem qJy{j:Nat}:∀ {i:Nat},(lay nx a (j+i)).2 ≠ []->(lay nx a j).2 ≠ []
 | 0,h=>h
 | i+1,h=>qJy (i:=i) (qMj h)
theorem qPw{m:Nat}(hr:∀x j,x∈(lay nx a j).2->0<=x/\x<(m:Int)):∀j,(lay nx a j).2 ≠ []->j<=cnt (λx=>decide (x∈(lay nx a j).1)) m
 | 0,_=>aU _
 | j+1,h=>by
  have ih:=qPw hr j (qMj h);obtain⟨x,hx⟩:=List.exists_mem_of_ne_nil _ h;have h1:=hr x (j+1) hx;have h2:=(lay_further.mp hx).2
  have:=qQs (p:=λx=>decide (x∈(lay nx a j).1)) (q:=λx=>decide (x∈(lay nx a (j+1)).1)) (x:=x) (λi hi=>by
   rw [qLd]
   exact decide_eq_true (bO _ (of_decide_eq_true hi))) (decide_eq_true (by rw [qLd];exact bM _ hx)) (decide_eq_false h2) m h1.1 h1.2
  lia
theorem qVg{m:Nat}(hr:∀x j,x∈(lay nx a j).2->0<=x/\x<(m:Int)){x:Int}(r:Reach nx a x):∃j,j<=m/\x∈(lay nx a j).2:=by
 obtain⟨j,hj⟩:=qOs r;by_cases h:j<=m
 ·exact⟨j,h,hj⟩
 ·have hm:(lay nx a m).2 ≠ []:=qJy (i:=j - m) (by rw [show m+(j - m)=j by lia];exact List.ne_nil_of_mem hj);have h1:=qPw hr m hm;have h2:=qKc (λx=>decide (x∈(lay nx a m).1)) m;have h3:=hr x j hj;have:=qQt (p:=λx=>decide (x∈(lay nx a m).1)) m (by lia) x h3.1 h3.2;exact qPp (of_decide_eq_true this)
end
def ltP(p q:Int×Int):Prop:=p.1<q.1\/(p.1=q.1/\p.2<q.2)
theorem ltP.irr{p:Int×Int} : ¬ltP p p:=by rintro (h | ⟨_,h⟩) <;> lia
theorem ltP.trans{p q r:Int×Int}(h1:ltP p q)(h2:ltP q r):ltP p r:=by
 rcases h1 with h1 | ⟨h1,h1'⟩ <;> rcases h2 with h2 | ⟨h2,h2'⟩ <;> first | (left;lia) | (right;lia)
theorem qG7:∀ {l1 l2:List (Int×Int)},l1.Pairwise ltP->l2.Pairwise ltP->(∀p,p∈l1↔p∈l2)->l1=l2
 | [],[],_,_,_=>rfl
 | [],q::l2,_,_,h=>absurd ((h q).mpr (aR ..)) (by simp)
 | p::l1,[],_,_,h=>absurd ((h p).mp (aR ..)) (by simp)
 | p::l1,q::l2,h1,h2,h=>by
  rw [dQ] at h1 h2;have e:p=q:=by
   rcases aT.mp ((h p).mp (aR ..)) with z | z
   ·exact z
   ·rcases aT.mp ((h q).mpr (aR ..)) with y | y
    ·exact y.symm
    ·exact absurd ((h2.1 p z).trans (h1.1 q y)) ltP.irr
  subst e;refine congrArg (p :: ·) (qG7 h1.2 h2.2 λx=>⟨λhx=>?_,λhx=>?_⟩)
  ·rcases aT.mp ((h x).mp (aS _ hx)) with z | z
   ·rw [z] at hx;exact absurd (h1.1 p hx) ltP.irr
   ·exact z
  ·rcases aT.mp ((h x).mpr (aS _ hx)) with z | z
   ·rw [z] at hx;exact absurd (h2.1 p hx) ltP.irr
   ·exact z
theorem qIi{α : Type} [DecidableEq α]:∀ {l1 l2:List α},l1.Nodup->(∀x∈l1,x∈l2)->l1.length<=l2.length
 | [],_,_,_=>aU _
 | x::r,l2,h,hs=>by
  rw [fY] at h;have hx:=hs x (aR ..);have ih:=qIi (l2:=l2.erase x) h.2 λy hy=>by
   have hne:y≠x:=λz=>h.1 (z▸hy);exact (List.mem_erase_of_ne hne).mpr (hs y (aS _ hy))
  have hl:=List.length_erase_of_mem hx;have hp:=List.length_pos_of_mem hx;rw [bY];lia
def tOf(p:Int×Int):List Int :=[p.1,p.2]
def pOf(t:List Int):Int×Int:=(t.getD 0 0,t.getD 1 0)
theorem qLa(p:Int×Int):pOf (tOf p)=p:=rfl
theorem qMf{p q:Int×Int}(h:HT.lexLt (tOf q) (tOf p)=false)(hne:p≠q):ltP p q:=by
 obtain⟨a,b⟩:=p;obtain⟨c,d⟩:=q;have h:HT.lexLt [c,d] [a,b]=false:=h;rw [HT.lexLt_cons,HT.lexLt_cons] at h;have hne : ¬(a=c/\b=d):=λz=>hne (by rw [z.1,z.2]);show a<c\/(a=c/\b<d);by_cases h1:c=a
 ·rw [if_pos h1] at h;by_cases h2:d=b
  ·exact absurd ⟨h1.symm,h2.symm⟩ hne
  ·rw [if_neg h2] at h;have:=of_decide_eq_false h;lia
 ·rw [if_neg h1] at h;have:=of_decide_eq_false h;lia
theorem DenL.ofAll{K:PySem.W.Frag}{G:Hp}{α : Type}{f : α -> PyData}{g : α -> V}:∀ {l:List α},(∀x∈l,Den K G (f x) (g x))->DenL K G (l.map f) (l.map g)
 | [],_ =>.nil
 | _::_,h =>.cons (h _ (aR ..)) (DenL.ofAll λx hx=>h x (aS _ hx))
theorem qO9{K:PySem.W.Frag}{G H:Hp}(e:Same G H):∀ {ps:List (Int×Int)} {vs:List V},DenL K G (ps.map pairD) vs->TupI K H vs (ps.map tOf)
 | [],vs,h=>by have:=h.ofNil;subst this;exact .nil
 | p::ps,vs,h=>by
  obtain⟨v,r,rfl,h1,h2⟩:=h.ofCons;obtain⟨a,us,rfl,hs,hd⟩:=h1.ofTuple;have hd:DenL K G ([p.1,p.2].map PyData.int) us:=hd;have:=hd.ints;subst this;exact .cons ⟨a,rfl,e.seqT hs⟩ (qO9 e h2)
theorem qQj{K:PySem.W.Frag}{G:Hp}:∀ {ps:List (Int×Int)} {vs:List V},DenL K G (ps.map pairD) vs -> ∀x∈vs.zip (ps.map tOf),∃p,p∈ps/\x.2=tOf p/\Den K G (pairD p) x.1
 | [],vs,h=>by have:=h.ofNil;subst this;intro x hx;cases hx
 | p::ps,vs,h=>by
  obtain⟨v,r,rfl,h1,h2⟩:=h.ofCons;intro x hx;rcases aT.mp (show x∈(v,tOf p)::r.zip (ps.map tOf) from hx) with z | z
  ·rw [z];exact⟨p,aR ..,rfl,h1⟩
  ·obtain⟨p',hp,h3,h4⟩:=qQj h2 x z;exact⟨p',aS _ hp,h3,h4⟩
theorem qJ6{K:PySem.W.Frag}{G:Hp}{ps:List (Int×Int)}{vs:List V}{res:List (V×List Int)}(hd:DenL K G (ps.map pairD) vs)(hn:ps.Nodup)(hp:res.Perm (vs.zip (ps.map tOf)))(hs:(res.map (·.2)).Pairwise (λa b=>HT.lexLt b a=false)):∃ps':List (Int×Int),DenL K G (ps'.map pairD) (res.map (·.1))/\ps'.Pairwise ltP /\ ∀p,p∈ps'↔p∈ps:=by
 have hall:∀x∈res,∃p,p∈ps/\x.2=tOf p/\Den K G (pairD p) x.1:=λx hx=>qQj hd x (hp.mem_iff.mp hx);have hlen:vs.length=(ps.map tOf).length:=by rw [hd.len,aB,aB]
 have hperm:(res.map λx=>pOf x.2).Perm ps:=by
  have h1:=hp.map λx=>pOf x.2;have h2:(vs.zip (ps.map tOf)).map (λx=>pOf x.2)=ps:=by
   rw [show (vs.zip (ps.map tOf)).map (λx=>pOf x.2)=((vs.zip (ps.map tOf)).map (λx=>x.2)).map pOf by rw [cU];rfl];rw [show (vs.zip (ps.map tOf)).map (λx=>x.2)=ps.map tOf from List.map_snd_zip (by lia)];rw [cU];exact List.map_id' ps
  rw [h2] at h1;exact h1
 refine⟨res.map λx=>pOf x.2,?_,?_,λp=>hperm.mem_iff⟩
 ·rw [cU];refine DenL.ofAll λx hx=>?_;obtain⟨p,_,h2,h3⟩:=hall x hx;show Den K G (pairD (pOf x.2)) x.1;rw [h2,qLa];exact h3
 ·have hnd:(res.map λx=>pOf x.2).Nodup:=hperm.nodup_iff.mpr hn;have hs':(res.map λx=>pOf x.2).Pairwise (λp q=>HT.lexLt (tOf q) (tOf p)=false):=by
   rw [fB] at hs ⊢;refine hs.imp_of_mem λ{x y} hx hy h=>?_;obtain⟨p,_,h2,_⟩:=hall x hx;obtain⟨q,_,h3,_⟩:=hall y hy;rw [h2,h3,qLa,qLa];rw [h2,h3] at h;exact h
  exact (hs'.and hnd).imp λ{p q} h=>qMf h.1 h.2
theorem qGe:∀ps:List (Int×Int),PyData.canLayAll0 (ps.map pairD)=true
 | []=>rfl
 | p::r=>by
  show (PyData.canLay0 (pairD p)&&PyData.canLayAll0 (r.map pairD))=true;rw [qGe r];rfl
theorem qHj:∀ps:List (Int×Int),PyData.depthAll (ps.map pairD)<=1
 | []=>aU _
 | p::r=>by
  show max (PyData.depth (pairD p)) (PyData.depthAll (r.map pairD))<=1;have h1:PyData.depth (pairD p)=1:=rfl;have:=qHj r;lia
theorem qGf(ps:List (Int×Int)):PyData.depth (qBm ps)<=2:=by
 have:=qHj ps;show PyData.depthAll (ps.map pairD)+1<=2;lia
theorem qD8(ps:List (Int×Int)):SeqAt.shaped (qBm ps)=true:=by
 have:=qGf ps;show (PyData.canLayAll0 (ps.map pairD)&&decide (PyData.depth (qBm ps)<=64))=true;rw [qGe,decide_eq_true (show PyData.depth (qBm ps)<=64 by lia)];rfl
theorem qJi(ps:List (Int×Int)):(qBm ps).hasDict=false:=PyData.hasDict_of_canLay _ (qGe ps)
def qF6(w:List Blk):Nat->List (Int×Int)
 | 0 =>[]
 | i+1=>qF6 w i++outs w.length i ((w[i]?.map Blk.ns).getD [])
theorem qCi(w:List Blk):∀i,qAa w i=(-1,0)::qF6 w i
 | 0=>rfl
 | i+1=>by
  show qAa w i++_=_;rw [qCi w i];rfl
theorem qTj(w:List Blk)(i:Nat):(w[i]?.map Blk.ns).getD []=nxt w (i:Int):=by
 unfold nxt;rw [if_pos (by lia),cL]
theorem srt_mem{ns:List Int}{x:Int}:x∈srt ns↔x∈ns:=by
 unfold srt;split
 ·split
  ·rfl
  ·simp only [aT,gZ,or_false];constructor <;> (intro h;rcases h with h | h <;> simp [h])
 ·rfl
theorem mem_outs{m i:Int}{ns:List Int}{p:Int×Int}:p∈outs m i ns↔p.1=i/\(p.2∈ns\/(ns = []/\p.2=m)):=by
 unfold outs;rw [aM,bH];constructor
 ·rintro (⟨x,hx,rfl⟩ | h)
  ·exact⟨rfl,.inl (srt_mem.mp hx)⟩
  ·split at h
   ·next e=>rw [aQ.mp h];exact⟨rfl,.inr ⟨e,rfl⟩⟩
   ·cases h
 ·rintro⟨h1,h2 | ⟨h2,h3⟩⟩
  ·exact .inl ⟨p.2,srt_mem.mpr h2,by rw [<-h1]⟩
  ·refine .inr ?_;rw [if_pos h2,aQ,<-h1,<-h3]
theorem in_rest{w:List Blk}{p:Int×Int}:∀ {n:Nat},p∈qF6 w n ↔ ∃i:Nat,i<n/\p∈outs w.length i (nxt w i)
 | 0=>by
  constructor
  ·intro h;cases h
  ·rintro⟨i,h,_⟩;lia
 | n+1=>by
  show p∈qF6 w n++outs _ _ _↔_;rw [aM,in_rest,qTj];constructor
  ·rintro (⟨i,h1,h2⟩ | h)
   ·exact⟨i,by lia,h2⟩
   ·exact⟨n,by lia,h⟩
  ·rintro⟨i,h1,h2⟩;by_cases e:i=n
   ·subst e;exact .inr h2
   ·exact .inl ⟨i,by lia,h2⟩
theorem qLb{m M i:Int}{ns:List Int}(h:NsOk M ns):(outs m i ns).Pairwise ltP:=by
 rcases h with h | ⟨x,h,_⟩ | ⟨x,y,h,hne,_⟩ <;> subst h
 ·show List.Pairwise ltP [(i,m)];simp
 ·show List.Pairwise ltP [(i,x)];simp
 ·show List.Pairwise ltP ((srt [x,y]).map (λx=>(i,x)) ++ []);rw [bW];show List.Pairwise ltP ((if x<=y then [x,y] else [y,x]).map (λx=>(i,x)));split
  ·simp only [bG,List.map_nil,dQ,aQ,gZ,false_implies,implies_true,List.Pairwise.nil,and_true];rintro q rfl;exact .inr ⟨rfl,by show x<y;lia⟩
  ·simp only [bG,List.map_nil,dQ,aQ,gZ,false_implies,implies_true,List.Pairwise.nil,and_true];rintro q rfl;exact .inr ⟨rfl,by show y<x;lia⟩
theorem qG8{m works:Int}{w:List Blk}(h:WorkOk m works w):∀n,(qF6 w n).Pairwise ltP
 | 0 =>.nil
 | n+1=>by
  show (qF6 w n++outs _ _ _).Pairwise ltP;rw [qTj,bP];refine⟨qG8 h n,qLb (qHl h n),λp hp q hq =>.inl ?_⟩;obtain⟨i,hi,h2⟩:=in_rest.mp hp;have:=(mem_outs.mp h2).1;have:=(mem_outs.mp hq).1;lia
theorem qCd{m works:Int}{w:List Blk}(h:WorkOk m works w){p:Int×Int}(hp:p∈qF6 w w.length):0<=p.1/\p.1<m/\1<=p.2/\p.2<=m/\(p.2<m->p.2∈nxt w p.1):=by
 have hl:=h.len;obtain⟨i,hi,h2⟩:=in_rest.mp hp;obtain⟨h3,h4⟩:=mem_outs.mp h2;rcases h4 with h4 | ⟨h4,h5⟩
 ·have:=(qHl h i).range _ h4;exact⟨by lia,by lia,by lia,by lia,λ_=>by rw [h3];exact h4⟩
 ·exact⟨by lia,by lia,by lia,by lia,λ_=>by lia⟩
theorem cut1(x:V)(xs:List V):cutV (x::xs) (some 1) none=xs:=by
 unfold cutV HT.sIx;simp
theorem qCa{X:Cx}{a:Expr}{ta:TE}(K:PySem.W.Frag)(hK:X.K=K)(ha:PE X a ta)(he:∀whole,isTrue a X.env whole=(do let v <-whole;standAt a.pos;holding [v] (truthy v))):PT X a (λσ H Q=>ta σ H λx H' => ∃k,TruV K x H' k/\Q k H'):=hK▸qRu ha he
theorem qIx(xs:Array Nat)(j:Nat)(up:xs.toList.Pairwise (· < ·)):∀(fuel lo hi:Nat),lo<=hi->hi<=xs.size->hi - lo<=fuel->(∀(i x:Nat),xs[i]? = some x->i<lo->x<j)->(∀(i x:Nat),xs[i]? = some x->hi<=i->j<=x) ->
  (SetTable.below.go xs j fuel lo hi<=xs.size)/\(∀(i x:Nat),xs[i]? = some x->i<SetTable.below.go xs j fuel lo hi->x<j)/\(∀(i x:Nat),xs[i]? = some x->SetTable.below.go xs j fuel lo hi<=i->j<=x)
 | 0,lo,hi,h1,h2,h3,h4,h5=>by
  have e:lo=hi:=by lia
  subst e;exact⟨h2,h4,h5⟩
 | fuel+1,lo,hi,h1,h2,h3,h4,h5=>by
  unfold SetTable.below.go;by_cases hl:lo<hi
  ·rw [if_pos hl];dsimp only;have hm:(lo+hi) / 2<xs.size:=by lia
   have le:∀(i k x y:Nat),xs[i]? = some x->xs[k]? = some y->i<=k->x<=y:=by
    intro i k x y hx hy hik;rw [<-aY] at hx hy;obtain⟨hi',rfl⟩:=aI.mp hx;obtain⟨hk',rfl⟩:=aI.mp hy;rcases Nat.lt_or_eq_of_le hik with z | z
    ·exact dX (bQ.mp up i k hi' hk' z)
    ·subst z;exact aE _
   obtain⟨y,hy⟩:∃y,xs[(lo+hi) / 2]? = some y:=⟨_,aZ hm⟩;have hg:xs.getD ((lo+hi) / 2) j=y:=by rw [bZ,hy];rfl
   rw [hg];by_cases hy2:y<j
   ·rw [if_pos hy2];exact qIx xs j up fuel _ _ (by lia) h2 (by lia) (λi x hx hlt=>fO (le i _ x y hx hy (by lia)) hy2) h5
   ·rw [if_neg hy2];exact qIx xs j up fuel _ _ (by lia) (by lia) (by lia) h4 (λi x hx hlt=>cA (Nat.le_of_not_lt hy2) (le _ i y x hy hx (by lia)))
  ·rw [if_neg hl];have e:lo=hi:=by lia
   subst e;exact⟨h2,h4,h5⟩
theorem qFw(xs:Array Nat)(j:Nat)(up:xs.toList.Pairwise (· < ·)):SetTable.below xs j<=xs.size/\(∀(i x:Nat),xs[i]? = some x->i<SetTable.below xs j->x<j)/\(∀(i x:Nat),xs[i]? = some x->SetTable.below xs j<=i->j<=x):=qIx xs j up xs.size 0 xs.size (aU _) (aE _) (Nat.sub_le _ _) (λ_ _ _ h=>absurd h (fH _)) (λi x hx h=>absurd (fJ.mp hx).1 (by lia))
theorem qJd(xs:Array Nat)(j:Nat)(up:xs.toList.Pairwise (· < ·))(hj:xs[SetTable.below xs j]? ≠ some j):(SetTable.insertAt xs (SetTable.below xs j) j).toList.Pairwise (· < ·):=by
 obtain⟨h1,h2,h3⟩:=qFw xs j up;rw [gA];generalize SetTable.below xs j=b at *;have h4:∀x∈xs.toList.drop b,j<x:=by
  intro x hx;obtain⟨i,hi,e⟩:=bN hx;have hg:xs.toList[b+i]? = some x:=by rw [<-List.getElem?_drop,aF hi,e]
  rw [aY] at hg;have hle:=h3 _ _ hg (Nat.le_add_right _ _);rcases Nat.lt_or_eq_of_le hle with z | z
  ·exact z
  ·subst z;by_cases hi0:i=0
   ·subst hi0;exact absurd hg hj
   ·have hbs:b<xs.toList.length:=by rw [cJ] at hi;lia
    have hb:xs[b]? = some xs.toList[b]:=by rw [<-aY,aF hbs]
    have z1:=h3 _ _ hb (aE _);rw [<-aY] at hg;obtain⟨hbi,e2⟩:=aI.mp hg;have z2:=bQ.mp up b (b+i) hbs hbi (by lia);lia
 refine bP.mpr ⟨up.sublist (List.take_sublist _ _),dQ.mpr ⟨h4,up.sublist (List.drop_sublist _ _)⟩,λx hx y hy=>?_⟩;obtain⟨i,hi,e⟩:=bN hx;have hib:i<b:=by rw [aV] at hi;lia
 have hg:xs.toList[i]? = some x:=by rw [<-List.getElem?_take_of_lt hib,aF hi,e]
 rw [aY] at hg;have hlt:=h2 _ _ hg hib;rcases aT.mp hy with z | z
 ·subst z;exact hlt
 ·exact Nat.lt_trans hlt (h4 y z)
theorem qCw(n:Nat):(Array.range n).toList.Pairwise (· < ·):=by
 rw [Array.toList_range];exact fI
def qR6(t:SetTable)(j:Nat):Prop:=t.place[SetTable.below t.place j]? ≠ some j
theorem qHm{t:SetTable}{j:Nat}(h:t.slot j = .empty\/t.slot j = .dummy):qR6 t j:=by
 intro e;unfold SetTable.slot at h;dsimp only at h;rw [e] at h;simp at h
theorem qId{t:SetTable}{f:Nat->Int}{h:Int}{j:Nat}{dm:Option Nat}:∀(fuel:Nat) (p:SetTable.Probe),SetTable.probe.go t f h fuel p=some (.empty j dm)->(∀d,p.dummy=some d->t.slot d = .dummy) ->
  t.slot j = .empty /\ ∀d,dm=some d->t.slot d = .dummy
 | 0,p,e,_=>by unfold SetTable.probe.go at e;cases e
 | fuel+1,p,e,hd=>by
  unfold SetTable.probe.go at e;have ha:∀q:SetTable.Probe,(t.advance q).dummy=q.dummy:=by
   intro q;unfold SetTable.advance;split <;> rfl
  cases hs:t.slot p.j with
  | empty=>rw [hs] at e;dsimp only at e;cases e;exact⟨hs,hd⟩
  | dummy=>rw [hs] at e;dsimp only at e;exact qId fuel _ e (λd z=>by rw [ha] at z;cases z;exact hs)
  | live i =>
   rw [hs] at e;dsimp only at e;split at e
   ·cases e
   ·exact qId fuel _ e (λd z=>by rw [ha] at z;exact hd d z)
theorem qLf{t:SetTable}{h:Int}{slot:Nat}{wd:Bool}(e:t.freeSlot h=some (slot,wd)):qR6 t slot:=by
 unfold SetTable.freeSlot at e;split at e
 ·rename_i j dm hp;obtain⟨a,b⟩:=qId _ _ hp (λd z=>by unfold SetTable.probeStart at z;cases z);cases e;cases dm with
  | none=>exact qHm (.inl a)
  | some d=>exact qHm (.inr (b d rfl))
 ·cases e
structure GoodT(b:Bool)(t:SetTable)(n:Nat):Prop where
 fits:t.fits n=true
 rise:t.place.toList.Pairwise (· < ·)
 led:t.led=b
theorem qLe{b:Bool}{t:SetTable}{es:Array (Int×Value)}{h:Int}{x:Value}(g:GoodT b t es.size):GoodT b (layNew t es h x).2.1 (layNew t es h x).1.size:=by
 refine⟨layNew_fits t es h x,?_,?_⟩
 ·unfold layNew;split
  ·rename_i slot wd hs;dsimp only;unfold SetTable.orStandIn;split
   ·exact qJd _ _ g.rise (qLf hs)
   ·exact qCw _
  ·exact qCw _
 ·unfold layNew;split
  ·dsimp only;unfold SetTable.orStandIn;split
   ·exact g.led
   ·exact g.led
  ·exact g.led
theorem qIa{b:Bool}{t:SetTable}{es:Array (Int×Value)}{m:Nat}(g:GoodT b t es.size):GoodT b (relayAll t es m).2.1 (relayAll t es m).1.size:=by
 refine⟨relayAll_fits t es m,?_,?_⟩
 ·unfold relayAll;split
  ·rename_i t' order hr;dsimp only;split
   ·unfold SetTable.relaid SetTable.laid at hr;cases hl:SetTable.layClean (SetTable.sizeAbove m - 1) (es.map (·.1)) with
    | none=>rw [hl] at hr;cases hr
    | some owner =>
     rw [hl] at hr;cases hr;show (((List.range _).filterMap λj=>(owner.getD j none).map (j,·)).map (·.1)).Pairwise (· < ·);have hsub:∀l:List Nat,((l.filterMap λj=>(owner.getD j none).map (j,·)).map (·.1)).Sublist l:=by
      intro l
      induction l with
      | nil=>exact .slnil
      | cons a r ih =>
       rw [cF];cases owner.getD a none with
       | none=>exact ih.cons _
       | some k=>exact ih.cons₂ a
     exact List.Pairwise.sublist (hsub _) fI
   ·exact qCw _
  ·exact qCw _
 ·unfold relayAll;split
  ·rename_i t' order hr;dsimp only;split
   ·unfold SetTable.relaid SetTable.laid at hr;cases hl:SetTable.layClean (SetTable.sizeAbove m - 1) (es.map (·.1)) with
    | none=>rw [hl] at hr;cases hr
    | some owner=>rw [hl] at hr;cases hr;exact g.led
   ·exact g.led
  ·exact g.led
theorem GoodT.plainOff{b:Bool}{t:SetTable}{n:Nat}(g:GoodT b t n):GoodT b { t with plain:=false } n:=⟨SetTable.fits_plain_off g.fits,g.rise,g.led⟩
def keyI:Int×Value->Int
 | (_,.int n _)=>n
 | _=>0
def EI(e:Int×Value):Prop := ∃n t,e=(hashInt n,Value.int n t)
def qBw(w:World):Bool:=w.params.followText "set-order"
def SetI(w:World)(h:Heap)(a:Addr)(ns:List Int):Prop :=
 ∃o es ep t,h.get? a=some o/\o.ExactSet/\o.data = .set es ep t/\(∀e∈es.toList,EI e)/\(es.toList.map keyI).Perm ns/\ns.Nodup/\es.size<scanBound/\GoodT (!qBw w) t es.size
theorem EI.elems{P:Program}{w:World}{l:List (Int×Value)}(h:∀e∈l,EI e):ElemsOf (intKind P w) l:=λe he=>by
 obtain⟨n,t,rfl⟩:=h e he;exact⟨⟨n,intKind_is P w n t,rfl⟩,rfl⟩
theorem qMc{P:Program}{w:World}{l:List (Int×Value)}(h:∀e∈l,EI e)(n:Int):n∈l.map keyI ↔ ∃e∈l,(intKind P w).is n e.2=true:=by
 constructor
 ·intro hm;obtain⟨e,he,q⟩:=bH.mp hm;obtain⟨m,t,rfl⟩:=h e he;cases q;exact⟨_,he,intKind_is P w m t⟩
 ·rintro⟨e,he,q⟩;obtain⟨m,t,rfl⟩:=h e he;have:n=m:=(intKind P w).inj _ _ _ q (intKind_is P w m t);subst this;exact bH.mpr ⟨_,he,rfl⟩
theorem SetI.stay{w:World}{h h':Heap}{a:Addr}{ns:List Int}(S:SetI w h a ns)(k:∀o,h.get? a=some o->h'.get? a=some o):SetI w h' a ns:=by
 obtain⟨o,es,ep,t,e,r⟩:=S;exact⟨o,es,ep,t,k o e,r⟩
def addN(ns:List Int)(n:Int):List Int:=if n∈ns then ns else ns ++ [n]
theorem qDq{ns:List Int}{n:Int}(h:ns.Nodup):(addN ns n).Nodup:=by
 unfold addN;split
 ·exact h
 ·rename_i hn;exact eM.mpr ⟨h,by simp,by intro x hx y hy;simp at hy;subst hy;intro e;subst e;exact hn hx⟩
theorem qSi{ns:List Int}{n m:Int}:m∈addN ns n↔m∈ns\/m=n:=by
 unfold addN;split
 ·rename_i hn;constructor
  ·exact .inl
  ·rintro (h | rfl)
   ·exact h
   ·exact hn
 ·simp
theorem qT4{ns:List Int}{n:Int}:(addN ns n).length<=ns.length+1:=by
 unfold addN;split <;> simp
section
variable{P:Program}{w:World}{A:Around}{E:Value->Shared->Prop}{s:Shared}
theorem SetI.store{h:Heap}{a:Addr}{o:Obj}{es es':Array (Int×Value)}{ep:Nat}{t t':SetTable}{ns:List Int}(ho:h.get? a=some o)(hex:o.ExactSet)(hd:o.data = .set es ep t)(hel:∀e∈es'.toList,EI e)(hp:(es'.toList.map keyI).Perm ns)(hn:ns.Nodup)(hb:es'.size<scanBound)(g:GoodT (!qBw w) t' es'.size):(h.update a (Obj.putSet es' t')).get? a=some { o with data :=.set es' (ep+1) t' }/\SetI w (h.update a (Obj.putSet es' t')) a ns:=by
 have hg:=dI (Obj.putSet es' t') ho (by rw [putSet_of es' t' hd];rfl);rw [putSet_of es' t' hd] at hg;exact⟨hg,_,es',ep+1,t',hg,hex,rfl,hel,hp,hn,hb,g⟩
theorem qKr{gw:Bool->Sem Unit}(hg:∀(b:Bool) (s₁ : Shared) (Q':Unit->Shared->Prop),Q' () s₁ -> wpAny (model P w) A (gw b) Q' E s₁){a:Addr}{o:Obj}{es:Array (Int×Value)}{ep:Nat}{t:SetTable}(ho:s.heap.get? a=some o)(hex:o.ExactSet)(hd:o.data = .set es ep t){es1:Array (Int×Value)}{t2:SetTable}{ns:List Int}(hel:∀e∈es1.toList,EI e)(hp:(es1.toList.map keyI).Perm ns)(hn:ns.Nodup)(hb:es1.size<scanBound)(g:GoodT (!qBw w) t2 es1.size){wd:Bool}{R:Option Bool->Shared->Prop}(h:∀h',Heap.SameBut a s.heap h'->SetI w h' a ns->R (some true) { s with heap:=h' }):wpAny (model P w) A (do
    storeSet a es1 t2
    if (!wd&&t2.tooFull)=true then do
      gw (relayAll t2 es1 (SetTable.grown es1.size)).2.2
      storeSet a (relayAll t2 es1 (SetTable.grown es1.size)).1 (relayAll t2 es1 (SetTable.grown es1.size)).2.1
      pure (some true)
     else pure (some true)) R E s:=by
 refine aA (wpAny_storeSet_of ho hd ?_ (gB hb));obtain⟨ho1,hS1⟩:=SetI.store (w:=w) ho hex hd hel hp hn hb g;have sb:=cG s.heap a (Obj.putSet es1 t2);split
 ·have hp2:=relayAll_perm t2 es1 (SetTable.grown es1.size);have g2:=qIa (m:=SetTable.grown es1.size) g;generalize relayAll t2 es1 (SetTable.grown es1.size)=Rl at hp2 g2 ⊢;obtain⟨es2,t3,gv⟩:=Rl;dsimp only at hp2 g2 ⊢;have hz:es2.size=es1.size:=by rw [<-aK,hp2.length_eq,aK]
  have hb2:es2.size<scanBound:=by lia
  refine aA (hg _ _ _ (aA (wpAny_storeSet_of ho1 rfl ?_ (gB hb2))));exact aC (h _ (sb.trans (cG _ a _)) (SetI.store (w:=w) ho1 hex rfl (λe he=>hel e (hp2.mem_iff.mp he)) ((hp2.map keyI).trans hp) hn hb2 g2).2)
 ·exact aC (h _ sb hS1)
theorem addI{a:Addr}{ns:List Int}{n:Int}{tk:Tok}{Q:Bool->Shared->Prop}(S:SetI w s.heap a ns)(hroom:ns.length+1<scanBound)(h:∀h',Heap.SameBut a s.heap h'->SetI w h' a (addN ns n)->Q (!decide (n∈ns)) { s with heap:=h',toks:=s.toks+1 }):wpAny (model P w) A (setAdd a (.int n tk)) Q E s:=by
 unfold setAdd;refine bT (aA ((intKind P w).pyHash (k:=n) (intKind_is _ _ _ _) ?_));obtain⟨o,es,ep,t,ho,hex,hd,hel,hp,hn,hb,g⟩:=S;have hlen:es.size=ns.length:=by rw [<-hp.length_eq,aB,aK]
 have he:=EI.elems (P:=P) (w:=w) hel;have hkey:=intKind_is P w n tk;unfold setAddHashed setAddHashedIn;refine bT (aA (cO (s :={ s with toks:=s.toks+1 }) ho hd g.fits ?_));dsimp only;rw [byScan_of (knd:=intKind P w) (x :=.int n tk) rfl hb he];simp only [↓reduceIte];unfold setAddByScan;refine aA (aA (dA (aA (wpAny_setScan_of (knd:=intKind P w) (k:=n) hkey ho hd g.fits he ?_))));cases hr:List.findIdx? (λe=>(intKind P w).is n e.2) es.toList with
 | some j =>
  dsimp only;obtain⟨hj,hpj,_⟩:=List.findIdx?_eq_some_iff_getElem.mp hr;have hm:n∈ns:=hp.mem_iff.mp ((qMc (P:=P) (w:=w) hel n).mpr ⟨_,dZ hj,hpj⟩);refine aC (aC ?_);have q:=h s.heap (Heap.SameBut.refl a s.heap) ⟨o,es,ep,t,ho,hex,hd,hel,by unfold addN;rw [if_pos hm];exact hp,qDq hn,hb,g⟩;rw [decide_eq_true hm] at q;exact q
 | none =>
  dsimp only;have hm:n∉ns:=λz=>by
   obtain⟨e,he,q⟩:=(qMc (P:=P) (w:=w) hel n).mp (hp.mem_iff.mpr z);have:=List.findIdx?_eq_none_iff.mp hr e he;rw [q] at this;cases this
  have hgw:∀(b:Bool) {s₁ : Shared} {Q':Unit->Shared->Prop},Q' () s₁ -> wpAny (model P w) A (match b with | true=>rule "set.scan.the-table-gave-way" | false=>pure ()) Q' E s₁ :=λb s₁ Q' hq=>by
   cases b
   ·exact aC hq
   ·exact dA hq
  have hp1:=layNew_perm t es ((intKind P w).hash n) (.int n tk);have g1:=qLe (h:=(intKind P w).hash n) (x :=.int n tk) g;generalize layNew t es ((intKind P w).hash n) (.int n tk)=L at hp1 g1 ⊢;obtain⟨es1,t1,wd,gave⟩:=L;dsimp only at hp1 g1 ⊢;rw [dL] at hp1;have hel1:∀e∈es1.toList,EI e:=λe he=>by
   rcases aM.mp (hp1.mem_iff.mp he) with z | z
   ·exact hel e z
   ·rw [aQ] at z;exact⟨n,tk,z⟩
  have hz1:es1.size=es.size+1:=by rw [<-aK,hp1.length_eq,aG,aK];rfl
  have hq1:(es1.toList.map keyI).Perm (addN ns n):=by
   unfold addN;rw [if_neg hm];refine (hp1.map keyI).trans ?_;rw [aN];exact hp.append_right _
  have fin:∀h',Heap.SameBut a s.heap h'->SetI w h' a (addN ns n)->Q true { s with heap:=h',toks:=s.toks+1 }:=λh' sb S'=>by
   have q:=h h' sb S';rw [decide_eq_false hm] at q;exact q
  refine aA (hgw _ ?_);have gw2:∀(b:Bool) (s₁ : Shared) (Q':Unit->Shared->Prop),Q' () s₁ -> wpAny (model P w) A (match b with | true=>rule "set.scan.the-table-gave-way" | false=>pure ()) Q' E s₁ :=λb s₁ Q' hq=>hgw b hq;split
  ·refine aA ?_;rw [hashByValue_scannable 8 (x :=.int n tk) rfl];refine aC ?_;refine qKr (s :={ s with toks:=s.toks+1 }) (λb s₁ Q' hq=>?_) ho hex hd hel1 hq1 (qDq hn) (by lia) ?_ (λh' sb S'=>?_)
   ·cases b
    ·exact aC hq
    ·exact dA hq
   ·split
    ·exact g1
    ·exact g1.plainOff
   ·dsimp only;exact aC (fin h' sb S')
  ·refine aA (aC ?_);simp only [↓reduceIte];refine qKr (s :={ s with toks:=s.toks+1 }) (λb s₁ Q' hq=>?_) ho hex hd hel1 hq1 (qDq hn) (by lia) g1 (λh' sb S'=>?_)
   ·cases b
    ·exact aC hq
    ·exact dA hq
   ·dsimp only;exact aC (fin h' sb S')
end
theorem slot_si_next:Slot "set_iterator" "__next__" "set_iterator.__next__" :=.of (owner := "set_iterator") (n := "__next__") (by rw [typeLookup_type,builtinLookup_eq_fast];kernel_rfl) (by decide +kernel) (by decide +kernel) (by decide +kernel) (by first | exact .inl (by decide +kernel) | exact .inr (by decide +kernel)) (by rw [isSubtype_type];kernel_rfl)
theorem qF5:Slot "set_iterator" "__iter__" "set_iterator.__iter__" :=.of (owner := "set_iterator") (n := "__iter__") (by rw [typeLookup_type,builtinLookup_eq_fast];kernel_rfl) (by decide +kernel) (by decide +kernel) (by decide +kernel) (by first | exact .inl (by decide +kernel) | exact .inr (by decide +kernel)) (by rw [isSubtype_type];kernel_rfl)
theorem qEi:entryFor table "set_iterator.__next__" = some Builtin.«set_iterator.__next__» :=entryFor_of_tree (by kernel_rfl)
theorem qIq:entryFor table "set_iterator.__iter__" = some Builtin.«dict_keyiterator.__iter__» :=entryFor_alias (id' := "dict_keyiterator.__iter__") (by kernel_rfl) rfl (by decide +kernel) (by kernel_rfl)
theorem qFf(a:Value):argsOk "set_iterator.__next__" ⟨[a],[]⟩:=by unfold argsOk;kernel_rfl
theorem qKp(a:Value):argsOk "set_iterator.__iter__" ⟨[a],[]⟩:=by unfold argsOk;kernel_rfl
theorem qGz:entryFor table "set.__iter__" = some Builtin.«frozenset.__iter__» :=entryFor_alias (id' := "frozenset.__iter__") (by kernel_rfl) rfl (by decide +kernel) (by kernel_rfl)
def SIter(h:Heap)(it:Addr)(first:Value)(i:Nat)(a:Addr)(n ep:Nat):Prop :=
 ∃o,h.get? it=some o/\o.cls = .type "set_iterator" /\ o.data = .fields #[first,.int i 0,.ref a,.int n 0,.int ep 0]
theorem SIter.ty{s:Shared}{it:Addr}{first:Value}{i:Nat}{a:Addr}{n ep:Nat}(h:SIter s.heap it first i a n ep):s.TypeIs (.ref it) "set_iterator" :=let ⟨o,e,c,_⟩:=h;⟨o,e,c⟩
theorem qDo{α : Type}:∀ {l:List α} {i:Nat} (h:i<l.length),(l[i]::l.eraseIdx i).Perm l
 | a::r,0,_ =>.refl _
 | a::r,i+1,h=>by
  have h':i<r.length:=by simpa using h
  show ((r[i]'h')::a::r.eraseIdx i).Perm (a::r);exact (List.Perm.swap _ _ _).trans ((qDo h').cons a)
section
variable{P:Program}{w:World}{A:Around}{E:Value->Shared->Prop}{s:Shared}
theorem qU3{it a:Addr}{first:Value}{i n ep:Nat}{Q:Value->Shared->Prop}(h:SIter s.heap it first i a n ep)(q:Q (.ref it) s):wpAny (model P w) A (pyIter (.ref it)) Q E s:=by
 refine wpAny_pyIter_slot h.ty qF5 (cX qF5 h.ty qIq ?_ (qKp _));show wpAny _ _ (ret (.ref it)) _ _ s;exact aC ⟨_,rfl,"set_iterator",_,h.ty,slot_si_next.lookup,q⟩
theorem qO2{src:Source}{n:Nat}{Q:Nat->Shared->Prop}(hn:n≠0)(h:∀i d,i<n->Q i { s with drawn:=d }):wpAny (model P w) A (choose src n) Q E s:=λΓ p hΓ =>by
 unfold choose;rw [Sem.wp_choose];exact⟨hn,h _ _ (Nat.mod_lt _ (Nat.pos_of_ne_zero hn))⟩
theorem qK5{α : Type}:∀(xs:List α) {s:Shared} {Q:List α -> Shared->Prop},(∀ys d,ys.Perm xs->Q ys { s with drawn:=d })->wpAny (model P w) A (drawOrder xs.length xs) Q E s
 | [],s,Q,h=>by
  unfold drawOrder;exact aC (h [] s.drawn (.refl _))
 | x::r,s,Q,h=>by
  show wpAny _ _ (drawOrder (r.length+1) (x::r)) _ _ s;unfold drawOrder;refine aA (qO2 (by simp) λi d hi=>?_);rw [aF hi];dsimp only;have hl:((x::r).eraseIdx i).length=r.length:=by rw [List.length_eraseIdx_of_lt hi];rfl
  rw [<-hl];refine aA (qK5 ((x::r).eraseIdx i) λys d' hp=>aC (h _ d' ?_));exact (hp.cons _).trans (qDo hi)
 termination_by xs=>xs.length
theorem qP7{α : Type}(f:Nat->Nat):∀(fuel k:Nat) (l:List α) (out:Array α),l.length=fuel->(pickOrder.go f fuel k l out).toList.Perm (out.toList++l)
 | 0,k,l,out,h=>by
  have:l = []:=List.length_eq_zero_iff.mp h;subst this;unfold pickOrder.go;simp
 | fuel+1,k,l,out,h=>by
  unfold pickOrder.go;have hl:f k%l.length<l.length:=Nat.mod_lt _ (by lia);rw [aF hl];dsimp only;refine (qP7 f fuel (k+1) _ _ (by rw [List.length_eraseIdx_of_lt hl];lia)).trans ?_;rw [dL,bU];exact gN _ (qDo hl)
theorem qP6{α : Type}(f:Nat->Nat)(xs:Array α):(pickOrder f xs).toList.Perm xs.toList:=by
 unfold pickOrder;have:=qP7 f xs.size 0 xs.toList #[] (by simp);simpa using this
end
theorem qFu{h:Heap}{it:Addr}{o:Obj}{vs:Array Value}(k:Nat)(v:Value)(ho:h.get? it=some o)(hd:o.data = .fields vs):∃o',(h.update it (Obj.mapFields (·.setIfInBounds k v))).get? it=some o'/\o'.cls=o.cls/\o'.data = .fields (vs.setIfInBounds k v) :=
 ⟨_,dI _ ho (Obj.isFreed_of_fields (Obj.data_mapFields hd _)),Obj.cls_mapFields ..,Obj.data_mapFields hd _⟩
def slotI(t:SetTable):Nat->Nat
 | 0=>0
 | i+1=>t.place.getD i 0+1
theorem qNy{t:SetTable}{n:Nat}(up:t.place.toList.Pairwise (· < ·)){i:Nat}(hi:i<=t.place.size):SetTable.below t.place (slotI t i)=i:=by
 obtain⟨h1,h2,h3⟩:=qFw t.place (slotI t i) up;generalize SetTable.below t.place (slotI t i)=b at *;have lt:∀(i k x y:Nat),t.place[i]? = some x->t.place[k]? = some y->i<k->x<y:=by
  intro i k x y hx hy hik;rw [<-aY] at hx hy;obtain⟨hi',rfl⟩:=aI.mp hx;obtain⟨hk',rfl⟩:=aI.mp hy;exact bQ.mp up i k hi' hk' hik
 cases i with
 | zero =>
  by_cases hb:b=0
  ·exact hb
  ·have h0:0<t.place.size:=by lia
   exact absurd (h2 0 _ (aZ h0) (by lia)) (fH _)
 | succ i =>
  have hx:t.place[i]? = some (t.place.getD i 0):=by
   have hlt:i<t.place.size:=by lia
   rw [bZ,aZ hlt];rfl
  rcases Nat.lt_trichotomy b (i+1) with z | z | z
  ·have:=h3 i _ hx (by lia);simp only [slotI] at this;lia
  ·exact z
  ·have hlt:i+1<t.place.size:=by lia
   have q:=h2 (i+1) _ (aZ hlt) z;have r:=lt i (i+1) _ _ hx (aZ hlt) (by lia);simp only [slotI] at q;lia
inductive Mode(w:World)(h:Heap)(a:Addr)(es:Array (Int×Value))(ep:Nat)(t:SetTable)(i:Nat):Value->List (Int×Value)->List Addr->Prop
 | told (sl:Nat) (b:qBw w=true):Mode w h a es ep t i (.int sl 0) (pickOrder (w.params.setOrder a ep) es).toList []
 | place (b:qBw w=false) (d:(!t.plain&&decide (es.size>1))=false):Mode w h a es ep t i (.int (slotI t i) 0) es.toList []
 | drawn (tp:Addr) (places:List Nat) (o:Obj) (n:Nat) (ord:List (Int×Value)) (e:h.get? tp=some o) (c:o.data = .seq (places.map λ(j:Nat)=>rawInt (j:Int)).toArray n) (q:places.map (λj=>es[j]?)=ord.map some):Mode w h a es ep t i (.ref tp) ord [tp]
def SW(w:World)(it a:Addr)(es:Array (Int×Value))(ep:Nat)(t:SetTable)(ord:List (Int×Value))(ex:List Addr)(i:Nat)(h:Heap):Prop :=
 ∃first,SIter h it first i a es.size ep/\(∃o,h.get? a=some o/\o.data = .set es ep t)/\GoodT (!qBw w) t es.size/\ord.length=es.size/\Mode w h a es ep t i first ord ex
section
variable{P:Program}{w:World}{A:Around}{E:Value->Shared->Prop}{s:Shared}{it a:Addr}{es:Array (Int×Value)}{ep:Nat}{t:SetTable}{ord:List (Int×Value)}{ex:List Addr}{i:Nat}
theorem qQc{t:SetTable}{n:Nat}(h:t.fits n=true):t.place.size=n:=by
 simp only [SetTable.fits,bD,beq_iff_eq] at h;exact h.1
theorem qJo{o:Obj}{sl:Nat}{Q:Option (Value×Nat)->Shared->Prop}(ho:s.heap.get? a=some o)(hd:o.data = .set es ep t)(g:GoodT (!qBw w) t es.size)(b:qBw w=true)(q:Q (((pickOrder (w.params.setOrder a ep) es)[i]?).map λe=>(e.2,sl)) s):wpAny (model P w) A (setNext a sl i ep) Q E s:=by
 unfold setNext;refine aA (cO ho hd g.fits ?_);dsimp only;unfold setsByText;refine aA (aA (dY (aC ?_)));show wpAny _ _ (if w.params.followText "set-order" = true then _ else _) _ _ _;rw [if_pos (show (w.params.followText "set-order")=true from b),if_neg (by simp)];unfold setWalk;refine aA (aA (cO ho hd g.fits ?_));dsimp only;unfold setsByText;refine aA (aA (dY (aC ?_)));show wpAny _ _ (if w.params.followText "set-order" = true then _ else _) _ _ _;rw [if_pos (show (w.params.followText "set-order")=true from b)];refine aA (dY (aC (aC ?_)))
 exact q
theorem qHn{o:Obj}{Q:Option (Value×Nat)->Shared->Prop}(ho:s.heap.get? a=some o)(hd:o.data = .set es ep t)(g:GoodT (!qBw w) t es.size)(b:qBw w=false)(d:(!t.plain&&decide (es.size>1))=false)(hi:i<=es.size)(q:Q ((es[i]?).map λe=>(e.2,slotI t (i+1))) s):wpAny (model P w) A (setNext a (slotI t i) i ep) Q E s:=by
 have hz:=qQc g.fits;unfold setNext;refine aA (cO ho hd g.fits ?_);dsimp only;unfold setsByText;refine aA (aA (dY (aC ?_)));show wpAny _ _ (if w.params.followText "set-order" = true then _ else _) _ _ _;rw [if_neg (show ¬(w.params.followText "set-order")=true from λz=>by rw [show (w.params.followText "set-order")=false from b] at z;cases z)];have led:t.led=true:=by rw [g.led,b];rfl
 split
 ·rename_i z;exact absurd (show (!t.plain&&decide (es.size>1))=true from z) (by rw [d];exact aD)
 ·refine aA ?_;show wpAny _ _ (if (!t.led && !es.isEmpty)=true then unsupported "set:maker-not-led" else pure PUnit.unit) _ _ _;rw [if_neg (by rw [led];simp)];refine aC (aC ?_);rw [qNy (n:=es.size) g.rise (by lia)];by_cases hlt:i<es.size
  ·have h1:es[i]? = some es[i]:=aZ hlt;have h2:t.place[i]? = some (t.place.getD i 0):=by
    have:i<t.place.size:=by lia
    rw [bZ,aZ this];rfl
   rw [h1] at q ⊢;rw [h2];exact q
  ·have h1:es[i]? = none:=Array.getElem?_eq_none (by lia);rw [h1] at q ⊢;exact q
theorem Mode.stay{h h':Heap}{first:Value}(m:Mode w h a es ep t i first ord ex)(k:∀b∈ex,∀o,h.get? b=some o->h'.get? b=some o):Mode w h' a es ep t i first ord ex:=by
 cases m with
 | told sl b=>exact .told sl b
 | place b d=>exact .place b d
 | drawn tp places o n _ e c q=>exact .drawn tp places o n _ (k tp (by simp) _ e) c q
theorem qTy{Q:Option Value->Shared->Prop}(hia:it≠a)(hie:it∉ex)(h:SW w it a es ep t ord ex i s.heap){e:Int×Value}(he:ord[i]? = some e)(q:∀h',SW w it a es ep t ord ex (i+1) h'->Heap.SameBut it s.heap h'->Q (some e.2) { s with heap:=h' }):wpAny (model P w) A (pyNext (.ref it)) Q E s:=by
 obtain⟨first,hit,⟨o,ho,hd⟩,g,hl,m⟩:=h;obtain⟨oi,hoi,hc,hdi⟩:=id hit;have hlt:i<es.size:=by rw [<-hl];exact (aI.mp he).1
 unfold pyNext;refine aA (wpAny_attempt (wpAny_callSpecial?_slot (name:=Str.ofString "__next__") hit.ty slot_si_next (cX slot_si_next hit.ty qEi ?_ (qFf _))));unfold Builtin.«set_iterator.__next__»;refine aA (m:=slotArgs "__next__" 0 _) (aC ?_);refine aA (wpAny_fieldsOf hoi hdi ?_);dsimp only;refine aA (wpAny_setEntries_of ho hd g.fits ?_);rw [if_neg (by simp)];have two:∀(sl nx:Nat),first = .int sl 0->(∀h',Heap.SameBut it s.heap h'->Mode w h' a es ep t (i+1) (.int nx 0) ord ex) ->
   wpAny (model P w) A.in1 (do setField (Value.ref it) 0 (rawInt nx);setField (Value.ref it) 1 (rawInt ((i:Int)+1));ret e.2) (λfin s' => ∃v,fin=Fin.done (Flow.ret v)/\wpAny (model P w) A (pure (some v)) Q E s')
    (λe s'=>wpAny (model P w) A (do if (<-isInstance e (Value.type "StopIteration"))=true then pure none else throw e) Q E s') s:=by
  intro sl nx hf hm;subst hf;refine aA (gI hoi hdi (by simp) ?_);obtain⟨o1,e1,c1,d1⟩:=qFu 0 (rawInt nx) hoi hdi;refine aA (gI e1 d1 (by simp) ?_);obtain⟨o2,e2,c2,d2⟩:=qFu 1 (rawInt ((i:Int)+1)) e1 d1;have sb:Heap.SameBut it s.heap _:=(cG s.heap it (Obj.mapFields (·.setIfInBounds 0 (rawInt nx)))).trans (cG _ it (Obj.mapFields (·.setIfInBounds 1 (rawInt ((i:Int)+1)))));refine aC ⟨_,rfl,aC (q _ ⟨.int nx 0,⟨o2,e2,c2.trans (c1.trans hc),?_⟩,⟨o,(sb.2 a (cS hia)).trans ho,hd⟩,g,hl,hm _ sb⟩ sb)⟩;rw [d2];simp [rawInt]
 cases m with
 | told sl b =>
  dsimp only;simp only [cL];refine aA (qJo (i:=i) ho hd g b ?_);rw [show (pickOrder (w.params.setOrder a ep) es)[i]? = some e by rw [<-aY];exact he];exact two sl sl rfl λh' sb =>.told sl b
 | place b d =>
  dsimp only;simp only [cL];refine aA (qHn (i:=i) ho hd g b d (by lia) ?_);rw [show es[i]? = some e by rw [<-aY];exact he];exact two _ _ rfl λh' sb =>.place b d
 | drawn tp places op n _ eo c qq =>
  dsimp only;refine aA (wpAny_seqItems eo c ?_);dsimp only;have hpl:places.length=ord.length:=by have:=congrArg List.length qq;simpa using this
  obtain⟨j,hj⟩:∃j,places[i]? = some j:=⟨_,aF (by lia)⟩;have hej:es[j]? = some e:=by
   have:=congrArg (λl=>l[i]?) qq;simp only [aW,hj,he,Option.map_some] at this;exact bF this
  have hji:(places.map λ(j:Nat)=>rawInt (j:Int)).toArray[((i:Int)).toNat]? = some (.int (j:Int) 0):=by
   rw [cL,List.getElem?_toArray,aW,hj];rfl
  rw [hji];dsimp only;unfold setNextDrawn;refine aA (aA (cO ho hd g.fits ?_));dsimp only;rw [if_neg (by simp)];rw [cL,hej];dsimp only;refine aC ?_;refine aA (gI hoi hdi (by simp) ?_);obtain⟨o1,e1,c1,d1⟩:=qFu 1 (rawInt ((i:Int)+1)) hoi hdi;have sb:Heap.SameBut it s.heap _:=cG s.heap it (Obj.mapFields (·.setIfInBounds 1 (rawInt ((i:Int)+1))));refine aC ⟨_,rfl,aC (q _ ⟨.ref tp,⟨o1,e1,c1.trans hc,?_⟩,⟨o,(sb.2 a (cS hia)).trans ho,hd⟩,g,hl,.drawn tp places op n _ ((sb.2 tp (by simpa using cS (a:=it) (by simpa using hie))).trans eo) c qq⟩ sb)⟩;rw [d1];simp [rawInt]
end
section
variable{P:Program}{w:World}{A:Around}{E:Value->Shared->Prop}{s:Shared}{it a:Addr}{es:Array (Int×Value)}{ep:Nat}{t:SetTable}{ord:List (Int×Value)}{ex:List Addr}{i:Nat}
theorem qE1{s0:Shared}{Q:Option Value->Shared->Prop}{α : Type}{Q0 : α -> Shared->Prop}(hh:A.in1.handled=none)(hsb:Heap.ExtBut it s0.heap s.heap)(q:∀h',Heap.ExtBut it s0.heap h'->Q none { s with heap:=h' }):wpAny (model P w) A.in1 (do raiseNew (<-newExc (.type "StopIteration") [])) Q0 (λe s'=>wpAny (model P w) A (do if (<-isInstance e (Value.type "StopIteration"))=true then pure none else throw e) Q E s') s:=by
 refine aA ?_;simp only [newExc,newTuple];refine aA (cZ ?_ (by size_fits));refine aA (m:=firstArgMember _ _) (wpAny_of_eq (a:=Value.none) (by first | rfl | (simp only [firstArgMember];rfl)) ?_);refine cZ ?_ (by size_fits);simp only [raiseNew];refine aA (wpAny_handled ?_);rw [hh];refine aA (aC (wpAny_throw ?_));refine aA (wpAny_isInstance (T := "StopIteration") (b:=true) ⟨_,bA _ rfl,rfl⟩ isSubtype_stop ?_);exact aC (q _ ((hsb.push _).push _))
theorem qTz{Q:Option Value->Shared->Prop}(hh:A.handled=none)(h:SW w it a es ep t ord ex es.size s.heap)(q:∀h',Heap.ExtBut it s.heap h'->Q none { s with heap:=h' }):wpAny (model P w) A (pyNext (.ref it)) Q E s:=by
 obtain⟨first,hit,⟨o,ho,hd⟩,g,hl,m⟩:=h;obtain⟨oi,hoi,hc,hdi⟩:=id hit;unfold pyNext;refine aA (wpAny_attempt (wpAny_callSpecial?_slot (name:=Str.ofString "__next__") hit.ty slot_si_next (cX slot_si_next hit.ty qEi ?_ (qFf _))));unfold Builtin.«set_iterator.__next__»;refine aA (m:=slotArgs "__next__" 0 _) (aC ?_);refine aA (wpAny_fieldsOf hoi hdi ?_);dsimp only;refine aA (wpAny_setEntries_of ho hd g.fits ?_);rw [if_neg (by simp)];have hh1:A.in1.handled=none:=hh;cases m with
 | told sl b =>
  dsimp only;simp only [cL];refine aA (qJo (i:=es.size) ho hd g b ?_);rw [show (pickOrder (w.params.setOrder a ep) es)[es.size]? = none by rw [<-aY];exact dJ (by lia)];dsimp only [Option.map];refine aA (gI hoi hdi (by simp) ?_);exact qE1 (s0:=s) hh1 (cG ..).extBut q
 | place b d =>
  dsimp only;simp only [cL];refine aA (qHn (i:=es.size) ho hd g b d (aE _) ?_);rw [show es[es.size]? = none from Array.getElem?_eq_none (aE _)];dsimp only [Option.map];refine aA (gI hoi hdi (by simp) ?_);exact qE1 (s0:=s) hh1 (cG ..).extBut q
 | drawn tp places op n _ eo c qq =>
  dsimp only;refine aA (wpAny_seqItems eo c ?_);dsimp only;have hpl:places.length=ord.length:=by have:=congrArg List.length qq;simpa using this
  have hji:(places.map λ(j:Nat)=>rawInt (j:Int)).toArray[((es.size:Int)).toNat]? = none:=by
   rw [cL,List.getElem?_toArray];exact dJ (by rw [aB];lia)
  rw [hji];dsimp only;refine aA (gI hoi hdi (by simp) ?_);obtain⟨o1,e1,c1,d1⟩:=qFu 0 (rawInt 0) hoi hdi;refine aA (gI e1 d1 (by simp) ?_);exact qE1 (s0:=s) hh1 ((cG ..).trans (cG ..)).extBut q
theorem qRe(hh:A.handled=none)(hia:it≠a)(hie:it∉ex):Walks P w A it (it::a::ex) [it] es.size (λi v=>(ord[i]?).map (·.2)=some v) (SW w it a es ep t ord ex) where
 sub:=λb hb=>by simp at hb;simp [hb]
 frame:=λi h h' st k=>by
  obtain⟨first,⟨oi,hoi,hc,hdi⟩,⟨o,ho,hd⟩,g,hl,m⟩:=st;exact⟨first,⟨oi,k it (by simp) _ hoi,hc,hdi⟩,⟨o,k a (by simp) _ ho,hd⟩,g,hl,m.stay λb hb o e=>k b (by simp [hb]) o e⟩
 item:=λi s Q E hi st q=>by
  obtain⟨first,_,_,_,hl,_⟩:=id st;obtain⟨e,he⟩:∃e,ord[i]? = some e:=⟨_,aF (by lia)⟩;refine qTy hia hie st he λh' st' sb=>q e.2 h' s.toks (by rw [he];rfl) st' λb o hb e=>?_;exact (sb.2 b (by simpa using hb)).trans e
 done:=λs Q E st q=>qTz hh st λh' xb=>q h' s.toks λb o hb e=>xb b o (by simpa using hb) e
 self:=λi s Q E st q=>by
  obtain⟨first,hit,_⟩:=st;exact qU3 hit q
theorem qQ1{o:Obj}{es:Array (Int×Value)}{ep:Nat}{t:SetTable}{Q:Value->Shared->Prop}(ho:s.heap.get? a=some o)(hex:o.ExactSet)(hd:o.data = .set es ep t)(hb:es.size<scanBound)(g:GoodT (!qBw w) t es.size)(q:∀(it:Addr) (ord:List (Int×Value)) (ex:List Addr) (h':Heap) (d:Drawn),s.heap.objs.size<=it->it<h'.objs.size->(∀b∈ex,s.heap.objs.size<=b/\b<it)->a<s.heap.objs.size->(∀b u,s.heap.get? b=some u->h'.get? b=some u)->SW w it a es ep t ord ex 0 h'->ord.Perm es.toList->Q (.ref it) { s with heap:=h',drawn:=d }):wpAny (model P w) A (pyIter (.ref a)) Q E s:=by
 have hT:s.TypeIs (.ref a) "set" :=⟨o,ho,hex.1⟩;have ha:a<s.heap.objs.size:=aX ho;refine wpAny_pyIter_slot hT F.slot_set_iter (cX F.slot_set_iter hT qGz ?_ (F.args_set_iter_1 _));unfold Builtin.«frozenset.__iter__» Builtin.Frozenset.slot0;refine aA (aA (m:=slotArgs "__iter__" 0 _) (aC ?_));unfold Builtin.Frozenset.addrOf;refine aC ?_;unfold Builtin.Frozenset.sizeOf;refine aA (aA (wpAny_setEntries_of ho hd g.fits (aC ?_)));unfold setDrawn;refine aA (aA (cO ho hd g.fits ?_));dsimp only;unfold setsByText;refine aA (aA (dY (aC (aC ?_))));show wpAny _ _ (if (!w.params.followText "set-order" && (!t.plain&&decide (es.size>1)))=true then _ else _) _ _ _
 have fin:∀(s1:Shared) (first:Value) (ord:List (Int×Value)) (ex:List Addr),(∃h' d,s1 = { s with heap:=h',drawn:=d })->s.heap.objs.size<=s1.heap.objs.size->(∀b u,s.heap.get? b=some u->s1.heap.get? b=some u)->(∀b∈ex,s.heap.objs.size<=b/\b<s1.heap.objs.size)->ord.length=es.size->ord.Perm es.toList->(∀h',(∀b u,s1.heap.get? b=some u->h'.get? b=some u)->Mode w h' a es ep t 0 first ord ex) ->
   wpAny (model P w) A.in1 (do let x <-setEpoch a;let y <-newFields "set_iterator" [first,rawInt 0,Value.ref a,rawInt es.size,rawInt x];ret y) (λfin s' => ∃v,fin=Fin.done (Flow.ret v) /\ ∃T' r,s'.TypeIs v T'/\typeLookup (Value.type T') (Str.ofString "__next__")=pure (some r)/\Q v s') E s1:=by
  rintro s1 first ord ex ⟨h',d,rfl⟩ hsz k hx hl hpm hm
  refine aA (wpAny_setEpoch_of (k _ _ ho) hd g.fits ?_);refine aA (cZ (aC ⟨_,rfl,"set_iterator",_,⟨_,bA _ rfl,rfl⟩,slot_si_next.lookup,?_⟩));refine q h'.objs.size ord ex _ d hsz (by rw [eP];exact fK _) hx ha (λb u e=>aH _ (k b u e)) ⟨first,⟨_,bA _ rfl,rfl,rfl⟩,⟨o,aH _ (k _ _ ho),hd⟩,g,hl,hm _ λb u e=>aH _ e⟩ hpm
 cases hb2:qBw w with
 | true =>
  rw [if_neg (by rw [show w.params.followText "set-order" = true from hb2];simp)];refine aA (aC ?_);have hpm:=qP6 (w.params.setOrder a ep) es;exact fin s (rawInt 0) _ [] ⟨s.heap,s.drawn,rfl⟩ (aE _) (λ_ _ e=>e) (λb hb=>by simp at hb) (by rw [hpm.length_eq,aK]) hpm (λh' k =>.told 0 hb2)
 | false =>
  cases hd2:(!t.plain&&decide (es.size>1)) with
  | false =>
   rw [if_neg (by simp)];refine aA (aC ?_);exact fin s (rawInt 0) _ [] ⟨s.heap,s.drawn,rfl⟩ (aE _) (λ_ _ e=>e) (λb hb=>by simp at hb) (aK ..) (.refl _) (λh' k =>.place hb2 hd2)
  | true =>
   rw [if_pos (by rw [show w.params.followText "set-order" = false from hb2];simp)];have hr:(List.range es.size).length=es.size:=bV;refine aA ?_;have hdp:∀ {Q':List Nat->Shared->Prop},(∀ys d,ys.Perm (List.range es.size)->Q' ys { s with drawn:=d })->wpAny (model P w) A.in1 (drawOrder es.size (List.range es.size)) Q' E s:=λ{Q'} z=>by
    have z2:=qK5 (P:=P) (w:=w) (A:=A.in1) (E:=E) (List.range es.size) (s:=s) (Q:=Q') z;rw [hr] at z2;exact z2
   refine hdp λys d hys=>?_;refine aA ?_;have hyl:ys.length=es.size:=by rw [hys.length_eq,hr]
   simp only [newTuple];refine cZ ?_ (by have:=gB hb;show (List.map (λ(i:Nat)=>rawInt (i:Int)) ys).toArray.size<=sizeLine;rw [aP,aB];lia);have hord:∀l:List Nat,(∀j∈l,j<es.size)->l.map (λj=>es[j]?)=(l.filterMap λj=>es[j]?).map some:=by
    intro l
    induction l with
    | nil=>intro _;rfl
    | cons j r ih =>
     intro hj;have h1:es[j]? = some (es[j]'(hj j (by simp))):=aZ _;rw [bG,ih λk hk=>hj k (by simp [hk]),cF,h1];rfl
   have hlt:∀j∈ys,j<es.size:=λj hj=>bL.mp (hys.mem_iff.mp hj);have hq:=hord ys hlt;have hpm:(ys.filterMap λj=>es[j]?).Perm es.toList:=(hys.filterMap _).trans (by rw [filterMap_getElem?_range])
   exact fin _ (.ref s.heap.objs.size) _ [s.heap.objs.size] ⟨_,d,rfl⟩ (by show _<=(Heap.push _ _).objs.size;rw [eP];exact cM _) (λb u e=>aH _ e) (λb hb=>by
    have e:b=s.heap.objs.size:=by simpa using hb
    rw [e];exact⟨aE _,by show _<(Heap.push _ _).objs.size;rw [eP];exact fK _⟩) (by have:=congrArg List.length hq;simp at this;lia) hpm (λh' k =>.drawn s.heap.objs.size ys _ 0 _ (k _ _ (bA _ rfl)) rfl hq)
end
theorem qJs:typeLookup (.type "set") "__len__" = pure (some (.builtin "set.__len__")):=F.slot_set_len.lookup
section
variable{P:Program}{w:World}{A:Around}{E:Value->Shared->Prop}{s:Shared}{a:Addr}
theorem qFd{o:Obj}{es:Array (Int×Value)}{ep:Nat}{t:SetTable}{Q:List Value->Shared->Prop}(hh:A.handled=none)(hoA:s.heap.get? a=some o)(hex:o.ExactSet)(hd:o.data = .set es ep t)(hb:es.size<scanBound)(g:GoodT (!qBw w) t es.size)(q:∀(ord:List (Int×Value)) (h':Heap) (d:Drawn) (tk:Nat),(∀b u,s.heap.get? b=some u->h'.get? b=some u)->s.heap.objs.size<=h'.objs.size->ord.Perm es.toList->Q (ord.map (·.2)) { s with heap:=h',drawn:=d,toks:=tk }):wpAny (model P w) A (collect (.ref a)) Q E s:=by
 unfold collect;refine aA (wpAny_runValue (fG F.entry_proto_collect ?_));rw [dS F.plain_proto_collect _];show wpAny _ A.in1 (newList [] >>= λl=>again (.builtin "list.__iadd__" ⟨[l,.ref a],[]⟩)) _ _ s;refine aA (cZ ?_);refine aC ⟨plainId_quiet F.plain_list_iadd _,fG F.entry_list_iadd ?_⟩;rw [dS F.plain_list_iadd _];have k1:∀b u,s.heap.get? b=some u->(s.heap.push { cls :=.type "list",data :=.seq ([]:List Value).toArray }).get? b=some u:=λb u e=>aH _ e;have ho:=k1 a o hoA;have hT:Shared.TypeIs { s with heap:=s.heap.push { cls :=.type "list",data :=.seq ([]:List Value).toArray } } (.ref a) "set" :=⟨o,ho,hex.1⟩
 have haS:a<s.heap.objs.size:=aX hoA;show wpAny _ A.in1 (Builtin.List.listExtendWith (.ref s.heap.objs.size) (.ref a) (.ref s.heap.objs.size)) _ _ _;unfold Builtin.List.listExtendWith;refine aA (wpAny_typeOf hT ?_);have h1:Builtin.List.listSameRef (.ref s.heap.objs.size) (.ref a)=false:=by simp [Builtin.List.listSameRef];exact hZ haS
 have h2:(Value.type "set" == Value.type "list")=false:=by decide
 have h3:(Value.type "set" == Value.type "tuple")=false:=by decide
 simp only [h1,h2,h3,Bool.or_false,cQ,if_false];refine aA (qQ1 (s :={ s with heap:=s.heap.push { cls :=.type "list",data :=.seq ([]:List Value).toArray } }) ho hex hd hb g λit ord ex h' d hit hit2 hx ha k sw hpm=>?_);refine aA (bT ?_);have hT':Shared.TypeIs { s with heap:=h',drawn:=d } (.ref a) "set" :=⟨o,k _ _ ho,hex.1⟩;unfold Builtin.List.listLengthHint;refine aA (wpAny_specialOf hT' qJs ?_);have hsp:splitId "set.__len__" = some ("set","__len__"):=by kernel_rfl
 dsimp only;rw [hsp];dsimp only;refine aA (wpAny_isInstance hT' sub_set_self ?_);rw [if_neg (by simp)];rw [if_pos (by decide +kernel)];refine aA (wpAny_typeOf hT' (aC ?_));rw [if_pos (by decide +kernel)];refine aA (dA ?_);have hS1:h'.get? s.heap.objs.size=some { cls :=.type "list",data :=.seq ([]:List Value).toArray }:=k _ _ (bA _ rfl);refine aA ?_;show wpAny _ A.in1 (updateSeq s.heap.objs.size (·.push .none) >>= λ_=>updateSeq s.heap.objs.size (·.pop)) _ _ _;refine aA (wpAny_updateSeq (s :={ s with heap:=h',drawn:=d }) hS1 rfl ?_);have hS2:=dI (Obj.mapSeq (·.push Value.none)) hS1 rfl;refine wpAny_updateSeq hS2 rfl ?_
 have hS3:=dI (Obj.mapSeq (·.pop)) hS2 rfl;have oth:∀b u,b≠s.heap.objs.size->h'.get? b=some u->((h'.update s.heap.objs.size (Obj.mapSeq (·.push Value.none))).update s.heap.objs.size (Obj.mapSeq (·.pop))).get? b=some u :=
  λb u hb e=>(cH _ _ (cS hb)).trans ((cH _ _ (cS hb)).trans e)
 rw [eP] at hit ha;have hia:it≠a:=hZ (bI haS (cA (cM _) hit));have hie:it∉ex:=λz=>fM _ (hx it z).2;have hSf:s.heap.objs.size∉it::a::ex:=λz=>by
  rcases aT.mp z with z | z
  ·exact bB hit z
  ·rcases aT.mp z with z | z
   ·exact hZ haS z
   ·have z2:=(hx _ z).1;rw [show (Heap.push s.heap { cls :=.type "list",data :=.seq ([]:List Value).toArray }).objs.size=s.heap.objs.size+1 from eP ..] at z2;exact Nat.not_succ_le_self _ z2
 have hl:ord.length=es.size:=by obtain⟨_,_,_,_,hl,_⟩:=sw;exact hl
 have hzz:es.size<=sizeLine:=gB hb;have W:=(qRe (P:=P) (w:=w) (A:=A.in1) (it:=it) (a:=a) (es:=es) (ep:=ep) (t:=t) (ord:=ord) (ex:=ex) hh hia hie).toS
 refine aC ⟨plainId_quiet F.plain_extend_loop _,codeAny_extend_loopS W hzz _ hSf _ es.size 0 _ _ _ rfl (aU _)
  (W.frame 0 ({ s with heap:=h',drawn:=d }:Shared) _ s.toks sw (aE _) λb hb u e=>oth b u (λz=>hSf (z▸hb)) e) hS3 (ItemsOf.nil _) λs' acc' c' hm hS' hacc=>?_⟩
 show wpAny _ A (load s.heap.objs.size >>= _) _ _ s';refine aA (wpAny_load hS' ?_);refine aC ?_;obtain⟨h2,g2,d2,tk2,os2⟩:=s';have e1:g2=s.gens:=hm.gens;have e2:d2=d:=hm.drawn;have e3:os2=s.os:=hm.os;subst e1;subst e2;subst e3;have k2:∀b u,s.heap.get? b=some u->h2.get? b=some u:=λb u e=>by
  have hlt:=aX e
  exact hm.heap b u (λz=>by
   rcases aT.mp z with z | z
   ·exact bB hlt z
   ·have z2:b=it:=by simpa using z
    exact bB (Nat.lt_trans hlt hit) z2) (oth b u (bB hlt) (k b u (k1 b u e)))
 have hget:∀(i:Nat) (v:Value),acc'.toList[i]? = some v->(ord[i]?).map (·.2)=some v:=λi v e=>hacc.2 i v (by rw [<-aY];exact e);have hlen:acc'.toList.length=ord.length:=by rw [aK,hacc.1,hl]
 have e:acc'.toList=ord.map (·.2):=by
  refine List.ext_getElem? λi=>?_;rw [aW];cases z:acc'.toList[i]? with
  | some v=>exact (hget i v z).symm
  | none=>rw [dJ (by rw [<-hlen];exact gT.mp z)];rfl
 show Q acc'.toList _;rw [e];exact q ord h2 d2 tk2 k2 (dX (aX hS')) hpm
theorem qKb{ns:List Int}{Q:List Value->Shared->Prop}(hh:A.handled=none)(S:SetI w s.heap a ns)(q:∀(vs:List Value) (ms:List Int) (h':Heap) (d:Drawn) (tk:Nat),(∀b u,s.heap.get? b=some u->h'.get? b=some u)->s.heap.objs.size<=h'.objs.size->IntsAre vs ms->ms.Perm ns->Q vs { s with heap:=h',drawn:=d,toks:=tk }):wpAny (model P w) A (collect (.ref a)) Q E s:=by
 obtain⟨o,es,ep,t,ho,hex,hd,hel,hp,hn,hb,g⟩:=S;refine qFd hh ho hex hd hb g λord h' d tk k hsz hpm=>q _ _ h' d tk k hsz ?_ ((hpm.map keyI).trans hp);have hei:∀e∈ord,EI e:=λe he=>hel e (hpm.mem_iff.mp he);clear hpm
 induction ord with
 | nil=>exact .nil
 | cons e r ih =>
  obtain⟨n,tk,rfl⟩:=hei e (by simp);exact .cons n tk (ih λe he'=>hei e (by simp [he']))
end
theorem qN5{h:Heap}{D:Addr}{vs:List Value}{out:Array Value}{n:Nat}(ho:h.get? D=some (seqObj "list" vs.toArray n)):(∃c,(sortedHeap h D vs out).get? D=some { cls :=.type "list",data :=.seq out c })/\(∀b u,b≠D->h.get? b=some u->(sortedHeap h D vs out).get? b=some u)/\h.objs.size<=(sortedHeap h D vs out).objs.size:=by
 unfold sortedHeap;have h1:=fF ho (λ_ => #[]);have h2:=aH (seqObj "tuple" vs.toArray 0) h1;have h3:=aH (seqObj "list" #[] 0) h2;have h4:=fF h3 (λ_=>out);refine⟨⟨_,h4⟩,λb u hb e=>?_,?_⟩
 ·exact (cH _ _ (cS hb)).trans (aH _ (aH _ ((cH _ _ (cS hb)).trans e)))
 ·rw [gY,eP,eP,gY];lia
section
variable{P:Program}{w:World}{A:Around}{E:Value->Shared->Prop}{s:Shared}{a:Addr}
theorem qL2{ns:List Int}{Q:Value->Shared->Prop}(hh:A.handled=none)(S:SetI w s.heap a ns)(h64:ns.length<64)
  (q:∀(D:Addr) (out:Array Value) (c:Nat) (ns':List Int) (h':Heap) (d:Drawn) (tk:Nat),s.heap.objs.size<=D->h'.get? D=some { cls :=.type "list",data :=.seq out c }->(∀b u,s.heap.get? b=some u->h'.get? b=some u)->IntsAre out.toList ns'->ns'.Perm ns->ns'.Pairwise (· <= ·)->Q (.ref D) { s with heap:=h',drawn:=d,toks:=tk }) :
  wpAny (model P w) A (call (.builtin "sorted") [.ref a]) Q E s:=by
 refine fT kind_sorted plain_sorted entry_sorted (args_sorted1 _) ?_;unfold Builtin.«sorted»;refine aA (m:=checkCount "sorted" 1 1 _) (aC ?_);refine aA (qKb (A:=A.in1) hh S λvs ms h' d tk k hsz hI hpm=>?_);have hvl:vs.length<64:=by rw [IntsAre.length hI,hpm.length_eq];exact h64
 refine aA (gE ?_ (by rw [fE];lia));have hoL:(h'.push (seqObj "list" vs.toArray 0)).get? h'.objs.size=some (seqObj "list" vs.toArray 0):=bA _ rfl;refine aA (bT (cX slot_list_sort (s :={ s with heap:=h'.push (seqObj "list" vs.toArray 0),drawn:=d,toks:=tk }) ⟨_,hoL,rfl⟩ entry_list_sort (list_sort_tree hoL hI hvl λout ns' a1 a2 a3=>⟨_,rfl,?_⟩) (args_list_sort _)));obtain⟨⟨c,e1⟩,e2,_⟩:=qN5 (out:=out) hoL;exact aC ⟨_,rfl,q h'.objs.size out c ns' _ d tk hsz e1 (λb u e=>e2 b u (bB (aX (k b u e))) (aH _ (k b u e))) a1 (a2.trans hpm) a3⟩
end
theorem Inv.drew{X:Cx}{pins:List (Addr×Obj)}{σ : St}{H:Hp}{s:Shared}{d:Drawn}(I:Inv X pins σ H s):Inv X pins σ H { s with drawn:=d }:=⟨I.ok,I.os,I.bare,I.base,I.loc,I.cell,I.free,I.freeC,I.pin,I.hok,I.len⟩
def setO(w:World)(ns:List Int):HO :=.ext λa h=>SetI w h a ns
section
variable{X:Cx}
theorem qU4{w:World}{P:Program}{w':World}{H:Hp}{h:Heap}{a:Addr}{ns:List Int}(S:SetI w h a ns):ObjOk P w' H h a (setO w ns):=by
 refine⟨S,?_,λh1 h2 S1 k=>S1.stay k⟩;obtain⟨o,_,_,_,e,_⟩:=S;exact⟨o,e⟩
theorem Inv.setI{pins:List (Addr×Obj)}{σ : St}{H:Hp}{s:Shared}{w:World}{a:Addr}{ns:List Int}(I:Inv X pins σ H s)(e:H a=some (setO w ns)):SetI w s.heap a ns:=(I.hok a _ e).1
def qWx(w:World):List V->Hp->VK->Prop:=λxs H Q => ∃(a:Addr) (ns:List Int),xs = [.ref a]/\H a=some (setO w ns)/\ns.length<64 /\ ∀(l:Addr) (ns':List Int),H l=none->ns'.Perm ns->ns'.Pairwise (· <= ·)->Q (.ref l) (upd H l (.lst (ns'.map V.int)))
theorem qF0(hh:X.A.handled=none):CallR X (.builtin "sorted") (qWx X.w):=by
 intro pins s σ H xs us Q I r h;obtain⟨a,ns,rfl,hq,hz,q⟩:=h;obtain⟨u,rfl,ru⟩:=vals1 r;cases ru;refine qL2 hh (I.setI hq) hz λD out c ns' h' d tk hD hget k a1 a2 a3=>?_;have hn:H D=none:=I.hok.fresh hD;have rv':Vals (ns'.map V.int) out.toList:=qFz a1;refine⟨.ref D,_,(I.laid (t':=tk) (o :=.lst (ns'.map V.int)) k hD ⟨?_,out.toList,c,rv',by simpa using hget⟩).drew,rfl,q _ ns' hn a2 a3⟩;rw [aB,a2.length_eq,fE];lia
end
def newS(w:World):Obj :={ cls :=.type "set",dict:=none,data :=.set #[] 0 (.fresh 0 0 (!qBw w)) }
theorem qVa{w:World}{h:Heap}{a:Addr}(e:h.get? a=some (newS w)):SetI w h a []:=⟨_,#[],0,_,e,⟨rfl,rfl,rfl⟩,rfl,λe he=>by simp at he,.refl _,.nil,by decide,⟨rfl,.nil,rfl⟩⟩
section
variable{P:Program}{w:World}{A:Around}{E:Value->Shared->Prop}{s:Shared}{a:Addr}
theorem qPm{Q:Value->Shared->Prop}(q:Q (.ref s.heap.objs.size) { s with heap:=s.heap.push (newS w) }):wpAny (model P w) A (newSet (.type "set")) Q E s:=by
 unfold newSet setsByText;refine aA (aA (dY (aC ?_)));dsimp only;simp only [newObj];exact aA (wpAny_alloc (aC q))
end
section
variable{X:Cx}{elt tg iter tg2 iter2:Expr}{ifs ifs2:List Expr}{scope:Scope}{own:List Str}{cap:List Nat}{wi wi2:TI}{g g2:TG}{tts tts2:List TT}{te:TE}{pos:Pos}
def qMv(elt:Expr)(acc:Value)(env:Env):Sem Unit:=do let v <-eval elt env;standAt elt.pos;let _ <-call (.builtin "set.add") [acc,v]
theorem qOd{gens:List Comprehension}{acc:Value}{d:Nat}(hd:gens[d]? = some ⟨tg,iter,ifs,0⟩)(it:Value)(R:Result->Shared->Prop)(s:Shared)(h0:codeAny (model X.prog X.w) X.A (.compLoop (.SetComp elt gens scope pos) d it acc X.env) R s)(h:wpAny (model X.prog X.w) X.A (pyIter it) (λit' s'=>codeAny (model X.prog X.w) X.A (.compLoop (.SetComp elt gens scope pos) d it' acc X.env) R s') (λ_ _=>False) s):codeAny (model X.prog X.w) X.A (.compStart (.SetComp elt gens scope pos) d it acc X.env) R s:=by
 refine codeAny_of_tree ?_;show wpAny _ X.A ((compStart (.SetComp elt gens scope pos) d it acc X.env).onRaise (λx=>do noteFrame x X.env;standAt theWindowsPlace)) _ _ s;refine wpAny_notedAt ?_;unfold compStart;have e1:(clausesOf (.SetComp elt gens scope pos))[d]? = some ⟨tg,iter,ifs,0⟩:=hd;rw [e1];show wpAny _ _ (ask >>= _) _ _ s;refine aA (dY (wpAny_ite ?_));have h':wpAny (model X.prog X.w) X.A (pyIter it) (λit' s'=>codeAny (model X.prog X.w) X.A (.compLoop (.SetComp elt gens scope pos) d it' acc X.env) R s') (notedBy (model X.prog X.w) X.A X.env λx s'=>R (.error x) s') s:=dE h (λ_ _ z=>z) λ_ _ z=>z.elim;split
 ·first | exact aA (aC (aC (And.intro rfl h0))) | exact aC (And.intro rfl h0)
 ·first | exact aA (dA (aA (eO (aA (dE h' (λit' s' h'=>aC (And.intro rfl h')) λ_ _ x=>x))))) | (refine aA (dA ?_);show wpAny _ _ (standAt iter.pos >>= _) _ _ s;exact aA (eO (aA (dE h' (λit' s' h'=>aC (And.intro rfl h')) λ_ _ x=>x))))
theorem qNv{acc:Value}:ClauseAt X (.SetComp elt [⟨tg,iter,ifs,0⟩] scope pos) 0 acc tg iter ifs (qMv elt acc X.env) where
 quiet:=λ_=>rfl
 under:=λ_=>rfl
 den:=λ_=>rfl
 turn:=λ_=>by first | rfl | (unfold qMv;simp only [bind_assoc,pure_bind];rfl)
 start:=λit R s=>qOd rfl it R s
end
def qBo(ms:List Int):List Int:=ms.foldl addN []
theorem qLm(ms:List Int)(n:Int):qBo (ms ++ [n])=addN (qBo ms) n:=by unfold qBo;rw [List.foldl_append];rfl
theorem qGw:∀(ms ns:List Int),(ms.foldl addN ns).length<=ns.length+ms.length
 | [],ns=>aE _
 | m::r,ns=>by
  have h1:=qGw r (addN ns m);have h2:=qT4 (ns:=ns) (n:=m);rw [List.foldl_cons,bY];lia
theorem qDr(ms:List Int):(qBo ms).length<=ms.length:=by have h:=qGw ms [];rw [List.length_nil,eR] at h;exact h
theorem qGj{m:Int}:∀(ms ns:List Int),m∈ms.foldl addN ns↔m∈ns\/m∈ms
 | [],ns=>by simp
 | k::r,ns=>by rw [List.foldl_cons,qGj r,qSi,aT,or_assoc]
theorem qEw{m:Int}(ms:List Int):m∈qBo ms↔m∈ms:=by unfold qBo;rw [qGj];simp
theorem qEk:∀(ms ns:List Int),ns.Nodup->(ms.foldl addN ns).Nodup
 | [],ns,h=>h
 | k::r,ns,h=>qEk r _ (qDq h)
theorem qDe(ms:List Int):(qBo ms).Nodup:=qEk ms [] .nil
section
variable{P:Program}{w:World}{A:Around}{R:Result->Shared->Prop}{I:Addr}{fp wr:List Addr}{G:Array GenState->Array GenState->Prop}{n:Nat}{T:Nat->Value->Prop}{St:Nat->Shared->Prop}
theorem qQd(W:WalksS P w A.in1 I fp wr G n T St)(S:Addr)(hSf:S∉fp)(ms:List Int)(hms:ms.length=n)(hval:∀i v,T i v -> ∃t,v = .int (ms.getD i 0) t)(hb:n+1<scanBound):∀(k i:Nat) (s:Shared),n - i=k->i<=n->St i s->SetI w s.heap S (qBo (ms.take i))->(∀s',Moved (S::wr) G s s'->SetI w s'.heap S (qBo ms)->R (.ok (.ret .none)) s') ->
   codeAny (model P w) A (.builtin "set.update.loop" ⟨[.ref S,.ref I],[]⟩) R s:=by
 have hSw:S∉wr:=λh=>hSf (W.sub _ h);have hsub:∀b∈wr,b∈S::wr:=λb hb=>aS _ hb;intro k
 induction k with
 | zero =>
  intro i s hk hi hst hS hR;have hin:i=n:=by lia
  subst hin;refine fG F.entry_set_update_loop ?_;rw [dS F.plain_set_update_loop _];show wpAny _ A.in1 (pyNext (.ref I) >>= _) _ _ s;refine aA (W.done s _ _ hst λs' hm=>?_);show wpAny _ A.in1 (ret Value.none) _ _ s';rw [<-hms,bE] at hS;exact aC (hR s' (hm.mono hsub) (hS.stay λo e=>hm.heap S _ hSw e))
 | succ k ih =>
  intro i s hk hi hst hS hR;have hlt:i<n:=by lia
  refine fG F.entry_set_update_loop ?_;rw [dS F.plain_set_update_loop _];show wpAny _ A.in1 (pyNext (.ref I) >>= _) _ _ s;refine aA (W.item i s _ _ hlt hst λv s' hP hst' hm=>?_);obtain⟨t,rfl⟩:=hval i v hP;have hS':SetI w s'.heap S (qBo (ms.take i)):=hS.stay λo e=>hm.heap S _ hSw e;show wpAny _ A.in1 (holding [Value.int (ms.getD i 0) t] (setAdd S (.int (ms.getD i 0) t)) >>= _) _ _ s';have hlen:=qDr (ms.take i);rw [aV] at hlen;refine aA (bT (addI hS' (by lia) λh' sb S2=>?_));have ht:ms.take (i+1)=ms.take i ++ [ms.getD i 0]:=by
   have h1:ms[i]? = some (ms.getD i 0):=by
    have:i<ms.length:=by lia
    rw [bK,aF this];rfl
   rw [dB,h1];rfl
  rw [<-qLm,<-ht] at S2;refine aC ⟨plainId_quiet F.plain_set_update_loop _,ih (i+1) _ (by lia) hlt (W.frame _ s' _ _ hst' (cM _) λb hb o e=>?_) S2 λs'' hm'' hS''=>?_⟩
  ·rw [sb.2 b (λh:b=S=>hSf (by rw [<-h];exact hb))];exact e
  ·refine hR s'' (Moved.trans W.gtrans ((hm.mono hsub).then_heap (cM _) λb o hb e=>?_) hm'') hS'';rw [sb.2 b (λh:b=S=>hb (by rw [h];exact aR))];exact e
end
section
variable{P:Program}{w:World}{A:Around}{E:Value->Shared->Prop}{s:Shared}
theorem qN7(a:Value){Q₁ : Value->Shared->Prop}(h:Q₁ (.ref s.heap.objs.size) { s with heap:=s.heap.push (newS w) }):codeAny (model P w) A (.call (.builtin "set.__new__") ⟨[.type "set",a],[]⟩) (wants Q₁ E) s:=by
 refine codeAny_of_tree ?_;show wpAny _ A.in1 (do checkBuiltinCall "set.__new__" ⟨[.type "set",a],[]⟩;again (.builtin "set.__new__" ⟨[.type "set",a],[]⟩)) _ _ s;refine aA (wpAny_of_eq (F.newCall_set_1 a) (aC ⟨plainId_quiet F.plain_set_new _,fG F.entry_set_new ?_⟩));rw [dS F.plain_set_new _];unfold Builtin.«set.__new__» Builtin.Frozenset.newClass;have hsub:=sub_set_self;obtain⟨hp,g,d,tk,os⟩:=s;dsimp only
 wp_walk
 refine dY (aC ?_);dsimp only;simp only [newObj];exact aA (wpAny_alloc (aC (aC h)))
theorem qL4{l:Addr}{items:Array Value}{ns:List Int}{Q:Value->Shared->Prop}(hh:A.handled=none)(hl:s.heap.IsList l items)(hi:IntsAre items.toList ns)(hb:items.size+1<scanBound)(h:∀(h':Heap) (tk:Nat),SetI w h' s.heap.objs.size (qBo ns)->(∀b o,b<s.heap.objs.size->s.heap.get? b=some o->h'.get? b=some o)->Q (.ref s.heap.objs.size) { s with heap:=h',toks:=tk }):wpAny (model P w) A (call (.type "set") [.ref l]) Q E s:=by
 obtain⟨c,tl,hmro⟩:=gO.mro;have hmade:=gO.made;have hsub:=gO.sub;refine wpAny_call (codeAny_of_tree ?_);show wpAny _ _ (callAny (.type "set") _) _ _ _;refine aC ⟨Code.quiet_builtin _ (by decide +kernel),fG F.entry_type_call ?_⟩;rw [Around.under_plain (weight_type_call_type "set" [.ref l] []) rfl];have h1:=gO.notType;have h2:=gO.canCreate;have hct:=F.typeCall_set_1 (.ref l)
 repeat (any_goals (first | assumption | wp_step))
 refine iA (qN7 (.ref l) (E:=E) (Q₁ :=λobj s₁ =>obj = .ref s.heap.objs.size/\s₁ = { s with heap:=s.heap.push (newS w) }) ⟨rfl,rfl⟩) λr s₁ hr=>?_;cases r with
 | error e=>exact hr
 | ok fl =>
  cases fl with
  | ret obj =>
   obtain⟨rfl,rfl⟩:=hr;have hS:(s.heap.push (newS w)).get? s.heap.objs.size=some (newS w):=bA _ rfl;have hT:Shared.TypeIs { s with heap:=s.heap.push (newS w) } (.ref s.heap.objs.size) "set" :=⟨_,hS,rfl⟩;have hli:=gO.init.lookup;have hbi:=gO.init.bind (.ref s.heap.objs.size)
   repeat (any_goals (first | assumption | wp_step))
   refine iA (codeAny_call_builtin (R:=wants (λr s₂ =>r = .none /\ ∃h' tk,s₂ = { s with heap:=h',toks:=tk }/\SetI w h' s.heap.objs.size (qBo ns)/\(∀b o,b<s.heap.objs.size->s.heap.get? b=some o->h'.get? b=some o)) E) gO.init.plain F.entry_set_init (check_set_init_1 hT ?_)) λr₂ s₂ hr₂=>?_
   ·obtain⟨ol,hol,hcl,nl,hdl⟩:=hl;obtain⟨ocls,odict,odata,oslots⟩:=ol;simp only at hcl hdl;subst hcl;subst hdl;have hol':(s.heap.push (newS w)).get? l=some { cls :=.type "list",dict:=odict,data :=.seq items nl,slots:=oslots }:=aH _ hol;have hsls:=F.sub_list_set;have hslf:=F.sub_list_frozenset;have hne:(Value.type "list" == Value.type "dict")=false:=by decide
    have hl1:(s.heap.push (newS w)).IsList l items:=⟨_,hol',rfl,nl,rfl⟩;unfold Builtin.«set.__init__» noKeywords Builtin.Frozenset.updateFrom;generalize hPI:pyIter=PI
    wp_walk
    subst hPI;refine wpAny_pyIter_list hl1 (aA (wpAny_runValue ?_));have hlS:l<s.heap.objs.size:=aX hol;have hh3:A.in1.in1.in1.handled=none:=hh;have hneI:l≠(s.heap.push (newS w)).objs.size:=by rw [eP];exact bB (eK hlS)
    have hSf:s.heap.objs.size ∉ [(s.heap.push (newS w)).objs.size,l]:=by
     rw [eP];simp only [aT,aQ,gZ,or_false,not_or];exact⟨bB (fK _),hZ hlS⟩
    have hlen:ns.length=items.size:=by rw [<-IntsAre.length hi,aK]
    refine qQd ((Walks.list hh3 _ l hneI items).toS) s.heap.objs.size hSf ns hlen (λi v hv=>IntsAre.int_at hi i v (by rw [aY];exact hv)) hb (items.size - 0) 0 _ (by lia) (aU _) ⟨⟨_,bA _ rfl,rfl,rfl⟩,(hl1.push _)⟩ (qVa (aH _ hS)) ?_;intro s' hm hS';obtain⟨h',g',d',tk',os'⟩:=s';have eg:g'=s.gens:=hm.gens;have ed:d'=s.drawn:=hm.drawn;have eo:os'=s.os:=hm.os;subst eg;subst ed;subst eo;show wpAny _ _ _ _ _ _;refine aC ?_;show wpAny _ _ (ret Value.none) _ _ _;refine aC ⟨rfl,h',tk',rfl,hS',λb o hb e=>?_⟩;refine hm.heap b o (λz=>?_) (aH _ (aH _ e));rcases aT.mp z with z | z
    ·exact bB hb z
    ·have z2:b=(s.heap.push (newS w)).objs.size:=by simpa using z
     rw [eP] at z2;exact bB (eK hb) z2
   ·cases r₂ with
    | error e=>exact hr₂
    | ok fl₂ =>cases fl₂ with
     | ret r=>obtain⟨rfl,h',tk,rfl,hS',hk'⟩:=hr₂;(repeat (any_goals (first | assumption | wp_step)));exact h _ _ hS' hk'
     | _=>exact hr₂.elim
  | _=>exact hr.elim
end
section
variable{X:Cx}
def qX0(w:World)(K:PySem.W.Frag):List V->Hp->VK->Prop:=λxs H Q => ∃(a:Addr) (ns:List Int),xs = [.ref a]/\SqL K H a (ns.map V.int)/\ns.length+1<4096 /\ ∀l,H l=none->Q (.ref l) (upd H l (setO w (qBo ns)))
theorem qGu(hh:X.A.handled=none):CallR X (.type "set") (qX0 X.w X.K):=by
 intro pins s σ H xs us Q I r h;obtain⟨a,ns,rfl,hq,hz,q⟩:=h;obtain⟨u,rfl,ru⟩:=vals1 r;cases ru;obtain⟨its,rv,pl,_⟩:=I.list hq;have hl:=rv.length;rw [aB] at hl;refine qL4 hh pl.isList (qCn rv) (by rw [aP];show its.length+1<4096;lia) λh' tk S' k=>?_;exact⟨.ref s.heap.objs.size,_,I.laid (t':=tk) (λb u e=>k b u (aX e) e) (aE _) (qU4 S'),rfl,q _ (I.hok.fresh (aE _))⟩
end
section
variable{K:PySem.W.Frag}{a:Addr}{xs:List V}{g:TG}{tt:TT}{B:TB}{σ : St}{H:Hp}{Q:St->Hp->Prop}
theorem qMd(Pv:Nat->St->Hp->Prop)(h0:Pv 0 σ H)(hl:∀i σ H,i<=xs.length->Pv i σ H->SqT K H a xs)(hs:∀i x σ H (R:St->Hp->Prop),xs[i]? = some x->Pv i σ H->(∀ σ' H',Pv (i+1) σ' H'->R σ' H')->g x σ H λσ2 H2=>tt σ2 H2 λb H3=>if b=true then B σ2 H3 R else R σ2 H3)(hd:∀ σ H,Pv xs.length σ H->Q σ H):LoopT (Itt K a) g tt B σ H Q:=by
 refine qIj (n:=xs.length) Pv h0 (λi σ H hi p=>⟨xs,xs[i],hl i σ H (dX hi) p,by simp [hi]⟩) (λσ H p=>⟨xs,hl _ σ H (aE _) p,aE _⟩) (λi σ H R hi p hR x H' y=>?_) hd;obtain⟨e,y⟩:=y;subst e;exact hs i x σ _ R (y xs (hl i σ _ (dX hi) p)) p hR
end
def qF7(m i:Int)(ns:List Int):List (Int×Int):=if ns = [] then [(i,m)] else ns.map λx=>(i,x)
def rawTo(w:List Blk):Nat->List (Int×Int)
 | 0 =>[(-1,0)]
 | i+1=>rawTo w i++qF7 w.length i ((w[i]?.map Blk.ns).getD [])
theorem qG9{M m i:Int}{ns:List Int}(h:NsOk M ns):(qF7 m i ns).Perm (outs m i ns):=by
 unfold qF7 outs;rcases h with z | ⟨x,z,_⟩ | ⟨x,y,z,_⟩ <;> subst z
 ·exact .refl _
 ·exact .refl _
 ·rw [if_neg (by simp),if_neg (by simp),bW];refine List.Perm.map _ ?_;unfold srt;dsimp only;split
  ·exact .refl _
  ·exact List.Perm.swap _ _ _
theorem qDi{m works:Int}{w:List Blk}(h:WorkOk m works w):∀n,(rawTo w n).Perm (qAa w n)
 | 0 =>.refl _
 | i+1=>by
  show (rawTo w i++qF7 _ _ _).Perm (qAa w i++outs w.length i ((w[i]?.map Blk.ns).getD []));refine (qDi h i).append ?_;cases e:w[i]? with
  | none=>exact qG9 (M:=m) (.inl rfl)
  | some b=>exact qG9 (h.blk b (aO e)).ns
theorem qDx{m works:Int}{w:List Blk}(h:WorkOk m works w):(qAa w w.length).Pairwise ltP:=by
 rw [qCi];refine dQ.mpr ⟨λp hp=>?_,qG8 h _⟩;have:=(qCd h hp).1;exact .inl (by show (-1:Int)<p.1;lia)
theorem qJa{l:List (Int×Int)}(h:l.Pairwise ltP):l.Nodup:=h.imp λ{a b} hl e=>by subst e;exact ltP.irr hl
theorem qL5{m works:Int}{w:List Blk}(h:WorkOk m works w):(rawTo w w.length).Nodup:=(qDi h _).nodup_iff.mpr (qJa (qDx h))
theorem qJc{m works:Int}{w:List Blk}(h:WorkOk m works w)(i:Nat):(rawTo w i).length<=1+2*i:=by
 rw [(qDi h i).length_eq];exact qBe (λb hb=>(h.blk b hb).ns.few) i
def qFm(K:PySem.W.Frag):Sp:=λvs H Q _ => ∃(a:Addr) (w:List Blk) (m works:Int),vs = [.ref a]/\Den K H (workD w) (.ref a)/\WorkOk m works w/\m<=12 /\
 ∀(l:Addr) (us:List V) (H':Hp),H l=none->Ext [] H H'->H' l=some (.lst us)->DenL K (yo H [l] H') ((qAa w w.length).map pairD) us->Q (.ref l) H'
def wr:Deed->Option Int
 | .set b _=>some b
 | .add b _=>some b
 | _=>none
def qFy(w:List Blk):List Int:=w.flatMap λb=>b.ds.filterMap wr
def boxes(w:List Blk):List Int:=((List.range 8).map λ(n:Nat)=>(n:Int)).filter λb=>decide (b∈qFy w)
theorem qOr:∀ {l1 l2:List Int},l1.Pairwise (· < ·)->l2.Pairwise (· < ·)->(∀p,p∈l1↔p∈l2)->l1=l2
 | [],[],_,_,_=>rfl
 | [],q::l2,_,_,h=>absurd ((h q).mpr (aR ..)) (by simp)
 | p::l1,[],_,_,h=>absurd ((h p).mp (aR ..)) (by simp)
 | p::l1,q::l2,h1,h2,h=>by
  rw [dQ] at h1 h2;have e:p=q:=by
   rcases aT.mp ((h p).mp (aR ..)) with z | z
   ·exact z
   ·rcases aT.mp ((h q).mpr (aR ..)) with y | y
    ·exact y.symm
    ·have:=h2.1 p z;have:=h1.1 q y;lia
  subst e;refine congrArg (p :: ·) (qOr h1.2 h2.2 λx=>⟨λhx=>?_,λhx=>?_⟩)
  ·rcases aT.mp ((h x).mp (aS _ hx)) with z | z
   ·rw [z] at hx;have:=h1.1 p hx;lia
   ·exact z
  ·rcases aT.mp ((h x).mpr (aS _ hx)) with z | z
   ·rw [z] at hx;have:=h2.1 p hx;lia
   ·exact z
theorem qR8{works:Int}{d:Deed}{b:Int}(h:qGx works d)(e:wr d=some b):0<=b/\b<8:=by
 cases d with
 | set x n=>cases e;exact⟨h.1,h.2.1⟩
 | add x o=>cases e;exact⟨h.1,h.2.1⟩
 | tell x=>cases e
 | call x=>cases e
 | save x=>cases e
 | back x=>cases e
theorem qCs{m works:Int}{w:List Blk}(h:WorkOk m works w){b:Int}(hb:b∈qFy w):0<=b/\b<8:=by
 obtain⟨k,hk,hb⟩:=dH.mp hb;obtain⟨d,hd,e⟩:=cP.mp hb;exact qR8 ((h.blk k hk).ds d hd) e
theorem qF1(w:List Blk):(boxes w).Pairwise (· < ·):=by
 unfold boxes;refine List.Pairwise.filter _ ?_;rw [fB];exact fI.imp λ{a b} h=>by lia
theorem qJr{m works:Int}{w:List Blk}(h:WorkOk m works w){b:Int}:b∈boxes w↔b∈qFy w:=by
 unfold boxes;rw [cE,decide_eq_true_eq];refine⟨λz=>z.2,λz=>⟨?_,z⟩⟩;have:=qCs h z;exact bH.mpr ⟨b.toNat,bL.mpr (by lia),by lia⟩
theorem qKk(w:List Blk):(boxes w).length<=8:=by
 unfold boxes;refine cA (bS _ _) (by simp)
mutual
def tame:PyData->Bool
 | .int i=>decide (i.natAbs<10^13)
 | .str x=>x.cps.all (· < 0x110000)&&decide (x.cps.size<=10)
 | .list xs=>qAx xs
 | .tuple xs=>qAx xs
 | .none=>false
 | .bool _=>false
 | .dict _=>false
def qAx:List PyData->Bool
 | []=>true
 | x::xs=>tame x&&qAx xs
end
mutual
def cells:PyData->Nat
 | .list xs=>qB4 xs
 | .tuple xs=>qB4 xs
 | .int _=>0
 | .str _=>0
 | .none=>0
 | .bool _=>0
 | .dict _=>0
def qB4:List PyData->Nat
 | []=>0
 | x::xs=>cells x+1+qB4 xs
end
theorem qTk{n:Nat}(h:n<10^13):n.log2<44:=by
 by_cases hn:n=0
 ·subst hn;decide
 ·exact (Nat.log2_lt hn).mpr (bI h (by decide))
mutual
theorem qG1:∀d:PyData,tame d=true->PyData.showable d=true
 | .int i,h=>by
  have h1:i.natAbs<10^13:=by simpa only [tame,decide_eq_true_eq] using h
  have:=qTk h1;simp only [PyData.showable,decide_eq_true_eq];lia
 | .str x,_=>rfl
 | .list xs,h=>qD1 xs (by simpa only [tame] using h)
 | .tuple xs,h=>qD1 xs (by simpa only [tame] using h)
theorem qD1:∀ds:List PyData,qAx ds=true->PyData.showableAll ds=true
 | [],_=>rfl
 | x::xs,h=>by
  have h1:(tame x&&qAx xs)=true:=by simpa only [qAx] using h
  rw [bD] at h1;simp only [PyData.showableAll,qG1 x h1.1,qD1 xs h1.2,eY]
end
mutual
theorem qFk:∀d:PyData,tame d=true->PyData.canLay0 d=true
 | .int i,h=>rfl
 | .str x,h=>by
  have h1:(x.cps.all (· < 0x110000)&&decide (x.cps.size<=10))=true:=by simpa only [tame] using h
  rw [bD] at h1;simpa only [PyData.canLay0,PyData.strOk] using h1.1
 | .list xs,h=>qE0 xs (by simpa only [tame] using h)
 | .tuple xs,h=>qE0 xs (by simpa only [tame] using h)
theorem qE0:∀ds:List PyData,qAx ds=true->PyData.canLayAll0 ds=true
 | [],_=>rfl
 | x::xs,h=>by
  have h1:(tame x&&qAx xs)=true:=by simpa only [qAx] using h
  rw [bD] at h1;simp only [PyData.canLayAll0,qFk x h1.1,qE0 xs h1.2,eY]
end
mutual
theorem qEm:∀d:PyData,tame d=true->PyData.intsShort 14 d=true
 | .int i,h=>by
  have h1:i.natAbs<10^13:=by simpa only [tame,decide_eq_true_eq] using h
  have e:=int_text_length_le10 (k:=13) (by decide) h1;simp only [PyData.intsShort,decide_eq_true_eq];show (Str.ofString (toString i)).length<=14;rw [PySem.ofString_length];exact e
 | .str x,h=>rfl
 | .list xs,h=>qCv xs (by simpa only [tame] using h)
 | .tuple xs,h=>qCv xs (by simpa only [tame] using h)
theorem qCv:∀ds:List PyData,qAx ds=true->PyData.intsShortAll 14 ds=true
 | [],_=>rfl
 | x::xs,h=>by
  have h1:(tame x&&qAx xs)=true:=by simpa only [qAx] using h
  rw [bD] at h1;simp only [PyData.intsShortAll,qEm x h1.1,qCv xs h1.2,eY]
end
mutual
theorem qDy:∀d:PyData,tame d=true->PyData.weight d<=46*cells d+45
 | .int i,h=>by
  have h1:i.natAbs<10^13:=by simpa only [tame,decide_eq_true_eq] using h
  have:=qTk h1;simp only [PyData.weight,cells];split <;> lia
 | .str x,h=>by
  have h1:(x.cps.all (· < 0x110000)&&decide (x.cps.size<=10))=true:=by simpa only [tame] using h
  rw [bD,decide_eq_true_eq] at h1;simp only [PyData.weight,cells];lia
 | .list xs,h=>by
  have:=qCg xs (by simpa only [tame] using h);simp only [PyData.weight,cells];lia
 | .tuple xs,h=>by
  have:=qCg xs (by simpa only [tame] using h);simp only [PyData.weight,cells];lia
theorem qCg:∀ds:List PyData,qAx ds=true->PyData.weightAll ds<=46*qB4 ds
 | [],_=>aE _
 | x::xs,h=>by
  have h1:(tame x&&qAx xs)=true:=by simpa only [qAx] using h
  rw [bD] at h1;have h2:=qDy x h1.1;have h3:=qCg xs h1.2;simp only [PyData.weightAll,qB4];lia
end
theorem qN0{d:PyData}(h:tame d=true)(hc:cells d<=5000)(hd:d.depth<=64):d.showable=true/\d.depth<=100/\d.shown.length<=sizeLine:=by
 refine⟨qG1 d h,by lia,?_⟩;have h1:=PyData.shown_le 14 (by decide) d (PyData.leavesShort_of_canLay0 14 d (qFk d h) (qEm d h));have h2:=qDy d h;have e:sizeLine=16777216:=by decide
 have h3:(14+2)*d.weight<=16*(46*5000+45):=gJ (by decide) (by lia);lia
theorem qDz{d:PyData}(h:tame d=true)(hd:d.depth<=64)(hs:∃xs,d = .list xs):SeqAt.shaped d=true:=by
 obtain⟨xs,rfl⟩:=hs;have h1:=qFk _ h;have h1:PyData.canLayAll0 xs=true:=by simpa only [PyData.canLay0] using h1
 show (PyData.canLayAll0 xs&&decide (PyData.depth (.list xs)<=64))=true;rw [h1,decide_eq_true hd];rfl
theorem qC9{α : Type}{f : α -> PyData}:∀ {l:List α},(∀x∈l,tame (f x)=true)->qAx (l.map f)=true
 | [],_=>rfl
 | x::r,h=>by
  simp only [bG,qAx,h x (aR ..),qC9 λy hy=>h y (aS _ hy),eY]
theorem qBn{α : Type}{f : α -> PyData}{n:Nat}:∀ {l:List α},(∀x∈l,cells (f x)<=n)->qB4 (l.map f)<=(n+1)*l.length
 | [],_=>aU _
 | x::r,h=>by
  have h1:=h x (aR ..);have h2:=qBn (l:=r) λy hy=>h y (aS _ hy);simp only [bG,qB4,bY,Nat.mul_add];lia
theorem qC4{α : Type}{f : α -> PyData}{n:Nat}:∀ {l:List α},(∀x∈l,(f x).depth<=n)->PyData.depthAll (l.map f)<=n
 | [],_=>aU _
 | x::r,h=>by
  have h1:=h x (aR ..);have h2:=qC4 (l:=r) λy hy=>h y (aS _ hy);simp only [bG,PyData.depthAll];lia
theorem qRd{i:Int}(h1 : -(10^12)<=i)(h2:i<=10^12):tame (.int i)=true:=by
 simp only [tame,decide_eq_true_eq];lia
theorem qBq{s:Str}(h:(s.cps.all (λx=>decide (x<0x110000))&&decide (s.cps.size<=10))=true):tame (.str s)=true:=by simpa only [tame] using h
theorem qGo{works:Int}{d:Deed}(hw:works<=100)(h:qGx works d):tame (deedD d)=true/\cells (deedD d)<=3/\(deedD d).depth<=1:=by
 have key:∀(s:Str) (b:Int),tame (.str s)=true -> -(10^12)<=b->b<=10^12->tame (.tuple [.str s,.int b])=true:=λs b hs h1 h2=>by
  simp only [tame,qAx,gG] at hs ⊢;rw [hs];simp only [Bool.true_and,decide_eq_true_eq];lia
 have key3:∀(s:Str) (b c:Int),tame (.str s)=true -> -(10^12)<=b->b<=10^12 -> -(10^12)<=c->c<=10^12->tame (.tuple [.str s,.int b,.int c])=true:=λs b c hs h1 h2 h3 h4=>by
  simp only [tame,qAx,gG] at hs ⊢;rw [hs];simp only [Bool.true_and,bD,decide_eq_true_eq];lia
 cases d with
 | set b n=>obtain⟨h1,h2,h3,h4⟩:=h;exact⟨key3 _ _ _ (qBq (by decide +kernel)) (by lia) (by lia) h3 h4,by simp [deedD,cells,qB4],aE _⟩
 | add b n=>obtain⟨h1,h2,h3,h4⟩:=h;exact⟨key3 _ _ _ (qBq (by decide +kernel)) (by lia) (by lia) (by lia) (by lia),by simp [deedD,cells,qB4],aE _⟩
 | tell b=>obtain⟨h1,h2⟩:=h;exact⟨key _ _ (qBq (by decide +kernel)) (by lia) (by lia),by simp [deedD,cells,qB4],aE _⟩
 | call b=>obtain⟨h1,h2⟩:=h;exact⟨key _ _ (qBq (by decide +kernel)) (by lia) (by lia),by simp [deedD,cells,qB4],aE _⟩
 | save b=>obtain⟨h1,h2⟩:=h;exact⟨key _ _ (qBq (by decide +kernel)) (by lia) (by lia),by simp [deedD,cells,qB4],aE _⟩
 | back b=>obtain⟨h1,h2⟩:=h;exact⟨key _ _ (qBq (by decide +kernel)) (by lia) (by lia),by simp [deedD,cells,qB4],aE _⟩
theorem qSu{m:Int}{ns:List Int}(hm:m<=12)(h:NsOk m ns):tame (endD ns)=true/\cells (endD ns)<=3/\(endD ns).depth<=1:=by
 have hs:∀s:Str,tame (.str s)=true->(s.cps.all (λx=>decide (x<0x110000))&&decide (s.cps.size<=10))=true:=λs h=>by simpa only [tame] using h
 rcases h with z | ⟨x,z,h1,h2⟩ | ⟨x,y,z,_,h1,h2,h3,h4⟩ <;> subst z
 ·refine⟨?_,by simp [endD,cells,qB4],aE _⟩;simp only [endD,tame,qAx,gG];exact hs "out" (qBq (by decide +kernel))
 ·refine⟨?_,by simp [endD,cells,qB4],aE _⟩;simp only [endD,tame,qAx,gG];rw [hs "go" (qBq (by decide +kernel))];simp only [Bool.true_and,decide_eq_true_eq];lia
 ·refine⟨?_,by simp [endD,cells,qB4],aE _⟩;simp only [endD,tame,qAx,gG];rw [hs "fork" (qBq (by decide +kernel))];simp only [Bool.true_and,bD,decide_eq_true_eq];lia
theorem qIw{m works:Int}{b:Blk}(hm:m<=12)(hw:works<=100)(h:BlkOk m works b):tame (blkD b)=true/\cells (blkD b)<=100/\(blkD b).depth<=3:=by
 obtain⟨e1,e2,e3⟩:=qSu hm h.ns;have d1:=qC9 (l:=b.ds) (f:=deedD) λd hd=>(qGo hw (h.ds d hd)).1;have d2:=qBn (l:=b.ds) (f:=deedD) (n:=3) λd hd=>(qGo hw (h.ds d hd)).2.1;have d3:=qC4 (l:=b.ds) (f:=deedD) (n:=1) λd hd=>(qGo hw (h.ds d hd)).2.2;have hf:=h.few;refine⟨?_,?_,?_⟩
 ·simp only [blkD,tame,qAx,d1,e1,eY]
 ·simp only [blkD,cells,qB4];lia
 ·show max (PyData.depthAll (b.ds.map deedD)+1) (max (endD b.ns).depth 0)+1<=3;lia
theorem qO3{m works:Int}{w:List Blk}(hm:m<=12)(hw:works<=100)(h:WorkOk m works w):tame (workD w)=true/\cells (workD w)<=5000/\(workD w).depth<=64:=by
 have d1:=qC9 (l:=w) (f:=blkD) λb hb=>(qIw hm hw (h.blk b hb)).1;have d2:=qBn (l:=w) (f:=blkD) (n:=100) λb hb=>(qIw hm hw (h.blk b hb)).2.1;have d3:=qC4 (l:=w) (f:=blkD) (n:=3) λb hb=>(qIw hm hw (h.blk b hb)).2.2;have hl:=h.len;refine⟨?_,?_,?_⟩
 ·simp only [workD,tame,d1]
 ·simp only [workD,cells];lia
 ·show PyData.depthAll (w.map blkD)+1<=64;lia
theorem qNh{ps:List (Int×Int)}(h:∀p∈ps,-1<=p.1/\p.1<=100 /\ -1<=p.2/\p.2<=100)(hl:ps.length<=1000):tame (qBm ps)=true/\cells (qBm ps)<=5000/\(qBm ps).depth<=64:=by
 have d1:=qC9 (l:=ps) (f:=pairD) λp hp=>by
  obtain⟨h1,h2,h3,h4⟩:=h p hp;simp only [pairD,tame,qAx,gG,bD,decide_eq_true_eq];lia
 have d2:=qBn (l:=ps) (f:=pairD) (n:=2) λp hp=>by simp [pairD,cells,qB4]
 have:=qGf ps;refine⟨?_,?_,by lia⟩
 ·simp only [qBm,tame,d1]
 ·simp only [qBm,cells];lia
theorem qEh{ns:List Int}(h:∀n∈ns,-1<=n/\n<=100)(hl:ns.length<=1000):tame (intsD ns)=true/\cells (intsD ns)<=5000/\(intsD ns).depth<=64:=by
 have d1:=qC9 (l:=ns) (f:=PyData.int) λn hn=>by
  have:=h n hn;simp only [tame,decide_eq_true_eq];lia
 have d2:=qBn (l:=ns) (f:=PyData.int) (n:=0) λn hn=>aE _;have d3:=qC4 (l:=ns) (f:=PyData.int) (n:=0) λn hn=>aE _;refine⟨?_,?_,?_⟩
 ·simp only [intsD,tame,d1]
 ·simp only [intsD,cells];lia
 ·show PyData.depthAll (ns.map .int)+1<=64;lia
section
variable{X:Cx}
theorem qOu{bs:List Bool}{f:Nat->Bool}(hf:∀i b,bs[i]? = some b->f i=b):(List.range bs.length).any f=bs.any id:=by
 rw [dO,cK,cK];constructor
 ·rintro⟨i,hi,h⟩;have hi:=bL.mp hi;have:=hf i bs[i] (aF hi);exact⟨bs[i],dZ hi,by rw [<-this];exact h⟩
 ·rintro⟨b,hb,h⟩;obtain⟨i,hi,e⟩:=bN hb;exact⟨i,bL.mpr hi,by rw [hf i b (by rw [aF hi,e])];exact h⟩
def rAnyB(K:PySem.W.Frag):List V->Hp->VK->Prop:=λxs H Q => ∃(a:Addr) (bs:List Bool),xs = [.ref a]/\SqL K H a (bs.map V.bl)/\Q (.bl (bs.any id)) H
theorem qQz(hh:X.A.handled=none):CallR X (.builtin "any") (rAnyB X.K):=by
 intro pins s σ H xs us Q I r h;obtain⟨a,bs,rfl,hq,q⟩:=h;obtain⟨u,rfl,ru⟩:=vals1 r;cases ru;obtain⟨its,rv,pl,_⟩:=I.list hq;have hlen:=rv.length;rw [aB] at hlen;have hl:=pl.isList;have hne:a≠s.heap.objs.size:=by obtain⟨o,e,_⟩:=hl;exact bB (aX e)
 have hval:∀(i:Nat) (v:Value),its.toArray[i]? = some v->v = .bool (bs.getD i false):=λi v e=>by
  rw [List.getElem?_toArray] at e;have hi:i<bs.length:=by rw [hlen];exact (aI.mp e).1
  obtain⟨u,e2,r2⟩:=rv.get (i:=i) (x:=V.bl bs[i]) (by rw [aW,aF hi];rfl);rw [e] at e2;cases e2;have r2:v=Value.bool bs[i]:=r2;rw [r2,bK,aF hi];rfl
 refine call_any_walk (wpAny_pyIter_list hl ⟨_,_,_,_,_,_,λi=>bs.getD i false,rfl,Walks.list (by exact hh) _ a hne its.toArray,⟨⟨_,bA _ rfl,rfl,rfl⟩,hl.push _⟩,λi v s Q E hP hQ=>?_,λh' tk k=>?_⟩)
 ·rw [hval i v hP];exact fW hQ
 ·have e:(List.range its.toArray.size).any (λi=>bs.getD i false)=bs.any id:=by
   rw [aP,<-hlen];exact qOu λi b hb=>by rw [bK,hb];rfl
  rw [e];exact⟨.bl (bs.any id),H,I.kept (t':=tk) (λb o e=>k b o (by simpa using bB (aX e)) (aH _ e)),rfl,q⟩
end
abbrev Pl:=Int×Int
def plK(p:Pl):List Key :=[.inl p.1,.inl p.2]
theorem qUk{p q:Pl}(h:plK p=plK q):p=q:=by
 obtain⟨a,b⟩:=p;obtain⟨c,d⟩:=q;simp only [plK,List.cons.injEq,Sum.inl.injEq,and_true] at h;rw [h.1,h.2]
def TK(H H':Hp):Prop := ∀b xs,H b=some (.tup xs)->H' b=some (.tup xs)
theorem TK.trans{H H1 H2:Hp}(a:TK H H1)(b:TK H1 H2):TK H H2:=λc xs h=>b c xs (a c xs h)
theorem Ext.tk{H H':Hp}(e:Ext [] H H'):TK H H':=λb xs h=>e b _ (by simp) h
theorem TK.put{H:Hp}{t:Addr}{o:HO}(h:∀ys,H t≠some (.tup ys)):TK H (upd H t o):=λb xs e=>by
 have n:b≠t:=λz=>by rw [z] at e;exact h xs e
 rw [qA4 n];exact e
def PlAt(H:Hp)(v:V)(p:Pl):Prop := ∃b,v = .ref b/\H b=some (.tup [.int p.1,.int p.2])
def PlsAt(H:Hp):List V->List Pl->Prop:=Paired (PlAt H)
theorem PlsAt.mono{H H':Hp}(k:TK H H'){vs:List V}{ps:List Pl}(h:PlsAt H vs ps):PlsAt H' vs ps:=Paired.mapP h λ_ _ ⟨b,e,q⟩=>⟨b,e,k _ _ q⟩
theorem PlsAt.len{H:Hp}{vs:List V}{ps:List Pl}(h:PlsAt H vs ps):vs.length=ps.length:=cY h
theorem PlsAt.append{H:Hp}{vs ws:List V}{ps qs:List Pl}(h:PlsAt H vs ps)(k:PlsAt H ws qs):PlsAt H (vs++ws) (ps++qs):=by
 induction h with
 | nil=>exact k
 | cons a _ ih=>exact .cons a ih
theorem PlsAt.one{H:Hp}{b:Addr}{p:Pl}(h:H b=some (.tup [.int p.1,.int p.2])):PlsAt H [.ref b] [p] :=.cons ⟨b,rfl,h⟩ .nil
theorem PlsAt.last{H:Hp}:∀ {vs:List V} {ps:List Pl} {y:Pl},PlsAt H vs (ps ++ [y]) -> ∃ws v,vs=ws ++ [v]/\PlsAt H ws ps/\PlAt H v y:=by
 intro vs ps
 induction ps generalizing vs with
 | nil =>
  intro y h;cases h with
  | cons a r=>cases r;exact⟨[],_,rfl,.nil,a⟩
 | cons p r ih =>
  intro y h;cases h with
  | cons a t =>
   obtain⟨ws,v,rfl,h1,h2⟩:=ih t;exact⟨_::ws,v,rfl,.cons a h1,h2⟩
theorem PlsAt.den{K:PySem.W.Frag}{H:Hp}{vs:List V}{ps:List Pl}(h:PlsAt H vs ps):DenL K H (ps.map pairD) vs:=by
 induction h with
 | nil=>exact .nil
 | cons a _ ih=>obtain⟨b,e,q⟩:=a;subst e;exact .cons (.tuple (SqT.of q) (.cons .int (.cons .int .nil))) ih
inductive RT(N:Pl->List Pl)(a:Pl):Pl->Prop
 | refl:RT N a a
 | step {b c:Pl}:RT N a b->c∈N b->RT N a c
theorem RT.within{N:Pl->List Pl}{U:List Pl}{a b:Pl}(hc:∀p∈U,∀q∈N p,q∈U)(ha:a∈U)(r:RT N a b):b∈U:=by
 induction r with
 | refl=>exact ha
 | step _ h ih=>exact hc _ ih _ h
def trueD(ks:List Pl):List (List Key×V):=ks.map λp=>(plK p,V.bl true)
theorem qKv(y:Pl):∀ks:List Pl,valV (trueD ks) (plK y)=if y∈ks then some (V.bl true) else none
 | []=>rfl
 | k::r=>by
  have ih:=qKv y r;unfold trueD at ih ⊢;by_cases e:k=y
  ·subst e;rw [bG,qFh rfl,if_pos (aR ..)]
  ·rw [bG,qFi (λz=>e (qUk z)),ih];have:(y∈k::r)↔y∈r:=by simp [cS e]
   simp only [this]
def dword:Deed->Str
 | .set _ _ => "set"
 | .add _ _ => "add"
 | .tell _ => "tell"
 | .call _ => "call"
 | .save _ => "save"
 | .back _ => "back"
def dargs:Deed->List Int
 | .set b n =>[b,n]
 | .add b o =>[b,o]
 | .tell b =>[b]
 | .call b =>[b]
 | .save b =>[b]
 | .back b =>[b]
def darg:Deed->Int
 | .set b _=>b
 | .add b _=>b
 | .tell b=>b
 | .call b=>b
 | .save b=>b
 | .back b=>b
theorem qVn(d:Deed):deedD d = .tuple (.str (dword d)::(dargs d).map .int):=by cases d <;> rfl
theorem qNu(d:Deed):∃r,dargs d=darg d::r:=by cases d <;> exact⟨_,rfl⟩
theorem qQp(d:Deed):1<=(dargs d).length/\(dargs d).length<=2:=by cases d <;> simp [dargs]
theorem qQk(d:Deed):inV (V.str (dword d)) [V.str "set",.str "add"]=(wr d).isSome:=by cases d <;> first | rfl | (show inV (V.str _) _=_;simp only [dword,wr];decide)
def wrB(x:Int)(d:Deed):Bool:=(wr d).isSome&&decide (darg d=x)
def qXo:Deed->Bool
 | .add _ _=>true
 | .tell _=>true
 | _=>false
def rdB(x:Int)(d:Deed):Bool:=qXo d&&decide (x∈dargs d)
def qL0(φ : Int->Deed->Bool)(K:PySem.W.Frag):Sp:=λvs H Q _ => ∃(v:V) (d:Deed) (x:Int),vs = [v,.int x]/\Den K H (deedD d) v /\ ∀H',Ext [] H H'->Q (.bl (φ x d)) H'
def till(x:Int):List Deed->List Deed
 | [] =>[]
 | d::r=>if wrB x d=true then [d] else d::till x r
def wrote(x:Int)(ds:List Deed):Bool:=ds.any (wrB x)
def qEj:Deed->Option Int
 | .call c=>some c
 | _=>none
def qMl(d:Deed):Bool:=(qEj d).isSome
theorem qQl(d:Deed):decide (dword d = "call")=qMl d:=by
 cases d with
 | call c=>exact decide_eq_true rfl
 | set _ _=>exact decide_eq_false (show ¬("set" : Str) = "call" by decide)
 | add _ _=>exact decide_eq_false (show ¬("add" : Str) = "call" by decide)
 | tell _=>exact decide_eq_false (show ¬("tell" : Str) = "call" by decide)
 | save _=>exact decide_eq_false (show ¬("save" : Str) = "call" by decide)
 | back _=>exact decide_eq_false (show ¬("back" : Str) = "call" by decide)
theorem qVr(d:Deed)(h:qMl d=true):qEj d=some (darg d):=by cases d <;> first | rfl | cases h
theorem qFj(x:Int):∀ds:List Deed,(till x ds).length<=ds.length
 | []=>aE _
 | d::r=>by
  unfold till;split
  ·simp
  ·have:=qFj x r;simp;lia
theorem qLq{x:Int}{d:Deed}:∀ {ds:List Deed},d∈till x ds->d∈ds
 | [],h=>h
 | e::r,h=>by
  unfold till at h;split at h
  ·rw [aQ.mp h];exact aR ..
  ·rcases aT.mp h with z | z
   ·rw [z];exact aR ..
   ·exact aS _ (qLq z)
abbrev qCz(ws:List (List Blk)):PyData :=.list (ws.map workD)
def blkAt(ws:List (List Blk))(p:Pl):Option Blk:=if 0<=p.1/\0<=p.2 then (ws[p.1.toNat]?).bind λw=>w[p.2.toNat]? else none
def qGt(x:Int)(b:Blk):List Pl:=((till x b.ds).filterMap qEj).map λc=>(c,0)
def metB(x n:Int)(b:Blk):List Pl:=qGt x b++(if wrote x b.ds=true then [] else b.ns.map λt=>(n,t))
def metOf(ws:List (List Blk))(x:Int)(p:Pl):List Pl:=match blkAt ws p with
 | none =>[]
 | some b=>metB x p.1 b
def readB(x:Int)(b:Blk):Bool:=(till x b.ds).any (rdB x)
def qJb(ws:List (List Blk))(x:Int)(p:Pl):Bool:=match blkAt ws p with
 | none=>false
 | some b=>readB x b
def Asks(ws:List (List Blk))(x:Int)(p:Pl):Prop := ∃q,RT (metOf ws x) p q/\qJb ws x q=true
structure WsOk(ws:List (List Blk)):Prop where
 all:∀w∈ws,∃m:Int,1<=m/\m<=12/\WorkOk m (ws.length:Int) w
 one:1<=ws.length
 few:ws.length<=25
theorem qDc(ws:List (List Blk))(n a:Nat):blkAt ws ((n:Int),(a:Int))=(ws[n]?).bind λw=>w[a]? :=by
 unfold blkAt;rw [if_pos ⟨by lia,by lia⟩];rfl
theorem qF2{ws:List (List Blk)}{p:Pl}{b:Blk}(h:blkAt ws p=some b):∃(n a:Nat) (w:List Blk),p=((n:Int),(a:Int))/\ws[n]? = some w/\w[a]? = some b:=by
 unfold blkAt at h;split at h
 ·rename_i hp;cases e:ws[p.1.toNat]? with
  | none=>rw [e] at h;cases h
  | some w =>
   rw [e] at h;refine⟨p.1.toNat,p.2.toNat,w,?_,e,h⟩;rw [Int.toNat_of_nonneg hp.1,Int.toNat_of_nonneg hp.2]
 ·cases h
def places(ws:List (List Blk)):List Pl:=(List.range ws.length).flatMap λ(n:Nat)=>(List.range ((ws[n]?).getD []).length).map λ(a:Nat)=>((n:Int),(a:Int))
theorem mem_places{ws:List (List Blk)}{p:Pl}:p∈places ws ↔ ∃b,blkAt ws p=some b:=by
 unfold places;rw [dH];constructor
 ·rintro⟨n,hn,hp⟩;obtain⟨a,ha,rfl⟩:=bH.mp hp;rw [qDc];have hn:=bL.mp hn;have ha:=bL.mp ha;rw [aF hn] at ha ⊢;exact⟨_,aF ha⟩
 ·rintro⟨b,hb⟩;obtain⟨n,a,w,rfl,hw,ha⟩:=qF2 hb;refine⟨n,bL.mpr (aI.mp hw).1,bH.mpr ⟨a,bL.mpr ?_,rfl⟩⟩;rw [hw];exact (aI.mp ha).1
theorem WsOk.blk{ws:List (List Blk)}(h:WsOk ws){p:Pl}{b:Blk}(hb:blkAt ws p=some b):∃(m:Int) (n:Nat) (w:List Blk),p.1=(n:Int)/\ws[n]? = some w/\(w.length:Int)=m/\1<=m/\m<=12/\BlkOk m (ws.length:Int) b:=by
 obtain⟨n,a,w,rfl,hw,ha⟩:=qF2 hb;obtain⟨m,h1,h2,h3⟩:=h.all w (aO hw);exact⟨m,n,w,rfl,hw,h3.len,h1,h2,h3.blk b (aO ha)⟩
theorem qPo{ws:List (List Blk)}(h:WsOk ws){x:Int}{p q:Pl}(hq:q∈metOf ws x p):q∈places ws:=by
 unfold metOf at hq;split at hq
 ·cases hq
 ·rename_i b hb;obtain⟨m,n,w,hp,hw,hm,hm1,hm2,hbok⟩:=h.blk hb;unfold metB at hq;rcases aM.mp hq with z | z
  ·unfold qGt at z;obtain⟨c,hc,rfl⟩:=bH.mp z;obtain⟨d,hd,e⟩:=cP.mp hc;have hdok:=hbok.ds d (qLq hd);have hcc:0<=c/\c<(ws.length:Int):=by
    cases d with
    | call c'=>cases e;exact hdok
    | set _ _=>cases e
    | add _ _=>cases e
    | tell _=>cases e
    | save _=>cases e
    | back _=>cases e
   obtain⟨k,rfl⟩:=dP hcc.1;have hk:k<ws.length:=by lia
   refine mem_places.mpr ?_;have:=qDc ws k 0;show ∃b,blkAt ws ((k:Int),((0:Nat):Int))=some b;rw [this,aF hk];obtain⟨m',g1,g2,g3⟩:=h.all ws[k] (dZ hk);have g4:=g3.len;exact⟨_,aF (by lia)⟩
  ·split at z
   ·cases z
   ·obtain⟨t,ht,rfl⟩:=bH.mp z;have hr:=hbok.ns.range t ht;obtain⟨k,rfl⟩:=dP (show 0<=t by lia);refine mem_places.mpr ?_;rw [hp,qDc,hw];exact⟨_,aF (by lia)⟩
theorem qVc{ws:List (List Blk)}(h:WsOk ws)(x:Int)(p:Pl):(metOf ws x p).length<=22:=by
 unfold metOf;split
 ·exact aU _
 ·rename_i b hb;obtain⟨m,n,w,hp,hw,hm,hm1,hm2,hbok⟩:=h.blk hb;unfold metB qGt;have h1:=eV qEj (till x b.ds);have h2:=qFj x b.ds;have h3:=hbok.few;have h4:=hbok.ns.few;rw [aG,aB];split
  ·simp;lia
  ·rw [aB];lia
theorem qNf{ws:List (List Blk)}(h:WsOk ws):(places ws).length<=300:=by
 unfold places;have key:∀l:List Nat,(∀n∈l,n<ws.length)->(l.flatMap λ(n:Nat)=>(List.range ((ws[n]?).getD []).length).map λ(a:Nat)=>((n:Int),(a:Int))).length<=12*l.length:=by
  intro l
  induction l with
  | nil=>intro _;exact aE _
  | cons n r ih =>
   intro hl;rw [fD,aG,aB,bV,bY];have h1:=ih λm hm=>hl m (aS _ hm);have hn:=hl n (aR ..);rw [aF hn];obtain⟨m',g1,g2,g3⟩:=h.all ws[n] (dZ hn);have g4:=g3.len;show ws[n].length+_<=_;lia
 have h1:=key (List.range ws.length) λn hn=>bL.mp hn;rw [bV] at h1;have:=h.few;lia
def qVp(X:Cx)(own:List Str)(cap:List Nat)(scope:Scope)(y:Str)(cl:List (Str×Addr))(s:Shared)(H:Hp)(ex:List Addr):Cx :=
 { qAm X own cap scope ((y,s.heap.objs.size+1)::cl) s H ex with fn:=λx=>x == y }
theorem qDb{X:Cx}{own:List Str}{cap:List Nat}{scope:Scope}{y:Str}{cl:List (Str×Addr)}{s:Shared}{H:Hp}{ex:List Addr}:(qVp X own cap scope y cl s H ex).K=X.K:=rfl
noncomputable def askB(ws:List (List Blk))(x:Int)(p:Pl):Bool :=@decide (Asks ws x p) (Classical.propDecidable _)
theorem askB_iff{ws:List (List Blk)}{x:Int}{p:Pl}:askB ws x p=true↔Asks ws x p:=by unfold askB;exact @decide_eq_true_iff _ (Classical.propDecidable _)
theorem qDf(x:Int)(ds:List Deed)(d:Deed):wrote x (ds ++ [d])=(wrote x ds||wrB x d):=by unfold wrote;simp
theorem qFx{x:Int}{ds:List Deed}(h:wrote x ds=false):∀e∈ds,wrB x e=false:=by
 unfold wrote at h;intro e he;have:=List.any_eq_false.mp h e he;simpa using this
theorem qCu{x:Int}{d:Deed}:∀ {ds:List Deed},wrote x ds=false->till x (ds ++ [d])=till x ds ++ [d]
 | [],_=>by
  show (if wrB x d=true then [d] else d::till x []) = [d];split <;> rfl
 | e::r,h=>by
  have h1:=qFx h e (by simp);have h2:wrote x r=false:=by unfold wrote at h ⊢;simp at h ⊢;exact h.2
  simp only [List.cons_append,till];rw [if_neg (by rw [h1];exact aD),if_neg (by rw [h1];exact aD),qCu h2];rfl
theorem qCt{x:Int}:∀ {ds es:List Deed},wrote x ds=true->till x (ds++es)=till x ds
 | [],es,h=>by cases h
 | e::r,es,h=>by
  simp only [List.cons_append,till];by_cases hw:wrB x e=true
  ·rw [if_pos hw,if_pos hw]
  ·have h2:wrote x r=true:=by
    unfold wrote at h ⊢;rw [List.any_cons] at h;rw [Bool.eq_false_iff.mpr hw,Bool.false_or] at h;exact h
   rw [if_neg hw,if_neg hw,qCt h2]
theorem qRc{x:Int}{ds:List Deed}{j:Nat}{d:Deed}(h:wrote x (ds.take j)=false)(hd:ds[j]? = some d):d∈till x ds:=by
 have e:ds=(ds.take j ++ [d])++ds.drop (j+1):=by
  rw [<-qAw hd,cV]
 have h1:=qCu (d:=d) h;by_cases hw:wrB x d=true
 ·have h2:wrote x (ds.take j ++ [d])=true:=by rw [qDf,h,hw];rfl
  rw [e,qCt h2,h1];simp
 ·have all:∀(as bs:List Deed),wrote x as=false -> ∀f∈as,f∈till x (as++bs):=by
   intro as bs
   induction as with
   | nil=>intro _ f hf;cases hf
   | cons a r ih =>
    intro ha f hf;have h3:=qFx ha a (by simp);have h4:wrote x r=false:=by unfold wrote at ha ⊢;simp at ha ⊢;exact ha.2
    simp only [List.cons_append,till];rw [if_neg (by rw [h3];exact aD)];rcases aT.mp hf with z | z
    ·rw [z];exact aR ..
    ·exact aS _ (ih h4 f z)
  have h2:wrote x (ds.take j ++ [d])=false:=by rw [qDf,h,Bool.eq_false_iff.mpr hw];rfl
  rw [e];exact all _ _ h2 d (by simp)
theorem qIp(ps:List (Int×Int)):PyData.eqv (qBm ps) (.list [])=decide (ps = []):=by
 cases ps with
 | nil=>rfl
 | cons p r=>rfl
def qG3(K:PySem.W.Frag):Sp:=λvs H Q _ => ∃(wa:Addr) (ws:List (List Blk)) (n b:Nat) (x:Int),vs = [.ref wa,.int n,.int b,.int x]/\Den K H (qCz ws) (.ref wa)/\WsOk ws/\((n:Int),(b:Int))∈places ws /\ ∀H',Ext [] H H'->Q (.bl (askB ws x ((n:Int),(b:Int)))) H'
section
variable{X:Cx}
def rSumI(K:PySem.W.Frag):List V->Hp->VK->Prop:=λxs H Q => ∃(a:Addr) (ns:List Int),xs = [.ref a]/\SqL K H a (ns.map V.int)/\Q (.int ns.sum) H
theorem qKf(hh:X.A.handled=none):CallR X (.builtin "sum") (rSumI X.K):=by
 intro pins s σ H xs us Q I r h;obtain⟨a,ns,rfl,hq,q⟩:=h;obtain⟨u,rfl,ru⟩:=vals1 r;cases ru;obtain⟨its,rv,pl,_⟩:=I.list hq;have hi:=qCn rv;obtain⟨xs,hx⟩:=hi.allInts.items;have hl':s.heap.IsList a (intItems xs):=hx▸pl.isList;refine sum_intListG hh hl' λh' tk t' hk=>?_;have e1:ns=xs.toList.map (·.1):=by
  rw [<-nums_intItems,<-hx];exact (show numsOf its.toArray.toList=ns from hi.numsOf).symm
 have e2:preSum (numAt xs) xs.size=ns.sum:=by rw [preSum_eq,cI (by simp),e1]
 rw [e2];exact⟨.int ns.sum,H,I.kept (t':=tk) hk,⟨t',rfl⟩,q⟩
end
theorem sumK{X:Cx}(K:PySem.W.Frag)(hK:X.K=K)(hh:X.A.handled=none):CallR X (.builtin "sum") (rSumI K):=hK▸qKf hh
def qOg(K:PySem.W.Frag):Sp:=λvs H Q _ => ∃(wa:Addr) (ws:List (List Blk)),vs = [.ref wa]/\Den K H (qCz ws) (.ref wa)/\ws.length<=25/\(∀w∈ws,w.length<=12) /\ ∀(r:Int) (H':Hp),Ext [] H H'->Q (.int r) H'
def slimB(b:Blk):Blk:=⟨b.ds.take 2,b.ns⟩
def qH5(ws:List (List Blk)):List (List Blk):=ws.take 1++(ws.drop 1).map λw=>w.map slimB
theorem qFo(ws:List (List Blk)):(qH5 ws).length=ws.length:=by unfold qH5;simp;lia
theorem qU2{ws:List (List Blk)}(h:WsOk ws):WsOk (qH5 ws):=by
 refine⟨λw hw=>?_,by rw [qFo];exact h.one,by rw [qFo];exact h.few⟩;rw [qFo];unfold qH5 at hw;rcases aM.mp hw with z | z
 ·exact h.all w (gR z)
 ·obtain⟨w0,hw0,rfl⟩:=bH.mp z;obtain⟨m,h1,h2,h3⟩:=h.all w0 (List.mem_of_mem_drop hw0);refine⟨m,h1,h2,by rw [aB];exact h3.len,λb hb=>?_⟩;obtain⟨b0,hb0,rfl⟩:=bH.mp hb;have hb0:=h3.blk b0 hb0;refine⟨hb0.ns,λd hd=>hb0.ds d (gR hd),?_⟩;show (b0.ds.take 2).length<=20;rw [aV];lia
def hasW(wk:List Blk)(x:Int)(i:Nat):Bool:=(wk[i]?).any λb=>wrote x b.ds
def wrTo(wk:List Blk)(x:Int)(i:Nat):List Int:=((List.range i).filter (hasW wk x)).map λ(n:Nat)=>(n:Int)
theorem qO1(wk:List Blk)(x:Int)(i:Nat):wrTo wk x (i+1)=if hasW wk x i=true then wrTo wk x i ++ [(i:Int)] else wrTo wk x i:=by
 unfold wrTo;rw [List.range_succ,cR,fL,List.filter_nil];split
 ·rw [aN];rfl
 ·rw [bW]
theorem qE7(wk:List Blk)(x:Int)(i:Nat):(wrTo wk x i).length<=i:=by
 unfold wrTo;rw [aB];have:=bS (hasW wk x) (List.range i);rw [bV] at this;exact this
theorem qVj{wk:List Blk}{x:Int}{i:Nat}{b:Blk}(h:wk[i]? = some b):hasW wk x i=wrote x b.ds:=by unfold hasW;rw [h];rfl
theorem mem_wrTo{wk:List Blk}{x y:Int}{i:Nat}:y∈wrTo wk x i ↔ ∃n:Nat,y=(n:Int)/\n<i/\hasW wk x n=true:=by
 unfold wrTo;rw [bH];constructor
 ·rintro⟨n,hn,rfl⟩;obtain⟨h1,h2⟩:=cE.mp hn;exact⟨n,rfl,bL.mp h1,h2⟩
 ·rintro⟨n,rfl,h1,h2⟩;exact⟨n,cE.mpr ⟨bL.mpr h1,h2⟩,rfl⟩
def qD3(K:PySem.W.Frag):Sp:=λvs H Q _ => ∃(wa:Addr) (wk:List Blk) (m works x:Int),vs = [.ref wa,.int x]/\Den K H (workD wk) (.ref wa)/\WorkOk m works wk/\m<=12 /\
 ∀(l:Addr) (H':Hp),H l=none->Ext [] H H'->H' l=some (.lst ((wrTo wk x wk.length).map V.int))->Q (.ref l) H'
noncomputable def waitTo(ws:List (List Blk))(x:Int)(n i:Nat):List Int:=((List.range i).filter λ(a:Nat)=>askB ws x ((n:Int),(a:Int))).map λ(a:Nat)=>(a:Int)
def qBz(wk:List Blk)(x:Int):List Int:=(wrTo wk x wk.length).flatMap (nxt wk)
theorem qIo{α β : Type}(f : α -> List β)(h:∀a,(f a).length<=2):∀l:List α,(l.flatMap f).length<=2*l.length
 | []=>aE _
 | a::r=>by
  have:=qIo f h r;have:=h a;rw [fD,aG,bY];lia
def grow(nx:Int->List Int)(F:List Int)(b:Int):List Int:=F++(nx b).filter λx => !decide (x∈F)
structure BehI(nx:Int->List Int)(ss:List Int)(m:Nat)(F:List Int):Prop where
 sub:∀s∈ss,s∈F
 rk:∀x∈F,∃s∈ss,Reach nx s x
 len:F.length<=ss.length+2*cnt (λx=>decide (x∈F)) m
theorem BehI.start(nx:Int->List Int)(ss:List Int)(m:Nat):BehI nx ss m ss:=⟨λ_ h=>h,λx h=>⟨x,h,.refl⟩,Nat.le_add_right _ _⟩
theorem mem_grow{nx:Int->List Int}{F:List Int}{b x:Int}:x∈grow nx F b↔x∈F\/x∈nx b:=by
 unfold grow;rw [aM,cE];by_cases h:x∈F <;> simp [h]
theorem BehI.grow{nx:Int->List Int}{ss F:List Int}{m:Nat}{b:Int}(h:BehI nx ss m F)(hb:b∈F)(few:∀x,(nx x).length<=2)(hr:∀x,(∃s∈ss,Reach nx s x)->0<=x/\x<(m:Int)):BehI nx ss m (grow nx F b):=by
 refine⟨λs hs=>mem_grow.mpr (.inl (h.sub s hs)),λx hx=>?_,?_⟩
 ·rcases mem_grow.mp hx with z | z
  ·exact h.rk x z
  ·obtain⟨s,hs,r⟩:=h.rk b hb;exact⟨s,hs,.step r z⟩
 ·have hl:=h.len;by_cases e:(nx b).filter (λx => !decide (x∈F)) = []
  ·have:L2.grow nx F b=F:=by unfold L2.grow;rw [e,bW]
   rw [this];exact hl
  ·obtain⟨y,hy⟩:=List.exists_mem_of_ne_nil _ e;obtain⟨hy1,hy2⟩:=cE.mp hy;have hyF:y∉F:=by simpa using hy2
   obtain⟨s,hs,r⟩:=h.rk b hb;have hyr:=hr y ⟨s,hs,.step r hy1⟩;have hlt:=qQs (p:=λx=>decide (x∈F)) (q:=λx=>decide (x∈L2.grow nx F b)) (x:=y) (λi hi=>decide_eq_true (mem_grow.mpr (.inl (of_decide_eq_true hi)))) (decide_eq_true (mem_grow.mpr (.inr hy1))) (decide_eq_false hyF) m hyr.1 hyr.2;have h1:=bS (λx => !decide (x∈F)) (nx b);have h2:=few b;have:(L2.grow nx F b).length=F.length+((nx b).filter λx => !decide (x∈F)).length:=by unfold L2.grow;rw [aG]
   lia
def Lays(nx:Int->List Int)(ss:List Int)(t:Nat)(F:List Int):Prop := ∀s∈ss,∀j,j<=t -> ∀x∈(lay nx s j).2,x∈F
theorem Lays.zero{nx:Int->List Int}{ss F:List Int}(h:∀s∈ss,s∈F):Lays nx ss 0 F:=λs hs j hj x hx=>by
 have:j=0:=by lia
 subst this;have:x=s:=by simpa [lay] using hx
 rw [this];exact h s hs
theorem Lays.succ{nx:Int->List Int}{ss F G:List Int}{t:Nat}(h:Lays nx ss t F)(h1:∀x∈F,x∈G)(h2:∀b∈F,∀c∈nx b,c∈G):Lays nx ss (t+1) G:=λs hs j hj x hx=>by
 by_cases e:j=t+1
 ·subst e;obtain⟨⟨b,hb,hx1⟩,_⟩:=lay_further.mp hx;exact h2 b (h s hs t (aE _) b hb) x hx1
 ·exact h1 x (h s hs j (by lia) x hx)
theorem Lays.all{nx:Int->List Int}{ss F:List Int}{m:Nat}(h:Lays nx ss m F)(I:BehI nx ss m F)(hr:∀x,(∃s∈ss,Reach nx s x)->0<=x/\x<(m:Int))(x:Int):x∈F ↔ ∃s∈ss,Reach nx s x:=by
 refine⟨I.rk x,λ⟨s,hs,r⟩=>?_⟩;obtain⟨j,hj,hx⟩:=qVg (m:=m) (λy i hy=>hr y ⟨s,hs,qJz hy⟩) r;exact h s hs j hj x hx
def qI7(K:PySem.W.Frag):Sp:=λvs H Q _ => ∃(wa:Addr) (wk:List Blk) (m works x:Int),vs = [.ref wa,.int x]/\Den K H (workD wk) (.ref wa)/\WorkOk m works wk/\m<=12 /\
 ∀(l:Addr) (ns:List Int) (H':Hp),H l=none->Ext [] H H'->H' l=some (.lst (ns.map V.int))->ns.Pairwise (· <= ·)->ns.Nodup->(∀y,y∈ns ↔ ∃s∈qBz wk x,Reach (nxt wk) s y)->Q (.ref l) H'
mutual
def noI:PyData->Bool
 | .list ds=>noIs ds&&(match ds with | .int _::_=>false | _=>true)
 | .tuple ds=>noIs ds
 | _=>true
def noIs:List PyData->Bool
 | []=>true
 | d::ds=>noI d&&noIs ds
end
section
variable{K:PySem.W.Frag}{H:Hp}{t:Addr}{x:Int}{r:List V}
theorem qTc{a:Addr}{o:HO}(h:a≠t)(e:Rd H a o):Rd (wo [t] H) a o:=by
 have hn:a ∉ [t]:=by simpa using h
 rcases e with e | ⟨u,e⟩
 ·exact .inl (by rw [qD0 hn];exact e)
 ·exact .inr ⟨u,by rw [qD0 hn];exact e⟩
mutual
theorem Den.off(ht:H t=some (.lst (.int x::r))):∀ {d:PyData} {v:V},noI d=true->Den K H d v->Den K (wo [t] H) d v
 | .none,_,_,e=>by simp only [Den] at e ⊢;exact e
 | .bool _,_,_,e=>by simp only [Den] at e ⊢;exact e
 | .int _,_,_,e=>by simp only [Den] at e ⊢;exact e
 | .str _,_,_,e=>by simp only [Den] at e ⊢;exact e
 | .list ds,_,hn,e=>by
  simp only [Den] at e ⊢;obtain⟨a,vs,e1,e2,e3⟩:=e;simp only [noI,bD] at hn;refine⟨a,vs,e1,?_,DenL.off ht hn.1 e3⟩;rcases e2 with e2 | e2
  ·refine .inl (qTc (λh=>?_) e2);subst h;rcases e2 with e2 | ⟨o,e2⟩
   ·rw [ht] at e2;cases e2;cases ds with
    | nil=>have:=e3.ofNil;cases this
    | cons d ds =>
     obtain⟨v,r',e4,e5,_⟩:=e3.ofCons;cases e4;cases d with
     | int i=>simp at hn
     | none=>simp only [Den] at e5;cases e5
     | bool=>simp only [Den] at e5;cases e5
     | str=>simp only [Den] at e5;cases e5
     | list=>simp only [Den] at e5;obtain⟨_,_,z,_⟩:=e5;cases z
     | tuple=>simp only [Den] at e5;obtain⟨_,_,z,_⟩:=e5;cases z
     | dict=>simp only [Den] at e5
   ·rw [ht] at e2;cases e2
  ·exact .inr e2
 | .tuple ds,_,hn,e=>by
  simp only [Den] at e ⊢;obtain⟨a,vs,e1,e2,e3⟩:=e;simp only [noI] at hn;refine⟨a,vs,e1,?_,DenL.off ht hn e3⟩;rcases e2 with e2 | e2
  ·refine .inl (qTc (λh=>?_) e2);subst h;rcases e2 with e2 | ⟨o,e2⟩
   ·rw [ht] at e2;cases e2
   ·rw [ht] at e2;cases e2
  ·exact .inr e2
 | .dict _,_,_,e=>by simp only [Den] at e
theorem DenL.off(ht:H t=some (.lst (.int x::r))):∀ {ds:List PyData} {vs:List V},noIs ds=true->DenL K H ds vs->DenL K (wo [t] H) ds vs
 | [],_,_,e=>by simp only [DenL] at e ⊢;exact e
 | d::ds,_,hn,e=>by
  simp only [DenL] at e ⊢;simp only [noIs,bD] at hn;obtain⟨v,r,e1,e2,e3⟩:=e;exact⟨v,r,e1,Den.off ht hn.1 e2,DenL.off ht hn.2 e3⟩
end
end
theorem qFs{α : Type}{f : α -> PyData}:∀ {l:List α},(∀a∈l,noI (f a)=true)->noIs (l.map f)=true
 | [],_=>rfl
 | a::l,h=>by
  simp only [bG,noIs,bD];exact⟨h a (aR ..),qFs λb hb=>h b (aS _ hb)⟩
theorem qSd(d:Deed):noI (deedD d)=true:=by cases d <;> rfl
theorem qV8(ns:List Int):noI (endD ns)=true:=by
 match ns with
 | []=>rfl
 | [x]=>rfl
 | x::y::_=>rfl
theorem qV9(b:Blk):noI (blkD b)=true:=by
 simp only [blkD,noI,noIs,qV8,gG,bD];refine⟨qFs λd _=>qSd d,?_⟩;cases b.ds with
 | nil=>rfl
 | cons d ds=>cases d <;> rfl
theorem qSc(w:List Blk):noI (workD w)=true:=by
 simp only [workD,noI,bD];refine⟨qFs λd _=>qV9 d,?_⟩;cases w <;> rfl
theorem qJn(ws:List (List Blk)):noI (qCz ws)=true:=by
 simp only [qCz,noI,bD];refine⟨qFs λd _=>qSc d,?_⟩;cases ws <;> rfl
theorem qFp:∀ {ns:List Int} {lo hi:Int},ns.Pairwise (· <= ·)->ns.Nodup->(∀n∈ns,lo<=n/\n<hi)->(ns.length:Int)<=max 0 (hi - lo)
 | [],_,_,_,_,_=>by simp;lia
 | n::r,lo,hi,h1,h2,h3=>by
  obtain⟨h11,h12⟩:=dQ.mp h1;obtain⟨h21,h22⟩:=fY.mp h2;have hn:=h3 n (aR ..);have:=qFp (ns:=r) (lo:=n+1) (hi:=hi) h12 h22 λm hm=>by
   have a:=h11 m hm;have b:=h3 m (aS _ hm);have c:m≠n:=λz=>h21 (z▸hm);lia
  rw [bY];lia
theorem qIh{CX:CXT}{P:Program}{w:World}{K:PySem.W.Frag}{mg:Str->Option Value}{base:Heap}{N:List Str}{qual:Str}{scope:Scope}{f:Addr}{cd:Value}{A:Around}{outer:List Env}{s:Shared}{H:Hp}{E:XK}:(cxOf CX P w K mg base N qual scope f cd A outer s H E).nox.w=w:=rfl
theorem qSz{CX:CXT}{P:Program}{w:World}{K:PySem.W.Frag}{mg:Str->Option Value}{base:Heap}{N:List Str}{qual:Str}{scope:Scope}{f:Addr}{cd:Value}{A:Around}{outer:List Env}{s:Shared}{H:Hp}{E:XK}:(cxOf CX P w K mg base N qual scope f cd A outer s H E).w=w:=rfl
def BusyP(ws:List (List Blk))(n:Nat)(wk:List Blk)(x y:Int):Prop:=y∈wrTo wk x wk.length\/(∃s∈qBz wk x,Reach (nxt wk) s y)/\y∈waitTo ws x n wk.length
def qOk(K:PySem.W.Frag):Sp:=λvs H Q _ => ∃(wa:Addr) (ws:List (List Blk)) (n:Nat) (wk:List Blk) (x:Int),vs = [.ref wa,.int n,.int x]/\Den K H (qCz ws) (.ref wa)/\WsOk ws/\ws[n]? = some wk /\
 ∀(l:Addr) (ns:List Int) (H':Hp),H l=none->Ext [] H H'->H' l=some (.lst (ns.map V.int))->ns.Pairwise (· <= ·)->ns.Nodup->(∀y,y∈ns↔BusyP ws n wk x y)->Q (.ref l) H'
theorem neDK(K:PySem.W.Frag){X:Cx}{k:Nat}(hK:X.K=K)(hr:Room k X.A):OpR X (compareOp .NotEq) (rEqD K true):=hK▸qM8 hr
def boxTo(wk:List Blk)(i:Nat):List Int:=((List.range i).filter λ(k:Nat) => !decide (wrTo wk (k:Int) wk.length = [])).map λ(k:Nat)=>(k:Int)
theorem qHx(wk:List Blk)(i:Nat):boxTo wk (i+1)=if wrTo wk (i:Int) wk.length = [] then boxTo wk i else boxTo wk i ++ [(i:Int)]:=by
 unfold boxTo;rw [List.range_succ,cR,fL,List.filter_nil];by_cases h:wrTo wk (i:Int) wk.length = []
 ·rw [decide_eq_true h,if_pos h];simp
 ·rw [decide_eq_false h,if_neg h];simp
theorem qR1(wk:List Blk)(i:Nat):(boxTo wk i).length<=i:=by
 unfold boxTo;rw [aB];have:=bS (λ(k:Nat) => !decide (wrTo wk (k:Int) wk.length = [])) (List.range i);rw [bV] at this;exact this
theorem qPq{wk:List Blk}{i:Nat}{y:Int}:y∈boxTo wk i↔(0<=y/\y<i)/\wrTo wk y wk.length ≠ []:=by
 unfold boxTo;rw [bH];constructor
 ·rintro⟨k,hk,rfl⟩;obtain⟨h1,h2⟩:=cE.mp hk;have:=bL.mp h1;exact⟨by lia,by simpa using h2⟩
 ·rintro⟨h1,h2⟩;refine⟨y.toNat,cE.mpr ⟨bL.mpr (by lia),?_⟩,by lia⟩;rw [Int.toNat_of_nonneg h1.1];simpa using h2
def qI6(K:PySem.W.Frag):Sp:=λvs H Q _ => ∃(wa:Addr) (wk:List Blk) (m works:Int),vs = [.ref wa]/\Den K H (workD wk) (.ref wa)/\WorkOk m works wk/\m<=12 /\
 ∀(l:Addr) (H':Hp),H l=none->Ext [] H H'->H' l=some (.lst ((boxTo wk 8).map V.int))->Q (.ref l) H'
theorem qF4{m works x y:Int}{wk:List Blk}(h:WorkOk m works wk)(hy:∃s∈qBz wk x,Reach (nxt wk) s y):0<=y/\y<m:=by
 obtain⟨s,hs,rr⟩:=hy;obtain⟨b,hb,hsb⟩:=dH.mp hs;have:=(qHl h b).range _ hsb;exact rr.range h (by lia)
theorem qH0{m works x y:Int}{wk:List Blk}(h:WorkOk m works wk)(hy:y∈wrTo wk x wk.length):0<=y/\y<m:=by
 obtain⟨n,rfl,h1,_⟩:=mem_wrTo.mp hy;have:=h.len;lia
theorem qNx{ws:List (List Blk)}{n:Nat}{m works x y:Int}{wk:List Blk}(h:WorkOk m works wk)(hy:BusyP ws n wk x y):0<=y/\y<m:=hy.elim (qH0 h) λz=>qF4 h z.1
theorem qNo{ws:List (List Blk)}{x y:Int}{n i:Nat}:y∈waitTo ws x n i ↔ ∃a:Nat,y=(a:Int)/\a<i/\askB ws x ((n:Int),(a:Int))=true:=by
 unfold waitTo;rw [bH];constructor
 ·rintro⟨a,ha,rfl⟩;obtain⟨h1,h2⟩:=cE.mp ha;exact⟨a,rfl,bL.mp h1,h2⟩
 ·rintro⟨a,rfl,h1,h2⟩;exact⟨a,cE.mpr ⟨bL.mpr h1,h2⟩,rfl⟩
mutual
def DenE(G:Hp):PyData->V->Prop
 | .none,v=>v = .non
 | .bool b,v=>v = .bl b
 | .int i,v=>v = .int i
 | .str x,v=>v = .str x
 | .list ds,v => ∃a vs,v = .ref a/\G a=some (.lst vs)/\DenEL G ds vs
 | .tuple ds,v => ∃a vs,v = .ref a/\G a=some (.tup vs)/\DenEL G ds vs
 | .dict _,_=>False
def DenEL(G:Hp):List PyData->List V->Prop
 | [],vs=>vs = []
 | d::ds,vs => ∃v r,vs=v::r/\DenE G d v/\DenEL G ds r
end
section
variable{G G':Hp}
mutual
theorem DenE.mono(h:Same G G'):∀ {d:PyData} {v:V},DenE G d v->DenE G' d v
 | .none,_,e=>by simp only [DenE] at e ⊢;exact e
 | .bool _,_,e=>by simp only [DenE] at e ⊢;exact e
 | .int _,_,e=>by simp only [DenE] at e ⊢;exact e
 | .str _,_,e=>by simp only [DenE] at e ⊢;exact e
 | .list ds,_,e=>by
  simp only [DenE] at e ⊢;obtain⟨a,vs,e1,e2,e3⟩:=e;exact⟨a,vs,e1,h _ _ e2,DenEL.mono h e3⟩
 | .tuple ds,_,e=>by
  simp only [DenE] at e ⊢;obtain⟨a,vs,e1,e2,e3⟩:=e;exact⟨a,vs,e1,h _ _ e2,DenEL.mono h e3⟩
 | .dict _,_,e=>by simp only [DenE] at e
theorem DenEL.mono(h:Same G G'):∀ {ds:List PyData} {vs:List V},DenEL G ds vs->DenEL G' ds vs
 | [],_,e=>by simp only [DenEL] at e ⊢;exact e
 | d::ds,_,e=>by
  simp only [DenEL] at e ⊢;obtain⟨v,r,e1,e2,e3⟩:=e;exact⟨v,r,e1,DenE.mono h e2,DenEL.mono h e3⟩
end
theorem DenEL.len:∀ {ds:List PyData} {vs:List V},DenEL G ds vs->vs.length=ds.length
 | [],_,e=>by simp only [DenEL] at e;rw [e];rfl
 | d::ds,_,e=>by
  simp only [DenEL] at e;obtain⟨v,r,rfl,_,e3⟩:=e;simp [DenEL.len e3]
theorem DenEL.nil:DenEL G [] []:=by simp only [DenEL]
theorem DenEL.cons{d:PyData}{ds:List PyData}{v:V}{vs:List V}(h1:DenE G d v)(h2:DenEL G ds vs):DenEL G (d::ds) (v::vs):=by
 simp only [DenEL];exact⟨v,vs,rfl,h1,h2⟩
theorem DenEL.append:∀ {ds es:List PyData} {vs ws:List V},DenEL G ds vs->DenEL G es ws->DenEL G (ds++es) (vs++ws)
 | [],_,_,_,e,f=>by simp only [DenEL] at e;subst e;exact f
 | d::ds,_,_,_,e,f=>by
  simp only [DenEL] at e;obtain⟨v,r,rfl,e2,e3⟩:=e;exact .cons e2 (DenEL.append e3 f)
theorem DenEL.get:∀ {ds:List PyData} {vs:List V} {i:Nat} {v:V},DenEL G ds vs->vs[i]? = some v -> ∃d,ds[i]? = some d/\DenE G d v
 | [],_,_,_,e,h=>by simp only [DenEL] at e;subst e;simp at h
 | d::ds,_,0,_,e,h=>by
  simp only [DenEL] at e;obtain⟨v,r,rfl,e2,e3⟩:=e;simp at h;subst h;exact⟨d,rfl,e2⟩
 | d::ds,_,i+1,_,e,h=>by
  simp only [DenEL] at e;obtain⟨v,r,rfl,e2,e3⟩:=e;exact DenEL.get (i:=i) e3 (by simpa using h)
theorem DenE.int{i:Int}:DenE G (.int i) (.int i):=by simp only [DenE]
theorem DenE.str{i:Str}:DenE G (.str i) (.str i):=by simp only [DenE]
theorem DenE.list{ds:List PyData}{a:Addr}{vs:List V}(h:G a=some (.lst vs))(e:DenEL G ds vs):DenE G (.list ds) (.ref a):=by simp only [DenE];exact⟨a,vs,rfl,h,e⟩
theorem DenE.tuple{ds:List PyData}{a:Addr}{vs:List V}(h:G a=some (.tup vs))(e:DenEL G ds vs):DenE G (.tuple ds) (.ref a):=by simp only [DenE];exact⟨a,vs,rfl,h,e⟩
theorem DenE.ofListE{ds:List PyData}{v:V}(h:DenE G (.list ds) v):∃a vs,v = .ref a/\G a=some (.lst vs)/\DenEL G ds vs:=by simpa only [DenE] using h
theorem DenE.ofTupleE{ds:List PyData}{v:V}(h:DenE G (.tuple ds) v):∃a vs,v = .ref a/\G a=some (.tup vs)/\DenEL G ds vs:=by simpa only [DenE] using h
theorem DenEL.ofCons{d:PyData}{ds:List PyData}{vs:List V}(h:DenEL G (d::ds) vs):∃v r,vs=v::r/\DenE G d v/\DenEL G ds r:=by simpa only [DenEL] using h
theorem DenEL.ofNil{vs:List V}(h:DenEL G [] vs):vs = []:=by simpa only [DenEL] using h
end
section
variable{K:PySem.W.Frag}{G:Hp}
theorem DenE.ofList{ds:List PyData}{v:V}(h:DenE G (.list ds) v):∃a vs,v = .ref a/\SqL K G a vs/\DenEL G ds vs:=by
 obtain⟨a,vs,e,h1,h2⟩:=h.ofListE;exact⟨a,vs,e,SqL.of h1,h2⟩
theorem DenE.ofTuple{ds:List PyData}{v:V}(h:DenE G (.tuple ds) v):∃a vs,v = .ref a/\SqT K G a vs/\DenEL G ds vs:=by
 obtain⟨a,vs,e,h1,h2⟩:=h.ofTupleE;exact⟨a,vs,e,SqT.of h1,h2⟩
mutual
theorem DenE.den:∀ {d:PyData} {v:V},DenE G d v->Den K G d v
 | .none,_,e=>by simp only [DenE] at e;simp only [Den];exact e
 | .bool _,_,e=>by simp only [DenE] at e;simp only [Den];exact e
 | .int _,_,e=>by simp only [DenE] at e;simp only [Den];exact e
 | .str _,_,e=>by simp only [DenE] at e;simp only [Den];exact e
 | .list ds,_,e=>by
  simp only [DenE] at e;obtain⟨a,vs,rfl,e2,e3⟩:=e;exact .list (SqL.of e2) (DenEL.den e3)
 | .tuple ds,_,e=>by
  simp only [DenE] at e;obtain⟨a,vs,rfl,e2,e3⟩:=e;exact .tuple (SqT.of e2) (DenEL.den e3)
 | .dict _,_,e=>by simp only [DenE] at e
theorem DenEL.den:∀ {ds:List PyData} {vs:List V},DenEL G ds vs->DenL K G ds vs
 | [],_,e=>by simp only [DenEL] at e;subst e;exact .nil
 | d::ds,_,e=>by
  simp only [DenEL] at e;obtain⟨v,r,rfl,e2,e3⟩:=e;exact .cons (DenE.den e2) (DenEL.den e3)
end
end
def WorksE(G H:Hp)(as:List Addr)(ws:List (List Blk)):Prop:=Paired (λa w => ∃bs,H a=some (.lst bs)/\DenEL G (w.map blkD) bs) as ws
theorem WorksE.len{G H:Hp}{as:List Addr}{ws:List (List Blk)}(h:WorksE G H as ws):as.length=ws.length:=cY h
theorem WorksE.mono{G G' H H':Hp}(g:Same G G'){as:List Addr}{ws:List (List Blk)}(h:WorksE G H as ws)(k:∀a∈as,∀o,H a=some o->H' a=some o):WorksE G' H' as ws:=by
 induction h with
 | nil=>exact .nil
 | cons a _ ih=>obtain⟨bs,e,d⟩:=a;exact .cons ⟨bs,k _ (by simp) _ e,d.mono g⟩ (ih λa ha o e=>k a (by simp [ha]) o e)
theorem WorksE.get{G H:Hp}:∀ {as:List Addr} {ws:List (List Blk)} {i:Nat} {a:Addr},WorksE G H as ws->as[i]? = some a -> ∃w bs,ws[i]? = some w/\H a=some (.lst bs)/\DenEL G (w.map blkD) bs
 | _,_,_,_,.nil,e=>by simp at e
 | _,_,0,_,.cons ⟨bs,e,d⟩ _,h=>by simp at h;subst h;exact⟨_,bs,rfl,e,d⟩
 | _,_,i+1,a,.cons _ r,h=>by
  obtain⟨w,bs,h1,h2⟩:=WorksE.get (i:=i) (a:=a) r (by simpa using h);exact⟨w,bs,by simpa using h1,h2⟩
theorem WorksE.snoc{G H:Hp}{a:Addr}{w:List Blk}{bs:List V}{as:List Addr}{ws:List (List Blk)}(h:WorksE G H as ws)(e:H a=some (.lst bs))(d:DenEL G (w.map blkD) bs):WorksE G H (as ++ [a]) (ws ++ [w]):=by
 induction h with
 | nil=>exact .cons ⟨bs,e,d⟩ .nil
 | cons a _ ih=>exact .cons a ih
def qFn(K:PySem.W.Frag):Sp:=λvs H Q _ => ∃(t b:Addr) (k:Nat) (most first works:Int) (bs:List Int),vs = [.ref t,.int most,.ref b,.int first,.int works]/\Tape H t k/\k+130<=2^40/\0<=most/\most<=12/\0<=first/\first<=100/\1<=works/\works<=100 /\
 H b=some (.lst (bs.map V.int))/\b≠t/\BsOk bs /\ ∀(l:Addr) (ds:List Deed) (H':Hp),H l=none->Tape H' t (k+130)->Ext [t] H H'->(∀d∈ds,qGx works d)->ds.length<=12->DenE (yo H [t] H') (.list (ds.map deedD)) (.ref l)->Q (.ref l) H'
def qKw(K:PySem.W.Frag):Sp:=λvs H Q _ => ∃(t:Addr) (k:Nat) (m most first works:Int),vs = [.ref t,.int m,.int most,.int first,.int works]/\Tape H t k/\k+2000<=2^40/\1<=m/\m<=12/\0<=most/\most<=12/\0<=first/\first<=100/\1<=works/\works<=100 /\
 ∀(l:Addr) (w:List Blk) (bs:List V) (H':Hp),H l=none->l≠t->Tape H' t (k+2000)->Ext [t] H H'->WorkOk m works w->(∀b∈w,b.ds.length<=12)->H' l=some (.lst bs)->DenEL (yo H [l,t] H') (w.map blkD) bs->Q (.ref l) H'
def qKx(K:PySem.W.Frag):Sp:=λvs H Q _ => ∃(wa:Addr) (ws:List (List Blk)),vs = [.ref wa]/\DenE H (qCz ws) (.ref wa)/\WsOk ws /\ ∀(l:Addr) (ws':List (List Blk)) (H':Hp),Ext [] H H'->DenE H' (qCz ws') (.ref l)->WsOk ws'->ws'.length=ws.length->Q (.ref l) H'
theorem qMx{G H:Hp}{as:List Addr}{ws:List (List Blk)}(h:WorksE G H as ws)(g:Same G H):DenEL H (ws.map workD) (as.map V.ref):=by
 induction h with
 | nil=>exact .nil
 | cons a _ ih=>obtain⟨bs,e,d⟩:=a;exact .cons (.list e (d.mono g)) ih
def qI2(K:PySem.W.Frag):Sp:=λvs H Q _ => ∃(t:Addr) (k:Nat) (most:Int),vs = [.ref t,.int most]/\Tape H t k/\k+21000<=2^40/\0<=most/\most<=12 /\
 ∀(l:Addr) (ws:List (List Blk)) (H':Hp),Tape H' t (k+21000)->Ext [t] H H'->DenE H' (qCz ws) (.ref l)->WsOk ws->Q (.ref l) H'
end L2
namespace L2
open PySem PySem.W PyProof.Rows
def qVk:Bool->Keyed->Array Keyed->Nat->Nat->Nat->StateT SortSt Sem (Option Nat):=sortPriv% PySem.Builtin.gallop
section
variable{prog:Program}{w:World}{A:Around}{E:Value->Shared->Prop}{κ : SortKind}{it:Array Keyed}{lt:Nat->Nat->Bool}{I:Shared->Prop}{N:Nat}
def AskOk(prog:Program)(w:World)(A:Around)(κ : SortKind)(it:Array Keyed)(lt:Nat->Nat->Bool)(I:Shared->Prop)(N:Nat):Prop :=
 ∀(i j:Nat) (s:Shared) (C:Bool->Shared->Prop),i<N->j<N->I s->(∀s',I s'->C (lt i j) s')->kas_cmp prog w A κ it i j C s
theorem qPs(hA:AskOk prog w A κ it lt I N){i j:Nat}{st:SortSt}{s:Shared}{Q:Option Bool->SortSt->Shared->Prop}(hk:kindOf st = κ)(hi:i<N)(hj:j<N)(hI:I s)(h:∀s',I s'->Q (some (lt i j)) st s'):kasC (model prog w) A E (lt' (kas_item it i) (kas_item it j)) Q st s:=by
 rw [lt'_eq];refine aJ (hJ ?_);rw [hk];refine aJ (kasC_lift (wpAny_attempt (dE (hA i j s (λc s'=>Q (some c) st s') hi hj hI λs' hs=>h s' hs) (λc s' hc=>?_) λ_ _ hF=>hF.elim)));exact aL hc
theorem qAl{q:Array Nat}{i x:Nat}{st:SortSt}{s:Shared}{Q:Keyed->SortSt->Shared->Prop}(h:q[i]? = some x)(hQ:Q (kas_item it x) st s):kasC (model prog w) A E (elem' (q.map (kas_item it)) i) Q st s:=by
 rw [elem'_eq,Array.getElem?_map,h];exact aL hQ
theorem qAg{σ α : Type}{M:Model}{m:StateT σ Sem α}{Q Q' : α -> σ -> Shared->Prop}{st : σ}{s:Shared}(h:kasC M A E m Q st s)(k:∀a st' s',Q a st' s'->Q' a st' s'):kasC M A E m Q' st s:=dE h (λr s' h'=>k _ _ _ h') λ_ _ e=>e
theorem qBs{σ β : Type}{M:Model}{f:Nat -> β -> StateT σ Sem (ForInStep β)}{Q : β -> σ -> Shared->Prop}(Pv:Nat -> β -> σ -> Shared->Prop)(hs:∀k x b st s,Pv (k+1) b st s->kasC M A E (f x b) (λr st' s'=>match r with | .done b'=>Q b' st' s' | .yield b'=>Pv k b' st' s') st s)(hd:∀b st s,Pv 0 b st s->Q b st s):∀(l:List Nat) {b : β} {st : σ} {s:Shared},Pv l.length b st s->kasC M A E (forIn l b f) Q st s
 | [],b,st,s,h=>kasC_nil (hd b st s h)
 | x::l,b,st,s,h=>kasC_cons (qAg (hs l.length x b st s h) λr st' s' h'=>by
   cases r with
   | done b'=>exact h'
   | yield b'=>exact qBs Pv hs hd l h')
theorem qBd{σ β : Type}{M:Model}{n:Nat}{b : β}{f:Nat -> β -> StateT σ Sem (ForInStep β)}{st : σ}{s:Shared}{Q : β -> σ -> Shared->Prop}(Pv:Nat -> β -> σ -> Shared->Prop)(h0:Pv n b st s)(hs:∀k x b st s,Pv (k+1) b st s->kasC M A E (f x b) (λr st' s'=>match r with | .done b'=>Q b' st' s' | .yield b'=>Pv k b' st' s') st s)(hd:∀b st s,Pv 0 b st s->Q b st s):kasC M A E (forIn [0:n] b f) Q st s:=iD (qBs Pv hs hd _ (by rw [dR];exact h0))
def byd(lt:Nat->Nat->Bool)(left:Bool)(key:Nat)(q:Array Nat)(base i:Nat):Bool:=if left then lt (q.getD (base+i) 0) key else !lt key (q.getD (base+i) 0)
theorem qKi{α : Type}(hA:AskOk prog w A κ it lt I N){left:Bool}{key:Nat}{q:Array Nat}{base n i:Nat}{st:SortSt}{s:Shared}{F:Option Bool->StateT SortSt Sem α}{Q : α -> SortSt->Shared->Prop}(hk:kindOf st = κ)(hget:∀i,i<n -> ∃x,q[base+i]? = some x/\x<N/\q.getD (base+i) 0=x)(hkey:key<N)(hi:i<n)(hI:I s)(h:∀s',I s'->kasC (model prog w) A E (F (some (byd lt left key q base i))) Q st s'):kasC (model prog w) A E ((elem' (q.map (kas_item it)) (base+i) >>= λx=>if left=true then lt' x (kas_item it key) else lt' (kas_item it key) x >>= λd=>pure (Option.map (λx => !x) d)) >>= F) Q st s:=by
 obtain⟨x,e1,e2,e3⟩:=hget i hi;refine aJ (aJ (qAl e1 ?_));unfold byd at h;rw [e3] at h;cases left with
 | true=>exact qPs hA hk e2 hkey hI λs' hs=>h s' hs
 | false=>exact aJ (qPs hA hk hkey e2 hI λs' hs=>aL (h s' hs))
theorem qC3(hA:AskOk prog w A κ it lt I N){left:Bool}{key:Nat}{q:Array Nat}{base n hint:Nat}{st:SortSt}{s:Shared}{Q:Option Nat->SortSt->Shared->Prop}(hk:kindOf st = κ)(hq:base+n<=q.size)(hin:∀x∈q,x<N)(hkey:key<N)(hh:hint<n)(hI:I s)(mono:∀i j,i<=j->j<n->byd lt left key q base j=true->byd lt left key q base i=true)(h:∀r s',r<=n->(∀i,i<r->byd lt left key q base i=true)->(∀i,r<=i->i<n->byd lt left key q base i=false)->I s'->Q (some r) st s'):kasC (model prog w) A E (qVk left (kas_item it key) (q.map (kas_item it)) base n hint) Q st s:=by
 have hget:∀i,i<n -> ∃x,q[base+i]? = some x/\x<N/\q.getD (base+i) 0=x:=λi hi=>by
  have hlt:base+i<q.size:=by lia
  exact⟨q[base+i],aZ hlt,hin _ (eN hlt),by simp [Array.getD,hlt]⟩
 refine qKi hA hk hget hkey hh hI λs1 hI1=>?_;dsimp only;cases hb0:byd lt left key q base hint with
 | true =>
  rw [if_pos rfl];refine aJ (qAg (qBd (Q:=λb st' s' => ∃la ofs,b=(none,la,ofs)/\st=st'/\I s'/\la<ofs/\hint+la<n/\byd lt left key q base (hint+la)=true/\(n - hint<=ofs\/hint+ofs<n/\byd lt left key q base (hint+ofs)=false)) (λk b st' s' => ∃la ofs,b=(none,la,ofs)/\st=st'/\I s'/\la<ofs/\hint+la<n/\byd lt left key q base (hint+la)=true/\n<=ofs+k) ⟨0,1,rfl,rfl,hI1,by lia,by lia,hb0,by lia⟩ ?_ ?_) ?_)
  ·rintro k x b st' s' ⟨la,ofs,rfl,rfl,hI',h1,h2,h3,h4⟩;dsimp only;by_cases hc:ofs>=n - hint
   ·rw [if_pos hc];exact aL ⟨la,ofs,rfl,rfl,hI',h1,h2,h3,.inl hc⟩
   ·rw [if_neg hc];refine qKi hA hk hget hkey (by lia) hI' λs3 hI3=>?_;dsimp only;cases hb:byd lt left key q base (hint+ofs) with
    | true =>
     rw [if_neg (by decide)];exact aL ⟨_,_,rfl,rfl,hI3,by lia,by lia,hb,by lia⟩
    | false =>
     rw [if_pos (by decide)];exact aL ⟨la,ofs,rfl,rfl,hI3,h1,h2,h3,.inr ⟨by lia,hb⟩⟩
  ·rintro b st' s' ⟨la,ofs,rfl,rfl,hI',h1,h2,h3,h4⟩;exact⟨la,ofs,rfl,rfl,hI',h1,h2,h3,.inl (by lia)⟩
  rintro b st' s2 ⟨la,ofs,rfl,rfl,hI2,h2,h3,h4,h5⟩;dsimp only;have pre:∀i,i<hint+la+1->byd lt left key q base i=true:=λi hi=>mono i (hint+la) (by lia) h3 h4;have suf:∀i,hint+min ofs (n - hint)<=i->i<n->byd lt left key q base i=false:=λi hi hn=>by
   rcases h5 with z | ⟨z1,z2⟩
   ·lia
   ·cases hc:byd lt left key q base i with
    | false=>rfl
    | true=>rw [mono (hint+ofs) i (by lia) hn hc] at z2;cases z2
  refine aJ (qAg (qBd (Q:=λb st' s' => ∃hi,b=(none,hi,hi)/\st=st'/\I s'/\hi<=n/\(∀i,i<hi->byd lt left key q base i=true) /\ ∀i,hi<=i->i<n->byd lt left key q base i=false) (λk b st' s' => ∃lo hi,b=(none,lo,hi)/\st=st'/\I s'/\lo<=hi/\hi<=n/\hi<=lo+k/\(∀i,i<lo->byd lt left key q base i=true) /\ ∀i,hi<=i->i<n->byd lt left key q base i=false) ⟨_,_,rfl,rfl,hI2,by lia,by lia,by lia,pre,suf⟩ ?_ ?_) ?_)
  ·rintro k x b st' s' ⟨lo,hi,rfl,rfl,hI',h1,h2,h3,h4,h5⟩;dsimp only;by_cases hc:lo>=hi
   ·rw [if_pos hc];obtain rfl:lo=hi:=by lia
    exact aL ⟨lo,rfl,rfl,hI',h2,h4,h5⟩
   ·rw [if_neg hc];refine qKi hA hk hget hkey (by lia) hI' λs3 hI3=>?_;dsimp only;cases hb:byd lt left key q base (lo+(hi - lo) / 2) with
    | true =>
     rw [if_pos rfl];exact aL ⟨_,_,rfl,rfl,hI3,by lia,h2,by lia,λi hi'=>mono i (lo+(hi - lo) / 2) (by lia) (by lia) hb,h5⟩
    | false =>
     rw [if_neg aD];refine aL ⟨_,_,rfl,rfl,hI3,by lia,by lia,by lia,h4,λi hi' hn=>?_⟩;cases hc:byd lt left key q base i with
     | false=>rfl
     | true=>rw [mono (lo+(hi - lo) / 2) i hi' hn hc] at hb;cases hb
  ·rintro b st' s' ⟨lo,hi,rfl,rfl,hI',h1,h2,h3,h4,h5⟩;obtain rfl:lo=hi:=by lia
   exact⟨lo,rfl,rfl,hI',h2,h4,h5⟩
  ·rintro b st' s' ⟨hi,rfl,rfl,hI',h1,h2,h3⟩;dsimp only;exact aL (h hi s' h1 h2 h3 hI')
 | false =>
  rw [if_neg aD];refine aJ (qAg (qBd (Q:=λb st' s' => ∃la ofs,b=(none,la,ofs)/\st=st'/\I s'/\la<ofs/\la<=hint/\byd lt left key q base (hint - la)=false/\(hint+1<=ofs\/ofs<=hint/\byd lt left key q base (hint - ofs)=true)) (λk b st' s' => ∃la ofs,b=(none,la,ofs)/\st=st'/\I s'/\la<ofs/\la<=hint/\byd lt left key q base (hint - la)=false/\n<=ofs+k) ⟨0,1,rfl,rfl,hI1,by lia,by lia,hb0,by lia⟩ ?_ ?_) ?_)
  ·rintro k x b st' s' ⟨la,ofs,rfl,rfl,hI',h1,h2,h3,h4⟩;dsimp only;by_cases hc:ofs>=hint+1
   ·rw [if_pos hc];exact aL ⟨la,ofs,rfl,rfl,hI',h1,h2,h3,.inl hc⟩
   ·rw [if_neg hc];refine qKi hA hk hget hkey (by lia) hI' λs3 hI3=>?_;dsimp only;cases hb:byd lt left key q base (hint - ofs) with
    | true =>
     rw [if_pos rfl];exact aL ⟨la,ofs,rfl,rfl,hI3,h1,h2,h3,.inr ⟨by lia,hb⟩⟩
    | false =>
     rw [if_neg aD];exact aL ⟨_,_,rfl,rfl,hI3,by lia,by lia,hb,by lia⟩
  ·rintro b st' s' ⟨la,ofs,rfl,rfl,hI',h1,h2,h3,h4⟩;exact⟨la,ofs,rfl,rfl,hI',h1,h2,h3,.inl (by lia)⟩
  rintro b st' s2 ⟨la,ofs,rfl,rfl,hI2,h2,h3,h4,h5⟩;dsimp only;have pre:∀i,i<hint+1 - min ofs (hint+1)->byd lt left key q base i=true:=λi hi=>by
   rcases h5 with z | ⟨z1,z2⟩
   ·lia
   ·exact mono i (hint - ofs) (by lia) (by lia) z2
  have suf:∀i,hint - la<=i->i<n->byd lt left key q base i=false:=λi hi hn=>by
   cases hc:byd lt left key q base i with
   | false=>rfl
   | true=>rw [mono (hint - la) i hi hn hc] at h4;cases h4
  refine aJ (qAg (qBd (Q:=λb st' s' => ∃hi,b=(none,hi,hi)/\st=st'/\I s'/\hi<=n/\(∀i,i<hi->byd lt left key q base i=true) /\ ∀i,hi<=i->i<n->byd lt left key q base i=false) (λk b st' s' => ∃lo hi,b=(none,lo,hi)/\st=st'/\I s'/\lo<=hi/\hi<=n/\hi<=lo+k/\(∀i,i<lo->byd lt left key q base i=true) /\ ∀i,hi<=i->i<n->byd lt left key q base i=false) ⟨_,_,rfl,rfl,hI2,by lia,by lia,by lia,pre,suf⟩ ?_ ?_) ?_)
  ·rintro k x b st' s' ⟨lo,hi,rfl,rfl,hI',h1,h2,h3,h4,h5⟩;dsimp only;by_cases hc:lo>=hi
   ·rw [if_pos hc];obtain rfl:lo=hi:=by lia
    exact aL ⟨lo,rfl,rfl,hI',h2,h4,h5⟩
   ·rw [if_neg hc];refine qKi hA hk hget hkey (by lia) hI' λs3 hI3=>?_;dsimp only;cases hb:byd lt left key q base (lo+(hi - lo) / 2) with
    | true =>
     rw [if_pos rfl];exact aL ⟨_,_,rfl,rfl,hI3,by lia,h2,by lia,λi hi'=>mono i (lo+(hi - lo) / 2) (by lia) (by lia) hb,h5⟩
    | false =>
     rw [if_neg aD];refine aL ⟨_,_,rfl,rfl,hI3,by lia,by lia,by lia,h4,λi hi' hn=>?_⟩;cases hc:byd lt left key q base i with
     | false=>rfl
     | true=>rw [mono (lo+(hi - lo) / 2) i hi' hn hc] at hb;cases hb
  ·rintro b st' s' ⟨lo,hi,rfl,rfl,hI',h1,h2,h3,h4,h5⟩;obtain rfl:lo=hi:=by lia
   exact⟨lo,rfl,rfl,hI',h2,h4,h5⟩
  ·rintro b st' s' ⟨hi,rfl,rfl,hI',h1,h2,h3⟩;dsimp only;exact aL (h hi s' h1 h2 h3 hI')
end
def qSf:Array Keyed->Array Keyed->StateT SortSt Sem (Array Keyed):=sortPriv% PySem.Builtin.mergeLo
def qSg:Array Keyed->Array Keyed->StateT SortSt Sem (Array Keyed):=sortPriv% PySem.Builtin.mergeHi
def SameSt(st st':SortSt):Prop:=kindOf st'=kindOf st/\arrOf st'=arrOf st/\pendingOf st'=pendingOf st/\failedOf st'=failedOf st
theorem SameSt.refl(st:SortSt):SameSt st st:=⟨rfl,rfl,rfl,rfl⟩
abbrev Ri(lt:Nat->Nat->Bool)(l:List Nat):Prop:=l.Pairwise λx y=>lt y x=false
abbrev Be(lt:Nat->Nat->Bool)(k l:List Nat):Prop := ∀x∈k,∀y∈l,lt y x=false
section
variable{lt:Nat->Nat->Bool}
structure Mg(lt:Nat->Nat->Bool)(all o a b:List Nat):Prop where
 perm:(o++(a++b)).Perm all
 up:Ri lt o
 ra:Ri lt a
 rb:Ri lt b
 oa:Be lt o a
 ob:Be lt o b
theorem Mg.takeA{all o a a' b:List Nat}(h:Mg lt all o (a++a') b)(hb:Be lt a b):Mg lt all (o++a) a' b:=by
 obtain⟨h1,h2,h3⟩:=bP.mp h.ra;refine⟨?_,bP.mpr ⟨h.up,h1,λx hx y hy=>h.oa x hx y (aM.mpr (.inl hy))⟩,h2,h.rb,λx hx y hy=>?_,λx hx y hy=>?_⟩
 ·have:=h.perm;simpa [bU] using this
 ·rcases aM.mp hx with z | z
  ·exact h.oa x z y (aM.mpr (.inr hy))
  ·exact h3 x z y hy
 ·rcases aM.mp hx with z | z
  ·exact h.ob x z y hy
  ·exact hb x z y hy
theorem Mg.swap{all o a b:List Nat}(h:Mg lt all o a b):Mg lt all o b a:=⟨((gN o List.perm_append_comm).trans h.perm),h.up,h.rb,h.ra,h.ob,h.oa⟩
theorem Mg.takeB{all o a b b':List Nat}(h:Mg lt all o a (b++b'))(ha:Be lt b a):Mg lt all (o++b) a b':=(h.swap.takeA ha).swap
theorem Mg.fin{all o a b:List Nat}(h:Mg lt all o a b)(hb:Be lt a b):Ri lt (o++a++b)/\(o++a++b).Perm all:=by
 refine⟨?_,by simpa [bU] using h.perm⟩;refine bP.mpr ⟨bP.mpr ⟨h.up,h.ra,h.oa⟩,h.rb,λx hx y hy=>?_⟩;rcases aM.mp hx with z | z
 ·exact h.ob x z y hy
 ·exact hb x z y hy
theorem Mg.fin'{all o a b:List Nat}(h:Mg lt all o a b)(hb:Be lt b a):Ri lt (o++b++a)/\(o++b++a).Perm all:=h.swap.fin hb
theorem qDd(O:Srt.Ord lt){x y:Nat}{l:List Nat}(hl:Ri lt (y::l))(h:lt y x=false):Be lt [x] (y::l):=by
 intro z hz v hv;have hz:z=x:=by simpa using hz
 subst hz;rcases aT.mp hv with e | e
 ·rw [e];exact h
 ·exact O.trans _ y _ h ((dQ.mp hl).1 v e)
theorem qB3{b:Array Nat}{i:Nat}(h:i<b.size):b.toList.drop i=b[i]::b.toList.drop (i+1):=by
 rw [List.drop_eq_getElem_cons (by simpa using h)];simp
theorem qHs{a:Array Nat}{i k:Nat}:a.toList.drop i=(a.extract i (i+k)).toList++a.toList.drop (i+k):=by
 rw [fV,List.extract_eq_drop_take,Nat.add_sub_cancel_left,<-List.drop_drop,cV]
theorem qFv{a:Array Nat}{i:Nat}:(a.extract i a.size).toList=a.toList.drop i:=by
 rw [fV,List.extract_eq_drop_take,cI (by simp)]
theorem qQh{all:List Nat}{o a b:Array Nat}{ia ib:Nat}{f:Nat->Keyed}(h:Mg lt all o.toList (a.toList.drop ia) (b.toList.drop ib))(hb:Be lt (a.toList.drop ia) (b.toList.drop ib)):∃r:Array Nat,o.map f++(a.map f).extract ia (a.map f).size++(b.map f).extract ib (b.map f).size=r.map f/\Ri lt r.toList/\r.toList.Perm all:=by
 refine⟨o++a.extract ia a.size++b.extract ib b.size,by simp [eC,dM],?_⟩;have e:(o++a.extract ia a.size++b.extract ib b.size).toList=o.toList++a.toList.drop ia++b.toList.drop ib:=by
  rw [cW,cW,qFv,qFv]
 rw [e];exact h.fin hb
theorem qVm{all:List Nat}{o a b:Array Nat}{ia ib:Nat}{f:Nat->Keyed}(h:Mg lt all o.toList (a.toList.drop ia) (b.toList.drop ib))(hb:Be lt (b.toList.drop ib) (a.toList.drop ia)):∃r:Array Nat,o.map f++(b.map f).extract ib (b.map f).size++(a.map f).extract ia (a.map f).size=r.map f/\Ri lt r.toList/\r.toList.Perm all:=by
 refine⟨o++b.extract ib b.size++a.extract ia a.size,by simp [eC,dM],?_⟩;have e:(o++b.extract ib b.size++a.extract ia a.size).toList=o.toList++b.toList.drop ib++a.toList.drop ia:=by
  rw [cW,cW,qFv,qFv]
 rw [e];exact h.fin' hb
theorem qJf{all:List Nat}{o a b:Array Nat}{ia ib:Nat}(h:Mg lt all o.toList (a.toList.drop ia) (b.toList.drop ib))(hi:ia<a.size)(hb:Be lt [a[ia]] (b.toList.drop ib)):Mg lt all (o.push a[ia]).toList (a.toList.drop (ia+1)) (b.toList.drop ib):=by
 rw [qB3 hi] at h;rw [dL];exact Mg.takeA (a :=[a[ia]]) h hb
theorem qLy{all:List Nat}{o a b:Array Nat}{ia ib:Nat}(h:Mg lt all o.toList (a.toList.drop ia) (b.toList.drop ib))(hi:ib<b.size)(hb:Be lt [b[ib]] (a.toList.drop ia)):Mg lt all (o.push b[ib]).toList (a.toList.drop ia) (b.toList.drop (ib+1)):=by
 rw [qB3 hi] at h;rw [dL];exact Mg.takeB (b :=[b[ib]]) h hb
theorem qVq{all:List Nat}{o a b:Array Nat}{ia ib k:Nat}(h:Mg lt all o.toList (a.toList.drop ia) (b.toList.drop ib))(hb:Be lt (a.extract ia (ia+k)).toList (b.toList.drop ib)):Mg lt all (o++a.extract ia (ia+k)).toList (a.toList.drop (ia+k)) (b.toList.drop ib):=by
 rw [qHs (k:=k)] at h;rw [cW];exact Mg.takeA h hb
theorem qQx{all:List Nat}{o a b:Array Nat}{ia ib k:Nat}(h:Mg lt all o.toList (a.toList.drop ia) (b.toList.drop ib))(hb:Be lt (b.extract ib (ib+k)).toList (a.toList.drop ia)):Mg lt all (o++b.extract ib (ib+k)).toList (a.toList.drop ia) (b.toList.drop (ib+k)):=by
 rw [qHs (a:=b) (k:=k)] at h;rw [cW];exact Mg.takeB h hb
theorem qGi{a:Array Nat}{i k x:Nat}(h:x∈(a.extract i (i+k)).toList):∃j,j<k/\i+j<a.size/\a.getD (i+j) 0=x:=by
 obtain⟨j,hj,e⟩:=bN h;have hl:j<(a.extract i (i+k)).size:=by rw [<-aK];exact hj
 have hl0:=hl;rw [eW] at hl;refine⟨j,by lia,by lia,?_⟩;have e2:(a.extract i (i+k))[j]'hl0=x:=by rw [<-e,dC]
 rw [dN] at e2;have hlt:i+j<a.size:=by lia
 simp [Array.getD,hlt,e2]
theorem qDk{a:Array Nat}{i x:Nat}(h:x∈a.toList.drop i):∃j,i<=j/\j<a.size/\a.getD j 0=x:=by
 obtain⟨j,hj,e⟩:=bN h;rw [List.getElem_drop] at e;have hl:i+j<a.size:=by
  have:j<a.toList.length - i:=by simpa using hj
  simp at this;lia
 exact⟨i+j,by lia,hl,by simp [Array.getD,hl];simpa using e⟩
end
def qU5:Nat->StateT SortSt Sem Unit:=sortPriv% PySem.Builtin.setMinGallop
theorem SameSt.trans{st st1 st2:SortSt}(h:SameSt st st1)(k:SameSt st1 st2):SameSt st st2:=⟨k.1.trans h.1,k.2.1.trans h.2.1,k.2.2.1.trans h.2.2.1,k.2.2.2.trans h.2.2.2⟩
section
variable{prog:Program}{w:World}{A:Around}{E:Value->Shared->Prop}{κ : SortKind}{it:Array Keyed}{lt:Nat->Nat->Bool}{I:Shared->Prop}{N:Nat}
theorem qA5{σ α : Type}{M:Model}{c:Prop} [Decidable c] {t e:StateT σ Sem α}{Q : α -> σ -> Shared->Prop}{st : σ}{s:Shared}(h1:c->kasC M A E t Q st s)(h2 : ¬c->kasC M A E e Q st s):kasC M A E (if c then t else e) Q st s:=by
 by_cases h:c
 ·rw [if_pos h];exact h1 h
 ·rw [if_neg h];exact h2 h
theorem qE9{M:Model}{g:Nat}{Q:Unit->SortSt->Shared->Prop}{st:SortSt}{s:Shared}(h:∀st',SameSt st st'->Q () st' s):kasC M A E (qU5 g) Q st s:=fU (h _ ⟨rfl,rfl,rfl,rfl⟩)
theorem qAn{a:Array Nat}{i:Nat}(h:i<a.size):a[i]? = some a[i]:=aZ h
theorem qDp(O:Srt.Ord lt){left:Bool}{key:Nat}{q:Array Nat}{base n:Nat}(hq:base+n<=q.size)(hr:Ri lt (q.toList.drop base)):∀i j,i<=j->j<n->byd lt left key q base j=true->byd lt left key q base i=true:=by
 intro i j hij hj h;have le:lt (q.getD (base+j) 0) (q.getD (base+i) 0)=false:=by
  by_cases e:i=j
  ·subst e;exact O.irr _
  ·have:=bQ.mp hr i j (by simp;lia) (by simp;lia) (by lia);rw [List.getElem_drop,List.getElem_drop] at this;have h1:base+i<q.size:=by lia
   have h2:base+j<q.size:=by lia
   simpa [Array.getD,h1,h2] using this
 unfold byd at h ⊢;cases left with
 | true =>
  simp only [if_true] at h ⊢;cases z:lt (q.getD (base+i) 0) key with
  | true=>rfl
  | false=>rw [O.trans _ _ _ z le] at h;cases h
 | false =>
  simp only [cQ,if_false,Bool.not_eq_true'] at h ⊢;exact O.trans _ _ _ le h
def Fin2(lt:Nat->Nat->Bool)(all:List Nat)(f:Nat->Keyed)(x:Array Keyed):Prop := ∃r:Array Nat,x=r.map f/\Ri lt r.toList/\r.toList.Perm all
theorem qNl(O:Srt.Ord lt)(hA:AskOk prog w A κ it lt I N){a b:Array Nat}{st:SortSt}{s:Shared}{Q:Array Keyed->SortSt->Shared->Prop}(hk:kindOf st = κ)(hI:I s)(ha:0<a.size)(hb:0<b.size)(hna:∀x∈a,x<N)(hnb:∀x∈b,x<N)(ra:Ri lt a.toList)(rb:Ri lt b.toList)(hlast:∀y∈b.toList,lt a[a.size - 1] y=false)(hfirst:lt b[0] a[0]=true)(h:∀x st' s',Fin2 lt (a.toList++b.toList) (kas_item it) x->SameSt st st'->I s'->Q x st' s'):kasC (model prog w) A E (qSf (a.map (kas_item it)) (b.map (kas_item it))) Q st s:=by
 have sa:(a.map (kas_item it)).size=a.size:=eZ;have sb:(b.map (kas_item it)).size=b.size:=eZ;have hmb:∀i (hi:i<b.size),b[i]<N:=λi hi=>hnb _ (eN hi);have hma:∀i (hi:i<a.size),a[i]<N:=λi hi=>hna _ (eN hi);have nilb:∀ {x:List Nat} {i:Nat},i=b.size->Be lt x (b.toList.drop i):=λ{x i} e u hu y hy=>by
  rw [e,eE (by simp)] at hy;cases hy
 have lasta:∀ {j i:Nat},i+1=a.size->Be lt (b.toList.drop j) (a.toList.drop i):=λ{j i} e x hx y hy=>by
  rw [qB3 (b:=a) (by lia),e,eE (by simp)] at hy;have hy:y=a[i]:=by simpa using hy
  have:i=a.size - 1:=by lia
  subst this;rw [hy];exact hlast x (List.mem_of_mem_drop hx)
 have M1:Mg lt (a.toList++b.toList) (#[b[0]]:Array Nat).toList (a.toList.drop 0) (b.toList.drop 1):=by
  have M0:Mg lt (a.toList++b.toList) (#[]:Array Nat).toList (a.toList.drop 0) (b.toList.drop 0):=⟨by simp,by simp,by simpa using ra,by simpa using rb,by intro x hx;simp at hx,by intro x hx;simp at hx⟩;refine qLy M0 hb ?_;rw [qB3 (b:=a) (by lia)];refine qDd O (by rw [<-qB3 (b:=a) (by lia)];simpa using ra) (O.asym _ _ hfirst)
 have e0:(#[kas_item it b[0]]:Array Keyed)=(#[b[0]]:Array Nat).map (kas_item it):=by simp
 have fin_ab:∀ {o:Array Nat} {i j:Nat},Mg lt (a.toList++b.toList) o.toList (a.toList.drop i) (b.toList.drop j)->j=b.size->Fin2 lt (a.toList++b.toList) (kas_item it) (o.map (kas_item it)++(a.map (kas_item it)).extract i (a.map (kas_item it)).size++(b.map (kas_item it)).extract j (b.map (kas_item it)).size):=λ{o i j} hM e=>qQh hM (nilb e);have fin_ba:∀ {o:Array Nat} {i j:Nat},Mg lt (a.toList++b.toList) o.toList (a.toList.drop i) (b.toList.drop j)->i+1=a.size->Fin2 lt (a.toList++b.toList) (kas_item it) (o.map (kas_item it)++(b.map (kas_item it)).extract j (b.map (kas_item it)).size++(a.map (kas_item it)).extract i (a.map (kas_item it)).size):=λ{o i j} hM e=>qVm hM (lasta e);refine aJ (kasC_lift (dA ?_))
 refine aJ (qAl (qAn hb) ?_);rw [e0];refine qA5 (λhc=>aL ?_) (λhc=>?_)
 ·have hc:1=b.size:=by rw [sb] at hc;simpa using hc
  exact h _ _ _ (fin_ab M1 hc) (.refl _) hI
 refine qA5 (λhc2=>aL ?_) (λhc2=>?_)
 ·have hc2:0+1=a.size:=by rw [sa] at hc2;simpa using hc2
  exact h _ _ _ (fin_ba M1 hc2) (.refl _) hI
 have hb1:1<b.size:=by rw [sb] at hc;simp at hc;lia
 have ha1:0+1<a.size:=by rw [sa] at hc2;simp at hc2;lia
 refine aJ (hJ ?_);refine aJ (qAg (qBd (Q:=λv st' s' => ∃x y,v=(some x,y)/\Fin2 lt (a.toList++b.toList) (kas_item it) x/\SameSt st st'/\I s') (λk v st' s' => ∃(o:Array Nat) (ia ib mg:Nat),v=(none,o.map (kas_item it),ia,ib,mg)/\SameSt st st'/\I s'/\Mg lt (a.toList++b.toList) o.toList (a.toList.drop ia) (b.toList.drop ib)/\ia+1<a.size/\ib<b.size/\(a.size - ia)+(b.size - ib)<=k) ⟨#[b[0]],0,1,gallopOf st,rfl,.refl _,hI,M1,ha1,hb1,by rw [sa,sb];lia⟩ ?_ ?_) ?_)
 ·rintro k x v st1 s1 ⟨o,ia,ib,mg,rfl,hS1,hI1,hM1,h1,h2,h3⟩;have hR0:(a.size - ia)+(b.size - ib)<=a.size+b.size:=by lia
  refine aJ (qAg (qBd (Q:=λv st' s'=>(∃x y,v=(some x,y)/\Fin2 lt (a.toList++b.toList) (kas_item it) x/\SameSt st st'/\I s') \/ ∃(o:Array Nat) (ja jb ac bc:Nat),v=(none,o.map (kas_item it),ja,jb,ac,bc)/\SameSt st st'/\I s'/\Mg lt (a.toList++b.toList) o.toList (a.toList.drop ja) (b.toList.drop jb)/\ja+1<a.size/\jb<b.size/\(a.size - ja)+(b.size - jb)<(a.size - ia)+(b.size - ib))
   (λk v st' s' => ∃(o:Array Nat) (ja jb ac bc:Nat),v=(none,o.map (kas_item it),ja,jb,ac,bc)/\SameSt st st'/\I s'/\Mg lt (a.toList++b.toList) o.toList (a.toList.drop ja) (b.toList.drop jb)/\ja+1<a.size/\jb<b.size/\(a.size - ja)+(b.size - jb)+(a.size+b.size)<=(a.size - ia)+(b.size - ib)+k/\k<=a.size+b.size) ⟨o,ia,ib,0,0,rfl,hS1,hI1,hM1,h1,h2,by rw [sa,sb];lia,by rw [sa,sb];lia⟩ ?_ ?_) ?_)
  ·rintro k x v st2 s2 ⟨o,ja,jb,ac,bc,rfl,hS2,hI2,hM2,g1,g2,g3,g4⟩;refine aJ (qAl (qAn g2) ?_);refine aJ (qAl (qAn (by lia:ja<a.size)) ?_);refine aJ (qPs hA (hS2.1.trans hk) (hmb _ g2) (hma _ (by lia)) hI2 λs3 hI3=>?_);cases hw:lt b[jb] a[ja] with
   | true =>
    refine qA5 (λ_=>?_) (λz=>absurd rfl z);refine aJ (qAl (qAn g2) ?_)
    have hM3:=qLy hM2 g2 (by
     rw [qB3 (b:=a) (by lia)]
     exact qDd O (by rw [<-qB3 (b:=a) (by lia)];exact hM2.ra) (O.asym _ _ hw))
    refine qA5 (λhc=>aL (.inl ⟨_,_,rfl,?_,hS2,hI3⟩)) (λhc=>?_)
    ·have hc:jb+1=b.size:=by rw [sb] at hc;simpa using hc
     have:=fin_ab hM3 hc;rw [bC] at this;exact this
    ·have hc:jb+1≠b.size:=by rw [sb] at hc;simpa using hc
     refine qA5 (λ_=>aL (.inr ⟨o.push b[jb],ja,jb+1,_,_,by rw [bC],hS2,hI3,hM3,g1,by lia,by lia⟩)) (λ_=>aL ⟨o.push b[jb],ja,jb+1,_,_,by rw [bC],hS2,hI3,hM3,g1,by lia,by lia,by lia⟩)
   | false =>
    refine qA5 (λz=>absurd z aD) (λ_=>?_);refine aJ (qAl (qAn (by lia:ja<a.size)) ?_)
    have hM3:=qJf hM2 (by lia:ja<a.size) (by
     rw [qB3 g2]
     exact qDd O (by rw [<-qB3 g2];exact hM2.rb) hw)
    refine qA5 (λhc=>aL (.inl ⟨_,_,rfl,?_,hS2,hI3⟩)) (λhc=>?_)
    ·have hc:ja+1+1=a.size:=by rw [sa] at hc;simpa using hc
     have:=fin_ba hM3 hc;rw [bC] at this;exact this
    ·have hc:ja+1+1≠a.size:=by rw [sa] at hc;simpa using hc
     refine qA5 (λ_=>aL (.inr ⟨o.push a[ja],ja+1,jb,_,_,by rw [bC],hS2,hI3,hM3,by lia,g2,by lia⟩)) (λ_=>aL ⟨o.push a[ja],ja+1,jb,_,_,by rw [bC],hS2,hI3,hM3,by lia,g2,by lia,by lia⟩)
  ·rintro v st2 s2 ⟨o,ja,jb,ac,bc,rfl,hS2,hI2,hM2,g1,g2,g3,g4⟩;lia
  rintro v st2 s2 (⟨x,y,rfl,hF,hS2,hI2⟩ | ⟨o,ja,jb,ac,bc,rfl,hS2,hI2,hM2,g1,g2,g3⟩)
  ·exact aL ⟨_,_,rfl,hF,hS2,hI2⟩
  refine aJ (kasC_lift (dA ?_))
  refine aJ (qAg (qBd (Q:=λv st' s'=>(∃x y,v=(some x,y)/\Fin2 lt (a.toList++b.toList) (kas_item it) x/\SameSt st st'/\I s') \/ ∃(o:Array Nat) (ja jb g ac bc:Nat),v=(none,o.map (kas_item it),ja,jb,g,ac,bc)/\SameSt st st'/\I s'/\Mg lt (a.toList++b.toList) o.toList (a.toList.drop ja) (b.toList.drop jb)/\ja+1<a.size/\jb<b.size/\(a.size - ja)+(b.size - jb)<(a.size - ia)+(b.size - ib))
   (λk v st' s' => ∃(o:Array Nat) (ja jb g ac bc:Nat),v=(none,o.map (kas_item it),ja,jb,g,ac,bc)/\SameSt st st'/\I s'/\Mg lt (a.toList++b.toList) o.toList (a.toList.drop ja) (b.toList.drop jb)/\ja+1<a.size/\jb<b.size/\(a.size - ja)+(b.size - jb)<(a.size - ia)+(b.size - ib)) ⟨o,ja,jb,_,_,_,rfl,hS2,hI2,hM2,g1,g2,g3⟩ ?_ ?_) ?_)
  ·clear g3 g2 g1 hM2 hI2 hS2;rintro k x v st2 s2 ⟨o,ja,jb,g,ac,bc,rfl,hS2,hI2,hM2,g1,g2,g3⟩;have g0:ja<a.size:=by lia
   refine qA5 (λ_=>?_) (λ_=>?_)
   all_goals
    refine aJ (qE9 λst4 hS4=>?_);have hS5:=hS2.trans hS4;refine aJ (qAl (qAn g2) ?_);refine aJ (qC3 hA (left:=false) (key:=b[jb]) (q:=a) (base:=ja) (hint:=0) (n:=(a.map (kas_item it)).size - ja) (hS5.1.trans hk) (by rw [sa];lia) hna (hmb _ g2) (by rw [sa];lia) hI2 (qDp O (by rw [sa];lia) hM2.ra) λk1 s4 hk1 hpre hsuf hI4=>?_);rw [sa] at hk1 hsuf;refine qA5 (λhk0=>?_) (λhk0=>?_)
    ·have hM5:=qVq (k:=k1) hM2 (λx hx y hy=>by
      obtain⟨j,j1,j2,j3⟩:=qGi hx;have:=hpre j j1;unfold byd at this;rw [j3,if_neg aD] at this;have this:lt b[jb] x=false:=by simpa using this
      exact qDd O (by rw [<-qB3 g2];exact hM2.rb) this x (by simp) y (by rw [<-qB3 g2];exact hy))
     have hs5:∀y∈a.toList.drop (ja+k1),lt b[jb] y=true:=λy hy=>by
      obtain⟨j,j1,j2,j3⟩:=qDk hy;have:=hsuf (j - ja) (by lia) (by lia);unfold byd at this;rw [show ja+(j - ja)=j by lia,j3,if_neg aD] at this;simpa using this
     have he1:∀o:Array Nat,o.map (kas_item it)++(a.map (kas_item it)).extract ja (ja+k1)=(o++a.extract ja (ja+k1)).map (kas_item it):=λo=>by simp [eC,dM]
     rw [he1];refine qA5 (λhc=>aL (.inl ⟨_,_,rfl,?_,hS5,hI4⟩)) (λhc=>?_)
     ·have hc:ja+k1+1=a.size:=by rw [sa] at hc;simpa using hc
      exact fin_ba hM5 hc
     have hc5:ja+k1+1≠a.size:=by rw [sa] at hc;simpa using hc
     refine qA5 (λhc=>aL (.inl ⟨_,_,rfl,?_,hS5,hI4⟩)) (λhc=>?_)
     ·have hc:ja+k1=a.size:=by rw [sa] at hc;simpa using hc
      exact qQh hM5 (λu hu=>by rw [hc,eE (by simp)] at hu;cases hu)
     have hc6:ja+k1≠a.size:=by rw [sa] at hc;simpa using hc
     have g5:ja+k1<a.size:=by lia
     refine aJ (qAl (qAn g2) ?_)
     have hM6:=qLy hM5 g2 (λx hx y hy=>by
      have hx:=aQ.mp hx;rw [hx]
      exact O.asym _ _ (hs5 y hy))
     rw [<-bC];refine qA5 (λhc=>aL (.inl ⟨_,_,rfl,?_,hS5,hI4⟩)) (λhc=>?_)
     ·have hc:jb+1=b.size:=by rw [sb] at hc;simpa using hc
      exact fin_ab hM6 hc
     have hc:jb+1≠b.size:=by rw [sb] at hc;simpa using hc
     refine aJ (qAl (qAn g5) ?_);refine aJ (qC3 hA (left:=true) (key:=a[(ja+k1)]'g5) (q:=b) (base:=jb+1) (hint:=0) (n:=(b.map (kas_item it)).size - (jb+1)) (hS5.1.trans hk) (by rw [sb];lia) hnb (hma _ g5) (by rw [sb];lia) hI4 (qDp O (by rw [sb];lia) hM6.rb) λk2 s5 hk2 hpre2 hsuf2 hI5=>?_);rw [sb] at hk2 hsuf2;refine qA5 (λhk0=>?_) (λhk0=>?_)
     ·have hM7:=qQx (k:=k2) hM6 (λx hx y hy=>by
       obtain⟨j,j1,j2,j3⟩:=qGi hx;have:=hpre2 j j1;unfold byd at this;rw [j3,if_pos rfl] at this
       exact qDd O (by rw [<-qB3 (b:=a) g5];exact hM6.ra) (O.asym _ _ this) x (by simp) y (by rw [<-qB3 (b:=a) g5];exact hy))
      have hs7:∀y∈b.toList.drop (jb+1+k2),lt y (a[(ja+k1)]'g5)=false:=λy hy=>by
       obtain⟨j,j1,j2,j3⟩:=qDk hy;have:=hsuf2 (j - (jb+1)) (by lia) (by lia);unfold byd at this;rw [show jb+1+(j - (jb+1))=j by lia,j3,if_pos rfl] at this;exact this
      have he2:∀o:Array Nat,o.map (kas_item it)++(b.map (kas_item it)).extract (jb+1) (jb+1+k2)=(o++b.extract (jb+1) (jb+1+k2)).map (kas_item it):=λo=>by simp [eC,dM]
      rw [he2];refine qA5 (λhc=>aL (.inl ⟨_,_,rfl,?_,hS5,hI5⟩)) (λhc=>?_)
      ·have hc:jb+1+k2=b.size:=by rw [sb] at hc;simpa using hc
       exact fin_ab hM7 hc
      have hc7:jb+1+k2≠b.size:=by rw [sb] at hc;simpa using hc
      refine aJ (qAl (qAn g5) ?_)
      have hM8:=qJf hM7 g5 (λx hx y hy=>by
       have hx:=aQ.mp hx;rw [hx]
       exact hs7 y hy)
      refine qA5 (λhc=>aL (.inl ⟨_,_,rfl,?_,hS5,hI5⟩)) (λhc=>?_)
      ·have hc:(ja+k1)+1+1=a.size:=by rw [sa] at hc;simpa using hc
       have:=fin_ba hM8 hc;rw [bC] at this;exact this
      have hc:(ja+k1)+1+1≠a.size:=by rw [sa] at hc;simpa using hc
      exact qA5 (λ_=>aL (.inr ⟨_,_,_,_,_,_,by rw [<-bC],hS5,hI5,hM8,by lia,by lia,by lia⟩)) (λ_=>aL ⟨_,_,_,_,_,_,by rw [<-bC],hS5,hI5,hM8,by lia,by lia,by lia⟩)
     ·have hk0:k2=0:=by lia
      subst hk0;have hM7:=hM6;have hs7:∀y∈b.toList.drop (jb+1),lt y (a[(ja+k1)]'g5)=false:=λy hy=>by
       obtain⟨j,j1,j2,j3⟩:=qDk hy;have:=hsuf2 (j - (jb+1)) (by lia) (by lia);unfold byd at this;rw [show jb+1+(j - (jb+1))=j by lia,j3,if_pos rfl] at this;exact this
      refine aJ (qAl (qAn g5) ?_)
      have hM8:=qJf hM7 g5 (λx hx y hy=>by
       have hx:=aQ.mp hx;rw [hx]
       exact hs7 y hy)
      refine qA5 (λhc=>aL (.inl ⟨_,_,rfl,?_,hS5,hI5⟩)) (λhc=>?_)
      ·have hc:(ja+k1)+1+1=a.size:=by rw [sa] at hc;simpa using hc
       have:=fin_ba hM8 hc;rw [bC] at this;exact this
      have hc:(ja+k1)+1+1≠a.size:=by rw [sa] at hc;simpa using hc
      exact qA5 (λ_=>aL (.inr ⟨_,_,_,_,_,_,by rw [<-bC],hS5,hI5,hM8,by lia,by lia,by lia⟩)) (λ_=>aL ⟨_,_,_,_,_,_,by rw [<-bC],hS5,hI5,hM8,by lia,by lia,by lia⟩)
    ·have hk0:k1=0:=by lia
     subst hk0;have hM5:=hM2;have g5:ja<a.size:=g0;have hs5:∀y∈a.toList.drop ja,lt b[jb] y=true:=λy hy=>by
      obtain⟨j,j1,j2,j3⟩:=qDk hy;have:=hsuf (j - ja) (by lia) (by lia);unfold byd at this;rw [show ja+(j - ja)=j by lia,j3,if_neg aD] at this;simpa using this
     refine aJ (qAl (qAn g2) ?_)
     have hM6:=qLy hM5 g2 (λx hx y hy=>by
      have hx:=aQ.mp hx;rw [hx]
      exact O.asym _ _ (hs5 y hy))
     rw [<-bC];refine qA5 (λhc=>aL (.inl ⟨_,_,rfl,?_,hS5,hI4⟩)) (λhc=>?_)
     ·have hc:jb+1=b.size:=by rw [sb] at hc;simpa using hc
      exact fin_ab hM6 hc
     have hc:jb+1≠b.size:=by rw [sb] at hc;simpa using hc
     refine aJ (qAl (qAn g5) ?_);refine aJ (qC3 hA (left:=true) (key:=a[ja]'g5) (q:=b) (base:=jb+1) (hint:=0) (n:=(b.map (kas_item it)).size - (jb+1)) (hS5.1.trans hk) (by rw [sb];lia) hnb (hma _ g5) (by rw [sb];lia) hI4 (qDp O (by rw [sb];lia) hM6.rb) λk2 s5 hk2 hpre2 hsuf2 hI5=>?_);rw [sb] at hk2 hsuf2;refine qA5 (λhk0=>?_) (λhk0=>?_)
     ·have hM7:=qQx (k:=k2) hM6 (λx hx y hy=>by
       obtain⟨j,j1,j2,j3⟩:=qGi hx;have:=hpre2 j j1;unfold byd at this;rw [j3,if_pos rfl] at this
       exact qDd O (by rw [<-qB3 (b:=a) g5];exact hM6.ra) (O.asym _ _ this) x (by simp) y (by rw [<-qB3 (b:=a) g5];exact hy))
      have hs7:∀y∈b.toList.drop (jb+1+k2),lt y (a[ja]'g5)=false:=λy hy=>by
       obtain⟨j,j1,j2,j3⟩:=qDk hy;have:=hsuf2 (j - (jb+1)) (by lia) (by lia);unfold byd at this;rw [show jb+1+(j - (jb+1))=j by lia,j3,if_pos rfl] at this;exact this
      have he2:∀o:Array Nat,o.map (kas_item it)++(b.map (kas_item it)).extract (jb+1) (jb+1+k2)=(o++b.extract (jb+1) (jb+1+k2)).map (kas_item it):=λo=>by simp [eC,dM]
      rw [he2];refine qA5 (λhc=>aL (.inl ⟨_,_,rfl,?_,hS5,hI5⟩)) (λhc=>?_)
      ·have hc:jb+1+k2=b.size:=by rw [sb] at hc;simpa using hc
       exact fin_ab hM7 hc
      have hc7:jb+1+k2≠b.size:=by rw [sb] at hc;simpa using hc
      refine aJ (qAl (qAn g5) ?_)
      have hM8:=qJf hM7 g5 (λx hx y hy=>by
       have hx:=aQ.mp hx;rw [hx]
       exact hs7 y hy)
      refine qA5 (λhc=>aL (.inl ⟨_,_,rfl,?_,hS5,hI5⟩)) (λhc=>?_)
      ·have hc:ja+1+1=a.size:=by rw [sa] at hc;simpa using hc
       have:=fin_ba hM8 hc;rw [bC] at this;exact this
      have hc:ja+1+1≠a.size:=by rw [sa] at hc;simpa using hc
      exact qA5 (λ_=>aL (.inr ⟨_,_,_,_,_,_,by rw [<-bC],hS5,hI5,hM8,by lia,by lia,by lia⟩)) (λ_=>aL ⟨_,_,_,_,_,_,by rw [<-bC],hS5,hI5,hM8,by lia,by lia,by lia⟩)
     ·have hk0:k2=0:=by lia
      subst hk0;have hM7:=hM6;have hs7:∀y∈b.toList.drop (jb+1),lt y (a[ja]'g5)=false:=λy hy=>by
       obtain⟨j,j1,j2,j3⟩:=qDk hy;have:=hsuf2 (j - (jb+1)) (by lia) (by lia);unfold byd at this;rw [show jb+1+(j - (jb+1))=j by lia,j3,if_pos rfl] at this;exact this
      refine aJ (qAl (qAn g5) ?_)
      have hM8:=qJf hM7 g5 (λx hx y hy=>by
       have hx:=aQ.mp hx;rw [hx]
       exact hs7 y hy)
      refine qA5 (λhc=>aL (.inl ⟨_,_,rfl,?_,hS5,hI5⟩)) (λhc=>?_)
      ·have hc:ja+1+1=a.size:=by rw [sa] at hc;simpa using hc
       have:=fin_ba hM8 hc;rw [bC] at this;exact this
      have hc:ja+1+1≠a.size:=by rw [sa] at hc;simpa using hc
      exact qA5 (λ_=>aL (.inr ⟨_,_,_,_,_,_,by rw [<-bC],hS5,hI5,hM8,by lia,by lia,by lia⟩)) (λ_=>aL ⟨_,_,_,_,_,_,by rw [<-bC],hS5,hI5,hM8,by lia,by lia,by lia⟩)
  ·rintro v st2 s2 ⟨o,ja,jb,g,ac,bc,rfl,hS2,hI2,hM2,g1,g2,g3⟩;exact .inr ⟨o,ja,jb,g,ac,bc,rfl,hS2,hI2,hM2,g1,g2,g3⟩
  rintro v st2 s2 (⟨x,y,rfl,hF,hS2,hI2⟩ | ⟨o,ja,jb,g,ac,bc,rfl,hS2,hI2,hM2,g1,g2,g3⟩)
  ·exact aL ⟨_,_,rfl,hF,hS2,hI2⟩
  refine aJ (qE9 λst4 hS4=>?_);exact aL ⟨o,ja,jb,_,rfl,hS2.trans hS4,hI2,hM2,g1,g2,by lia⟩
 ·rintro v st1 s1 ⟨o,ia,ib,mg,rfl,hS1,hI1,hM1,h1,h2,h3⟩;lia
 ·rintro v st1 s1 ⟨x,y,rfl,hF,hS1,hI1⟩;exact aL (h _ _ _ hF hS1 hI1)
end
def flp(lt:Nat->Nat->Bool):Nat->Nat->Bool:=λx y=>lt y x
section
variable{lt:Nat->Nat->Bool}
theorem qQb(O:Srt.Ord lt):Srt.Ord (flp lt):=⟨λa b h=>O.asym _ _ h,λa b c h1 h2=>O.trans _ _ _ h2 h1⟩
theorem ri_rev{l:List Nat}:Ri (flp lt) l.reverse↔Ri lt l:=List.pairwise_reverse
theorem qWb{l:List Nat}(h:Ri (flp lt) l):Ri lt l.reverse:=List.pairwise_reverse.mpr h
theorem qD2{a:Array Nat}{n:Nat}(h0:0<n)(h:n<=a.size):(a.toList.take n).reverse=a[n - 1]::(a.toList.take (n - 1)).reverse:=by
 obtain⟨m,rfl⟩:∃m,n=m+1:=⟨n - 1,by lia⟩;rw [dB,aF (by simp;lia)];simp
theorem qN2{a:Array Nat}{i n:Nat}(h:i<=n):(a.toList.take n).reverse=(a.extract i n).reverse.toList++(a.toList.take i).reverse:=by
 rw [gS,<-List.reverse_append]
 congr 1
 rw [fV,List.extract_eq_drop_take,<-List.take_add]
 congr 1
 lia
theorem qLs{a:Array Nat}{n:Nat}:(a.extract 0 n).toList=a.toList.take n:=by
 rw [fV,List.extract_eq_drop_take];simp
theorem qXq{all:List Nat}{o a b:Array Nat}{na nb:Nat}{f:Nat->Keyed}(h:Mg (flp lt) all o.toList (a.toList.take na).reverse (b.toList.take nb).reverse)(hb:Be (flp lt) (b.toList.take nb).reverse (a.toList.take na).reverse):Fin2 lt all f ((a.map f).extract 0 na++(b.map f).extract 0 nb++(o.map f).reverse):=by
 refine⟨a.extract 0 na++b.extract 0 nb++o.reverse,by simp [eC,dM,Array.map_reverse],?_⟩;obtain⟨h1,h2⟩:=h.fin' hb;have e:(a.extract 0 na++b.extract 0 nb++o.reverse).toList=(o.toList++(b.toList.take nb).reverse++(a.toList.take na).reverse).reverse:=by
  rw [cW,cW,qLs,qLs,gS];simp
 rw [e];exact⟨qWb h1,(List.reverse_perm _).trans h2⟩
theorem qYj{all:List Nat}{o a b:Array Nat}{na nb:Nat}{f:Nat->Keyed}(h:Mg (flp lt) all o.toList (a.toList.take na).reverse (b.toList.take nb).reverse)(hb:Be (flp lt) (a.toList.take na).reverse (b.toList.take nb).reverse):Fin2 lt all f ((b.map f).extract 0 nb++(a.map f).extract 0 na++(o.map f).reverse):=qXq h.swap hb
theorem qE2{all:List Nat}{o a b:Array Nat}{na nb:Nat}(h:Mg (flp lt) all o.toList (a.toList.take na).reverse (b.toList.take nb).reverse)(h0:0<na)(hn:na<=a.size)(hb:Be (flp lt) [a[na - 1]] (b.toList.take nb).reverse):Mg (flp lt) all (o.push a[na - 1]).toList (a.toList.take (na - 1)).reverse (b.toList.take nb).reverse:=by
 rw [qD2 h0 hn] at h;rw [dL];exact Mg.takeA (a :=[a[na - 1]]) h hb
theorem qMr{all:List Nat}{o a b:Array Nat}{na nb i:Nat}(h:Mg (flp lt) all o.toList (a.toList.take na).reverse (b.toList.take nb).reverse)(hi:i<=na)(hb:Be (flp lt) (a.extract i na).reverse.toList (b.toList.take nb).reverse):Mg (flp lt) all (o++(a.extract i na).reverse).toList (a.toList.take i).reverse (b.toList.take nb).reverse:=by
 rw [qN2 hi] at h;rw [cW];exact Mg.takeA h hb
theorem qC0{a:Array Nat}{n x:Nat}(h:x∈(a.toList.take n).reverse):∃j,j<n/\j<a.size/\a.getD j 0=x:=by
 obtain⟨j,hj,e⟩:=bN (List.mem_reverse.mp h);rw [List.getElem_take] at e;have hl:j<n/\j<a.size:=by
  have:j<min n a.toList.length:=by simpa using hj
  simp at this;lia
 exact⟨j,hl.1,hl.2,by simp [Array.getD,hl.2];simpa using e⟩
theorem qDl{a:Array Nat}{i n x:Nat}(h:x∈(a.extract i n).reverse.toList):∃j,i<=j/\j<n/\j<a.size/\a.getD j 0=x:=by
 rw [gS] at h;obtain⟨j,hj,e⟩:=bN (List.mem_reverse.mp h);have hl:j<(a.extract i n).size:=by rw [<-aK];exact hj
 have hl0:=hl;rw [eW] at hl;have e2:(a.extract i n)[j]'hl0=x:=by rw [<-e,dC]
 rw [dN] at e2;have hlt:i+j<a.size:=by lia
 exact⟨i+j,by lia,by lia,hlt,by simp [Array.getD,hlt,e2]⟩
end
section
variable{prog:Program}{w:World}{A:Around}{E:Value->Shared->Prop}{κ : SortKind}{it:Array Keyed}{lt:Nat->Nat->Bool}{I:Shared->Prop}{N:Nat}
theorem qL7{all:List Nat}{o a b:Array Nat}{na nb:Nat}(h:Mg (flp lt) all o.toList (a.toList.take na).reverse (b.toList.take nb).reverse)(h0:0<nb)(hn:nb<=b.size)(hb:Be (flp lt) [b[nb - 1]] (a.toList.take na).reverse):Mg (flp lt) all (o.push b[nb - 1]).toList (a.toList.take na).reverse (b.toList.take (nb - 1)).reverse:=(qE2 h.swap h0 hn hb).swap
theorem qMq{all:List Nat}{o a b:Array Nat}{na nb i:Nat}(h:Mg (flp lt) all o.toList (a.toList.take na).reverse (b.toList.take nb).reverse)(hi:i<=nb)(hb:Be (flp lt) (b.extract i nb).reverse.toList (a.toList.take na).reverse):Mg (flp lt) all (o++(b.extract i nb).reverse).toList (a.toList.take na).reverse (b.toList.take i).reverse:=(qMr h.swap hi hb).swap
theorem qUa(O:Srt.Ord lt){a:Array Nat}(h:Ri lt a.toList){i j:Nat}(hij:i<=j)(hj:j<a.size):lt (a[j]) (a[i]'(by lia))=false:=by
 by_cases e:i=j
 ·subst e;exact O.irr _
 ·have:=bQ.mp h i j (by simp;lia) (by simpa using hj) (by lia);simpa using this
theorem qNm(O:Srt.Ord lt)(hA:AskOk prog w A κ it lt I N){a b:Array Nat}{st:SortSt}{s:Shared}{Q:Array Keyed->SortSt->Shared->Prop}(hk:kindOf st = κ)(hI:I s)(ha:0<a.size)(hb:0<b.size)(hna:∀x∈a,x<N)(hnb:∀x∈b,x<N)(ra:Ri lt a.toList)(rb:Ri lt b.toList)(hlast:∀y∈b.toList,lt a[a.size - 1] y=false)(hfirst:lt b[0] a[0]=true)(h:∀x st' s',Fin2 lt (a.toList++b.toList) (kas_item it) x->SameSt st st'->I s'->Q x st' s'):kasC (model prog w) A E (qSg (a.map (kas_item it)) (b.map (kas_item it))) Q st s:=by
 have sa:(a.map (kas_item it)).size=a.size:=eZ;have sb:(b.map (kas_item it)).size=b.size:=eZ;have hmb:∀i (hi:i<b.size),b[i]<N:=λi hi=>hnb _ (eN hi);have hma:∀i (hi:i<a.size),a[i]<N:=λi hi=>hna _ (eN hi);have ra0:Ri lt (a.toList.drop 0):=by simpa using ra
 have rb0:Ri lt (b.toList.drop 0):=by simpa using rb
 have lea:∀ {i n y:Nat},i<n->(hn:n<=a.size)->a.getD i 0=y->lt (a[n - 1]'(by lia)) y=false:=λ{i n y} h1 hn e=>by
  have hi:i<a.size:=by lia
  have:=qUa O ra (i:=i) (j:=n - 1) (by lia) (by lia);rw [<-e];simpa [Array.getD,hi] using this
 have leb:∀ {i n y:Nat},i<n->(hn:n<=b.size)->b.getD i 0=y->lt (b[n - 1]'(by lia)) y=false:=λ{i n y} h1 hn e=>by
  have hi:i<b.size:=by lia
  have:=qUa O rb (i:=i) (j:=n - 1) (by lia) (by lia);rw [<-e];simpa [Array.getD,hi] using this
 have fin_ab:∀ {o:Array Nat} {i j:Nat},Mg (flp lt) (a.toList++b.toList) o.toList (a.toList.take i).reverse (b.toList.take j).reverse->i=0\/j=0->Fin2 lt (a.toList++b.toList) (kas_item it) ((a.map (kas_item it)).extract 0 i++(b.map (kas_item it)).extract 0 j++(o.map (kas_item it)).reverse):=λ{o i j} hM e=>qXq hM (λx hx y hy=>by
  rcases e with e | e
  ·rw [e] at hy;simp at hy
  ·rw [e] at hx;simp at hx)
 have fin_ba:∀ {o:Array Nat} {i j:Nat},Mg (flp lt) (a.toList++b.toList) o.toList (a.toList.take i).reverse (b.toList.take j).reverse->j=1->Fin2 lt (a.toList++b.toList) (kas_item it) ((b.map (kas_item it)).extract 0 j++(a.map (kas_item it)).extract 0 i++(o.map (kas_item it)).reverse):=λ{o i j} hM e=>qYj hM (λx hx y hy=>by
  subst e;obtain⟨p,p1,p2,p3⟩:=qC0 hx;obtain⟨q,q1,q2,q3⟩:=qC0 hy;have q0:q=0:=by lia
  subst q0;have e1:y=b[0]:=by rw [<-q3];simp [Array.getD,hb]
  have e2:x=a[p]:=by rw [<-p3];simp [Array.getD,p2]
  rw [e1,e2]
  exact O.trans _ _ _ (O.asym _ _ hfirst) (qUa O ra (aU p) p2))
 have M1:Mg (flp lt) (a.toList++b.toList) (#[a[a.size - 1]]:Array Nat).toList (a.toList.take (a.size - 1)).reverse (b.toList.take b.size).reverse:=by
  have M0:Mg (flp lt) (a.toList++b.toList) (#[]:Array Nat).toList (a.toList.take a.size).reverse (b.toList.take b.size).reverse:=by
   rw [cI (by simp),cI (by simp)];exact⟨by simpa using (List.Perm.append (List.reverse_perm _) (List.reverse_perm _)),by simp,ri_rev.mpr ra,ri_rev.mpr rb,by intro x hx;simp at hx,by intro x hx;simp at hx⟩
  refine qE2 M0 ha (aE _) (λx hx y hy=>?_);have hx:=aQ.mp hx;rw [hx];exact hlast y (gR (List.mem_reverse.mp hy))
 have e0:(#[kas_item it a[a.size - 1]]:Array Keyed)=(#[a[a.size - 1]]:Array Nat).map (kas_item it):=by simp
 refine aJ (kasC_lift (dA ?_));refine aJ (qAl (x:=a[a.size - 1]) (by rw [sa];exact qAn (by lia)) ?_);rw [e0,sa,sb];refine qA5 (λhc=>aL ?_) (λhc=>?_)
 ·have hc:a.size - 1=0:=by simpa using hc
  exact h _ _ _ (fin_ab M1 (.inl hc)) (.refl _) hI
 refine qA5 (λhc2=>aL ?_) (λhc2=>?_)
 ·have hc2:b.size=1:=by simpa using hc2
  exact h _ _ _ (fin_ba M1 hc2) (.refl _) hI
 have ha1:a.size - 1≠0:=by simpa using hc
 have hb1:b.size≠1:=by simpa using hc2
 refine aJ (hJ ?_);refine aJ (qAg (qBd (Q:=λv st' s' => ∃x y,v=(some x,y)/\Fin2 lt (a.toList++b.toList) (kas_item it) x/\SameSt st st'/\I s') (λk v st' s' => ∃(o:Array Nat) (ja jb mg:Nat),v=(none,ja,jb,o.map (kas_item it),mg)/\SameSt st st'/\I s'/\Mg (flp lt) (a.toList++b.toList) o.toList (a.toList.take ja).reverse (b.toList.take jb).reverse/\0<ja/\ja<=a.size/\1<jb/\jb<=b.size/\ja+jb<=k) ⟨#[a[a.size - 1]],_,_,gallopOf st,rfl,.refl _,hI,M1,by lia,by lia,by lia,by lia,by lia⟩ ?_ ?_) ?_)
 ·rintro k x v st1 s1 ⟨o,ia,ib,mg,rfl,hS1,hI1,hM1,h1,h2,h3,h4,h5⟩
  refine aJ (qAg (qBd (Q:=λv st' s'=>(∃x y,v=(some x,y)/\Fin2 lt (a.toList++b.toList) (kas_item it) x/\SameSt st st'/\I s') \/ ∃(o:Array Nat) (ja jb ac bc:Nat),v=(none,ja,jb,o.map (kas_item it),ac,bc)/\SameSt st st'/\I s'/\Mg (flp lt) (a.toList++b.toList) o.toList (a.toList.take ja).reverse (b.toList.take jb).reverse/\0<ja/\ja<=a.size/\1<jb/\jb<=b.size/\ja+jb<ia+ib)
   (λk v st' s' => ∃(o:Array Nat) (ja jb ac bc:Nat),v=(none,ja,jb,o.map (kas_item it),ac,bc)/\SameSt st st'/\I s'/\Mg (flp lt) (a.toList++b.toList) o.toList (a.toList.take ja).reverse (b.toList.take jb).reverse/\0<ja/\ja<=a.size/\1<jb/\jb<=b.size/\ja+jb+(a.size+b.size)<=ia+ib+k/\k<=a.size+b.size) ⟨o,ia,ib,0,0,rfl,hS1,hI1,hM1,h1,h2,h3,h4,by lia,by lia⟩ ?_ ?_) ?_)
  ·rintro k x v st2 s2 ⟨o,ja,jb,ac,bc,rfl,hS2,hI2,hM2,g1,g2,g3,g4,g5,g6⟩;have ga:ja - 1<a.size:=by lia
   have gb:jb - 1<b.size:=by lia
   refine aJ (qAl (qAn gb) ?_);refine aJ (qAl (qAn ga) ?_);refine aJ (qPs hA (hS2.1.trans hk) (hmb _ gb) (hma _ ga) hI2 λs3 hI3=>?_);cases hw:lt b[jb - 1] a[ja - 1] with
   | true =>
    refine qA5 (λ_=>?_) (λz=>absurd rfl z);refine aJ (qAl (qAn ga) ?_)
    have hM3:=qE2 hM2 g1 g2 (by
     rw [qD2 (a:=b) (by lia) g4]
     exact qDd (qQb O) (by rw [<-qD2 (a:=b) (by lia) g4];exact hM2.rb) (O.asym _ _ hw))
    refine qA5 (λhc=>aL (.inl ⟨_,_,rfl,?_,hS2,hI3⟩)) (λhc=>?_)
    ·have hc:ja - 1=0:=by simpa using hc
     have:=fin_ab hM3 (.inl hc);rw [bC] at this;exact this
    ·have hc:ja - 1≠0:=by simpa using hc
     exact qA5 (λ_=>aL (.inr ⟨o.push a[ja - 1],ja - 1,jb,_,_,by rw [bC],hS2,hI3,hM3,by lia,by lia,by lia,by lia,by lia⟩)) (λ_=>aL ⟨o.push a[ja - 1],ja - 1,jb,_,_,by rw [bC],hS2,hI3,hM3,by lia,by lia,by lia,by lia,by lia,by lia⟩)
   | false =>
    refine qA5 (λz=>absurd z aD) (λ_=>?_);refine aJ (qAl (qAn gb) ?_)
    have hM3:=qL7 hM2 (by lia) g4 (by
     rw [qD2 (a:=a) g1 g2]
     exact qDd (qQb O) (by rw [<-qD2 (a:=a) g1 g2];exact hM2.ra) hw)
    refine qA5 (λhc=>aL (.inl ⟨_,_,rfl,?_,hS2,hI3⟩)) (λhc=>?_)
    ·have hc:jb - 1=1:=by simpa using hc
     have:=fin_ba hM3 hc;rw [bC] at this;exact this
    ·have hc:jb - 1≠1:=by simpa using hc
     exact qA5 (λ_=>aL (.inr ⟨o.push b[jb - 1],ja,jb - 1,_,_,by rw [bC],hS2,hI3,hM3,by lia,by lia,by lia,by lia,by lia⟩)) (λ_=>aL ⟨o.push b[jb - 1],ja,jb - 1,_,_,by rw [bC],hS2,hI3,hM3,by lia,by lia,by lia,by lia,by lia,by lia⟩)
  ·rintro v st2 s2 ⟨o,ja,jb,ac,bc,rfl,hS2,hI2,hM2,g1,g2,g3,g4,g5,g6⟩;lia
  rintro v st2 s2 (⟨x,y,rfl,hF,hS2,hI2⟩ | ⟨o,ja,jb,ac,bc,rfl,hS2,hI2,hM2,g1,g2,g3,g4,g5⟩)
  ·exact aL ⟨_,_,rfl,hF,hS2,hI2⟩
  refine aJ (kasC_lift (dA ?_))
  refine aJ (qAg (qBd (Q:=λv st' s'=>(∃x y,v=(some x,y)/\Fin2 lt (a.toList++b.toList) (kas_item it) x/\SameSt st st'/\I s') \/ ∃(o:Array Nat) (ja jb g ac bc:Nat),v=(none,ja,jb,o.map (kas_item it),g,ac,bc)/\SameSt st st'/\I s'/\Mg (flp lt) (a.toList++b.toList) o.toList (a.toList.take ja).reverse (b.toList.take jb).reverse/\0<ja/\ja<=a.size/\1<jb/\jb<=b.size/\ja+jb<ia+ib)
   (λk v st' s' => ∃(o:Array Nat) (ja jb g ac bc:Nat),v=(none,ja,jb,o.map (kas_item it),g,ac,bc)/\SameSt st st'/\I s'/\Mg (flp lt) (a.toList++b.toList) o.toList (a.toList.take ja).reverse (b.toList.take jb).reverse/\0<ja/\ja<=a.size/\1<jb/\jb<=b.size/\ja+jb<ia+ib) ⟨o,ja,jb,_,_,_,rfl,hS2,hI2,hM2,g1,g2,g3,g4,g5⟩ ?_ ?_) ?_)
  ·clear g5 g4 g3 g2 g1 hM2 hI2 hS2;rintro k x v st2 s2 ⟨o,ja,jb,g,ac,bc,rfl,hS2,hI2,hM2,g1,g2,g3,g4,g5⟩;have ga:ja - 1<a.size:=by lia
   have gb:jb - 1<b.size:=by lia
   refine qA5 (λ_=>?_) (λ_=>?_)
   all_goals
    refine aJ (qE9 λst4 hS4=>?_);have hS5:=hS2.trans hS4;refine aJ (qAl (qAn gb) ?_);refine aJ (qC3 hA (left:=false) (key:=b[jb - 1]) (q:=a) (base:=0) (hint:=ja - 1) (n:=ja) (hS5.1.trans hk) (by lia) hna (hmb _ gb) (by lia) hI2 (qDp O (by lia) ra0) λk1 s4 hk1 hpre hsuf hI4=>?_);have hs5:∀y∈(a.toList.take k1).reverse,lt b[jb - 1] y=false:=λy hy=>by
     obtain⟨j,j1,j2,j3⟩:=qC0 hy;have:=hpre j j1;unfold byd at this;rw [eR,j3,if_neg aD] at this;simpa using this
    refine qA5 (λhk0=>?_) (λhk0=>?_)
    ·have hM5:=qMr hM2 hk1 (λx hx y hy=>by
      obtain⟨j,j1,j2,j3,j4⟩:=qDl hx;have:=hsuf j j1 j2;unfold byd at this;rw [eR,j4,if_neg aD] at this;have this:lt b[jb - 1] x=true:=by simpa using this
      obtain⟨i,i1,i2,i3⟩:=qC0 hy
      exact O.trans _ _ _ (leb i1 g4 i3) (O.asym _ _ this))
     have he1:∀o:Array Nat,o.map (kas_item it)++((a.map (kas_item it)).extract k1 ja).reverse=(o++(a.extract k1 ja).reverse).map (kas_item it):=λo=>by simp [eC,dM,Array.map_reverse]
     rw [he1];refine qA5 (λhc=>aL (.inl ⟨_,_,rfl,?_,hS5,hI4⟩)) (λhc=>?_)
     ·have hc:k1=0:=by simpa using hc
      exact fin_ab hM5 (.inl hc)
     have hc5:k1≠0:=by simpa using hc
     refine aJ (qAl (qAn (by lia:jb - 1<b.size)) ?_)
     have hM6:=qL7 hM5 (by lia:0<jb) g4 (λx hx y hy=>by
      have hx:=aQ.mp hx;rw [hx]
      exact hs5 y hy)
     rw [<-bC];refine qA5 (λhc=>aL (.inl ⟨_,_,rfl,?_,hS5,hI4⟩)) (λhc=>?_)
     ·have hc:jb - 1=1:=by simpa using hc
      exact fin_ba hM6 hc
     have hc:jb - 1≠1:=by simpa using hc
     refine aJ (qAl (qAn (by lia:k1 - 1<a.size)) ?_);refine aJ (qC3 hA (left:=true) (key:=a[k1 - 1]'(by lia)) (q:=b) (base:=0) (hint:=jb - 1 - 1) (n:=jb - 1) (hS5.1.trans hk) (by lia) hnb (hma _ _) (by lia) hI4 (qDp O (by lia) rb0) λk2 s5 hk2 hpre2 hsuf2 hI5=>?_);refine qA5 (λhk0=>?_) (λhk0=>?_)
     ·have hM7:=qMq hM6 hk2 (λx hx y hy=>by
       obtain⟨j,j1,j2,j3,j4⟩:=qDl hx;have:=hsuf2 j j1 j2;unfold byd at this;rw [eR,j4,if_pos rfl] at this;obtain⟨i,i1,i2,i3⟩:=qC0 hy
       exact O.trans _ _ _ (lea i1 (by lia) i3) this)
      have hs7:∀y∈(b.toList.take k2).reverse,lt (a[k1 - 1]'(by lia)) y=false:=λy hy=>by
       obtain⟨j,j1,j2,j3⟩:=qC0 hy;have:=hpre2 j j1;unfold byd at this;rw [eR,j3,if_pos rfl] at this;exact O.asym _ _ this
      have he2:∀o:Array Nat,o.map (kas_item it)++((b.map (kas_item it)).extract k2 (jb - 1)).reverse=(o++(b.extract k2 (jb - 1)).reverse).map (kas_item it):=λo=>by simp [eC,dM,Array.map_reverse]
      rw [he2];refine qA5 (λhc=>aL (.inl ⟨_,_,rfl,?_,hS5,hI5⟩)) (λhc=>?_)
      ·have hc:k2=1:=by simpa using hc
       exact fin_ba hM7 hc
      have hc7:k2≠1:=by simpa using hc
      refine qA5 (λhc=>aL (.inl ⟨_,_,rfl,?_,hS5,hI5⟩)) (λhc=>?_)
      ·have hc:k2=0:=by simpa using hc
       exact fin_ab hM7 (.inr hc)
      have hc8:k2≠0:=by simpa using hc
      refine aJ (qAl (qAn (by lia:k1 - 1<a.size)) ?_)
      have hM8:=qE2 hM7 (by lia:0<k1) (by lia) (λx hx y hy=>by
       have hx:=aQ.mp hx;rw [hx]
       exact hs7 y hy)
      rw [<-bC];refine qA5 (λhc=>aL (.inl ⟨_,_,rfl,?_,hS5,hI5⟩)) (λhc=>?_)
      ·have hc:k1 - 1=0:=by simpa using hc
       exact fin_ab hM8 (.inl hc)
      have hc:k1 - 1≠0:=by simpa using hc
      exact qA5 (λ_=>aL (.inr ⟨_,k1 - 1,k2,_,_,_,rfl,hS5,hI5,hM8,by lia,by lia,by lia,by lia,by lia⟩)) (λ_=>aL ⟨_,k1 - 1,k2,_,_,_,rfl,hS5,hI5,hM8,by lia,by lia,by lia,by lia,by lia⟩)
     ·have hk0:k2=jb - 1:=by
       have hk0 : ¬(jb - 1 - k2>0):=hk0;lia
      subst hk0;have hM7:=hM6;have hs7:∀y∈(b.toList.take (jb - 1)).reverse,lt (a[k1 - 1]'(by lia)) y=false:=λy hy=>by
       obtain⟨j,j1,j2,j3⟩:=qC0 hy;have:=hpre2 j j1;unfold byd at this;rw [eR,j3,if_pos rfl] at this;exact O.asym _ _ this
      refine aJ (qAl (qAn (by lia:k1 - 1<a.size)) ?_)
      have hM8:=qE2 hM7 (by lia:0<k1) (by lia) (λx hx y hy=>by
       have hx:=aQ.mp hx;rw [hx]
       exact hs7 y hy)
      rw [<-bC];refine qA5 (λhc=>aL (.inl ⟨_,_,rfl,?_,hS5,hI5⟩)) (λhc=>?_)
      ·have hc:k1 - 1=0:=by simpa using hc
       exact fin_ab hM8 (.inl hc)
      have hc:k1 - 1≠0:=by simpa using hc
      exact qA5 (λ_=>aL (.inr ⟨_,k1 - 1,(jb - 1),_,_,_,rfl,hS5,hI5,hM8,by lia,by lia,by lia,by lia,by lia⟩)) (λ_=>aL ⟨_,k1 - 1,(jb - 1),_,_,_,rfl,hS5,hI5,hM8,by lia,by lia,by lia,by lia,by lia⟩)
    ·have hk0:k1=ja:=by
      have hk0 : ¬(ja - k1>0):=hk0;lia
     subst hk0;have hM5:=hM2;refine aJ (qAl (qAn (by lia:jb - 1<b.size)) ?_)
     have hM6:=qL7 hM5 (by lia:0<jb) g4 (λx hx y hy=>by
      have hx:=aQ.mp hx;rw [hx]
      exact hs5 y hy)
     rw [<-bC];refine qA5 (λhc=>aL (.inl ⟨_,_,rfl,?_,hS5,hI4⟩)) (λhc=>?_)
     ·have hc:jb - 1=1:=by simpa using hc
      exact fin_ba hM6 hc
     have hc:jb - 1≠1:=by simpa using hc
     refine aJ (qAl (qAn (by lia:k1 - 1<a.size)) ?_);refine aJ (qC3 hA (left:=true) (key:=a[k1 - 1]'(by lia)) (q:=b) (base:=0) (hint:=jb - 1 - 1) (n:=jb - 1) (hS5.1.trans hk) (by lia) hnb (hma _ _) (by lia) hI4 (qDp O (by lia) rb0) λk2 s5 hk2 hpre2 hsuf2 hI5=>?_);refine qA5 (λhk0=>?_) (λhk0=>?_)
     ·have hM7:=qMq hM6 hk2 (λx hx y hy=>by
       obtain⟨j,j1,j2,j3,j4⟩:=qDl hx;have:=hsuf2 j j1 j2;unfold byd at this;rw [eR,j4,if_pos rfl] at this;obtain⟨i,i1,i2,i3⟩:=qC0 hy
       exact O.trans _ _ _ (lea i1 (by lia) i3) this)
      have hs7:∀y∈(b.toList.take k2).reverse,lt (a[k1 - 1]'(by lia)) y=false:=λy hy=>by
       obtain⟨j,j1,j2,j3⟩:=qC0 hy;have:=hpre2 j j1;unfold byd at this;rw [eR,j3,if_pos rfl] at this;exact O.asym _ _ this
      have he2:∀o:Array Nat,o.map (kas_item it)++((b.map (kas_item it)).extract k2 (jb - 1)).reverse=(o++(b.extract k2 (jb - 1)).reverse).map (kas_item it):=λo=>by simp [eC,dM,Array.map_reverse]
      rw [he2];refine qA5 (λhc=>aL (.inl ⟨_,_,rfl,?_,hS5,hI5⟩)) (λhc=>?_)
      ·have hc:k2=1:=by simpa using hc
       exact fin_ba hM7 hc
      have hc7:k2≠1:=by simpa using hc
      refine qA5 (λhc=>aL (.inl ⟨_,_,rfl,?_,hS5,hI5⟩)) (λhc=>?_)
      ·have hc:k2=0:=by simpa using hc
       exact fin_ab hM7 (.inr hc)
      have hc8:k2≠0:=by simpa using hc
      refine aJ (qAl (qAn (by lia:k1 - 1<a.size)) ?_)
      have hM8:=qE2 hM7 (by lia:0<k1) (by lia) (λx hx y hy=>by
       have hx:=aQ.mp hx;rw [hx]
       exact hs7 y hy)
      rw [<-bC];refine qA5 (λhc=>aL (.inl ⟨_,_,rfl,?_,hS5,hI5⟩)) (λhc=>?_)
      ·have hc:k1 - 1=0:=by simpa using hc
       exact fin_ab hM8 (.inl hc)
      have hc:k1 - 1≠0:=by simpa using hc
      exact qA5 (λ_=>aL (.inr ⟨_,k1 - 1,k2,_,_,_,rfl,hS5,hI5,hM8,by lia,by lia,by lia,by lia,by lia⟩)) (λ_=>aL ⟨_,k1 - 1,k2,_,_,_,rfl,hS5,hI5,hM8,by lia,by lia,by lia,by lia,by lia⟩)
     ·have hk0:k2=jb - 1:=by
       have hk0 : ¬(jb - 1 - k2>0):=hk0;lia
      subst hk0;have hM7:=hM6;have hs7:∀y∈(b.toList.take (jb - 1)).reverse,lt (a[k1 - 1]'(by lia)) y=false:=λy hy=>by
       obtain⟨j,j1,j2,j3⟩:=qC0 hy;have:=hpre2 j j1;unfold byd at this;rw [eR,j3,if_pos rfl] at this;exact O.asym _ _ this
      refine aJ (qAl (qAn (by lia:k1 - 1<a.size)) ?_)
      have hM8:=qE2 hM7 (by lia:0<k1) (by lia) (λx hx y hy=>by
       have hx:=aQ.mp hx;rw [hx]
       exact hs7 y hy)
      rw [<-bC];refine qA5 (λhc=>aL (.inl ⟨_,_,rfl,?_,hS5,hI5⟩)) (λhc=>?_)
      ·have hc:k1 - 1=0:=by simpa using hc
       exact fin_ab hM8 (.inl hc)
      have hc:k1 - 1≠0:=by simpa using hc
      exact qA5 (λ_=>aL (.inr ⟨_,k1 - 1,(jb - 1),_,_,_,rfl,hS5,hI5,hM8,by lia,by lia,by lia,by lia,by lia⟩)) (λ_=>aL ⟨_,k1 - 1,(jb - 1),_,_,_,rfl,hS5,hI5,hM8,by lia,by lia,by lia,by lia,by lia⟩)
  ·rintro v st2 s2 ⟨o,ja,jb,g,ac,bc,rfl,hS2,hI2,hM2,g1,g2,g3,g4,g5⟩;exact .inr ⟨o,ja,jb,g,ac,bc,rfl,hS2,hI2,hM2,g1,g2,g3,g4,g5⟩
  rintro v st2 s2 (⟨x,y,rfl,hF,hS2,hI2⟩ | ⟨o,ja,jb,g,ac,bc,rfl,hS2,hI2,hM2,g1,g2,g3,g4,g5⟩)
  ·exact aL ⟨_,_,rfl,hF,hS2,hI2⟩
  refine aJ (qE9 λst4 hS4=>?_);exact aL ⟨o,ja,jb,_,rfl,hS2.trans hS4,hI2,hM2,g1,g2,g3,g4,by lia⟩
 ·rintro v st1 s1 ⟨o,ia,ib,mg,rfl,hS1,hI1,hM1,h1,h2,h3,h4,h5⟩;lia
 ·rintro v st1 s1 ⟨x,y,rfl,hF,hS1,hI1⟩;exact aL (h _ _ _ hF hS1 hI1)
end
theorem qGm{α : Type}(sa:Nat):∀(m:List α) (i:Nat) (q:Array α),sa+i+m.length<=q.size->((m.zipIdx i).foldl (λ(a:Array α) (x : α × Nat)=>a.setIfInBounds (sa+x.2) x.1) q).toList=q.toList.take (sa+i)++m++q.toList.drop (sa+i+m.length)
 | [],i,q,h=>by simp
 | x::m,i,q,h=>by
  rw [List.zipIdx_cons,List.foldl_cons];have hl:(x::m).length=m.length+1:=rfl;rw [hl] at h;have:=qGm sa m (i+1) (q.setIfInBounds (sa+i) x) (by rw [Array.size_setIfInBounds];lia);rw [this,Array.toList_setIfInBounds,hl];have hq:sa+i<q.toList.length:=by rw [aK];lia
  have t1:(q.toList.set (sa+i) x).take (sa+(i+1))=q.toList.take (sa+i) ++ [x]:=by
   rw [show sa+(i+1)=sa+i+1 by lia,dB,List.getElem?_set_self hq,List.take_set_of_le (aE _)];rfl
  have t2:(q.toList.set (sa+i) x).drop (sa+(i+1)+m.length)=q.toList.drop (sa+i+(m.length+1)):=by
   rw [List.drop_set_of_lt (by lia)]
   congr 1;lia
  rw [t1,t2];simp
section
variable{lt:Nat->Nat->Bool}
theorem qOo{X1 X2 Y1 Y2 R:List Nat}(hx:Ri lt (X1++X2))(hy:Ri lt (Y1++Y2))(hr:Ri lt R)(hp:R.Perm (X2++Y1))(h1:Be lt X1 (Y1++Y2))(h2:Be lt X2 Y2):Ri lt (X1++R++Y2):=by
 obtain⟨x1,x2,x3⟩:=bP.mp hx;obtain⟨y1,y2,y3⟩:=bP.mp hy;have b1:Be lt X1 R:=λu hu v hv=>by
  rcases aM.mp (hp.mem_iff.mp hv) with z | z
  ·exact x3 u hu v z
  ·exact h1 u hu v (aM.mpr (.inl z))
 have b2:Be lt R Y2:=λu hu v hv=>by
  rcases aM.mp (hp.mem_iff.mp hu) with z | z
  ·exact h2 u z v hv
  ·exact y3 u z v hv
 refine bP.mpr ⟨bP.mpr ⟨x1,hr,b1⟩,y2,λu hu v hv=>?_⟩;rcases aM.mp hu with z | z
 ·exact h1 u z v (aM.mpr (.inr hv))
 ·exact b2 u z v hv
theorem qKj(O:Srt.Ord lt){left:Bool}{key:Nat}{q:Array Nat}{base n:Nat}(hr:∀i j,i<=j->j<n->lt (q.getD (base+j) 0) (q.getD (base+i) 0)=false):∀i j,i<=j->j<n->byd lt left key q base j=true->byd lt left key q base i=true:=by
 intro i j hij hj h;have le:=hr i j hij hj;unfold byd at h ⊢;cases left with
 | true =>
  simp only [if_true] at h ⊢;cases z:lt (q.getD (base+i) 0) key with
  | true=>rfl
  | false=>rw [O.trans _ _ _ z le] at h;cases h
 | false =>
  simp only [cQ,if_false,Bool.not_eq_true'] at h ⊢;exact O.trans _ _ _ le h
theorem qIe(O:Srt.Ord lt){q:Array Nat}{base n:Nat}(hq:base+n<=q.size)(h:Ri lt (q.extract base (base+n)).toList):∀i j,i<=j->j<n->lt (q.getD (base+j) 0) (q.getD (base+i) 0)=false:=by
 intro i j hij hj;by_cases e:i=j
 ·subst e;exact O.irr _
 ·have sz:(q.extract base (base+n)).size=n:=by rw [eW];lia
  have:=bQ.mp h i j (by rw [aK,sz];lia) (by rw [aK,sz];lia) (by lia);rw [dC,dC,dN,dN] at this;have h1:base+i<q.size:=by lia
  have h2:base+j<q.size:=by lia
  simpa [Array.getD,h1,h2] using this
end
theorem qSn{σ : Type}{M:Model}{A:Around}{E:Value->Shared->Prop}{st st' : σ}{s:Shared}{Q:PUnit -> σ -> Shared->Prop}(h:Q ⟨⟩ st' s):kasC M A E (set st':StateT σ Sem PUnit) Q st s:=by
 unfold kasC;show wpAny M A (pure ((PUnit.unit,st'):PUnit × σ)) _ E s;exact aC h
theorem qDn{p:Array Nat}{i n:Nat}:(p.extract i (i+n)).toList=(p.toList.drop i).take n:=by
 rw [fV,List.extract_eq_drop_take,Nat.add_sub_cancel_left]
theorem qBv{p:Array Nat}{i j l:Nat}(h1:i<=j)(h2:j<=l):(p.extract i l).toList=(p.extract i j).toList++(p.extract j l).toList:=by
 obtain⟨m,rfl⟩:∃m,j=i+m:=⟨j - i,by lia⟩;obtain⟨n,rfl⟩:∃n,l=i+m+n:=⟨l - (i+m),by lia⟩;rw [qDn,qDn,Nat.add_assoc,qDn,<-List.drop_drop,<-List.take_add]
theorem qN1{p:Array Nat}{i j:Nat}(h1:i<=j):p.toList.take j=p.toList.take i++(p.extract i j).toList:=by
 obtain⟨m,rfl⟩:∃m,j=i+m:=⟨j - i,by lia⟩;rw [qDn,List.take_add]
theorem qHr{p:Array Nat}{i j:Nat}(h1:i<=j):p.toList.drop i=(p.extract i j).toList++p.toList.drop j:=by
 obtain⟨m,rfl⟩:∃m,j=i+m:=⟨j - i,by lia⟩;rw [qDn,<-List.drop_drop,cV]
theorem qDa{p:Array Nat}{i j:Nat}(h:j<=p.size):(p.extract i j).toList.length=j - i:=by rw [aK,eW];lia
theorem qE4{a:Array Nat}{i j x:Nat}(h:x∈(a.extract i j).toList):∃l,i<=l/\l<j/\l<a.size/\a.getD l 0=x:=qDl (by rw [gS];exact List.mem_reverse.mpr h)
theorem qJe{lt:Nat->Nat->Bool}{p:Array Nat}{sa na nb k n2:Nat}{r:List Nat}(hk:k<=na)(h2:n2<=nb)(hsz:sa+na+nb<=p.size)(hr:Ri lt r)(hp:r.Perm ((p.extract (sa+k) (sa+na)).toList++(p.extract (sa+na) (sa+na+n2)).toList))(rx:Ri lt (p.extract sa (sa+na)).toList)(ry:Ri lt (p.extract (sa+na) (sa+na+nb)).toList)(b1:Be lt (p.extract sa (sa+k)).toList (p.extract (sa+na) (sa+na+nb)).toList)(b2:Be lt (p.extract (sa+k) (sa+na)).toList (p.extract (sa+na+n2) (sa+na+nb)).toList):∃p':Array Nat,p'.toList=p.toList.take (sa+k)++r++p.toList.drop (sa+k+r.length)/\p'.size=p.size/\p'.toList.take sa=p.toList.take sa/\p'.toList.drop (sa+na+nb)=p.toList.drop (sa+na+nb)/\Ri lt (p'.extract sa (sa+na+nb)).toList/\p'.toList.Perm p.toList:=by
 have rl:r.length=(na - k)+n2:=by
  rw [hp.length_eq,aG,qDa (by lia),qDa (by lia)];lia
 have eq0:p.toList.take (sa+k)++r++p.toList.drop (sa+k+r.length)=p.toList.take sa++((p.extract sa (sa+k)).toList++r++(p.extract (sa+na+n2) (sa+na+nb)).toList)++p.toList.drop (sa+na+nb):=by
  rw [rl,show sa+k+(na - k+n2)=sa+na+n2 by lia,qN1 (i:=sa) (j:=sa+k) (by lia),qHr (i:=sa+na+n2) (j:=sa+na+nb) (by lia)];simp [bU]
 have tl:(p.toList.take sa).length=sa:=by rw [aV,aK];lia
 have ml:((p.extract sa (sa+k)).toList++r++(p.extract (sa+na+n2) (sa+na+nb)).toList).length=na+nb:=by
  rw [aG,aG,qDa (by lia),qDa (by lia),rl];lia
 have P0:p.toList=p.toList.take sa++((p.extract sa (sa+k)).toList++((p.extract (sa+k) (sa+na)).toList++(p.extract (sa+na) (sa+na+n2)).toList)++(p.extract (sa+na+n2) (sa+na+nb)).toList)++p.toList.drop (sa+na+nb):=by
  conv=>lhs;rw [<-cV sa p.toList,qHr (i:=sa) (j:=sa+na+nb) (by lia),qBv (i:=sa) (j:=sa+na) (by lia) (by lia),qBv (i:=sa) (j:=sa+k) (l:=sa+na) (by lia) (by lia),qBv (i:=sa+na) (j:=sa+na+n2) (l:=sa+na+nb) (by lia) (by lia)]
  simp [bU]
 have x12:=rx;rw [qBv (i:=sa) (j:=sa+k) (l:=sa+na) (by lia) (by lia)] at x12;have y12:=ry;rw [qBv (i:=sa+na) (j:=sa+na+n2) (l:=sa+na+nb) (by lia) (by lia)] at y12 b1;have mid:=qOo x12 y12 hr hp b1 b2;refine⟨(p.toList.take (sa+k)++r++p.toList.drop (sa+k+r.length)).toArray,by simp,?_,?_,?_,?_,?_⟩
 ·rw [aP,eq0,aG,aG,ml,tl,cJ,aK];lia
 ·rw [hV,eq0,bU,List.take_append_of_le_length (by lia),cI (by lia)]
 ·rw [hV,eq0,List.drop_append_of_le_length (by rw [aG,ml,tl];lia),eE (by rw [aG,ml,tl];lia)];rfl
 ·rw [show sa+na+nb=sa+(na+nb) by lia,qDn,hV,eq0,bU,List.drop_append_of_le_length (by lia),eE (by lia),List.nil_append,List.take_append_of_le_length (by lia),cI (by lia)];exact mid
 ·rw [hV,eq0]
  conv=>rhs;rw [P0]
  exact ((((gN _ hp).append_right _).append_left _).append_right _)
section
variable{prog:Program}{w:World}{A:Around}{E:Value->Shared->Prop}{κ : SortKind}{it:Array Keyed}{lt:Nat->Nat->Bool}{I:Shared->Prop}{N:Nat}
theorem qCy{p:Array Nat}{i:Nat}(h:i<p.size):p.getD i 0=p[i]:=by simp [Array.getD,h]
theorem qNn(O:Srt.Ord lt)(hA:AskOk prog w A κ it lt I N){p:Array Nat}{st:SortSt}{s:Shared}{i sa na nb pw pw2:Nat}{Q:Bool->SortSt->Shared->Prop}(hst:arrOf st=p.map (kas_item it))(hk:kindOf st = κ)(hf:failedOf st=none)(hp1:(pendingOf st)[i]? = some (sa,na,pw))(hp2:(pendingOf st)[i+1]? = some (sa+na,nb,pw2))(h0:0<na)(h1:0<nb)(hsz:sa+na+nb<=p.size)(hin:∀x∈p,x<N)(hI:I s)(rx:Ri lt (p.extract sa (sa+na)).toList)(ry:Ri lt (p.extract (sa+na) (sa+na+nb)).toList)(h:∀(p':Array Nat) st' s',arrOf st'=p'.map (kas_item it)->kindOf st' = κ -> failedOf st'=none->pendingOf st'=((pendingOf st).setIfInBounds i (sa,na+nb,pw)).eraseIdxIfInBounds (i+1)->p'.size=p.size->p'.toList.take sa=p.toList.take sa->p'.toList.drop (sa+na+nb)=p.toList.drop (sa+na+nb)->Ri lt (p'.extract sa (sa+na+nb)).toList->p'.toList.Perm p.toList->I s'->Q true st' s'):kasC (model prog w) A E (mergeAt' i) Q st s:=by
 have hm:∀i (hi:i<p.size),p[i]<N:=λi hi=>hin _ (eN hi);have px:=qIe O (base:=sa) (n:=na) (by lia) rx;have py:=qIe O (base:=sa+na) (n:=nb) (by lia) ry;have hsb:sa+na<p.size:=by lia
 have hla:sa+na - 1<p.size:=by lia
 have whole:Be lt (p.extract sa (sa+na)).toList (p.extract (sa+na) (sa+na+nb)).toList->Ri lt (p.extract sa (sa+na+nb)).toList:=λhb=>by
  rw [qBv (i:=sa) (j:=sa+na) (by lia) (by lia)];exact bP.mpr ⟨rx,ry,hb⟩
 have leY:∀ {y:Nat},y∈(p.extract (sa+na) (sa+na+nb)).toList->lt y p[sa+na]=false:=λ{y} hy=>by
  obtain⟨l,l1,l2,l3,l4⟩:=qE4 hy;have:=py 0 (l - (sa+na)) (aU _) (by lia);rw [show sa+na+(l - (sa+na))=l by lia,l4,fP,qCy hsb] at this;exact this
 have leX:∀ {x:Nat},x∈(p.extract sa (sa+na)).toList->lt p[sa+na - 1] x=false:=λ{x} hx=>by
  obtain⟨l,l1,l2,l3,l4⟩:=qE4 hx;have:=px (l - sa) (na - 1) (by lia) (by lia);rw [show sa+(l - sa)=l by lia,l4,show sa+(na - 1)=sa+na - 1 by lia,qCy hla] at this;exact this
 refine aJ (hJ ?_);rw [hp1,hp2];refine aJ (qSn ?_);have hst2:(sortPriv% PySem.Builtin.SortState.a) st=p.map (kas_item it):=hst;rw [hst2];refine aJ (qAl (qAn hsb) ?_);refine aJ (qC3 hA (left:=false) (key:=p[sa+na]) (q:=p) (base:=sa) (hint:=0) (n:=na) hk (by lia) hin (hm _ hsb) h0 hI (qKj O px) λk s1 hk1 hpre hsuf hI1=>?_);have hpre':∀ {x:Nat},x∈(p.extract sa (sa+k)).toList->lt p[sa+na] x=false:=λ{x} hx=>by
  obtain⟨l,l1,l2,l3,l4⟩:=qE4 hx;have:=hpre (l - sa) (by lia);unfold byd at this;rw [show sa+(l - sa)=l by lia,l4,if_neg aD] at this;simpa using this
 refine qA5 (λhc=>aL ?_) (λhc=>?_)
 ·have hc:na - k=0:=by simpa using hc
  have hkn:k=na:=by lia
  subst hkn;exact h p _ _ rfl hk hf rfl rfl rfl rfl (whole λx hx y hy=>O.trans _ _ _ (hpre' hx) (leY hy)) (.refl _) hI1
 have hc:na - k≠0:=by simpa using hc
 refine aJ (qAl (x:=p[sa+na - 1]) (by
  show p[sa+k+(na - k) - 1]? = _
  rw [show sa+k+(na - k) - 1=sa+na - 1 by lia];exact qAn hla) ?_)
 refine aJ (qC3 hA (left:=true) (key:=p[sa+na - 1]) (q:=p) (base:=sa+na) (hint:=nb - 1) (n:=nb) hk (by lia) hin (hm _ hla) (by lia) hI1 (qKj O py) λn2 s2 hn2 hpre2 hsuf2 hI2=>?_);have hsuf':∀ {y:Nat},y∈(p.extract (sa+na+n2) (sa+na+nb)).toList->lt y p[sa+na - 1]=false:=λ{y} hy=>by
  obtain⟨l,l1,l2,l3,l4⟩:=qE4 hy;have:=hsuf2 (l - (sa+na)) (by lia) (by lia);unfold byd at this;rw [show sa+na+(l - (sa+na))=l by lia,l4,if_pos rfl] at this;exact this
 refine qA5 (λhc2=>aL ?_) (λhc2=>?_)
 ·have hc2:n2=0:=by simpa using hc2
  subst hc2;exact h p _ _ rfl hk hf rfl rfl rfl rfl (whole λx hx y hy=>O.trans _ _ _ (leX hx) (hsuf' (by simpa using hy))) (.refl _) hI2
 have hc2:n2≠0:=by simpa using hc2
 have em:∀i j,(p.map (kas_item it)).extract i j=(p.extract i j).map (kas_item it):=λi j=>by simp
 have s1':(p.extract (sa+k) (sa+na)).size=na - k:=by rw [eW];lia
 have s2':(p.extract (sa+na) (sa+na+n2)).size=n2:=by rw [eW];lia
 have rx2:=rx;rw [qBv (i:=sa) (j:=sa+k) (l:=sa+na) (by lia) (by lia)] at rx2;have ry2:=ry;rw [qBv (i:=sa+na) (j:=sa+na+n2) (l:=sa+na+nb) (by lia) (by lia)] at ry2;have f0:(p.extract (sa+na) (sa+na+n2))[0]'(by lia)=p[sa+na]:=by simp
 have f1:(p.extract (sa+k) (sa+na))[0]'(by lia)=p[sa+k]'(by lia):=by simp
 have f2:(p.extract (sa+k) (sa+na))[(p.extract (sa+k) (sa+na)).size - 1]'(by lia)=p[sa+na - 1]:=by
  rw [dN]
  congr 1
  rw [s1'];lia
 have e1:∀x∈p.extract (sa+k) (sa+na),x<N:=λx hx=>by
  obtain⟨l,_,_,l3,l4⟩:=qE4 (eQ.mp hx);rw [<-l4,qCy l3];exact hm _ l3
 have e2:∀x∈p.extract (sa+na) (sa+na+n2),x<N:=λx hx=>by
  obtain⟨l,_,_,l3,l4⟩:=qE4 (eQ.mp hx);rw [<-l4,qCy l3];exact hm _ l3
 have hlast:∀y∈(p.extract (sa+na) (sa+na+n2)).toList,lt ((p.extract (sa+k) (sa+na))[(p.extract (sa+k) (sa+na)).size - 1]'(by lia)) y=false:=λy hy=>by
  rw [f2];obtain⟨l,l1,l2,l3,l4⟩:=qE4 hy;have:=hpre2 (l - (sa+na)) (by lia);unfold byd at this;rw [show sa+na+(l - (sa+na))=l by lia,l4,if_pos rfl] at this;exact O.asym _ _ this
 have hfirst:lt ((p.extract (sa+na) (sa+na+n2))[0]'(by lia)) ((p.extract (sa+k) (sa+na))[0]'(by lia))=true:=by
  rw [f0,f1];have:=hsuf k (aE _) (by lia);unfold byd at this;rw [if_neg aD,qCy (by lia)] at this;simpa using this
 have b1:Be lt (p.extract sa (sa+k)).toList (p.extract (sa+na) (sa+na+nb)).toList:=λx hx y hy=>O.trans _ _ _ (hpre' hx) (leY hy);have b2:Be lt (p.extract (sa+k) (sa+na)).toList (p.extract (sa+na+n2) (sa+na+nb)).toList:=λx hx y hy=>O.trans _ _ _ (leX (by rw [qBv (i:=sa) (j:=sa+k) (l:=sa+na) (by lia) (by lia)];exact aM.mpr (.inr hx))) (hsuf' hy);rw [em,em];refine qA5 (λhle=>?_) (λhle=>?_)
 ·refine aJ (qNl O hA hk hI2 (by lia) (by lia) e1 e2 (bP.mp rx2).2.1 (bP.mp ry2).1 hlast hfirst λx st3 s3 hF hS3 hI3=>?_);obtain⟨r,rfl,hr,hp⟩:=hF;obtain⟨p',q1,q2,q3,q4,q5,q6⟩:=qJe (k:=k) (n2:=n2) hk1 hn2 hsz hr hp rx ry b1 b2;have ef:failedOf st3=none:=hS3.2.2.2.trans hf;have ea:arrOf st3=p.map (kas_item it):=hS3.2.1;have rl:r.toList.length=(na - k)+n2:=by rw [hp.length_eq,aG,qDa (by lia),qDa (by lia)];lia
  have key:=qGm (sa+k) (r.map (kas_item it)).toList 0 (p.map (kas_item it)) (by rw [eX,aB,rl,eZ];lia)
  have key2:=key.trans (show _=(p'.map (kas_item it)).toList by
   rw [eX,eX,eX,q1,aB];simp)
  have key3:=Array.toList_inj.mp key2;rw [<-ea] at key3;refine aJ (fU (aJ (hJ (aL ?_))));show Q (failedOf st3).isNone _ _;rw [ef];exact h p' _ _ key3 (hS3.1.trans hk) ef hS3.2.2.1 q2 q3 q4 q5 q6 hI3
 ·refine aJ (qNm O hA hk hI2 (by lia) (by lia) e1 e2 (bP.mp rx2).2.1 (bP.mp ry2).1 hlast hfirst λx st3 s3 hF hS3 hI3=>?_);obtain⟨r,rfl,hr,hp⟩:=hF;obtain⟨p',q1,q2,q3,q4,q5,q6⟩:=qJe (k:=k) (n2:=n2) hk1 hn2 hsz hr hp rx ry b1 b2;have ef:failedOf st3=none:=hS3.2.2.2.trans hf;have ea:arrOf st3=p.map (kas_item it):=hS3.2.1;have rl:r.toList.length=(na - k)+n2:=by rw [hp.length_eq,aG,qDa (by lia),qDa (by lia)];lia
  have key:=qGm (sa+k) (r.map (kas_item it)).toList 0 (p.map (kas_item it)) (by rw [eX,aB,rl,eZ];lia)
  have key2:=key.trans (show _=(p'.map (kas_item it)).toList by
   rw [eX,eX,eX,q1,aB];simp)
  have key3:=Array.toList_inj.mp key2;rw [<-ea] at key3;refine aJ (fU (aJ (hJ (aL ?_))));show Q (failedOf st3).isNone _ _;rw [ef];exact h p' _ _ key3 (hS3.1.trans hk) ef hS3.2.2.1 q2 q3 q4 q5 q6 hI3
end
section
variable{prog:Program}{w:World}{A:Around}{E:Value->Shared->Prop}{κ : SortKind}{it:Array Keyed}{lt:Nat->Nat->Bool}{I:Shared->Prop}{N:Nat}
def SameA(st st':SortSt):Prop:=kindOf st'=kindOf st/\pendingOf st'=pendingOf st/\failedOf st'=failedOf st/\gallopOf st'=gallopOf st
theorem SameA.refl(st:SortSt):SameA st st:=⟨rfl,rfl,rfl,rfl⟩
theorem SameA.trans{a b c:SortSt}(h:SameA a b)(k:SameA b c):SameA a c:=⟨k.1.trans h.1,k.2.1.trans h.2.1,k.2.2.1.trans h.2.2.1,k.2.2.2.trans h.2.2.2⟩
theorem qHp{σ β : Type}{M:Model}{f:Nat -> β -> StateT σ Sem (ForInStep β)}{Q : β -> σ -> Shared->Prop}(Pv:Nat -> β -> σ -> Shared->Prop):∀(c a:Nat) {b : β} {st : σ} {s:Shared},(∀i b st s,a<=i->i<a+c->Pv i b st s->kasC M A E (f i b) (λr st' s'=>match r with | .done b'=>Q b' st' s' | .yield b'=>Pv (i+1) b' st' s') st s)->(∀b st s,Pv (a+c) b st s->Q b st s)->Pv a b st s->kasC M A E (forIn (List.range' a c) b f) Q st s
 | 0,a,b,st,s,hs,hd,h=>kasC_nil (hd b st s h)
 | c+1,a,b,st,s,hs,hd,h=>by
  rw [List.range'_succ];refine kasC_cons (qAg (hs a b st s (aE _) (by lia) h) λr st' s' h'=>?_);cases r with
  | done b'=>exact h'
  | yield b'=>exact qHp Pv c (a+1) (λi b st s h1 h2=>hs i b st s (by lia) (by lia)) (λb st s h=>hd b st s (by rw [show a+(c+1)=a+1+c by lia];exact h)) h'
theorem qCc(hA:AskOk prog w A κ it lt I N){p:Array Nat}{i j:Nat}{st:SortSt}{s:Shared}{Q:Option Bool->SortSt->Shared->Prop}(hst:arrOf st=p.map (kas_item it))(hk:kindOf st = κ)(hin:∀x∈p,x<N)(hi:i<p.size)(hj:j<p.size)(hI:I s)(h:∀s',I s'->Q (some (lt (Srt.at' p i) (Srt.at' p j))) st s'):kasC (model prog w) A E (ltAt' i j) Q st s:=by
 rw [ltAt'_eq];refine aJ (hJ ?_);dsimp only;rw [show arrOf st=p.map (kas_item it) from hst];refine aJ (qAl (qAn hi) ?_);refine aJ (qAl (qAn hj) ?_);refine qPs hA hk (hin _ (eN hi)) (hin _ (eN hj)) hI λs' hs=>?_;have:=h s' hs;unfold Srt.at' at this;rw [qCy hi,qCy hj] at this;exact this
theorem qVb{M:Model}{p:Array Nat}{k l:Nat}{st:SortSt}{s:Shared}{Q:Unit->SortSt->Shared->Prop}(hst:arrOf st=p.map (kas_item it))(h:∀st',arrOf st'=(bubble p k (k - l)).map (kas_item it)->SameA st st'->Q () st' s):kasC M A E (moveDown' k l) Q st s:=by
 rw [moveDown'_eq];refine fU (h _ ?_ ⟨rfl,rfl,rfl,rfl⟩);show bubble (arrOf st) k (k - l)=_;rw [hst];exact kas_swaps_map (kas_item it) (λi=>k - i) (λi=>k - i - 1) _ p
def UpAt(lt:Nat->Nat->Bool)(p:Array Nat)(lo k:Nat):Prop := ∀i j,i<=j->j<k->lt (Srt.at' p (lo+j)) (Srt.at' p (lo+i))=false
theorem UpAt.ins(O:Srt.Ord lt){p:Array Nat}{lo k l:Nat}(h:UpAt lt p lo k)(hk:lo+k<p.size)(hl:l<=k)(h1:∀i,i<l->lt (Srt.at' p (lo+k)) (Srt.at' p (lo+i))=false)(h2:∀i,l<=i->i<k->lt (Srt.at' p (lo+k)) (Srt.at' p (lo+i))=true):UpAt lt (bubble p (lo+k) (lo+k - (lo+l))) lo (k+1):=by
 have at1:∀i,Srt.at' (bubble p (lo+k) (lo+k - (lo+l))) (lo+i)=if i=l then Srt.at' p (lo+k) else if l<i/\i<=k then Srt.at' p (lo+(i - 1)) else Srt.at' p (lo+i):=λi=>by
  rw [Srt.at_bub hk (by lia)];by_cases e:i=l
  ·rw [if_pos e,if_pos (by lia)]
  ·rw [if_neg e,if_neg (by lia)];by_cases c:l<i/\i<=k
   ·rw [if_pos c,if_pos (by lia),show lo+i - 1=lo+(i - 1) by lia]
   ·rw [if_neg c,if_neg (by lia)]
 intro i j hij hj;rw [at1,at1];by_cases ei:i=l
 ·rw [if_pos ei];by_cases ej:j=l
  ·rw [if_pos ej];exact O.irr _
  ·rw [if_neg ej,if_pos (by lia)];exact O.asym _ _ (h2 (j - 1) (by lia) (by lia))
 ·rw [if_neg ei];by_cases ci:l<i/\i<=k
  ·rw [if_pos ci,if_neg (by lia),if_pos (by lia)];exact h (i - 1) (j - 1) (by lia) (by lia)
  ·rw [if_neg ci];by_cases ej:j=l
   ·rw [if_pos ej];exact h1 i (by lia)
   ·rw [if_neg ej];by_cases cj:l<j/\j<=k
    ·rw [if_pos cj];exact h i (j - 1) (by lia) (by lia)
    ·rw [if_neg cj];exact h i j hij (by lia)
end
section
variable{prog:Program}{w:World}{A:Around}{E:Value->Shared->Prop}{κ : SortKind}{it:Array Keyed}{lt:Nat->Nat->Bool}{I:Shared->Prop}{N:Nat}
theorem qR2(O:Srt.Ord lt)(hA:AskOk prog w A κ it lt I N){p:Array Nat}{st:SortSt}{s:Shared}{lo n ok:Nat}{Q:Bool->SortSt->Shared->Prop}(hst:arrOf st=p.map (kas_item it))(hk:kindOf st = κ)(hin:∀x∈p,x<N)(hsz:lo+n<=p.size)(hI:I s)(up:UpAt lt p lo (max ok 1))(hok:max ok 1<=n)(h:∀(p':Array Nat) st' s',arrOf st'=p'.map (kas_item it)->SameA st st'->p'.size=p.size->p'.toList.Perm p.toList->(∀i,i<lo\/lo+n<=i->Srt.at' p' i=Srt.at' p i)->UpAt lt p' lo n->I s'->Q true st' s'):kasC (model prog w) A E (binarySort' lo n ok) Q st s:=by
 refine aJ (qAg (iD (qHp (Q:=λv st' s' => ∃p':Array Nat,v.1=none/\arrOf st'=p'.map (kas_item it)/\SameA st st'/\p'.size=p.size/\p'.toList.Perm p.toList/\(∀i,i<lo\/lo+n<=i->Srt.at' p' i=Srt.at' p i)/\UpAt lt p' lo n/\I s') (λk v st' s' => ∃p':Array Nat,v.1=none/\arrOf st'=p'.map (kas_item it)/\SameA st st'/\p'.size=p.size/\p'.toList.Perm p.toList/\(∀i,i<lo\/lo+n<=i->Srt.at' p' i=Srt.at' p i)/\UpAt lt p' lo k/\I s') (n - max ok 1) (max ok 1) ?_ ?_ ⟨p,rfl,hst,.refl _,rfl,.refl _,λ_ _=>rfl,up,hI⟩)) ?_)
 ·rintro k v st1 s1 k1 k2 ⟨q,hv,hq,hS1,hsz1,hp1,ho1,up1,hI1⟩
  have hin1:∀x∈q,x<N:=λx hx=>hin x (by
   have:=hp1.mem_iff.mp (eQ.mp hx)
   exact eQ.mpr this)
  have hkq:lo+k<q.size:=by lia
  refine aJ (qAg (qBd (Q:=λv st' s' => ∃l r,v=(none,l,r)/\l=r/\st1=st'/\I s'/\r<=k/\(∀i,i<l->lt (Srt.at' q (lo+k)) (Srt.at' q (lo+i))=false) /\ ∀i,r<=i->i<k->lt (Srt.at' q (lo+k)) (Srt.at' q (lo+i))=true) (λc v st' s' => ∃l r,v=(none,l,r)/\l<=r/\r<=l+c/\st1=st'/\I s'/\r<=k/\(∀i,i<l->lt (Srt.at' q (lo+k)) (Srt.at' q (lo+i))=false) /\ ∀i,r<=i->i<k->lt (Srt.at' q (lo+k)) (Srt.at' q (lo+i))=true) ⟨0,k,rfl,by lia,by lia,rfl,hI1,aE _,λi hi=>by lia,λi h1 h2=>by lia⟩ ?_ ?_) ?_)
  ·rintro c x v st2 s2 ⟨l,r,rfl,g1,g2,rfl,hI2,g3,g4,g5⟩;refine qA5 (λhc=>aL ⟨l,r,rfl,by have hc:l>=r:=hc;lia,rfl,hI2,g3,g4,g5⟩) (λhc=>?_);have hc : ¬l>=r:=hc;refine aJ (qCc hA hq (hS1.1.trans hk) hin1 hkq (show lo+(l+r) / 2<q.size by lia) hI2 λs3 hI3=>?_);cases hb:lt (Srt.at' q (lo+k)) (Srt.at' q (lo+(l+r) / 2)) with
   | true =>
    refine qA5 (λ_=>aL ⟨l,(l+r) / 2,rfl,by lia,by lia,rfl,hI3,by lia,g4,λi h1 h2=>?_⟩) (λz=>absurd rfl z);cases hz:lt (Srt.at' q (lo+k)) (Srt.at' q (lo+i)) with
    | true=>rfl
    | false=>rw [O.trans _ _ _ (up1 ((l+r) / 2) i h1 h2) hz] at hb;cases hb
   | false =>
    refine qA5 (λz=>absurd z aD) (λ_=>aL ⟨(l+r) / 2+1,r,rfl,by lia,by lia,rfl,hI3,g3,λi hi=>?_,g5⟩);exact O.trans _ _ _ (up1 i ((l+r) / 2) (by lia) (by lia)) hb
  ·rintro v st2 s2 ⟨l,r,rfl,g1,g2,rfl,hI2,g3,g4,g5⟩;exact⟨l,r,rfl,by lia,rfl,hI2,g3,g4,g5⟩
  ·rintro v st2 s2 ⟨l,r,rfl,rfl,rfl,hI2,g3,g4,g5⟩;refine aJ (qVb hq λst3 h3 hS3=>aL ⟨_,rfl,h3,hS1.trans hS3,?_,?_,λi hi=>?_,up1.ins O hkq g3 g4 g5,hI2⟩)
   ·rw [bubble_size];exact hsz1
   ·exact (Array.perm_iff_toList_perm.mp (bubble_perm q _ _)).trans hp1
   ·rw [Srt.at_bub (l:=lo+l) hkq (by lia),if_neg (by lia),if_neg (by lia)];exact ho1 i hi
 ·rintro v st1 s1 ⟨q,hv,hq,hS1,hsz1,hp1,ho1,up1,hI1⟩;rw [show max ok 1+(n - max ok 1)=n by lia] at up1;exact⟨q,hv,hq,hS1,hsz1,hp1,ho1,up1,hI1⟩
 ·rintro⟨v,u⟩ st1 s1 ⟨q,hv,hq,hS1,hsz1,hp1,ho1,up1,hI1⟩;have hv:v=none:=hv;subst hv;exact aL (h q st1 s1 hq hS1 hsz1 hp1 ho1 up1 hI1)
end
section
variable{prog:Program}{w:World}{A:Around}{E:Value->Shared->Prop}{κ : SortKind}{it:Array Keyed}{lt:Nat->Nat->Bool}{I:Shared->Prop}{N:Nat}
theorem qEa{M:Model}{p:Array Nat}{i j:Nat}{st:SortSt}{s:Shared}{Q:Unit->SortSt->Shared->Prop}(hst:arrOf st=p.map (kas_item it))(h:∀st',arrOf st'=(kas_rev p i j).map (kas_item it)->SameA st st'->Q () st' s):kasC M A E (reverseSlice' i j) Q st s:=by
 rw [reverseSlice'_eq];refine fU (h _ ?_ ⟨rfl,rfl,rfl,rfl⟩);show mirror (arrOf st) i j ((j - i) / 2)=_;rw [hst];exact kas_swaps_map (kas_item it) (λk=>i+k) (λk=>j - 1 - k) _ p
def DnAt(lt:Nat->Nat->Bool)(p:Array Nat)(lo k:Nat):Prop := ∀i j,i<=j->j<k->lt (Srt.at' p (lo+i)) (Srt.at' p (lo+j))=false
def EqAt(lt:Nat->Nat->Bool)(p:Array Nat)(lo a b:Nat):Prop := ∀i j,a<=i->i<b->a<=j->j<b->lt (Srt.at' p (lo+i)) (Srt.at' p (lo+j))=false
structure Cr(p q:Array Nat)(lo n:Nat):Prop where
 size:q.size=p.size
 perm:q.toList.Perm p.toList
 out:∀i,i<lo\/lo+n<=i->Srt.at' q i=Srt.at' p i
theorem Cr.refl(p:Array Nat)(lo n:Nat):Cr p p lo n:=⟨rfl,.refl _,λ_ _=>rfl⟩
theorem qIz{p:Array Nat}{lo a b:Nat}(h:lo+b<=p.size)(i:Nat):Srt.at' (kas_rev p (lo+a) (lo+b)) (lo+i)=if a<=i/\i<b then Srt.at' p (lo+(a+b - 1 - i)) else Srt.at' p (lo+i):=by
 rw [Srt.at_rev h];by_cases c:a<=i/\i<b
 ·rw [if_pos c,if_pos (by lia)]
  congr 1;lia
 ·rw [if_neg c,if_neg (by lia)]
theorem Cr.rev{p q:Array Nat}{lo n a b:Nat}(h:Cr p q lo n)(hb:b<=n)(hn:lo+n<=p.size):Cr p (kas_rev q (lo+a) (lo+b)) lo n:=by
 have hq:lo+b<=q.size:=by rw [h.size];lia
 refine⟨by rw [kas_rev_size];exact h.size,(Array.perm_iff_toList_perm.mp (mirror_perm _ _ _ _)).trans h.perm,λi hi=>?_⟩;rw [Srt.at_rev hq,if_neg (by lia)];exact h.out i hi
theorem UpAt.snoc(O:Srt.Ord lt){p:Array Nat}{lo n:Nat}(h1:1<=n)(u:UpAt lt p lo n)(h:lt (Srt.at' p (lo+n)) (Srt.at' p (lo+n - 1))=false):UpAt lt p lo (n+1):=by
 intro i j hij hj;by_cases e:j=n
 ·subst e;by_cases e2:i=j
  ·subst e2;exact O.irr _
  ·have:=u i (j - 1) (by lia) (by lia);rw [show lo+(j - 1)=lo+j - 1 by lia] at this;exact O.trans _ _ _ this h
 ·exact u i j hij (by lia)
theorem DnAt.snoc(O:Srt.Ord lt){p:Array Nat}{lo n:Nat}(h1:1<=n)(u:DnAt lt p lo n)(h:lt (Srt.at' p (lo+n - 1)) (Srt.at' p (lo+n))=false):DnAt lt p lo (n+1):=by
 intro i j hij hj;by_cases e:j=n
 ·subst e;by_cases e2:i=j
  ·subst e2;exact O.irr _
  ·have:=u i (j - 1) (by lia) (by lia);rw [show lo+(j - 1)=lo+j - 1 by lia] at this;exact O.trans _ _ _ h this
 ·exact u i j hij (by lia)
theorem DnAt.revEq{p:Array Nat}{lo k a b:Nat}(u:DnAt lt p lo k)(e:EqAt lt p lo a b)(hab:a<=b)(hb:b<=k)(hs:lo+b<=p.size):DnAt lt (kas_rev p (lo+a) (lo+b)) lo k:=by
 intro i j hij hj;rw [qIz hs,qIz hs];by_cases ci:a<=i/\i<b
 ·rw [if_pos ci];by_cases cj:a<=j/\j<b
  ·rw [if_pos cj];exact e _ _ (by lia) (by lia) (by lia) (by lia)
  ·rw [if_neg cj];exact u _ _ (by lia) hj
 ·rw [if_neg ci];by_cases cj:a<=j/\j<b
  ·rw [if_pos cj];exact u _ _ (by lia) (by lia)
  ·rw [if_neg cj];exact u _ _ hij hj
theorem DnAt.rev{p:Array Nat}{lo n:Nat}(u:DnAt lt p lo n)(hs:lo+n<=p.size):UpAt lt (kas_rev p lo (lo+n)) lo n:=by
 intro i j hij hj;have e1:=qIz (p:=p) (lo:=lo) (a:=0) (b:=n) hs i;have e2:=qIz (p:=p) (lo:=lo) (a:=0) (b:=n) hs j;rw [fP] at e1 e2;rw [e1,e2,if_pos (by lia),if_pos (by lia)];exact u _ _ (by lia) (by lia)
theorem EqAt.snoc(O:Srt.Ord lt){p:Array Nat}{lo a n:Nat}(ha:a<n)(e:EqAt lt p lo a n)(h1:lt (Srt.at' p (lo+n)) (Srt.at' p (lo+n - 1))=false)(h2:lt (Srt.at' p (lo+n - 1)) (Srt.at' p (lo+n))=false):EqAt lt p lo a (n+1):=by
 intro i j ai ib aj jb;have ex:lo+n - 1=lo+(n - 1):=by lia
 rw [ex] at h1 h2;by_cases c:i=n
 ·subst c;by_cases d:j=i
  ·subst d;exact O.irr _
  ·exact O.trans _ _ _ (e (i - 1) j (by lia) (by lia) aj (by lia)) h1
 ·by_cases d:j=n
  ·subst d;exact O.trans _ _ _ h2 (e i (j - 1) ai (by lia) (by lia) (by lia))
  ·exact e i j ai (by lia) aj (by lia)
end
section
variable{prog:Program}{w:World}{A:Around}{E:Value->Shared->Prop}{κ : SortKind}{it:Array Keyed}{lt:Nat->Nat->Bool}{I:Shared->Prop}{N:Nat}
theorem qT1(O:Srt.Ord lt)(hA:AskOk prog w A κ it lt I N){p:Array Nat}{st:SortSt}{s:Shared}{lo nrem:Nat}{Q:Option Nat->SortSt->Shared->Prop}(hst:arrOf st=p.map (kas_item it))(hk:kindOf st = κ)(hin:∀x∈p,x<N)(h1:1<=nrem)(hsz:lo+nrem<=p.size)(hI:I s)(h:∀(q:Array Nat) n st' s',arrOf st'=q.map (kas_item it)->SameA st st'->Cr p q lo nrem->1<=n->n<=nrem->UpAt lt q lo n->I s'->Q (some n) st' s'):kasC (model prog w) A E (countRun' lo nrem) Q st s:=by
 have hmem:∀ {q:Array Nat},Cr p q lo nrem -> ∀x∈q,x<N:=λ{q} c x hx=>hin x (eQ.mpr (c.perm.mem_iff.mp (eQ.mp hx)));refine aJ (qAg (iD (qBs (Q:=λv st' s' => ∃n,v=(none,n)/\st=st'/\I s'/\1<=n/\n<=nrem/\UpAt lt p lo n/\(n=nrem\/n<nrem/\lt (Srt.at' p (lo+n)) (Srt.at' p (lo+n - 1))=true)) (λk v st' s' => ∃n,v=(none,n)/\st=st'/\I s'/\1<=n/\n+k=nrem/\UpAt lt p lo n) ?_ ?_ _ ⟨1,rfl,rfl,hI,aE _,by rw [dR];lia,λi j hij hj=>by rw [show i=0 by lia,show j=0 by lia];exact O.irr _⟩)) ?_)
 ·rintro k x v st1 s1 ⟨n,rfl,rfl,hI1,g1,g2,g3⟩;refine aJ (qCc hA hst hk hin (show lo+n<p.size by lia) (show lo+n - 1<p.size by lia) hI1 λs2 hI2=>?_);cases hb:lt (Srt.at' p (lo+n)) (Srt.at' p (lo+n - 1)) with
  | true=>exact qA5 (λ_=>aL ⟨n,rfl,rfl,hI2,g1,by lia,g3,.inr ⟨by lia,hb⟩⟩) (λz=>absurd rfl z)
  | false=>exact qA5 (λz=>absurd z aD) (λ_=>aL ⟨n+1,rfl,rfl,hI2,by lia,by lia,g3.snoc O g1 hb⟩)
 ·rintro v st1 s1 ⟨n,rfl,rfl,hI1,g1,g2,g3⟩;exact⟨n,rfl,rfl,hI1,g1,by lia,g3,.inl (by lia)⟩
 rintro v st1 s1 ⟨n,rfl,rfl,hI1,g1,g2,g3,g4⟩;refine qA5 (λhc=>aL (h p n _ _ hst (.refl _) (.refl _ _ _) g1 g2 g3 hI1)) (λhc=>?_);have hc:n≠nrem:=by simpa using hc
 obtain⟨g5,g6⟩:n<nrem/\lt (Srt.at' p (lo+n)) (Srt.at' p (lo+n - 1))=true:=by
  rcases g4 with z | z
  ·exact absurd z hc
  ·exact z
 refine qA5 (λhn=>?_) (λhn=>?_)
 ·have hn:n>1:=hn;refine aJ (qCc hA hst hk hin (show lo<p.size by lia) (show lo+n - 1<p.size by lia) hI1 λs3 hI3=>?_);cases hb:lt (Srt.at' p lo) (Srt.at' p (lo+n - 1)) with
  | true=>exact qA5 (λ_=>aL (h p n _ _ hst (.refl _) (.refl _ _ _) g1 g2 g3 hI3)) (λz=>absurd rfl z)
  | false =>
   refine qA5 (λz=>absurd z aD) (λ_=>?_);have hE:EqAt lt p lo 0 n:=λi j _ hi _ hj=>by
    have e3:=g3 0 i (aU _) hi;have e4:=g3 j (n - 1) (by lia) (by lia);rw [fP] at e3;rw [show lo+(n - 1)=lo+n - 1 by lia] at e4;exact O.trans _ _ _ e4 (O.trans _ _ _ hb e3)
   have hD0:DnAt lt p lo (n+1):=DnAt.snoc O g1 (λi j _ hj=>hE i j (aU _) (by lia) (aU _) hj) (O.asym _ _ g6);refine aJ (qEa hst λst1 hq1 hS1=>?_);have hC1:Cr p (kas_rev p lo (lo+n)) lo nrem:=by
    have:=(Cr.refl p lo nrem).rev (a:=0) (b:=n) g2 hsz;rw [fP] at this;exact this
   have hD1:DnAt lt (kas_rev p lo (lo+n)) lo (n+1):=by
    have:=hD0.revEq hE (aU _) (by lia) (by lia);rw [fP] at this;exact this
   refine aJ (kasC_lift (dA ?_));refine aJ (qAg (iD (qBs (Q:=λv st' s' => ∃(q:Array Nat) (m neq:Nat),v=(none,m,neq)/\arrOf st'=q.map (kas_item it)/\SameA st st'/\Cr p q lo nrem/\I s'/\neq+1<=m/\m<=nrem/\DnAt lt q lo m/\EqAt lt q lo (m - (neq+1)) m) (λk v st' s' => ∃(q:Array Nat) (m neq:Nat),v=(none,m,neq)/\arrOf st'=q.map (kas_item it)/\SameA st st'/\Cr p q lo nrem/\I s'/\neq+1<=m/\m+k=nrem/\DnAt lt q lo m/\EqAt lt q lo (m - (neq+1)) m) ?_ ?_ _ ⟨_,n+1,0,rfl,hq1,hS1,hC1,hI3,by lia,by rw [dR];show n+1+(nrem - (n+1))=nrem;lia,hD1,λi j i1 i2 j1 j2=>by rw [show i=j by lia];exact O.irr _⟩)) ?_)
   ·rintro k x v st2 s2 ⟨q,m,neq,rfl,hq,hS,hC,hI2,a1,a2,hD,hE⟩;refine aJ (qCc hA hq (hS.1.trans hk) (hmem hC) (show lo+m<q.size by rw [hC.size];lia) (show lo+m - 1<q.size by rw [hC.size];lia) hI2 λs3 hI4=>?_);have ei:lo+m - (neq+1)=lo+(m - (neq+1)):=by lia
    have hqs:lo+m<=q.size:=by rw [hC.size];lia
    cases hb:lt (Srt.at' q (lo+m)) (Srt.at' q (lo+m - 1)) with
    | true =>
     refine qA5 (λ_=>?_) (λz=>absurd rfl z);refine qA5 (λhn=>?_) (λhn=>?_)
     ·refine aJ (qEa hq λst3 h3 hS3=>aL ⟨_,m+1,0,rfl,h3,hS.trans hS3,?_,hI4,by lia,by lia,?_,λi j i1 i2 j1 j2=>by rw [show i=j by lia];exact O.irr _⟩)
      ·show Cr p (kas_rev q (lo+m - (neq+1)) (lo+m)) lo nrem;rw [ei];exact hC.rev (by lia) hsz
      ·show DnAt lt (kas_rev q (lo+m - (neq+1)) (lo+m)) lo (m+1);rw [ei];exact (hD.snoc O (by lia) (O.asym _ _ hb)).revEq hE (by lia) (by lia) hqs
     ·exact aL ⟨q,m+1,0,rfl,hq,hS,hC,hI4,by lia,by lia,hD.snoc O (by lia) (O.asym _ _ hb),λi j i1 i2 j1 j2=>by rw [show i=j by lia];exact O.irr _⟩
    | false =>
     refine qA5 (λz=>absurd z aD) (λ_=>?_);refine aJ (qCc hA hq (hS.1.trans hk) (hmem hC) (show lo+m - 1<q.size by lia) (show lo+m<q.size by rw [hC.size];lia) hI4 λs5 hI5=>?_);cases hb2:lt (Srt.at' q (lo+m - 1)) (Srt.at' q (lo+m)) with
     | true=>exact qA5 (λ_=>aL ⟨q,m,neq,rfl,hq,hS,hC,hI5,a1,by lia,hD,hE⟩) (λz=>absurd rfl z)
     | false=>exact qA5 (λz=>absurd z aD) (λ_=>aL ⟨q,m+1,neq+1,rfl,hq,hS,hC,hI5,by lia,by lia,hD.snoc O (by lia) hb2,by rw [show m+1 - (neq+1+1)=m - (neq+1) by lia];exact hE.snoc O (by lia) hb hb2⟩)
   ·rintro v st2 s2 ⟨q,m,neq,rfl,hq,hS,hC,hI2,a1,a2,hD,hE⟩;exact⟨q,m,neq,rfl,hq,hS,hC,hI2,a1,by lia,hD,hE⟩
   rintro v st2 s2 ⟨q,m,neq,rfl,hq,hS,hC,hI4,a1,a2,hD,hE⟩;have hqs:lo+m<=q.size:=by rw [hC.size];lia
   have ei:lo+m - (neq+1)=lo+(m - (neq+1)):=by lia
   refine qA5 (λhn=>?_) (λhn=>?_)
   ·refine aJ (qEa hq λst3 h3 hS3=>?_)
    obtain⟨q2,hq2,hC2,hD2⟩:∃q2:Array Nat,arrOf st3=q2.map (kas_item it)/\Cr p q2 lo nrem/\DnAt lt q2 lo m:=⟨_,h3,by
     show Cr p (kas_rev q (lo+m - (neq+1)) (lo+m)) lo nrem;rw [ei];exact hC.rev (by lia) hsz,by
     show DnAt lt (kas_rev q (lo+m - (neq+1)) (lo+m)) lo m
     rw [ei];exact hD.revEq hE (by lia) (aE _) hqs⟩
    have hS2:=hS.trans hS3;refine aJ (qEa hq2 λst5 h5 hS5=>?_);have hC5:=hC2.rev (a:=0) (b:=m) a2 hsz;rw [fP] at hC5;have hU5:=hD2.rev (by rw [hC2.size];lia);have hS6:=hS2.trans hS5;refine aJ (qAg (iD (qBs (Q:=λv st' s' => ∃n,v=(none,n)/\st5=st'/\I s'/\1<=n/\n<=nrem/\UpAt lt (kas_rev q2 lo (lo+m)) lo n) (λk v st' s' => ∃n,v=(none,n)/\st5=st'/\I s'/\1<=n/\n+k=nrem/\UpAt lt (kas_rev q2 lo (lo+m)) lo n) ?_ ?_ _ ⟨m,rfl,rfl,hI4,by lia,by rw [dR];show m+(nrem - m)=nrem;lia,hU5⟩)) ?_)
    ·rintro k x v st7 s7 ⟨n,rfl,rfl,hI7,b1,b2,b3⟩;refine aJ (qCc hA h5 (hS6.1.trans hk) (hmem hC5) (show lo+n<_ by rw [hC5.size];lia) (show lo+n - 1<_ by rw [hC5.size];lia) hI7 λs8 hI8=>?_);cases hb:lt (Srt.at' (kas_rev q2 lo (lo+m)) (lo+n)) (Srt.at' (kas_rev q2 lo (lo+m)) (lo+n - 1)) with
     | true=>exact qA5 (λ_=>aL ⟨n,rfl,rfl,hI8,b1,by lia,b3⟩) (λz=>absurd rfl z)
     | false=>exact qA5 (λz=>absurd z aD) (λ_=>aL ⟨n+1,rfl,rfl,hI8,by lia,by lia,b3.snoc O b1 hb⟩)
    ·rintro v st7 s7 ⟨n,rfl,rfl,hI7,b1,b2,b3⟩;exact⟨n,rfl,rfl,hI7,b1,by lia,b3⟩
    rintro v st7 s7 ⟨n,rfl,rfl,hI7,b1,b2,b3⟩;exact aL (h _ n _ _ h5 hS6 hC5 b1 b2 b3 hI7)
   ·obtain⟨q2,hq2,hC2,hD2⟩:∃q2:Array Nat,arrOf st2=q2.map (kas_item it)/\Cr p q2 lo nrem/\DnAt lt q2 lo m:=⟨q,hq,hC,hD⟩;have hS2:=hS;refine aJ (qEa hq2 λst5 h5 hS5=>?_);have hC5:=hC2.rev (a:=0) (b:=m) a2 hsz;rw [fP] at hC5;have hU5:=hD2.rev (by rw [hC2.size];lia);have hS6:=hS2.trans hS5;refine aJ (qAg (iD (qBs (Q:=λv st' s' => ∃n,v=(none,n)/\st5=st'/\I s'/\1<=n/\n<=nrem/\UpAt lt (kas_rev q2 lo (lo+m)) lo n) (λk v st' s' => ∃n,v=(none,n)/\st5=st'/\I s'/\1<=n/\n+k=nrem/\UpAt lt (kas_rev q2 lo (lo+m)) lo n) ?_ ?_ _ ⟨m,rfl,rfl,hI4,by lia,by rw [dR];show m+(nrem - m)=nrem;lia,hU5⟩)) ?_)
    ·rintro k x v st7 s7 ⟨n,rfl,rfl,hI7,b1,b2,b3⟩;refine aJ (qCc hA h5 (hS6.1.trans hk) (hmem hC5) (show lo+n<_ by rw [hC5.size];lia) (show lo+n - 1<_ by rw [hC5.size];lia) hI7 λs8 hI8=>?_);cases hb:lt (Srt.at' (kas_rev q2 lo (lo+m)) (lo+n)) (Srt.at' (kas_rev q2 lo (lo+m)) (lo+n - 1)) with
     | true=>exact qA5 (λ_=>aL ⟨n,rfl,rfl,hI8,b1,by lia,b3⟩) (λz=>absurd rfl z)
     | false=>exact qA5 (λz=>absurd z aD) (λ_=>aL ⟨n+1,rfl,rfl,hI8,by lia,by lia,b3.snoc O b1 hb⟩)
    ·rintro v st7 s7 ⟨n,rfl,rfl,hI7,b1,b2,b3⟩;exact⟨n,rfl,rfl,hI7,b1,by lia,b3⟩
    rintro v st7 s7 ⟨n,rfl,rfl,hI7,b1,b2,b3⟩;exact aL (h _ n _ _ h5 hS6 hC5 b1 b2 b3 hI7)
 ·have hn : ¬n>1:=hn;have hn1:n=1:=by lia
  subst hn1;have hI3:=hI1;have hq1:=hst;have hS1:SameA st st :=.refl _;have hC1:Cr p p lo nrem :=.refl _ _ _;have hD1:DnAt lt p lo (1+1):=DnAt.snoc O (aE _) (λi j hij hj=>by rw [show i=0 by lia,show j=0 by lia];exact O.irr _) (O.asym _ _ g6);refine aJ (kasC_lift (dA ?_));refine aJ (qAg (iD (qBs (Q:=λv st' s' => ∃(q:Array Nat) (m neq:Nat),v=(none,m,neq)/\arrOf st'=q.map (kas_item it)/\SameA st st'/\Cr p q lo nrem/\I s'/\neq+1<=m/\m<=nrem/\DnAt lt q lo m/\EqAt lt q lo (m - (neq+1)) m) (λk v st' s' => ∃(q:Array Nat) (m neq:Nat),v=(none,m,neq)/\arrOf st'=q.map (kas_item it)/\SameA st st'/\Cr p q lo nrem/\I s'/\neq+1<=m/\m+k=nrem/\DnAt lt q lo m/\EqAt lt q lo (m - (neq+1)) m) ?_ ?_ _ ⟨_,1+1,0,rfl,hq1,hS1,hC1,hI3,by lia,by rw [dR];show 1+1+(nrem - (1+1))=nrem;lia,hD1,λi j i1 i2 j1 j2=>by rw [show i=j by lia];exact O.irr _⟩)) ?_)
  ·rintro k x v st2 s2 ⟨q,m,neq,rfl,hq,hS,hC,hI2,a1,a2,hD,hE⟩;refine aJ (qCc hA hq (hS.1.trans hk) (hmem hC) (show lo+m<q.size by rw [hC.size];lia) (show lo+m - 1<q.size by rw [hC.size];lia) hI2 λs3 hI4=>?_);have ei:lo+m - (neq+1)=lo+(m - (neq+1)):=by lia
   have hqs:lo+m<=q.size:=by rw [hC.size];lia
   cases hb:lt (Srt.at' q (lo+m)) (Srt.at' q (lo+m - 1)) with
   | true =>
    refine qA5 (λ_=>?_) (λz=>absurd rfl z);refine qA5 (λhn=>?_) (λhn=>?_)
    ·refine aJ (qEa hq λst3 h3 hS3=>aL ⟨_,m+1,0,rfl,h3,hS.trans hS3,?_,hI4,by lia,by lia,?_,λi j i1 i2 j1 j2=>by rw [show i=j by lia];exact O.irr _⟩)
     ·show Cr p (kas_rev q (lo+m - (neq+1)) (lo+m)) lo nrem;rw [ei];exact hC.rev (by lia) hsz
     ·show DnAt lt (kas_rev q (lo+m - (neq+1)) (lo+m)) lo (m+1);rw [ei];exact (hD.snoc O (by lia) (O.asym _ _ hb)).revEq hE (by lia) (by lia) hqs
    ·exact aL ⟨q,m+1,0,rfl,hq,hS,hC,hI4,by lia,by lia,hD.snoc O (by lia) (O.asym _ _ hb),λi j i1 i2 j1 j2=>by rw [show i=j by lia];exact O.irr _⟩
   | false =>
    refine qA5 (λz=>absurd z aD) (λ_=>?_);refine aJ (qCc hA hq (hS.1.trans hk) (hmem hC) (show lo+m - 1<q.size by lia) (show lo+m<q.size by rw [hC.size];lia) hI4 λs5 hI5=>?_);cases hb2:lt (Srt.at' q (lo+m - 1)) (Srt.at' q (lo+m)) with
    | true=>exact qA5 (λ_=>aL ⟨q,m,neq,rfl,hq,hS,hC,hI5,a1,by lia,hD,hE⟩) (λz=>absurd rfl z)
    | false=>exact qA5 (λz=>absurd z aD) (λ_=>aL ⟨q,m+1,neq+1,rfl,hq,hS,hC,hI5,by lia,by lia,hD.snoc O (by lia) hb2,by rw [show m+1 - (neq+1+1)=m - (neq+1) by lia];exact hE.snoc O (by lia) hb hb2⟩)
  ·rintro v st2 s2 ⟨q,m,neq,rfl,hq,hS,hC,hI2,a1,a2,hD,hE⟩;exact⟨q,m,neq,rfl,hq,hS,hC,hI2,a1,by lia,hD,hE⟩
  rintro v st2 s2 ⟨q,m,neq,rfl,hq,hS,hC,hI4,a1,a2,hD,hE⟩;have hqs:lo+m<=q.size:=by rw [hC.size];lia
  have ei:lo+m - (neq+1)=lo+(m - (neq+1)):=by lia
  refine qA5 (λhn=>?_) (λhn=>?_)
  ·refine aJ (qEa hq λst3 h3 hS3=>?_)
   obtain⟨q2,hq2,hC2,hD2⟩:∃q2:Array Nat,arrOf st3=q2.map (kas_item it)/\Cr p q2 lo nrem/\DnAt lt q2 lo m:=⟨_,h3,by
    show Cr p (kas_rev q (lo+m - (neq+1)) (lo+m)) lo nrem;rw [ei];exact hC.rev (by lia) hsz,by
    show DnAt lt (kas_rev q (lo+m - (neq+1)) (lo+m)) lo m
    rw [ei];exact hD.revEq hE (by lia) (aE _) hqs⟩
   have hS2:=hS.trans hS3;refine aJ (qEa hq2 λst5 h5 hS5=>?_);have hC5:=hC2.rev (a:=0) (b:=m) a2 hsz;rw [fP] at hC5;have hU5:=hD2.rev (by rw [hC2.size];lia);have hS6:=hS2.trans hS5;refine aJ (qAg (iD (qBs (Q:=λv st' s' => ∃n,v=(none,n)/\st5=st'/\I s'/\1<=n/\n<=nrem/\UpAt lt (kas_rev q2 lo (lo+m)) lo n) (λk v st' s' => ∃n,v=(none,n)/\st5=st'/\I s'/\1<=n/\n+k=nrem/\UpAt lt (kas_rev q2 lo (lo+m)) lo n) ?_ ?_ _ ⟨m,rfl,rfl,hI4,by lia,by rw [dR];show m+(nrem - m)=nrem;lia,hU5⟩)) ?_)
   ·rintro k x v st7 s7 ⟨n,rfl,rfl,hI7,b1,b2,b3⟩;refine aJ (qCc hA h5 (hS6.1.trans hk) (hmem hC5) (show lo+n<_ by rw [hC5.size];lia) (show lo+n - 1<_ by rw [hC5.size];lia) hI7 λs8 hI8=>?_);cases hb:lt (Srt.at' (kas_rev q2 lo (lo+m)) (lo+n)) (Srt.at' (kas_rev q2 lo (lo+m)) (lo+n - 1)) with
    | true=>exact qA5 (λ_=>aL ⟨n,rfl,rfl,hI8,b1,by lia,b3⟩) (λz=>absurd rfl z)
    | false=>exact qA5 (λz=>absurd z aD) (λ_=>aL ⟨n+1,rfl,rfl,hI8,by lia,by lia,b3.snoc O b1 hb⟩)
   ·rintro v st7 s7 ⟨n,rfl,rfl,hI7,b1,b2,b3⟩;exact⟨n,rfl,rfl,hI7,b1,by lia,b3⟩
   rintro v st7 s7 ⟨n,rfl,rfl,hI7,b1,b2,b3⟩;exact aL (h _ n _ _ h5 hS6 hC5 b1 b2 b3 hI7)
  ·obtain⟨q2,hq2,hC2,hD2⟩:∃q2:Array Nat,arrOf st2=q2.map (kas_item it)/\Cr p q2 lo nrem/\DnAt lt q2 lo m:=⟨q,hq,hC,hD⟩;have hS2:=hS;refine aJ (qEa hq2 λst5 h5 hS5=>?_);have hC5:=hC2.rev (a:=0) (b:=m) a2 hsz;rw [fP] at hC5;have hU5:=hD2.rev (by rw [hC2.size];lia);have hS6:=hS2.trans hS5;refine aJ (qAg (iD (qBs (Q:=λv st' s' => ∃n,v=(none,n)/\st5=st'/\I s'/\1<=n/\n<=nrem/\UpAt lt (kas_rev q2 lo (lo+m)) lo n) (λk v st' s' => ∃n,v=(none,n)/\st5=st'/\I s'/\1<=n/\n+k=nrem/\UpAt lt (kas_rev q2 lo (lo+m)) lo n) ?_ ?_ _ ⟨m,rfl,rfl,hI4,by lia,by rw [dR];show m+(nrem - m)=nrem;lia,hU5⟩)) ?_)
   ·rintro k x v st7 s7 ⟨n,rfl,rfl,hI7,b1,b2,b3⟩;refine aJ (qCc hA h5 (hS6.1.trans hk) (hmem hC5) (show lo+n<_ by rw [hC5.size];lia) (show lo+n - 1<_ by rw [hC5.size];lia) hI7 λs8 hI8=>?_);cases hb:lt (Srt.at' (kas_rev q2 lo (lo+m)) (lo+n)) (Srt.at' (kas_rev q2 lo (lo+m)) (lo+n - 1)) with
    | true=>exact qA5 (λ_=>aL ⟨n,rfl,rfl,hI8,b1,by lia,b3⟩) (λz=>absurd rfl z)
    | false=>exact qA5 (λz=>absurd z aD) (λ_=>aL ⟨n+1,rfl,rfl,hI8,by lia,by lia,b3.snoc O b1 hb⟩)
   ·rintro v st7 s7 ⟨n,rfl,rfl,hI7,b1,b2,b3⟩;exact⟨n,rfl,rfl,hI7,b1,by lia,b3⟩
   rintro v st7 s7 ⟨n,rfl,rfl,hI7,b1,b2,b3⟩;exact aL (h _ n _ _ h5 hS6 hC5 b1 b2 b3 hI7)
end
section
variable{lt:Nat->Nat->Bool}
theorem qVx{p:Array Nat}{lo n:Nat}(h:UpAt lt p lo n)(hs:lo+n<=p.size):Ri lt (p.extract lo (lo+n)).toList:=by
 refine bQ.mpr ?_;intro i j hi hj hij;have sz:(p.extract lo (lo+n)).size=n:=by rw [eW];lia
 rw [aK,sz] at hi hj;have:=h i j (by lia) hj;unfold Srt.at' at this;rw [qCy (by lia),qCy (by lia)] at this;rw [dC,dC,dN,dN];exact this
theorem qY0(O:Srt.Ord lt){p:Array Nat}{lo n:Nat}(h:Ri lt (p.extract lo (lo+n)).toList)(hs:lo+n<=p.size):UpAt lt p lo n:=qIe O hs h
def Chain(lt:Nat->Nat->Bool)(p:Array Nat):Nat->List (Nat×Nat×Nat)->Nat->Prop
 | a,[],b=>a=b
 | a,x::r,b=>x.1=a/\0<x.2.1/\UpAt lt p x.1 x.2.1/\Chain lt p (a+x.2.1) r b
theorem Chain.le{p:Array Nat}:∀ {l:List (Nat×Nat×Nat)} {a b:Nat},Chain lt p a l b->a+l.length<=b
 | [],a,b,h=>by have h:a=b:=h;simp;lia
 | x::r,a,b,h=>by
  obtain⟨_,h2,_,h4⟩:=h;have:=Chain.le h4;rw [bY];lia
theorem UpAt.agree{p p':Array Nat}{lo n:Nat}(h:UpAt lt p lo n)(e:∀i,lo<=i->i<lo+n->Srt.at' p' i=Srt.at' p i):UpAt lt p' lo n:=λi j hij hj=>by
 rw [e _ (by lia) (by lia),e _ (by lia) (by lia)];exact h i j hij hj
theorem Chain.agree{p p':Array Nat}:∀ {l:List (Nat×Nat×Nat)} {a b:Nat},(∀i,a<=i->i<b->Srt.at' p' i=Srt.at' p i)->Chain lt p a l b->Chain lt p' a l b
 | [],a,b,_,h=>h
 | x::r,a,b,e,h=>by
  obtain⟨h1,h2,h3,h4⟩:=h;have hl:=Chain.le h4;exact⟨h1,h2,h3.agree λi i1 i2=>e i (by lia) (by lia),Chain.agree (λi i1 i2=>e i (by lia) i2) h4⟩
theorem Chain.snoc{p:Array Nat}{n w:Nat}(hn:0<n):∀ {l:List (Nat×Nat×Nat)} {a b:Nat},Chain lt p a l b->UpAt lt p b n->Chain lt p a (l ++ [(b,n,w)]) (b+n)
 | [],a,b,h,u=>by
  have h:a=b:=h;subst h;exact⟨rfl,hn,u,rfl⟩
 | x::r,a,b,h,u=>by
  obtain⟨h1,h2,h3,h4⟩:=h;exact⟨h1,h2,h3,Chain.snoc hn h4 u⟩
theorem Chain.get{p:Array Nat}:∀ {l:List (Nat×Nat×Nat)} {a b i:Nat} {x y:Nat×Nat×Nat},Chain lt p a l b->l[i]? = some x->l[i+1]? = some y->y.1=x.1+x.2.1/\0<x.2.1/\0<y.2.1/\UpAt lt p x.1 x.2.1/\UpAt lt p y.1 y.2.1/\y.1+y.2.1<=b/\a<=x.1
 | [],_,_,_,_,_,_,e,_=>by simp at e
 | [_],_,_,0,_,_,_,_,e=>by simp at e
 | x::y::r,a,b,0,x',y',h,e1,e2=>by
  simp at e1 e2;subst e1 e2;obtain⟨h1,h2,h3,h4,h5,h6,h7⟩:=h;have:=Chain.le h7;exact⟨by rw [h4,h1],h2,h5,h3,h6,by lia,by lia⟩
 | x::r,a,b,i+1,x',y',h,e1,e2=>by
  obtain⟨h1,h2,h3,h4⟩:=h;obtain⟨g1,g2,g3,g4,g5,g6,g7⟩:=Chain.get (i:=i) h4 (by simpa using e1) (by simpa using e2);exact⟨g1,g2,g3,g4,g5,g6,by lia⟩
theorem Chain.merge{p p':Array Nat}:∀ {l:List (Nat×Nat×Nat)} {a b i s n w n2 w2:Nat},Chain lt p a l b->l[i]? = some (s,n,w)->l[i+1]? = some (s+n,n2,w2)->(∀j,j<s\/s+n+n2<=j->Srt.at' p' j=Srt.at' p j)->UpAt lt p' s (n+n2)->Chain lt p' a ((l.set i (s,n+n2,w)).eraseIdx (i+1)) b
 | [],_,_,_,_,_,_,_,_,_,e,_,_,_=>by simp at e
 | [_],_,_,0,_,_,_,_,_,_,_,e,_,_=>by simp at e
 | x::y::r,a,b,0,s,n,w,n2,w2,h,e1,e2,ag,up=>by
  simp at e1 e2;subst e1 e2;obtain⟨h1,h2,h3,h4,h5,h6,h7⟩:=h;have h1:s=a:=h1;subst h1;refine⟨rfl,by show 0<n+n2;have:0<n:=h2;lia,up,?_⟩;show Chain lt p' (s+(n+n2)) r b;rw [<-Nat.add_assoc];exact Chain.agree (λi i1 i2=>ag i (.inr i1)) h7
 | x::r,a,b,i+1,s,n,w,n2,w2,h,e1,e2,ag,up=>by
  obtain⟨h1,h2,h3,h4⟩:=h;have e1:r[i]? = some (s,n,w):=by simpa using e1
  have e2:r[i+1]? = some (s+n,n2,w2):=by simpa using e2
  obtain⟨g1,g2,g3,g4,g5,g6,g7⟩:=Chain.get h4 e1 e2;exact⟨h1,h2,h3.agree λj j1 j2=>ag j (.inl (by lia)),Chain.merge h4 e1 e2 ag up⟩
theorem Chain.modi{p:Array Nat}{f:Nat×Nat×Nat->Nat×Nat×Nat}(hf:∀x,(f x).1=x.1/\(f x).2.1=x.2.1):∀ {l:List (Nat×Nat×Nat)} {a b i:Nat},Chain lt p a l b->Chain lt p a (l.modify i f) b
 | [],_,_,_,h=>by simpa using h
 | x::r,a,b,0,h=>by
  obtain⟨h1,h2,h3,h4⟩:=h;rw [List.modify_zero_cons];refine⟨(hf x).1.trans h1,by rw [(hf x).2];exact h2,by rw [(hf x).1,(hf x).2];exact h3,by rw [(hf x).2];exact h4⟩
 | x::r,a,b,i+1,h=>by
  obtain⟨h1,h2,h3,h4⟩:=h;rw [List.modify_succ_cons];exact⟨h1,h2,h3,Chain.modi hf h4⟩
end
section
variable{prog:Program}{w:World}{A:Around}{E:Value->Shared->Prop}{κ : SortKind}{it:Array Keyed}{lt:Nat->Nat->Bool}{I:Shared->Prop}{N:Nat}
theorem qTx{p q:Array Nat}{n:Nat}(h:q.toList.take n=p.toList.take n){i:Nat}(hi:i<n):Srt.at' q i=Srt.at' p i:=by
 refine Srt.at_eq ?_;have:=congrArg (λl=>l[i]?) h;simp only [List.getElem?_take,hi,if_true] at this;simpa using this
theorem qQg{p q:Array Nat}{n:Nat}(h:q.toList.drop n=p.toList.drop n){i:Nat}(hi:n<=i):Srt.at' q i=Srt.at' p i:=by
 refine Srt.at_eq ?_;have:=congrArg (λl=>l[i - n]?) h;simp only [List.getElem?_drop,show n+(i - n)=i by lia] at this;simpa using this
structure Mid(κ : SortKind)(it:Array Keyed)(lt:Nat->Nat->Bool)(p0:Array Nat)(st:SortSt)(lo:Nat)(q:Array Nat):Prop where
 arr:arrOf st=q.map (kas_item it)
 kind:kindOf st = κ
 failed:failedOf st=none
 size:q.size=p0.size
 perm:q.toList.Perm p0.toList
 chain:Chain lt q 0 (pendingOf st).toList lo
theorem qGh(O:Srt.Ord lt)(hA:AskOk prog w A κ it lt I N){p0 q:Array Nat}{st:SortSt}{s:Shared}{lo i:Nat}{Q:Bool->SortSt->Shared->Prop}(hin:∀x∈p0,x<N)(m:Mid κ it lt p0 st lo q)(hlo:lo<=p0.size)(hi:i+1<(pendingOf st).size)(hI:I s)(h:∀q' st' s',Mid κ it lt p0 st' lo q'->(pendingOf st').size+1=(pendingOf st).size->(∀j,lo<=j->Srt.at' q' j=Srt.at' q j)->I s'->Q true st' s'):kasC (model prog w) A E (mergeAt' i) Q st s:=by
 have e1:(pendingOf st)[i]? = some (pendingOf st)[i]:=aZ (by lia);have e2:(pendingOf st)[i+1]? = some (pendingOf st)[i+1]:=aZ hi;obtain⟨x1,x2,x3⟩:∃a b c,(pendingOf st)[i]=(a,b,c):=⟨_,_,_,rfl⟩;generalize hx:(pendingOf st)[i]=x at e1;generalize hy:(pendingOf st)[i+1]=y at e2;obtain⟨sa,na,pw⟩:=x;obtain⟨sb,nb,pw2⟩:=y;obtain⟨g1,g2,g3,g4,g5,g6,g7⟩:=m.chain.get (i:=i) (x:=(sa,na,pw)) (y:=(sb,nb,pw2)) (by simpa using e1) (by simpa using e2);have g1:sb=sa+na:=g1;subst g1;have hsz:sa+na+nb<=q.size:=by
  have g6:sa+na+nb<=lo:=g6;rw [m.size];lia
 refine qNn O hA m.arr m.kind m.failed e1 e2 g2 g3 hsz (λx hx=>hin x (eQ.mpr (m.perm.mem_iff.mp (eQ.mp hx)))) hI (qVx g4 (by lia)) (qVx g5 (by lia)) λp' st' s' a1 a2 a3 a4 a5 a6 a7 a8 a9 hI'=>?_;have ee:(((pendingOf st).setIfInBounds i (sa,na+nb,pw)).eraseIdxIfInBounds (i+1)).toList=((pendingOf st).toList.set i (sa,na+nb,pw)).eraseIdx (i+1):=by simp
 refine h p' st' s' ⟨a1,a2,a3,a5.trans m.size,a9.trans m.perm,?_⟩ ?_ (λj hj=>qQg a7 (by have hbeh:sa+na+nb<=lo:=g6;lia)) hI'
 ·rw [a4];rw [ee];refine m.chain.merge (i:=i) (by simpa using e1) (by simpa using e2) (λj hj=>?_) (qY0 O (by rw [<-Nat.add_assoc];exact a8) (by rw [a5];lia));rcases hj with z | z
  ·exact qTx a6 z
  ·exact qQg a7 z
 ·rw [a4,<-aK,ee,List.length_eraseIdx,List.length_set,aK,if_pos hi];lia
theorem qXp{c:Prop} [Decidable c] {x z:Nat}(h:x+1<z):(if c then x - 1 else x)+1<z:=by
 split <;> lia
theorem qU8(O:Srt.Ord lt)(hA:AskOk prog w A κ it lt I N){p:Array Nat}{st:SortSt}{s:Shared}{Q:Unit->SortSt->Shared->Prop}(hst:arrOf st=p.map (kas_item it))(hk:kindOf st = κ)(hf:failedOf st=none)(hpd:pendingOf st = #[])(hin:∀x∈p,x<N)(h2:1<=p.size)(hI:I s)(h:∀(q:Array Nat) st' s',arrOf st'=q.map (kas_item it)->failedOf st'=none->q.size=p.size->q.toList.Perm p.toList->UpAt lt q 0 p.size->I s'->Q () st' s'):kasC (model prog w) A E sortRuns' Q st s:=by
 have hsz:(arrOf st).size=p.size:=by rw [hst,eZ]
 refine aJ (hJ ?_);have hsz2:((sortPriv% PySem.Builtin.SortState.a) st).size=p.size:=hsz;rw [hsz2];generalize (sortPriv% PySem.Builtin.minRun) p.size p.size 0=mr;refine aJ (qAg (qBd (Q:=λv st' s' => ∃q,v.1=none/\Mid κ it lt p st' p.size q/\I s') (λk v st' s' => ∃q lo,v=(none,lo)/\Mid κ it lt p st' lo q/\lo<=p.size/\p.size<=lo+k/\I s') ⟨p,0,rfl,⟨hst,hk,hf,rfl,.refl _,by rw [hpd];rfl⟩,by lia,by lia,hI⟩ ?_ ?_) ?_)
 ·rintro k x v st1 s1 ⟨q,lo,rfl,m,l1,l2,hI1⟩
  refine qA5 (λhc=>aL ⟨q,rfl,by
   have hc:lo>=p.size:=hc;obtain rfl:lo=p.size:=by lia
   exact m,hI1⟩) (λhc=>?_)
  have hc : ¬lo>=p.size:=hc;have hinq:∀ {q:Array Nat},q.toList.Perm p.toList -> ∀x∈q,x<N:=λ{q} c x hx=>hin x (eQ.mpr (c.mem_iff.mp (eQ.mp hx)));refine aJ (qT1 O hA (lo:=lo) (nrem:=p.size - lo) m.arr m.kind (hinq m.perm) (by lia) (by rw [m.size];lia) hI1 λq1 n st2 s2 b1 b2 b3 b4 b5 b6 hI2=>?_)
  have m1:Mid κ it lt p st2 lo q1:=⟨b1,b2.1.trans m.kind,b2.2.2.1.trans m.failed,b3.size.trans m.size,b3.perm.trans m.perm,by
   rw [b2.2.1]
   exact m.chain.agree λi _ i2=>b3.out i (.inl i2)⟩
  refine qA5 (λhlt=>?_) (λhlt=>?_)
  ·refine aJ (kasC_lift (dA ?_));have hlt:n<(sortPriv% PySem.Builtin.minRun) p.size p.size 0:=hlt;generalize hF:min (p.size - lo) ((sortPriv% PySem.Builtin.minRun) p.size p.size 0)=F at *;refine aJ (qR2 O hA (lo:=lo) (n:=F) (ok:=n) b1 (b2.1.trans m.kind) (hinq m1.perm) (by rw [m1.size];lia) hI2 (by rw [Nat.max_eq_left b4];exact b6) (by lia) λq2 st3 s3 c1 c2 c3 c4 c5 c6 hI3=>?_);refine qA5 (λz=>absurd z (by decide)) (λ_=>?_)
   have mm:Mid κ it lt p st3 lo q2:=⟨c1,c2.1.trans m1.kind,c2.2.2.1.trans m1.failed,c3.trans m1.size,c4.trans m1.perm,by
    rw [c2.2.1]
    exact m1.chain.agree λi _ i2=>c5 i (.inl i2)⟩
   have hu:=c6;have hIX:=hI3;have hn1:1<=F:=by lia
   have hn2:lo+F<=p.size:=by lia
   refine aJ (hJ ?_);rcases hb:(pendingOf st3).back? with _ | ⟨s1',n1',w1'⟩
   ·skip
    refine aJ (fU (aL ⟨q2,lo+F,rfl,⟨mm.arr,mm.kind,mm.failed,mm.size,mm.perm,?_⟩,by lia,by lia,hIX⟩));show Chain lt q2 0 ((pendingOf st3).push (lo,F,0)).toList (lo+F);rw [dL];exact Chain.snoc (by lia) mm.chain hu
   ·skip
    refine aJ (qAg (qBd (Q:=λv st' s'=>v.1=none /\ ∃q,Mid κ it lt p st' lo q/\UpAt lt q lo F/\I s') (λ_ v st' s'=>v=(none,()) /\ ∃q,Mid κ it lt p st' lo q/\UpAt lt q lo F/\I s') ⟨rfl,q2,mm,hu,hIX⟩ ?_ ?_) ?_)
    ·rintro k' x' v' st6 s6 ⟨rfl,q6,m6,u6,hI6⟩;refine aJ (hJ ?_);by_cases hp:(pendingOf st6).size>1
     ·obtain⟨⟨y1,y2,y3⟩,hif⟩:∃x6,(if ((sortPriv% PySem.Builtin.SortState.pending) st6).size>1 then ((sortPriv% PySem.Builtin.SortState.pending) st6)[((sortPriv% PySem.Builtin.SortState.pending) st6).size - 2]? else none)=some x6:=⟨(pendingOf st6)[(pendingOf st6).size - 2]'(by lia),by
       rw [if_pos hp];exact aZ _⟩
      dsimp only;rw [hif];refine qA5 (λ_=>aL ⟨rfl,q6,m6,u6,hI6⟩) (λ_=>?_);refine aJ (qGh O hA hin m6 l1 (show (pendingOf st6).size - 2+1<(pendingOf st6).size by lia) hI6 λq7 st7 s7 m7 _ ag hI7=>?_);exact qA5 (λz=>absurd z (by decide)) (λ_=>aL ⟨rfl,q7,m7,u6.agree λj j1 _=>ag j j1,hI7⟩)
     ·have hif:(if ((sortPriv% PySem.Builtin.SortState.pending) st6).size>1 then ((sortPriv% PySem.Builtin.SortState.pending) st6)[((sortPriv% PySem.Builtin.SortState.pending) st6).size - 2]? else none)=none:=if_neg hp;dsimp only;rw [hif];exact aL ⟨rfl,q6,m6,u6,hI6⟩
    ·rintro v' st6 s6 ⟨rfl,q6,m6,u6,hI6⟩;exact⟨rfl,q6,m6,u6,hI6⟩
    rintro⟨v',u'⟩ st6 s6 ⟨hv',q6,m6,u6,hI6⟩;have hv':v'=none:=hv';subst hv';refine aJ (fU ?_);have ch6:Chain lt q6 0 (((pendingOf st6).modify ((pendingOf st6).size - 1) λx=>(x.1,x.2.1,(sortPriv% PySem.Builtin.power) p.size (2*s1'+n1') (2*s1'+n1'+n1'+F) p.size)).toList) lo:=by
     rw [Array.toList_modify];exact Chain.modi (f:=λx=>(x.1,x.2.1,(sortPriv% PySem.Builtin.power) p.size (2*s1'+n1') (2*s1'+n1'+n1'+F) p.size)) (λx=>⟨rfl,rfl⟩) m6.chain
    refine aJ (fU (aL ⟨q6,lo+F,rfl,⟨m6.arr,m6.kind,m6.failed,m6.size,m6.perm,?_⟩,by lia,by lia,hI6⟩));show Chain lt q6 0 (((pendingOf st6).modify ((pendingOf st6).size - 1) λx=>(x.1,x.2.1,(sortPriv% PySem.Builtin.power) p.size (2*s1'+n1') (2*s1'+n1'+n1'+F) p.size)).push (lo,F,0)).toList (lo+F);rw [dL];exact Chain.snoc (by lia) ch6 u6
  ·have mm:=m1;have hu:=b6;have hIX:=hI2;have hn1:1<=n:=b4;have hn2:lo+n<=p.size:=by lia
   refine aJ (hJ ?_);rcases hb:(pendingOf st2).back? with _ | ⟨s1',n1',w1'⟩
   ·skip
    refine aJ (fU (aL ⟨q1,lo+n,rfl,⟨mm.arr,mm.kind,mm.failed,mm.size,mm.perm,?_⟩,by lia,by lia,hIX⟩));show Chain lt q1 0 ((pendingOf st2).push (lo,n,0)).toList (lo+n);rw [dL];exact Chain.snoc (by lia) mm.chain hu
   ·skip
    refine aJ (qAg (qBd (Q:=λv st' s'=>v.1=none /\ ∃q,Mid κ it lt p st' lo q/\UpAt lt q lo n/\I s') (λ_ v st' s'=>v=(none,()) /\ ∃q,Mid κ it lt p st' lo q/\UpAt lt q lo n/\I s') ⟨rfl,q1,mm,hu,hIX⟩ ?_ ?_) ?_)
    ·rintro k' x' v' st6 s6 ⟨rfl,q6,m6,u6,hI6⟩;refine aJ (hJ ?_);by_cases hp:(pendingOf st6).size>1
     ·obtain⟨⟨y1,y2,y3⟩,hif⟩:∃x6,(if ((sortPriv% PySem.Builtin.SortState.pending) st6).size>1 then ((sortPriv% PySem.Builtin.SortState.pending) st6)[((sortPriv% PySem.Builtin.SortState.pending) st6).size - 2]? else none)=some x6:=⟨(pendingOf st6)[(pendingOf st6).size - 2]'(by lia),by
       rw [if_pos hp];exact aZ _⟩
      dsimp only;rw [hif];refine qA5 (λ_=>aL ⟨rfl,q6,m6,u6,hI6⟩) (λ_=>?_);refine aJ (qGh O hA hin m6 l1 (show (pendingOf st6).size - 2+1<(pendingOf st6).size by lia) hI6 λq7 st7 s7 m7 _ ag hI7=>?_);exact qA5 (λz=>absurd z (by decide)) (λ_=>aL ⟨rfl,q7,m7,u6.agree λj j1 _=>ag j j1,hI7⟩)
     ·have hif:(if ((sortPriv% PySem.Builtin.SortState.pending) st6).size>1 then ((sortPriv% PySem.Builtin.SortState.pending) st6)[((sortPriv% PySem.Builtin.SortState.pending) st6).size - 2]? else none)=none:=if_neg hp;dsimp only;rw [hif];exact aL ⟨rfl,q6,m6,u6,hI6⟩
    ·rintro v' st6 s6 ⟨rfl,q6,m6,u6,hI6⟩;exact⟨rfl,q6,m6,u6,hI6⟩
    rintro⟨v',u'⟩ st6 s6 ⟨hv',q6,m6,u6,hI6⟩;have hv':v'=none:=hv';subst hv';refine aJ (fU ?_);have ch6:Chain lt q6 0 (((pendingOf st6).modify ((pendingOf st6).size - 1) λx=>(x.1,x.2.1,(sortPriv% PySem.Builtin.power) p.size (2*s1'+n1') (2*s1'+n1'+n1'+n) p.size)).toList) lo:=by
     rw [Array.toList_modify];exact Chain.modi (f:=λx=>(x.1,x.2.1,(sortPriv% PySem.Builtin.power) p.size (2*s1'+n1') (2*s1'+n1'+n1'+n) p.size)) (λx=>⟨rfl,rfl⟩) m6.chain
    refine aJ (fU (aL ⟨q6,lo+n,rfl,⟨m6.arr,m6.kind,m6.failed,m6.size,m6.perm,?_⟩,by lia,by lia,hI6⟩));show Chain lt q6 0 (((pendingOf st6).modify ((pendingOf st6).size - 1) λx=>(x.1,x.2.1,(sortPriv% PySem.Builtin.power) p.size (2*s1'+n1') (2*s1'+n1'+n1'+n) p.size)).push (lo,n,0)).toList (lo+n);rw [dL];exact Chain.snoc (by lia) ch6 u6
 ·rintro v st1 s1 ⟨q,lo,rfl,m,l1,l2,hI1⟩;obtain rfl:lo=p.size:=by lia
  exact⟨q,rfl,m,hI1⟩
 rintro⟨v,u⟩ st1 s1 ⟨q,hv,m,hI1⟩;have hv:v=none:=hv;subst hv;refine aJ (qAg (qBd (Q:=λv st' s'=>v.1=none /\ ∃q,Mid κ it lt p st' p.size q/\(pendingOf st').size<=1/\I s') (λk v st' s'=>v=(none,()) /\ ∃q,Mid κ it lt p st' p.size q/\(pendingOf st').size<=k+1/\I s') ⟨rfl,q,m,by have:=m.chain.le;rw [aK] at this;lia,hI1⟩ ?_ ?_) ?_)
 ·rintro k x v st2 s2 ⟨rfl,q2,m2,hs2,hI2⟩;refine aJ (hJ ?_);refine qA5 (λhc=>aL ⟨rfl,q2,m2,hc,hI2⟩) (λhc=>?_);have hc : ¬(pendingOf st2).size<=1:=hc;refine aJ (qGh O hA hin m2 (aE _) ?_ hI2 λq3 st3 s3 m3 hp3 _ hI3=>?_)
  ·exact qXp (show (pendingOf st2).size - 2+1<(pendingOf st2).size by lia)
  ·exact qA5 (λz=>absurd z (by decide)) (λ_=>aL ⟨rfl,q3,m3,by lia,hI3⟩)
 ·rintro v st2 s2 ⟨rfl,q2,m2,hs2,hI2⟩;exact⟨rfl,q2,m2,by lia,hI2⟩
 rintro⟨v2,u2⟩ st2 s2 ⟨hv2,q2,m2,hs2,hI2⟩;have hv2:v2=none:=hv2;subst hv2;refine aL (h q2 st2 s2 m2.arr m2.failed m2.size m2.perm ?_ hI2);have ch:=m2.chain;have hl:(pendingOf st2).toList.length<=1:=by rw [aK];exact hs2
 match hL:(pendingOf st2).toList,hl with
 | [],_ =>
  rw [hL] at ch;have ch:0=p.size:=ch;lia
 | [x],_ =>
  rw [hL] at ch;obtain⟨c1,c2,c3,c4⟩:=ch;have c4:0+x.2.1=p.size:=c4;rw [c1] at c3;rw [show p.size=x.2.1 by lia];exact c3
end
end L2
namespace L2
open PySem PySem.Spec PyProof.Rows
section
variable{X:Cx}
def rIsI(K:PySem.W.Frag):List V->Hp->VK->Prop:=λxs H Q => ∃(x:V) (n:String) (t:Value) (b:Bool),xs = [x,.ty n]/\TyOf K H x t/\PySem.W.kitOne K t (.type n)=some b/\Q (.bl b) H
theorem qT3:CallR X (.builtin "isinstance") (rIsI X.K):=by
 intro pins s σ H xs us Q I r h;obtain⟨x,n,t,b,rfl,ty,e,q⟩:=h;obtain⟨u,u2,rfl,ru,ru2⟩:=vals2 r;cases (show u2=Value.type n from ru2);exact qQ2 I ru ty e λtk=>⟨.bl b,H,I.tok _,rfl,q⟩
end
section
variable{X:Cx}{pins:List (Addr×Obj)}{σ : St}{H:Hp}{s:Shared}
theorem Inv.thaw{d:Addr}{o:Obj}{u:HO}(I:Inv X pins σ H s)(e:H d=some (.frz o u))(h0:∀o u,X.H₀ d≠some (.frz o u)):Inv X pins σ (upd H d u) s:=by
 have ne:∀b,H b=none->b≠d:=λb hb z=>by rw [z,e] at hb;cases hb
 refine⟨I.ok,I.os,I.bare,⟨I.base.keep,I.base.slot,?_,I.base.there,?_,?_,?_⟩,I.loc,I.cell,?_,?_,?_,?_,I.len⟩
 ·intro b ob q n hx;have:=I.base.free b ob q n hx;rw [qA4 (ne b this)];exact this
 ·intro b xs q;have:=I.base.tups b xs q;rw [qA4 (λz=>by rw [z,e] at this;cases this)];exact this
 ·intro b ob v q;have:=I.base.frzs b ob v q;rw [qA4 (λz=>h0 ob v (by rw [<-z];exact q))];exact this
 ·intro b ps q;obtain⟨more,this⟩:=I.base.tbls b ps q;exact⟨more,by rw [qA4 (λz=>by rw [z,e] at this;cases this)];exact this⟩
 ·rw [qA4 (ne _ I.free)];exact I.free
 ·intro x c q;have:=I.freeC x c q;rw [qA4 (ne c this)];exact this
 ·intro p hp;obtain⟨a1,a2,a3⟩:=I.pin p hp;exact⟨a1,by rw [qA4 (ne _ a2)];exact a2,a3⟩
 ·intro b v q
  have st:∀ {b v},ObjOk X.prog X.w H s.heap b v->ObjOk X.prog X.w (upd H d u) s.heap b v:=λ{b v} h=>h.stay (λc w _ q=>q) (λc q=>by
   rw [qA4 (λz=>by rw [z,e] at q;cases q)];exact q) λc xs q=>by
   rw [qA4 (λz=>by rw [z,e] at q;cases q)];exact q
  by_cases hb:b=d
  ·subst hb;rw [qA1] at q;have q:u=v:=bF q;rw [<-q];exact st (show ObjOk X.prog X.w H s.heap b (.frz o u) from I.hok b _ e).2
  ·rw [qA4 hb] at q;exact st (I.hok b v q)
end
end L2
namespace L2
open PySem PySem.W PyProof.Rows
section
variable{prog:Program}{w:World}{A:Around}{E:Value->Shared->Prop}{s:Shared}{κ : SortKind}{lt:Nat->Nat->Bool}
theorem qLt(O:Srt.Ord lt){a:Addr}{us:List Value}{n:Nat}{R:PySem.Fin->Shared->Prop}(g2:s.heap.get? a=some (seqObj "list" us.toArray n))(h2:2<=us.length)(hz:us.length<=sizeLine)
  (hK:∀(h':Heap) (Q:SortKind->Shared->Prop),(∀b o,b≠a->s.heap.get? b=some o->h'.get? b=some o)->Q κ { s with heap:=h' }->wpAny (model prog w) A (keyKind' us.toArray) Q E { s with heap:=h' })
  (hA:∀h':Heap,(∀b o,b≠a->s.heap.get? b=some o->h'.get? b=some o)->AskOk prog w A κ (us.toArray.zip us.toArray) lt (λs'=>s' = { s with heap:=h' }) us.length)
  (h:∀(h':Heap) (c:Nat) (q:Array Nat),(∀b o,b≠a->s.heap.get? b=some o->h'.get? b=some o)->q.toList.Perm (List.range us.length)->UpAt lt q 0 us.length->h'.get? a=some (seqObj "list" (q.toList.map λi=>us.getD i Value.none).toArray c)->R (.done (.ret .none)) { s with heap:=h' }) :
  wpAny (model prog w) A (Builtin.«list.sort» ⟨[.ref a],[]⟩) R E s:=by
 have ha:a<s.heap.objs.size:=aX g2;rw [list_sort_plain];obtain⟨e1,g3⟩:∃e1,(s.heap.update a (Obj.mapSeq λ_ => #[])).get? a=some (seqObj "list" #[] e1):=⟨_,fF g2 λ_ => #[]⟩;refine aA (listItems_at g2 rfl (aA (listUpdate_at g2 rfl (aA (seqEpoch_at g3 rfl (aA (wpAny_newTuple (aA (gE (bT ?_) (aU _))) (by show us.length<=_;exact hz))))) (by rw [aP];exact hz) (aU _))));dsimp only;have hk:∀b o,b≠a->s.heap.get? b=some o->(((s.heap.update a (Obj.mapSeq λ_=>(#[]:Array Value))).push (seqObj "tuple" us.toArray 0)).push (seqObj "list" #[] 0)).get? b=some o:=λb o hb e=>aH _ (aH _ ((cH _ _ (cS hb)).trans e))
 have g4:(((s.heap.update a (Obj.mapSeq λ_=>(#[]:Array Value))).push (seqObj "tuple" us.toArray 0)).push (seqObj "list" #[] 0)).get? a=some (seqObj "list" #[] e1):=aH _ (aH _ g3);show wpAny (model prog w) A _ R E { s with heap:=((s.heap.update a (Obj.mapSeq λ_=>(#[]:Array Value))).push (seqObj "tuple" us.toArray 0)).push (seqObj "list" #[] 0) };generalize ((s.heap.update a (Obj.mapSeq λ_=>(#[]:Array Value))).push (seqObj "tuple" us.toArray 0)).push (seqObj "list" #[] 0)=h1 at hk g4 ⊢;have hn2 : ¬us.toArray.size<2:=by rw [aP];lia
 rw [if_neg hn2,if_neg hn2];refine aA (hK h1 _ hk ?_);have est:arrOf (SortSt.mk' κ (us.toArray.zip us.toArray) #[] 7 none)=(List.toArray (List.range us.length)).map (kas_item (us.toArray.zip us.toArray)):=by
  have e:=kas_range (us.toArray.zip us.toArray);rw [show (us.toArray.zip us.toArray).size=us.length by simp] at e;exact e.symm
 have run:=qU8 O (hA h1 hk) (E:=E) (Q:=λ_ st' s' => ∃q:Array Nat,arrOf st'=q.map (kas_item (us.toArray.zip us.toArray))/\failedOf st'=none/\q.toList.Perm (List.range us.length)/\UpAt lt q 0 us.length/\s' = { s with heap:=h1 }) est rfl rfl rfl (λx hx=>by simpa using hx) (by simp;lia) rfl λq st' s' a1 a2 a3 a4 a5 a6=>⟨q,a1,a2,by simpa using a4,by simpa using a5,a6⟩;refine aA (dE run (λr s' hr=>?_) λ_ _ e=>e);obtain⟨⟨⟩,st'⟩:=r;obtain⟨q,a1,a2,a3,a4,rfl⟩:=hr;dsimp only;have hout:(arrOf st').map (·.2)=List.toArray (q.toList.map λi=>us.getD i Value.none):=kat_snds rfl a1;have hsz:(List.toArray (q.toList.map λi=>us.getD i Value.none)).size=us.length:=by rw [aP,aB,a3.length_eq,bV]
 rw [hout];refine aA (seqEpoch_at g4 rfl (aA (listUpdate_at g4 rfl ?_ (aU _) (by rw [hsz];lia))));rw [a2];simp only [bne_self_eq_false,cQ,if_false];obtain⟨c,g5⟩:∃c,(h1.update a (Obj.mapSeq λ_=>List.toArray (q.toList.map λi=>us.getD i Value.none))).get? a=some (seqObj "list" (List.toArray (q.toList.map λi=>us.getD i Value.none)) c):=⟨_,fF g4 λ_=>_⟩;exact aC (h _ c q (λb o hb e=>(cH _ _ (cS hb)).trans (hk b o hb e)) a3 a4 g5)
end
section
variable{prog:Program}{w:World}{A:Around}{E:Value->Shared->Prop}{s:Shared}{κ : SortKind}{lt:Nat->Nat->Bool}
theorem qH4(O:Srt.Ord lt){l:Addr}{us:List Value}{Q:Value->Shared->Prop}(hl:s.heap.IsList l us.toArray)(h2:2<=us.length)(hz:us.length<=sizeLine)(hK:∀(h':Heap) (R:SortKind->Shared->Prop),(∀b o,s.heap.get? b=some o->h'.get? b=some o)->R κ { s with heap:=h' }->wpAny (model prog w) A.in1.in1 (keyKind' us.toArray) R (λ_ _=>False) { s with heap:=h' })(hA:∀h':Heap,(∀b o,s.heap.get? b=some o->h'.get? b=some o)->AskOk prog w A.in1.in1 κ (us.toArray.zip us.toArray) lt (λs'=>s' = { s with heap:=h' }) us.length)
  (h:∀(h':Heap) (c:Nat) (q:Array Nat),(∀b o,s.heap.get? b=some o->h'.get? b=some o)->q.toList.Perm (List.range us.length)->UpAt lt q 0 us.length->h'.get? (s.heap.objs.size+1)=some (seqObj "list" (q.toList.map λi=>us.getD i Value.none).toArray c)->Q (.ref (s.heap.objs.size+1)) { s with heap:=h' }) :
  wpAny (model prog w) A (call (.builtin "sorted") [.ref l]) Q E s:=by
 refine fT kind_sorted plain_sorted entry_sorted (args_sorted1 _) ?_;unfold Builtin.«sorted»;refine aA (m:=checkCount "sorted" 1 1 _) (aC (aA (collect_list hl (aA (gE ?_ hz)) hz)));generalize hh:(s.heap.push (seqObj "list" #[] 0)).update s.heap.objs.size (Obj.mapSeq (· ++ us.toArray))=h1;have z1:h1.objs.size=s.heap.objs.size+1:=by rw [<-hh,gY,size_push']
 have k1:∀b o,s.heap.get? b=some o->h1.get? b=some o:=λb o e=>by
  have hb:b<s.heap.objs.size:=aX e;rw [<-hh,gF _ _ _ _ (bB hb),fA _ _ _ (bB hb)];exact e
 have g2:(h1.push (seqObj "list" us.toArray 0)).get? h1.objs.size=some (seqObj "list" us.toArray 0):=bA _ rfl;have k2:∀b o,s.heap.get? b=some o->b≠s.heap.objs.size+1/\(h1.push (seqObj "list" us.toArray 0)).get? b=some o:=λb o e=>⟨bB (eK (aX e)),aH _ (k1 b o e)⟩;show wpAny _ _ _ _ _ { s with heap:=h1.push (seqObj "list" us.toArray 0) };rw [z1] at g2 ⊢;refine aA (bT (cX slot_list_sort ⟨_,g2,rfl⟩ entry_list_sort (qLt O (s :={ s with heap:=h1.push (seqObj "list" us.toArray 0) }) g2 h2 hz (λh' R k hR=>?_) (λh' k=>hA h' λb o e=>k b o (k2 b o e).1 (k2 b o e).2) λh' c q k a1 a2 a3=>⟨_,rfl,aC ⟨_,rfl,h h' c q (λb o e=>k b o (k2 b o e).1 (k2 b o e).2) a1 a2 a3⟩⟩) (args_list_sort _)))
 exact dE (hK h' R (λb o e=>k b o (k2 b o e).1 (k2 b o e).2) hR) (λ_ _ x=>x) λ_ _ x=>x.elim
abbrev K4:=(Int×Int)×Bool×Int
def wdS(b:Bool):Str:=if b then "save" else "back"
def wN(b:Bool):Int:=if b then 1 else 0
def lt4(x y:K4):Bool:=decide (x.1.1<y.1.1\/x.1.1=y.1.1/\(x.1.2<y.1.2\/x.1.2=y.1.2/\(wN x.2.1<wN y.2.1\/wN x.2.1=wN y.2.1/\x.2.2<y.2.2)))
theorem ord4(f:Nat->K4):Srt.Ord (λi j=>lt4 (f i) (f j)):=by
 refine⟨λa b h=>?_,λa b c h1 h2=>?_⟩
 ·have h:=of_decide_eq_true h;refine decide_eq_false ?_;generalize wN (f a).2.1=u at *;generalize wN (f b).2.1=v at *;lia
 ·have h1:=of_decide_eq_false h1;have h2:=of_decide_eq_false h2;refine decide_eq_false ?_;generalize wN (f a).2.1=u at *;generalize wN (f b).2.1=v at *;generalize wN (f c).2.1=z at *;lia
def PairAt(h:Heap)(a:Addr)(p q:Int):Prop := ∃(o:Obj) (t1 t2:Tok) (n:Nat),h.get? a=some o/\o.cls = .type "tuple" /\ o.data = .seq #[.int p t1,.int q t2] n
def RowAt(h:Heap)(a:Addr)(k:K4):Prop := ∃(o:Obj) (wa:Addr) (t1 t2:Tok) (n:Nat),h.get? a=some o/\o.cls = .type "tuple" /\ o.data = .seq #[.ref wa,.str (wdS k.2.1) t1,.int k.2.2 t2] n/\PairAt h wa k.1.1 k.1.2
theorem PairAt.key{h:Heap}{a:Addr}{p q:Int}(x:PairAt h a p q):IsTupleKey (qBh prog w) h [.inl p,.inl q] a:=by
 obtain⟨o,t1,t2,n,h1,h2,h3⟩:=x;exact⟨o,_,n,h1,h2,h3,.cons (qE3 prog w p t1) (.cons (qE3 prog w q t2) .nil)⟩
theorem PairAt.ty{a:Addr}{p q:Int}(x:PairAt s.heap a p q):s.TypeIs (.ref a) "tuple" :=by
 obtain⟨o,t1,t2,n,h1,h2,h3⟩:=x;exact⟨o,h1,h2⟩
theorem qJj{a b:Addr}{p q p' q':Int}{R:PySem.Fin->Shared->Prop}(hx:PairAt s.heap a p q)(hy:PairAt s.heap b p' q')(h:R (.done (.ret (.bool (decide (p<p'\/p=p'/\q<q'))))) s):wpAny (model prog w) A (Builtin.«tuple.__lt__» ⟨[.ref a,.ref b],[]⟩) R E s:=by
 have hTb:=hy.ty;obtain⟨oa,t1,t2,na,hoa,_,hda⟩:=hx;obtain⟨ob,t3,t4,nb,hob,_,hdb⟩:=hy;show wpAny _ _ (isInstance (.ref b) (.type "tuple") >>= _) _ _ s;refine aA (wpAny_isInstance hTb isSubtype_tuple_tuple ?_);simp only [Bool.not_true,cQ,if_false];refine aA (wpAny_tupleItemsOf hoa hda ?_);refine aA (wpAny_tupleItemsOf hob hdb ?_);refine aA ?_;refine wpAny_forIn_list _ (λrest r s'=>s=s'/\((r.1=none/\(rest = [(Value.int p t1,Value.int p' t3),(Value.int q t2,Value.int q' t4)]\/(rest = [(Value.int q t2,Value.int q' t4)]/\p=p')\/(rest = []/\p=p'/\q=q'))))) _ ?_ ?_ _ _ ⟨rfl,rfl,.inl rfl⟩
 ·rintro⟨u,v⟩ rest r s' ⟨rfl,hr,z | ⟨z,hxy⟩ | ⟨z,_⟩⟩
  ·cases z;refine aA (gW ?_);by_cases hk:p=p'
   ·rw [show (p == p')=true from beq_iff_eq.mpr hk];simp only [Bool.not_true,cQ,if_false];exact aC ⟨rfl,rfl,.inr (.inl ⟨by first | rfl | trivial,hk⟩)⟩
   ·rw [show (p == p')=false from beq_eq_false_iff_ne.mpr hk];simp only [Bool.not_false,if_true];rw [show decide (p<p'\/p=p'/\q<q')=decide (p<p') from by simp [hk]] at h;refine aA (dA (aA ?_));show wpAny _ _ (compareOp .Lt _ _) _ _ _;refine lt_int ?_;exact aA (aC (aC (aC h)))
  ·cases z;refine aA (gW ?_);by_cases hk:q=q'
   ·rw [show (q == q')=true from beq_iff_eq.mpr hk];simp only [Bool.not_true,cQ,if_false];exact aC ⟨rfl,rfl,.inr (.inr ⟨by first | rfl | trivial,hxy,hk⟩)⟩
   ·rw [show (q == q')=false from beq_eq_false_iff_ne.mpr hk];simp only [Bool.not_false,if_true];rw [show decide (p<p'\/p=p'/\q<q')=decide (q<q') from by simp [hxy]] at h;refine aA (dA (aA ?_));show wpAny _ _ (compareOp .Lt _ _) _ _ _;refine lt_int ?_;exact aA (aC (aC (aC h)))
  ·cases z
 ·rintro⟨r1,r2⟩ s' ⟨rfl,hr,z | ⟨z,_⟩ | ⟨z,hxy,hxy2⟩⟩
  ·cases z
  ·cases z
  ·simp only at hr;subst hr;refine aC ?_;rw [show decide (p<p'\/p=p'/\q<q')=false from by simp [hxy,hxy2]] at h;exact h
theorem qUp{a b:Addr}{p q p' q':Int}{Q:Bool->Shared->Prop}(hu:A.units<cLine)(hx:PairAt s.heap a p q)(hy:PairAt s.heap b p' q')(h:Q (decide (p<p'\/p=p'/\q<q')) s):wpAny (model prog w) A (oneLt' false (.ref a) (.ref b)) Q E s:=by
 refine kat_one _ _ ?_;show wpAny _ _ (richCompare .Lt _ _) _ _ _;exact wpAny_richCompare_same_room (op :=.Lt) hx.ty hy.ty F.slot_tuple_lt (cX F.slot_tuple_lt hx.ty F.entry_tuple_lt (qJj hx hy ⟨_,rfl,(λe=>nomatch e),h⟩) (F.args_tuple_lt_2 _ _)) hu
theorem qXz{b c:Bool}:decide (wdS b=wdS c)=decide (b=c):=by cases b <;> cases c <;> decide
theorem qXy{b c:Bool}:decide ((wdS b).cps.toList<(wdS c).cps.toList)=decide (wN b<wN c):=by cases b <;> cases c <;> decide
theorem qWa{a b:Addr}{x y:K4}{Q:Bool->Shared->Prop}(hu:A.units<cLine)(hx:RowAt s.heap a x)(hy:RowAt s.heap b y)(h:Q (lt4 x y) s):wpAny (model prog w) A (keyLt' (tuples' false) (.ref a) (.ref b)) Q E s:=by
 obtain⟨o1,w1,t1,t2,n1,a1,a2,a3,a4⟩:=hx;obtain⟨o2,w2,t3,t4,n2,b1,b2,b3,b4⟩:=hy;refine kat_lt a1 a3 b1 b3 ?_;show KatLex prog w A false false Q [(.ref w1,.ref w2),(.str (wdS x.2.1) t1,.str (wdS y.2.1) t3),(.int x.2.2 t2,.int y.2.2 t4)] 0 s;refine kat_cons (wpAny_eqBool_tuple hu a4.key b4.key ?_);by_cases e1:x.1=y.1
 ·rw [decide_eq_true (show ([Sum.inl x.1.1,Sum.inl x.1.2]:List Key) = [Sum.inl y.1.1,Sum.inl y.1.2] by rw [e1])];refine kat_yes (kat_cons (wpAny_eqBool_str ?_));rw [qXz];by_cases e2:x.2.1=y.2.1
  ·rw [decide_eq_true e2];refine kat_yes (kat_cons (gW ?_));by_cases e3:x.2.2=y.2.2
   ·rw [show (x.2.2 == y.2.2)=true from beq_iff_eq.mpr e3];refine kat_yes (kat_nil ?_);rw [show lt4 x y=false from decide_eq_false (by rw [e1,e2,e3];lia)] at h;exact h
   ·rw [show (x.2.2 == y.2.2)=false from beq_eq_false_iff_ne.mpr e3];refine kat_no (kat_one _ _ (lt_int ?_));show Q (decide (x.2.2<y.2.2)) s;rw [show lt4 x y=decide (x.2.2<y.2.2) by unfold lt4;rw [e1,e2];simp] at h;exact h
  ·rw [decide_eq_false e2];refine kat_no (kat_one _ _ (PyProof.Rows.lt_str ?_));show Q (decide ((wdS x.2.1).cps.toList<(wdS y.2.1).cps.toList)) s;rw [qXy];have:wN x.2.1≠wN y.2.1:=λz=>e2 (by revert z;cases x.2.1 <;> cases y.2.1 <;> decide);rw [show lt4 x y=decide (wN x.2.1<wN y.2.1) by unfold lt4;rw [e1];simp [this]] at h;exact h
 ·have e1' : ¬(x.1.1=y.1.1/\x.1.2=y.1.2):=λz=>e1 (Prod.ext z.1 z.2);rw [decide_eq_false (show ¬([Sum.inl x.1.1,Sum.inl x.1.2]:List Key) = [Sum.inl y.1.1,Sum.inl y.1.2] from λz=>e1' (by simpa using z))];refine kat_no (qUp hu a4 b4 ?_)
  rw [show lt4 x y=decide (x.1.1<y.1.1\/x.1.1=y.1.1/\x.1.2<y.1.2) by
   unfold lt4;generalize wN x.2.1=u;generalize wN y.2.1=v
   exact decide_eq_decide.mpr (by lia)] at h
  exact h
end
end L2
namespace L2
open PySem PySem.Spec PyProof.Rows
def RowsI(K:PySem.W.Frag)(H:Hp):List V->List K4->Prop:=Paired λv k => ∃a wa,v = .ref a/\SqT K H a [.ref wa,.str (wdS k.2.1),.int k.2.2]/\SqT K H wa [.int k.1.1,.int k.1.2]
def RowsAt(h:Heap):List Value->List K4->Prop:=Paired λu k => ∃a,u=Value.ref a/\RowAt h a k
theorem RowsI.len{K:PySem.W.Frag}{H:Hp}{vs:List V}{ks:List K4}(h:RowsI K H vs ks):vs.length=ks.length:=cY h
theorem RowAt.keeps{h h':Heap}{a:Addr}{k:K4}(kp:∀b o,h.get? b=some o->h'.get? b=some o)(x:RowAt h a k):RowAt h' a k:=by
 obtain⟨o,wa,t1,t2,n,h1,h2,h3,o2,t3,t4,n2,g1,g2,g3⟩:=x;exact⟨o,wa,t1,t2,n,kp _ _ h1,h2,h3,o2,t3,t4,n2,kp _ _ g1,g2,g3⟩
theorem RowsAt.keeps{h h':Heap}(kp:∀b o,h.get? b=some o->h'.get? b=some o):∀ {us:List Value} {ks:List K4},RowsAt h us ks->RowsAt h' us ks
 | _,_,.nil =>.nil
 | _,_,.cons ⟨a,e,x⟩ r =>.cons ⟨a,e,x.keeps kp⟩ (RowsAt.keeps kp r)
theorem RowsAt.get{h:Heap}:∀ {us:List Value} {ks:List K4} (i:Nat),RowsAt h us ks->i<ks.length -> ∃a,us.getD i Value.none=Value.ref a/\RowAt h a (ks.getD i ((0,0),false,0))
 | _,_,_,.nil,hi=>absurd hi (by simp)
 | _,_,0,.cons ⟨a,e,x⟩ _,_=>⟨a,e,x⟩
 | _::us,_::ks,i+1,.cons _ r,hi=>RowsAt.get i r (by simpa using hi)
theorem RowsAt.firsts{h:Heap}{M:Model}:∀ {us:List Value} {ks:List K4},RowsAt h us ks -> ∃fs:List Value,PySem.W.KatTups h us fs/\fs.length=us.length /\ ∀v∈fs,PySem.W.Looks M h (typeOf v) (.type "tuple")
 | _,_,.nil=>⟨[],trivial,rfl,λ_ h=>nomatch h⟩
 | _::us,k::ks,.cons ⟨a,e,o,wa,t1,t2,n,h1,h2,h3,o2,t3,t4,n2,g1,g2,g3⟩ r=>by
  obtain⟨fs,a1,a2,a3⟩:=RowsAt.firsts (M:=M) r;subst e;refine⟨.ref wa::fs,PySem.W.KatTups.cons h1 h2 h3 rfl a1,by simp [a2],λv hv=>?_⟩;rcases aT.mp hv with z | z
  ·subst z;rw [<-g2];exact (PySem.W.Looks.ld g1).andThen .now
  ·exact a3 v z
section
variable{X:Cx}{pins:List (Addr×Obj)}{σ : St}{H:Hp}{s:Shared}
theorem RowsI.at(I:Inv X pins σ H s):∀ {vs:List V} {us:List Value} {ks:List K4},RowsI X.K H vs ks->Vals vs us->RowsAt s.heap us ks
 | _,_,_,.nil,.nil =>.nil
 | _,_,_,.cons ⟨a,wa,e,hq,hw⟩ r,.cons ru rr=>by
  subst e;cases ru;obtain⟨its,rv,⟨o,h1,h2,n,h3⟩,_⟩:=I.tuple hq;obtain⟨its2,rv2,⟨o2,g1,g2,n2,g3⟩,_⟩:=I.tuple hw;cases rv with | cons r1 rv=>cases rv with | cons r2 rv=>cases rv with | cons r3 rv=>cases rv with | nil =>
  cases r1;obtain⟨t1,rfl⟩:=r2;obtain⟨t2,rfl⟩:=r3;cases rv2 with | cons r1 rv=>cases rv with | cons r2 rv=>cases rv with | nil =>
  obtain⟨t3,rfl⟩:=r1;obtain⟨t4,rfl⟩:=r2;exact .cons ⟨a,rfl,o,wa,t1,t2,n,h1,h2,h3,o2,t3,t4,n2,g1,g2,g3⟩ (RowsI.at I r rr)
end
section
variable{X:Cx}
def qWz(K:PySem.W.Frag):List V->Hp->VK->Prop:=λxs H Q => ∃(a:Addr) (vs:List V) (ks:List K4),xs = [.ref a]/\SqL K H a vs/\RowsI K H vs ks /\
 ∀(l:Addr) (ps:List (V×K4)),H l=none->ps.Perm (vs.zip ks)->(ps.map (·.2)).Pairwise (λa b=>lt4 b a=false)->Q (.ref l) (upd H l (.lst (ps.map (·.1))))
theorem qHw(hu:X.A.units+2<cLine):CallR X (.builtin "sorted") (qWz X.K):=by
 intro pins s σ H xs us Q I r h;obtain⟨a,vs,ks,rfl,hq,hT,q⟩:=h;obtain⟨u,rfl,ru⟩:=vals1 r;cases ru;obtain⟨its,rv,pl,big⟩:=I.list hq;have hl:=rv.length;have hlT:=hT.len;by_cases h0:its.length=0
 ·have e0:its = []:=List.eq_nil_of_length_eq_zero h0;subst e0;cases rv;cases hT;refine sorted_ints (ns :=[]) pl.isList .nil (by simp) λout ns' a1 a2 a3=>?_;have:ns' = []:=a2.eq_nil;subst this;obtain⟨e,he⟩:=sortedAll_at s.heap [] out;have ho:out.toList = []:=by cases a1':out.toList with
   | nil=>rfl
   | cons x l=>rw [a1'] at a1;cases a1
  have hout:out = #[]:=by apply Array.toList_inj.mp;rw [ho]
  subst hout;exact⟨.ref (s.heap.objs.size+1),_,I.laid (t':=s.toks) (o :=.lst []) (λb u e=>sortedAll_old e) (cM _) ⟨aU _,[],e,.nil,he⟩,rfl,q _ [] (I.hok.fresh (cM _)) List.Perm.nil List.Pairwise.nil⟩
 ·by_cases h1:its.length=1
  ·obtain⟨v1,rfl⟩:=eI.mp h1;obtain⟨x1,rfl⟩:=eI.mp (hl.trans h1);obtain⟨t1,rfl⟩:=eI.mp (hlT.symm.trans (hl.trans h1));refine qHk pl.isList λh' c k g=>?_;exact⟨.ref (s.heap.objs.size+1),_,I.laid (t':=s.toks) (o :=.lst [x1]) k (cM _) ⟨by show 1<=sizeLine;decide,[v1],c,rv,g⟩,rfl,q _ [(x1,t1)] (I.hok.fresh (cM _)) (List.Perm.refl _) (List.pairwise_singleton _ _)⟩
  ·have TA:=RowsI.at I hT rv;refine qH4 (κ :=tuples' false) (ord4 λi=>ks.getD i ((0,0),false,0)) pl.isList (by lia) (by lia) (λh' R k hR=>?_) (λh' k i j s' C hi hj hs hC=>?_) λh' c p k perm up g=>?_
   ·obtain⟨fs,kt,hfl,hfi⟩:=(TA.keeps k).firsts (M:=model X.prog X.w);exact PySem.W.kat_kind (T :=.type "tuple") (fs:=fs) kt (by lia) hfi rfl hR
   ·subst hs;have TA':=TA.keeps k;obtain⟨a1,b1,b2⟩:=TA'.get i (by lia);obtain⟨a2,c1,c2⟩:=TA'.get j (by lia);unfold PySem.W.kas_cmp;rw [gH rfl,gH rfl,b1,c1];exact qWa (s :={ s with heap:=h' }) (show X.A.units+1+1<cLine by lia) b2 c2 (hC _ rfl)
   ·have hps:(p.toList.map λi=>(vs.getD i .non,ks.getD i ((0,0),false,0))).Perm (vs.zip ks):=by
     rw [<-qEe V.non ((0,0),false,0) vs ks hlT,hl];exact perm.map _
    have e1:(p.toList.map λi=>(vs.getD i V.non,ks.getD i ((0,0),false,0))).map (·.1)=p.toList.map λi=>vs.getD i V.non:=by rw [cU];rfl
    have hlen:(p.toList.map λi=>vs.getD i V.non).length<=sizeLine:=by
     rw [aB,perm.length_eq,bV];lia
    refine⟨.ref (s.heap.objs.size+1),_,I.laid (t':=s.toks) (o :=.lst (p.toList.map λi=>vs.getD i V.non)) k (cM _) ⟨hlen,_,c,qHz rv p.toList,g⟩,rfl,?_⟩;have:=q _ _ (I.hok.fresh (cM _)) hps ?_
    ·rw [e1] at this;exact this
    ·rw [cU,bQ];intro i j hi hj hij;have hp:p.toList.length=its.length:=by rw [perm.length_eq,bV]
     have hj':j<p.size:=by simpa using hj
     have hi':i<p.size:=by simpa using hi
     have u:=up i j (dX hij) (by simp at hp;lia);have g1:Srt.at' p (0+i)=p[i]:=by simp [Srt.at',Array.getD,hi']
     have g2:Srt.at' p (0+j)=p[j]:=by simp [Srt.at',Array.getD,hj']
     rw [g1,g2] at u;simpa using u
end
theorem qF3{h h':Heap}(k:∀b u,h.get? b=some u->h'.get? b=some u):∀ {us:List Value} {ts:List (List Int)},Srt.TupAt h us ts->Srt.TupAt h' us ts
 | _,_,.nil =>.nil
 | _,_,.cons ⟨a,o,xs,n,e,h1,h2,h3,h4⟩ r =>.cons ⟨a,o,xs,n,e,k a o h1,h2,h3,h4⟩ (qF3 k r)
theorem qLi{X:Cx}:CallR X (.builtin "sorted") (qWw X.K):=by
 intro pins s σ H xs us Q I r h;obtain⟨a,vs,ts,rfl,hq,hT,hne,hz,q⟩:=h;obtain⟨u,rfl,ru⟩:=vals1 r;cases ru;obtain⟨its,rv,pl,big⟩:=I.list hq;have hl:=rv.length;have hlT:=hT.len;by_cases h0:its.length=0
 ·have e0:its = []:=List.eq_nil_of_length_eq_zero h0;subst e0;cases rv;cases hT;refine sorted_ints (ns :=[]) pl.isList .nil (by simp) λout ns' a1 a2 a3=>?_;have:ns' = []:=a2.eq_nil;subst this;obtain⟨e,he⟩:=sortedAll_at s.heap [] out;have ho:out.toList = []:=by cases a1':out.toList with
   | nil=>rfl
   | cons x l=>rw [a1'] at a1;cases a1
  have hout:out = #[]:=by apply Array.toList_inj.mp;rw [ho]
  subst hout;exact⟨.ref (s.heap.objs.size+1),_,I.laid (t':=s.toks) (o :=.lst []) (λb u e=>sortedAll_old e) (cM _) ⟨aU _,[],e,.nil,he⟩,rfl,q _ [] (I.hok.fresh (cM _)) List.Perm.nil List.Pairwise.nil⟩
 ·by_cases h1:its.length=1
  ·obtain⟨v1,rfl⟩:=eI.mp h1;obtain⟨x1,rfl⟩:=eI.mp (hl.trans h1);obtain⟨t1,rfl⟩:=eI.mp (hlT.symm.trans (hl.trans h1));refine qHk pl.isList λh' c k g=>?_;exact⟨.ref (s.heap.objs.size+1),_,I.laid (t':=s.toks) (o :=.lst [x1]) k (cM _) ⟨by show 1<=sizeLine;decide,[v1],c,rv,g⟩,rfl,q _ [(x1,t1)] (I.hok.fresh (cM _)) (List.Perm.refl _) (List.pairwise_singleton _ _)⟩
  ·have TA:=TupI.at I hT rv;refine qH4 (κ :=tuples' (Value.type "int" != Value.type "tuple")) (Srt.lex_ord ts) pl.isList (by lia) (by lia) (λh' R k hR=>?_) (λh' k i j s' C hi hj hs hC=>?_) λh' c p k perm up g=>?_
   ·obtain⟨fs,kt,hfl,hfi⟩:=(qF3 k TA).firsts hne;refine PySem.W.kat_kind (T :=.type "int") (fs:=fs) kt (by lia) (λv hv=>?_) rfl hR;obtain⟨i,t,rfl⟩:=hfi v hv;exact PySem.W.Looks.of_pure rfl
   ·subst hs;have TA':=qF3 k TA;obtain⟨a1,o1,xs1,k1,b1,b2,b3,b4⟩:=TA'.get i (by lia);obtain⟨a2,o2,xs2,k2,c1,c2,c3,c4⟩:=TA'.get j (by lia);unfold PySem.W.kas_cmp;rw [gH rfl,gH rfl,b1,c1]
    exact PySem.W.kat_lt (s :={ s with heap:=h' }) b2 b3 c2 c3 (Srt.katlex b4 c4 (by
     have e1:=b4.length;have e2:=c4.length;simp only [aK] at e1 e2
     rw [e1,e2]) (hC _ rfl))
   ·have hps:(p.toList.map λi=>(vs.getD i .non,ts.getD i [])).Perm (vs.zip ts):=by
     rw [<-qEe V.non [] vs ts hlT,hl];exact perm.map _
    have e1:(p.toList.map λi=>(vs.getD i V.non,ts.getD i [])).map (·.1)=p.toList.map λi=>vs.getD i V.non:=by rw [cU];rfl
    have hlen:(p.toList.map λi=>vs.getD i V.non).length<=sizeLine:=by
     rw [aB,perm.length_eq,bV];lia
    refine⟨.ref (s.heap.objs.size+1),_,I.laid (t':=s.toks) (o :=.lst (p.toList.map λi=>vs.getD i V.non)) k (cM _) ⟨hlen,_,c,qHz rv p.toList,g⟩,rfl,?_⟩;have:=q _ _ (I.hok.fresh (cM _)) hps ?_
    ·rw [e1] at this;exact this
    ·rw [cU,bQ];intro i j hi hj hij;have hp:p.toList.length=its.length:=by rw [perm.length_eq,bV]
     have hj':j<p.size:=by simpa using hj
     have hi':i<p.size:=by simpa using hi
     have u:=up i j (dX hij) (by simp at hp;lia);have g1:Srt.at' p (0+i)=p[i]:=by simp [Srt.at',Array.getD,hi']
     have g2:Srt.at' p (0+j)=p[j]:=by simp [Srt.at',Array.getD,hj']
     rw [g1,g2] at u;simpa using u
theorem qT6(d:Deed)(b:Int):wrB b d=true↔wr d=some b:=by
 cases d <;> simp [wrB,wr,darg] <;> exact decide_eq_true_iff
theorem qLl{m works:Int}{wk:List Blk}(h:WorkOk m works wk):boxTo wk 8=boxes wk:=by
 refine qOr ?_ (qF1 wk) λb=>?_
 ·unfold boxTo;rw [fB];exact (List.Pairwise.filter _ fI).imp λ{a b} h=>by lia
 ·rw [qPq,qJr h];unfold qFy;constructor
  ·intro ⟨_,hne⟩;obtain⟨y,hy⟩:∃y,y∈wrTo wk b wk.length:=by
    cases e:wrTo wk b wk.length with
    | nil=>exact absurd e hne
    | cons y r=>exact⟨y,aR ..⟩
   obtain⟨n,rfl,hn,hw⟩:=mem_wrTo.mp hy;unfold hasW at hw;rw [aF hn] at hw;have hw:wrote b wk[n].ds=true:=hw;obtain⟨d,hd,e⟩:=cK.mp hw;refine dH.mpr ⟨wk[n],dZ hn,cP.mpr ⟨d,hd,?_⟩⟩;exact (qT6 d b).mp e
  ·intro hb;have hr:=qCs h (by unfold qFy;exact hb);refine⟨by lia,λe=>?_⟩;obtain⟨blk,hk,hb⟩:=dH.mp hb;obtain⟨d,hd,e2⟩:=cP.mp hb;obtain⟨n,hn,en⟩:=bN hk
   have:(n:Int)∈wrTo wk b wk.length:=mem_wrTo.mpr ⟨n,rfl,hn,by
    unfold hasW;rw [aF hn,en]
    exact cK.mpr ⟨d,hd,(qT6 d b).mpr e2⟩⟩
   rw [e] at this;cases this
theorem qMu{m works y:Int}{wk:List Blk}(h:WorkOk m works wk)(hy:y∈boxes wk):0<=y/\y<8:=qCs h ((qJr h).mp hy)
def ListsAt(H:Hp)(as:List Addr)(ls:List (List Int)):Prop:=Paired (λa ns=>H a=some (.lst (ns.map V.int))) as ls
theorem ListsAt.mono{H H':Hp}{as:List Addr}{ls:List (List Int)}(h:ListsAt H as ls)(k:∀a∈as,∀o,H a=some o->H' a=some o):ListsAt H' as ls:=by
 unfold ListsAt at h ⊢
 induction h with
 | nil=>exact .nil
 | @cons a n as ns r _ ih=>exact .cons (k a (aR ..) _ r) (ih λb hb o e=>k b (aS _ hb) o e)
theorem ListsAt.snoc{H:Hp}{as:List Addr}{ls:List (List Int)}{a:Addr}{ns:List Int}(h:ListsAt H as ls)(e:H a=some (.lst (ns.map V.int))):ListsAt H (as ++ [a]) (ls ++ [ns]):=hU h e
theorem ListsAt.get{H:Hp}{as:List Addr}{ls:List (List Int)}(h:ListsAt H as ls):∀ {i:Nat} {a:Addr},as[i]? = some a -> ∃ns,ls[i]? = some ns/\H a=some (.lst (ns.map V.int)):=by
 unfold ListsAt at h
 induction h with
 | nil=>intro i a e;simp at e
 | @cons a n as ns r _ ih =>
  intro i b e;cases i with
  | zero=>simp at e;subst e;exact⟨n,rfl,r⟩
  | succ i=>simpa using ih (i:=i) (a:=b) (by simpa using e)
def planK(bs:List Int)(as:List Addr):List (Key×V):=(bs.zip as).map λp=>(Sum.inl p.1,V.ref p.2)
theorem qGc{bs:List Int}{as:List Addr}(h:as.length=bs.length):(planK bs as).length=bs.length:=by unfold planK;rw [aB,List.length_zip];lia
theorem qM3{bs:List Int}{as:List Addr}{j:Nat}{k:Key}{v:V}(h:(planK bs as)[j]? = some (k,v)):∃b a,bs[j]? = some b/\as[j]? = some a/\k=Sum.inl b/\v=V.ref a:=by
 unfold planK at h;rw [aW] at h;cases e:(bs.zip as)[j]? with
 | none=>rw [e] at h;cases h
 | some p =>
  rw [e] at h;obtain⟨e1,e2⟩:=gU.mp e;have h:(Sum.inl p.1,V.ref p.2)=(k,v):=bF h;exact⟨p.1,p.2,e1,e2,(congrArg Prod.fst h).symm,(congrArg Prod.snd h).symm⟩
theorem qHi:∀ {bs:List Int} {as:List Addr},as.length=bs.length->(planK bs as).map (·.1)=bs.map Sum.inl
 | [],[],_=>rfl
 | [],_::_,h=>by cases h
 | _::_,[],h=>by cases h
 | b::bs,a::as,h=>by
  have:=qHi (bs:=bs) (as:=as) (by simpa using h);unfold planK at this ⊢;rw [List.zip_cons_cons,bG,bG,bG,this]
theorem qNe{bs:List Int}{as:List Addr}{b:Int}{a:Addr}(h:as.length=bs.length)(hb:b∉bs):putK (planK bs as) (Sum.inl b) (V.ref a)=planK (bs ++ [b]) (as ++ [a]):=by
 unfold putK;rw [if_neg]
 ·unfold planK;rw [List.zip_append h.symm,aN];rfl
 ·intro z;obtain⟨p,hp,e⟩:=cK.mp z;have e:p.1=Sum.inl b:=of_decide_eq_true e;have:p.1∈(planK bs as).map (·.1):=bH.mpr ⟨p,hp,rfl⟩;rw [qHi h,e] at this;obtain⟨c,hc,e2⟩:=bH.mp this;have:c=b:=Sum.inl.inj e2;exact hb (this▸hc)
theorem qGb:∀ {bs:List Int} {as:List Addr} {j:Nat} {b:Int} {a:Addr},bs.Nodup->bs[j]? = some b->as[j]? = some a->valV (planK bs as) (Sum.inl b)=some (V.ref a)
 | [],_,_,_,_,_,e,_=>by simp at e
 | _::_,[],_,_,_,_,_,e=>by simp at e
 | c::bs,d::as,0,b,a,_,e1,e2=>by
  simp at e1 e2;subst e1 e2;simp [planK,valV]
 | c::bs,d::as,j+1,b,a,hn,e1,e2=>by
  have hn:=fY.mp hn;have e1:bs[j]? = some b:=by simpa using e1
  have ne:c≠b:=λz=>hn.1 (z▸aO e1);have:=qGb hn.2 e1 (show as[j]? = some a by simpa using e2);unfold planK valV at this ⊢;rw [List.zip_cons_cons,bG,List.find?_cons_of_neg]
  ·exact this
  ·simp [ne]
structure PlanAt(H:Hp)(d:Addr)(bs:List Int)(as:List Addr)(ls:List (List Int)):Prop where
 dict:H d=some (.dK (planK bs as))
 lists:ListsAt H as ls
 len:as.length=bs.length
 nd:as.Nodup
 nda:d∉as
theorem PlanAt.snoc{G G2:Hp}{d la:Addr}{bs:List Int}{as:List Addr}{ls:List (List Int)}{b:Int}{ns:List Int}(h:PlanAt G d bs as ls)(e:Ext [] G G2)(h0:G la=none)(h1:G2 la=some (.lst (ns.map V.int)))(hb:b∉bs):PlanAt (upd G2 d (.dK (putK (planK bs as) (Sum.inl b) (.ref la)))) d (bs ++ [b]) (as ++ [la]) (ls ++ [ns]):=by
 have hla:la≠d:=λz=>by rw [z,h.dict] at h0;cases h0
 have hin:∀a∈as,∃o,G a=some o:=λa ha=>by
  obtain⟨i,hi,e⟩:=bN ha;obtain⟨_,_,z⟩:=h.lists.get (i:=i) (a:=a) (by rw [aF hi,e]);exact⟨_,z⟩
 refine⟨by rw [qA1,qNe h.len hb],?_,by simp [h.len],?_,?_⟩
 ·refine ListsAt.snoc (h.lists.mono λa ha o q=>?_) (by rw [qA4 hla];exact h1);rw [qA4 (show a≠d from λz=>h.nda (z▸ha))];exact e _ _ (by simp) q
 ·refine eM.mpr ⟨h.nd,by simp,λa ha b hb z=>?_⟩;have hb:b=la:=by simpa using hb
  obtain⟨o,ho⟩:=hin a ha;rw [z,hb,h0] at ho;cases ho
 ·intro z;rcases aM.mp z with z | z
  ·exact h.nda z
  ·exact hla (by simpa using z:d=la).symm
def qM4(bs:List Int)(ls:List (List Int)):PyData :=.dict ((bs.zip ls).map λp=>(.int p.1,intsD p.2))
structure Fit(d:PyData)(W D:Nat):Prop where
 sh:d.showable=true
 lv:d.leavesShort 14=true
 we:d.weight<=W
 de:d.depth<=D
theorem Fit.mono{d:PyData}{W D W' D':Nat}(h:Fit d W D)(h1:W<=W')(h2:D<=D'):Fit d W' D':=⟨h.sh,h.lv,cA h.we h1,cA h.de h2⟩
theorem Fit.of{d:PyData}{n D:Nat}(h:tame d=true)(hc:cells d<=n)(hd:d.depth<=D):Fit d (46*n+45) D:=⟨qG1 d h,PyData.leavesShort_of_canLay0 14 d (qFk d h) (qEm d h),cA (qDy d h) (by lia),hd⟩
def FitS(ds:List PyData)(W D:Nat):Prop:=PyData.showableAll ds=true/\PyData.leavesShortAll 14 ds=true/\PyData.weightAll ds<=W/\PyData.depthAll ds<=D
theorem FitS.nil(D:Nat):FitS [] 0 D:=⟨rfl,rfl,aE _,aU _⟩
theorem FitS.cons{d:PyData}{ds:List PyData}{W V D:Nat}(h:Fit d W D)(t:FitS ds V D):FitS (d::ds) (W+1+V) D:=by
 obtain⟨t1,t2,t3,t4⟩:=t;have h3:=h.we;have h4:=h.de;refine⟨?_,?_,?_,?_⟩
 ·simp only [PyData.showableAll,h.sh,t1,eY]
 ·simp only [PyData.leavesShortAll,h.lv,t2,eY]
 ·simp only [PyData.weightAll];lia
 ·simp only [PyData.depthAll];lia
theorem FitS.list{ds:List PyData}{W D:Nat}(t:FitS ds W D):Fit (.list ds) W (D+1):=by
 obtain⟨t1,t2,t3,t4⟩:=t;refine⟨?_,?_,?_,?_⟩
 ·simpa only [PyData.showable] using t1
 ·simpa only [PyData.leavesShort] using t2
 ·simpa only [PyData.weight] using t3
 ·simp only [PyData.depth];lia
theorem Fit.shown{d:PyData}{W D:Nat}(h:Fit d W D)(hW:W<=1000000)(hD:D<=100):d.showable=true/\d.depth<=100/\d.shown.length<=sizeLine:=by
 refine⟨h.sh,cA h.de hD,?_⟩;have h1:=PyData.shown_le 14 (by decide) d h.lv;have h2:=h.we;have e:sizeLine=16777216:=by decide
 have h3:(14+2)*d.weight<=16*1000000:=gJ (by decide) (by lia);lia
def FitK(kvs:List (PyData×PyData))(W D:Nat):Prop:=PyData.showableKv kvs=true/\PyData.leavesShortKv 14 kvs=true/\PyData.weightKv kvs<=W/\PyData.depthKv kvs<=D
theorem FitK.cons{k d:PyData}{kvs:List (PyData×PyData)}{U W V D:Nat}(hk:Fit k U D)(h:Fit d W D)(t:FitK kvs V D):FitK ((k,d)::kvs) (U+W+2+V) D:=by
 obtain⟨t1,t2,t3,t4⟩:=t;have h3:=h.we;have h4:=h.de;have k3:=hk.we;have k4:=hk.de;refine⟨?_,?_,?_,?_⟩
 ·simp only [PyData.showableKv,h.sh,hk.sh,t1,eY]
 ·simp only [PyData.leavesShortKv,h.lv,hk.lv,t2,eY]
 ·simp only [PyData.weightKv];lia
 ·simp only [PyData.depthKv];lia
theorem FitK.map{α : Type}{g f : α -> PyData}{U W D:Nat}:∀ {l:List α},(∀x∈l,Fit (g x) U D/\Fit (f x) W D)->FitK (l.map λx=>(g x,f x)) ((U+W+2)*l.length) D
 | [],_=>⟨rfl,rfl,aE _,aU _⟩
 | x::r,h=>by
  obtain⟨h1,h2⟩:=h x (aR ..);have t:=FitK.map (l:=r) λy hy=>h y (aS _ hy);have e:(U+W+2)*(x::r).length=U+W+2+(U+W+2)*r.length:=by rw [bY,Nat.mul_add,Nat.mul_one,Nat.add_comm]
  rw [e];exact .cons h1 h2 t
theorem FitK.dict{kvs:List (PyData×PyData)}{W D:Nat}(t:FitK kvs W D):Fit (.dict kvs) W (D+1):=by
 obtain⟨t1,t2,t3,t4⟩:=t;refine⟨?_,?_,?_,?_⟩
 ·simpa only [PyData.showable] using t1
 ·simpa only [PyData.leavesShort] using t2
 ·simpa only [PyData.weight] using t3
 ·simp only [PyData.depth];lia
theorem qVh{i:Int}(h1 : -(10^12)<=i)(h2:i<=10^12):Fit (.int i) 45 2:=(Fit.of (n:=0) (D:=2) (qRd h1 h2) (aE _) (by show 0<=2;lia)).mono (by lia) (by lia)
theorem qRw{bs:List Int}{ls:List (List Int)}(hb:∀b∈bs,0<=b/\b<8)(hbl:bs.length<=8)(hl:∀ns∈ls,(∀n∈ns,0<=n/\n<=100)/\ns.length<=16):Fit (qM4 bs ls) 10000 3:=by
 have:=(FitK.map (l:=bs.zip ls) (g:=λp =>.int p.1) (f:=λp=>intsD p.2) (U:=45) (W:=46*16+45) (D:=2) λp hp=>by
  have h1:=hb _ (List.of_mem_zip hp).1;obtain⟨h2,h3⟩:=hl _ (List.of_mem_zip hp).2;refine⟨qVh (by lia) (by lia),?_⟩;obtain⟨t1,t2,t3⟩:=qEh (ns:=p.2) (λn hn=>by have:=h2 n hn;lia) (by lia);refine Fit.of t1 ?_ ?_
  ·have d2:=qBn (l:=p.2) (f:=PyData.int) (n:=0) λn hn=>aE _;simp only [intsD,cells];lia
  ·have d3:=qC4 (l:=p.2) (f:=PyData.int) (n:=0) λn hn=>aE _;show PyData.depthAll (p.2.map PyData.int)+1<=2
   lia).dict
 refine this.mono ?_ (by lia);have e:(bs.zip ls).length<=8:=by rw [List.length_zip];lia
 calc (45+(46*16+45)+2)*(bs.zip ls).length<=828*8:=gJ (by decide) e
  _<=10000:=by decide
section
variable{X:Cx}{elts:List Expr}{k:Nat}{tpos:Pos}
variable{X:Cx}{elt tg iter tg2 iter2:Expr}{ifs ifs2:List Expr}{scope:Scope}{own:List Str}{cap:List Nat}{wi wi2:TI}{g g2:TG}{tts tts2:List TT}{te:TE}{pos:Pos}
theorem qX4{i:Nat}{x:Str}{px spos:Pos}(own:List Str)(cap:List Nat)(hc:X.calm=true)(S:CompScope X own cap scope)(hN:X.N.Nodup)(hix:X.N[i]? = some x)(hx:Loc X.env.scope x)(hi:PI X tg iter wi)(hg:∀cl s H ex,PG (qAm X own cap scope cl s H ex) tg g)(ht:∀cl s H ex,PTs (qAm X own cap scope cl s H ex) ifs tts)(hi2:∀cl s H ex,PI (qAm X own cap scope cl s H ex) tg2 iter2 wi2)(hg2:∀cl s H ex,PG (qAm X own cap scope cl s H ex) tg2 g2)(ht2:∀cl s H ex,PTs (qAm X own cap scope cl s H ex) ifs2 tts2)(he:∀cl s H ex,PE (qAm X own cap scope cl s H ex) elt te)(hsw:swapsWith (.ListComp elt [⟨tg,iter,ifs,0⟩,⟨tg2,iter2,ifs2,0⟩] scope pos) (some (.Name x px)) spos.line X.env=pure true:=by rfl)(hs:∀x,foldedSetIterable iter X.env x=pure x:=by intro _;rfl)(hs2:∀cl s H ex x,foldedSetIterable iter2 (qAm X own cap scope cl s H ex).env x=pure x:=by intros;rfl)(hf:X.fn x=true\/X.env.scope.names.lookup x=some .local:=by first | exact .inl rfl | exact .inr rfl | assumption):PS X (.Assign [.Name x px] (.ListComp elt [⟨tg,iter,ifs,0⟩,⟨tg2,iter2,ifs2,0⟩] scope pos) spos) (tAsg (tComp own cap (.lst []) wi g tts λl=>bNext wi2 g2 tts2 (eApp te l)) (gName i)):=by
 intro pins s σ H D I h;rw [exec_Assign_Name_used _ _ _ _ hsw];refine aA (eO (aA ?_));show wpAny _ X.A (do let _ <-comprehension (.ListComp elt [⟨tg,iter,ifs,0⟩,⟨tg2,iter2,ifs2,0⟩] scope pos) scope X.env _ (newList []) false (eval iter X.env) (some (assign (.Name x px) X.env))) _ _ s
 refine aA (thn (qMo (behOf:=qIy (.ListComp elt [⟨tg,iter,ifs,0⟩,⟨tg2,iter2,ifs2,0⟩] scope pos) iter2 1) hc S rfl hi qJ2 (λ_ _ _ _ _=>qIt) hg ht
  (λcl s H ex l=>qUo rfl hc qIs (hi2 cl s H ex) (hg2 cl s H ex) (ht2 cl s H ex) (qL9 (he cl s H ex)) (hs2 cl s H ex)) hs hN hix hx hf pins s σ H D I h) λ_ s' hq=>?_)
 exact aC (aC hq)
end
theorem qRb{H:Hp}{a:Addr}{o:HO}(h:H a=some o):upd H a o=H:=by
 funext b
 by_cases z:b=a
 ·subst z;rw [qA1,h]
 ·rw [qA4 z]
section
variable{X:Cx}{tg:Expr}
def qTp(td:TE):TI:=λσ H R=>td σ H λx H1 => ∃d kvs,x = .ref d/\Rd H1 d (.dK kvs) /\ ∀o,R (Itd d o kvs) (upd H1 d (.frz o (.dK kvs)))
theorem qM5{l:Expr}{tl:TE}(hl:PE X l tl):PI X tg l (qTp tl):=by
 intro pins s σ H R I h;refine thn (hl pins s σ H _ I h) λv s1 hq_=>?_;obtain⟨x,H1,I1,r1,q1⟩:=hq_;obtain⟨d,kvs,e,hq,q⟩:=q1;subst e;cases r1;obtain⟨o,z,hs,vs,rel,es,ep,ho,h2,h3,h4,I2⟩:∃o,kvs.length<=sizeLine/\(d == sysModules)=false /\ ∃vs,KV kvs vs /\ ∃es ep,s1.heap.get? d=some o/\o.ExactDict/\o.data = .dict es ep/\(es.toList.map λe=>(e.key,e.val),0)=(es.toList.map λe=>(e.key,e.val),0)/\Inv X pins σ (upd H1 d (.frz o (.dK kvs))) s1:=by
  rcases hq with hq | ⟨o,hq⟩
  ·obtain⟨z,hs,vs,rel,o,es,ep,ho,h2,h3,h4⟩:=qSx I1.hok hq;exact⟨o,z,hs,vs,rel,es,ep,ho,h2,h3,rfl,I1.freeze hq True.intro ho λH'=>⟨z,hs,vs,rel,o,es,ep,ho,h2,h3,h4⟩⟩
  ·obtain⟨ho,z,hs,vs,rel,o',es,ep,ho',h2,h3,h4⟩:=(show ObjOk X.prog X.w H1 s1.heap d (.frz o (.dK kvs)) from I1.hok d _ hq);rw [ho] at ho';cases ho';exact⟨o,z,hs,vs,rel,es,ep,ho,h2,h3,rfl,by rw [qRb hq];exact I1⟩
 obtain⟨z',hs',vs',rel',dd⟩:=qQ6 I2.hok (qA1) h3;refine wpAny_pyIter_dict hs' dd ?_;refine⟨s1.heap.objs.size,[s1.heap.objs.size],_,_,_,rfl,I2.kept (t':=s1.toks) λb ob e=>aH _ e,qO8 d _ o kvs h3,⟨_,bA _ rfl,rfl,by rw [rel'.length];rfl⟩,λb hb=>?_,q o⟩;have e:b=s1.heap.objs.size:=by simpa using hb
 subst e;exact I2.fpOk (aE _) (I2.hok.fresh (aE _))
theorem qLx{te:TE}{σ : St}{H:Hp}{R:It->Hp->Prop}(h:te σ H λx H1 => ∃d kvs,x = .ref d/\Rd H1 d (.dK kvs) /\ ∀o,R (Itd d o kvs) (upd H1 d (.frz o (.dK kvs)))):qTp te σ H R:=h
def sThaw(H0:Hp)(ts:TS):TS:=λD σ H=>ts { D with nx:=λσ1 H1 => ∃d o u,H1 d=some (.frz o u)/\(∀o u,H0 d≠some (.frz o u))/\D.nx σ1 (upd H1 d u) } σ H
theorem qP3{st:Stmt}{ts:TS}(h:PS X st ts):PS X st (sThaw X.H₀ ts):=by
 intro pins s σ H D I q;refine thn (h pins s σ H _ I q) λf s' r=>?_;cases f with
 | next =>
  obtain⟨σ',H',I',d,o,u,e1,e2,r⟩:=r;exact⟨σ',_,I'.thaw e1 e2,r⟩
 | brk=>exact r
 | cont=>exact r
 | ret u=>exact r
theorem qOw{H0:Hp}{ts:TS}{D:Ends}{σ : St}{H:Hp}(h:ts { D with nx:=λσ1 H1 => ∃d o u,H1 d=some (.frz o u)/\(∀o u,H0 d≠some (.frz o u))/\D.nx σ1 (upd H1 d u) } σ H):sThaw H0 ts D σ H:=h
end
section
variable{X:Cx}
theorem isIK(K:PySem.W.Frag)(hK:X.K=K):CallR X (.builtin "isinstance") (rIsI K):=hK▸qT3
end
theorem qEv{α β : Type}{R : α -> β -> Prop}{as:List α}{bs:List β}(h:Paired R as bs):∀ {i:Nat} {a : α},as[i]? = some a -> ∃b,bs[i]? = some b/\R a b:=by
 induction h with
 | nil=>intro i a e;simp at e
 | @cons a n as ns r _ ih =>
  intro i b e;cases i with
  | zero=>simp at e;subst e;exact⟨n,rfl,r⟩
  | succ i=>simpa using ih (i:=i) (a:=b) (by simpa using e)
theorem Ext.dropAll{ts:List Addr}{H H1 H2:Hp}(a:Ext [] H H1)(b:Ext ts H1 H2)(h:∀x∈ts,H x=Option.none):Ext [] H H2:=λx o _ e=>b x o (λz=>by rw [h x z] at e;cases e) (a x o (by simp) e)
def wordV(i j:Bool):V:=if i=j then .non else .str (wdS j)
def qI3(K:PySem.W.Frag):Sp:=λvs H Q _ => ∃(p la:Addr) (b t:Int) (ns:List Int),vs = [.ref p,.ref la]/\SqT K H p [.int b,.int t]/\SqL K H la (ns.map V.int)/\Q (wordV (decide (b∈ns)) (decide (t∈ns))) H
def rowOf(f:Int->List Int)(w:Int×Int)(b:Int):Option K4:=if decide (w.1∈f b)=decide (w.2∈f b) then none else some (w,decide (w.2∈f b),b)
def rowsL(ways:List (Int×Int))(bs:List Int)(f:Int->List Int):List K4:=ways.flatMap λw=>bs.filterMap (rowOf f w)
def Tri(K:PySem.W.Frag)(f:Int->List Int)(G:Hp)(t:Addr)(p:(Int×Int)×Int):Prop := ∃wa,G t=some (.tup [.ref wa,wordV (decide (p.1.1∈f p.2)) (decide (p.1.2∈f p.2)),.int p.2])/\SqT K G wa [.int p.1.1,.int p.1.2]
def TriL(K:PySem.W.Frag)(f:Int->List Int)(G:Hp):List Addr->List ((Int×Int)×Int)->Prop:=Paired (Tri K f G)
theorem TriL.len{K:PySem.W.Frag}{f:Int->List Int}{G:Hp}{ts:List Addr}{ps:List ((Int×Int)×Int)}(h:TriL K f G ts ps):ts.length=ps.length:=cY h
def Tups(G G':Hp):Prop := ∀b xs,Rd G b (.tup xs)->Rd G' b (.tup xs)
theorem Tups.sq{K:PySem.W.Frag}{G G':Hp}(h:Tups G G'){a:Addr}{xs:List V}(q:SqT K G a xs):SqT K G' a xs:=by
 rcases q with q | q
 ·exact .inl (h a xs q)
 ·exact .inr q
theorem Tups.trans{G G' G'':Hp}(h:Tups G G')(k:Tups G' G''):Tups G G'':=λb xs q=>k b xs (h b xs q)
theorem Same.tups{G G':Hp}(h:Same G G'):Tups G G':=λb xs q=>by
 rcases q with q | ⟨o,q⟩
 ·exact .inl (h _ _ q)
 ·exact .inr ⟨o,h _ _ q⟩
theorem Ext.tups{us:List Addr}{G G':Hp}(e:Ext us G G')(h:∀u∈us,∀xs,¬Rd G u (.tup xs)):Tups G G':=λb xs q=>by
 have hb:b∉us:=λz=>h b z xs q;rcases q with q | ⟨o,q⟩
 ·exact .inl (e _ _ hb q)
 ·exact .inr ⟨o,e _ _ hb q⟩
theorem Tri.mono{K:PySem.W.Frag}{f:Int->List Int}{G G':Hp}{t:Addr}{p:(Int×Int)×Int}(h:Tups G G')(k:∀b xs,G b=some (.tup xs)->G' b=some (.tup xs))(q:Tri K f G t p):Tri K f G' t p:=by
 obtain⟨wa,q1,q2⟩:=q;exact⟨wa,k _ _ q1,h.sq q2⟩
theorem TriL.mono{K:PySem.W.Frag}{f:Int->List Int}{G G':Hp}{ts:List Addr}{ps:List ((Int×Int)×Int)}(q:TriL K f G ts ps)(h:Tups G G')(k:∀b xs,G b=some (.tup xs)->G' b=some (.tup xs)):TriL K f G' ts ps:=Paired.mapP q λ_ _ x=>x.mono h k
theorem qHf(ways:List (Int×Int))(bs:List Int)(f:Int->List Int):rowsL ways bs f=(ways.flatMap λw=>bs.map λb=>(w,b)).filterMap λp=>rowOf f p.1 p.2:=by
 unfold rowsL
 induction ways with
 | nil=>rfl
 | cons w r ih=>rw [fD,fD,fQ,ih,List.filterMap_map];rfl
theorem qLn{K:PySem.W.Frag}{H:Hp}{vs:List V}{ks:List K4}(h:RowsI K H vs ks){ps:List (V×K4)}(hp:ps.Perm (vs.zip ks)):RowsI K H (ps.map (·.1)) (ps.map (·.2))/\(ps.map (·.2)).Perm ks:=by
 have hz:∀p∈vs.zip ks,∃a wa,p.1 = .ref a/\SqT K H a [.ref wa,.str (wdS p.2.2.1),.int p.2.2.2]/\SqT K H wa [.int p.2.1.1,.int p.2.1.2]:=by
  clear hp;unfold RowsI at h
  induction h with
  | nil=>intro p hp;cases hp
  | cons r _ ih =>
   intro p hp;rcases aT.mp hp with z | z
   ·subst z;exact r
   ·exact ih p z
 refine⟨?_,?_⟩
 ·have:∀p∈ps,∃a wa,p.1 = .ref a/\SqT K H a [.ref wa,.str (wdS p.2.2.1),.int p.2.2.2]/\SqT K H wa [.int p.2.1.1,.int p.2.1.2]:=λp h=>hz p (hp.mem_iff.mp h);clear hp hz;unfold RowsI
  induction ps with
  | nil=>exact .nil
  | cons p r ih=>exact .cons (this p (aR ..)) (ih λq hq=>this q (aS _ hq))
 ·have e:(vs.zip ks).map (·.2)=ks:=by rw [List.map_snd_zip];rw [h.len];exact aE _
  have:=hp.map (·.2);rw [e] at this;exact this
def qN4(K:PySem.W.Frag):Sp:=λvs H Q _ => ∃(wa d:Addr) (wk:List Blk) (m works:Int) (bs:List Int) (as:List Addr) (f:Int->List Int),vs = [.ref wa,.ref d]/\Den K H (workD wk) (.ref wa)/\WorkOk m works wk/\m<=12/\PlanAt H d bs as (bs.map f)/\bs.Nodup/\bs.length<=8 /\
 ∀(l:Addr) (us:List V) (ks:List K4) (H':Hp),H l=none->Ext [] H H'->H' l=some (.lst us)->RowsI K H' us ks->ks.Perm (rowsL (qAa wk wk.length) bs f)->ks.Pairwise (λa b=>lt4 b a=false)->Q (.ref l) H'
structure PlanF(ws:List (List Blk))(n:Nat)(wk:List Blk)(bs:List Int)(f:Int->List Int):Prop where
 perm:bs.Perm (boxes wk)
 rise:∀b∈bs,(f b).Pairwise (· < ·)
 rg:∀b∈bs,∀y∈f b,0<=y/\y<(wk.length:Int)
 busy:∀b∈bs,∀y,BusyP ws n wk b y->y∈f b
def qOh(K:PySem.W.Frag):Sp:=λvs H Q _ => ∃(t wa:Addr) (k:Nat) (ws:List (List Blk)) (n:Nat) (wk:List Blk),vs = [.ref t,.ref wa,.int n]/\Tape H t k/\k+200<=2^40/\Den K H (qCz ws) (.ref wa)/\WsOk ws/\ws[n]? = some wk /\
 ∀(d:Addr) (bs:List Int) (as:List Addr) (f:Int->List Int) (H':Hp),H d=none->(∀a∈as,H a=none)->Tape H' t (k+200)->Ext [t] H H'->PlanAt H' d bs as (bs.map f)->PlanF ws n wk bs f->Q (.ref d) H'
def NoTup(v:HO):Prop := ∀xs,v ≠ .tup xs /\ ∀o,v ≠ .frz o (.tup xs)
theorem qV5(xs:List V):NoTup (.lst xs):=λ_=>⟨(λz=>by cases z),λ_ z=>by cases z⟩
theorem qV7(kvs:List (Key×V)):NoTup (.dK kvs):=λ_=>⟨(λz=>by cases z),λ_ z=>by cases z⟩
theorem qV6(o:Obj)(kvs:List (Key×V)):NoTup (.frz o (.dK kvs)):=λ_=>⟨(λz=>by cases z),λ_ z=>by cases z⟩
theorem qT8{k:Nat}{A:Around}(hr:Room k A):A.units+2<cLine:=by have:=hr.un;lia
theorem qD9{α β : Type}(ws:List α)(bs:List β):(ws.flatMap λw=>bs.map λb=>(w,b)).length=ws.length*bs.length:=by
 induction ws with
 | nil=>simp
 | cons w r ih=>rw [fD,aG,ih,aB,bY,Nat.add_mul,Nat.one_mul,Nat.add_comm]
theorem RowsI.mono{K:PySem.W.Frag}{G G':Hp}{vs:List V}{ks:List K4}(h:RowsI K G vs ks)(k:Tups G G'):RowsI K G' vs ks:=Paired.mapP h λ_ _ ⟨a,wa,e,h1,h2⟩=>⟨a,wa,e,k.sq h1,k.sq h2⟩
theorem Ext.melt{us:List Addr}{G G':Hp}{d:Addr}{u:HO}(hd:G d=some u)(e:Ext (d::us) G G'):Ext us G (upd G' d u):=λb ob hb h=>by
 by_cases z:b=d
 ·subst z;rw [qA1];rw [hd] at h;exact h
 ·rw [qA4 z];exact e _ _ (by simpa using ⟨z,hb⟩) h
theorem Tups.melt{G:Hp}{d:Addr}{u v:HO}(hd:G d=some v)(hv:NoTup v:=by first | exact qV5 _ | exact qV7 _ | exact qV6 _ _):Tups G (upd G d u):=λb xs q=>by
 have ne:b≠d:=λz=>by
  subst z;rcases q with q | ⟨o,q⟩
  ·rw [hd] at q;exact (hv xs).1 (bF q)
  ·rw [hd] at q;exact (hv xs).2 o (bF q)
 rcases q with q | ⟨o,q⟩
 ·exact .inl (by rw [qA4 ne];exact q)
 ·exact .inr ⟨o,by rw [qA4 ne];exact q⟩
structure PlI(H:Hp)(t d lf:Addr)(ws:List (List Blk))(n:Nat)(wk:List Blk)(ls rs bs:List Int)(as:List Addr)(f:Int->List Int)(k:Nat)(G:Hp):Prop where
 tape:Tape G t k
 ext:Ext [t] H G
 left:G lf=some (.lst (ls.map V.int))
 plan:PlanAt G d bs as (bs.map f)
 fd:H d=none
 fl:H lf=none
 fa:∀a∈as,H a=none
 nl:lf∉as
 nd:lf≠d
 perm:(bs++rs).Perm (boxes wk)
 rise:∀b∈bs,(f b).Pairwise (· < ·)
 rg:∀b∈bs,∀y∈f b,0<=y/\y<(wk.length:Int)
 busy:∀b∈bs,∀y,BusyP ws n wk b y->y∈f b
theorem PlanAt.keep{G G':Hp}{d:Addr}{bs:List Int}{as:List Addr}{ls:List (List Int)}(h:PlanAt G d bs as ls)(k:∀a∈d::as,∀o,G a=some o->G' a=some o):PlanAt G' d bs as ls:=⟨k d (aR ..) _ h.dict,h.lists.mono λa ha o=>k a (aS _ ha) o,h.len,h.nd,h.nda⟩
section
variable{H:Hp}{t d lf:Addr}{ws:List (List Blk)}{n:Nat}{wk:List Blk}{ls rs bs:List Int}{as:List Addr}{f:Int->List Int}{k k':Nat}{G G':Hp}
theorem PlI.keep(h:PlI H t d lf ws n wk ls rs bs as f k G)(ht:∃o,H t=some o)(e:Ext [t] G G')(T:Tape G' t k'):PlI H t d lf ws n wk ls rs bs as f k' G':=by
 obtain⟨o,ht⟩:=ht;have n1:∀a,H a=none->a≠t:=λa ha z=>by rw [z,ht] at ha;cases ha
 refine⟨T,h.ext.trans e,e _ _ (by simpa using n1 _ h.fl) h.left,h.plan.keep λa ha o q=>e _ _ ?_ q,h.fd,h.fl,h.fa,h.nl,h.nd,h.perm,h.rise,h.rg,h.busy⟩;rcases aT.mp ha with z | z
 ·subst z;simpa using n1 _ h.fd
 ·simpa using n1 _ (h.fa a z)
theorem PlI.grown(h:PlI H t d lf ws n wk ls rs bs as f k G)(ht:∃o,H t=some o)(e:Ext [] G G'):PlI H t d lf ws n wk ls rs bs as f k G':=h.keep ht (e.mono (by simp)) (h.tape.ext e (by simp))
theorem PlI.popped(h:PlI H t d lf ws n wk ls rs bs as f k G)(ht:∃o,H t=some o)(ls':List Int):PlI H t d lf ws n wk ls' rs bs as f k (upd G lf (.lst (ls'.map V.int))):=by
 obtain⟨o,ht⟩:=ht;have nt:t≠lf:=λz=>by have:=h.fl;rw [<-z,ht] at this;cases this
 refine⟨?_,λb u hb e=>?_,qA1,h.plan.keep λa ha o q=>?_,h.fd,h.fl,h.fa,h.nl,h.nd,h.perm,h.rise,h.rg,h.busy⟩
 ·obtain⟨a,b,c,h1,h2⟩:=h.tape;exact⟨a,b,c,by rw [qA4 nt];exact h1,h2⟩
 ·rw [qA4 (qA2 e h.fl)];exact h.ext b u hb e
 ·rw [qA4];exact q;rcases aT.mp ha with z | z
  ·rw [z];exact cS h.nd
  ·exact λy=>h.nl (y▸z)
theorem PlI.put{m works x:Int}{ns:List Int}{la:Addr}{rs':List Int}(h:PlI H t d lf ws n wk ls rs bs as f k G)(ht:∃o,H t=some o)(e:Ext [] G G')(h0:G la=none)(h1:G' la=some (.lst (ns.map V.int)))(hp:rs.Perm (x::rs'))(hx:x∉bs)(r1:ns.Pairwise (· < ·))(r2:∀y∈ns,0<=y/\y<(wk.length:Int))(r3:∀y,BusyP ws n wk x y->y∈ns):PlI H t d lf ws n wk ls rs' (bs ++ [x]) (as ++ [la]) (λy=>if y=x then ns else f y) k (upd G' d (.dK (putK (planK bs as) (Sum.inl x) (.ref la)))):=by
 have hs:=h.plan.snoc e h0 h1 hx;have em:bs.map (λy=>if y=x then ns else f y)=bs.map f:=List.map_congr_left λb hb=>by
  show (if b=x then ns else f b)=f b;exact if_neg λ(z:b=x)=>hx (z▸hb)
 obtain⟨o,ht'⟩:=id ht;have ntd:t≠d:=λz=>by have:=h.fd;rw [<-z,ht'] at this;cases this
 have hla:H la=none:=h.ext.none (by
  intro z;have z:la=t:=by simpa using z
  obtain⟨a,b,c,q1,_⟩:=h.tape
  rw [z,q1] at h0;cases h0) h0
 have cs:∀b∈bs ++ [x],(b∈bs/\b≠x)\/b=x:=λb hb=>by
  rcases aM.mp hb with z | z
  ·exact .inl ⟨z,λy=>hx (y▸z)⟩
  ·exact .inr (by simpa using z)
 refine⟨?_,λb u hb q=>?_,?_,?_,h.fd,h.fl,λa ha=>?_,?_,h.nd,?_,λb hb=>?_,λb hb=>?_,λb hb=>?_⟩
 ·obtain⟨a,b,c,q1,q2⟩:=h.tape;exact⟨a,b,c,by rw [qA4 ntd];exact e _ _ (by simp) q1,q2⟩
 ·rw [qA4 (qA2 q h.fd)];exact e _ _ (by simp) (h.ext b u hb q)
 ·rw [qA4 h.nd];exact e _ _ (by simp) h.left
 ·rw [aN,em,List.map_singleton,if_pos rfl];exact hs
 ·rcases aM.mp ha with z | z
  ·exact h.fa a z
  ·rw [show a=la by simpa using z];exact hla
 ·intro z;rcases aM.mp z with z | z
  ·exact h.nl z
  ·have z:lf=la:=by simpa using z
   rw [<-z,h.left] at h0;cases h0
 ·rw [bU];exact (gN bs hp.symm).trans h.perm
 ·rcases cs b hb with ⟨z1,z2⟩ | z
  ·simp only [if_neg z2];exact h.rise b z1
  ·simp only [if_pos z];exact r1
 ·rcases cs b hb with ⟨z1,z2⟩ | z
  ·simp only [if_neg z2];exact h.rg b z1
  ·simp only [if_pos z];exact r2
 ·rcases cs b hb with ⟨z1,z2⟩ | z
  ·simp only [if_neg z2];exact h.busy b z1
  ·simp only [if_pos z];rw [z];exact r3
end
def LpW(H:Hp)(t wa d lf:Addr)(ws:List (List Blk))(n:Nat)(wk:List Blk)(k:Nat)(μ : Nat)(σ':St)(G:Hp):Prop := ∃(ls bs:List Int) (as:List Addr) (f:Int->List Int) (kk:Nat) (o5 o6 o7 o8:Option V),μ = ls.length /\ σ' = [some (.ref t),some (.ref wa),some (.int n),some (.ref d),some (.ref lf),o5,o6,o7,o8]/\kk+20*ls.length<=k+200/\PlI H t d lf ws n wk ls ls bs as f kk G
theorem qQa{d:Addr}{o:Obj}{kvs:List (Key×V)}{g:TG}{tb:TS}{D:Ends}{σ : St}{H:Hp}(Pv:Nat->St->Hp->Prop)(h0:Pv 0 σ H)(hl:∀i σ H,i<=kvs.length->Pv i σ H->H d=some (.frz o (.dK kvs)))(hs:∀i k v σ H,kvs[i]? = some (k,v)->Pv i σ H -> ∀(N B C:St->Hp->Prop) (R:VK),Nx N (Pv (i+1))->Nx C (Pv (i+1))->NxV R D.rt->g (kV k) σ H λσ2 H2=>tb ⟨N,R,B,C⟩ σ2 H2)(hd:∀ σ H,Pv kvs.length σ H->D.nx σ H):∃W:Nat->Nat->St->Hp->Prop,(∃m,W 0 m σ H) /\ ∀i m σ H,W i m σ H ->
   ((Itd d o kvs).stop i H/\D.nx σ H)\/((Itd d o kvs).go i H /\ ∃N:St->Hp->Prop,(∀ σ' H',N σ' H' -> ∃m',m'<m/\W (i+1) m' σ' H') /\ ∀x H',(Itd d o kvs).yld i H x H'->g x σ H' λσ2 H2=>tb { D with nx:=N,ct:=N,bk:=D.nx } σ2 H2):=by
 refine⟨λi m σ H=>m=kvs.length - i/\i<=kvs.length/\Pv i σ H,⟨kvs.length,by simp,aU _,h0⟩,?_⟩;rintro i m σ H ⟨rfl,hi,p⟩;have z:=hl i σ H hi p;by_cases hlt:i<kvs.length
 ·refine .inr ⟨⟨z,hlt⟩,Pv (i+1),λσ' H' p'=>⟨kvs.length - (i+1),by lia,rfl,hlt,p'⟩,λx H' y=>?_⟩;obtain⟨e,k,v,hk,hx⟩:=y;subst e hx;exact hs i k v σ _ hk p _ _ _ _ (λ_ _ h=>h) (λ_ _ h=>h) (λ_ _ h=>h)
 ·have e:i=kvs.length:=by lia
  subst e;exact .inl ⟨⟨z,aE _⟩,hd σ H p⟩
theorem qN8{ways:List (Int×Int)}{bs:List Int}{f:Int->List Int}{i:Nat}{wv:Int×Int}(h:ways[i]? = some wv):rowsL (ways.take (i+1)) bs f=rowsL (ways.take i) bs f++bs.filterMap (rowOf f wv):=by
 unfold rowsL;rw [qAw h,List.flatMap_append,fD,List.flatMap_nil,bW]
theorem qJ9(ways:List (Int×Int))(bs:List Int)(f:Int->List Int):(rowsL ways bs f).length<=ways.length*bs.length:=by
 rw [qHf,<-qD9];exact eV _ _
theorem qJ7{bs:List Int}{g:Int->Option K4}{j:Nat}{b:Int}(h:bs[j]? = some b):(bs.take (j+1)).filterMap g=(bs.take j).filterMap g++(g b).toList:=by
 rw [qAw h,fQ,cF];cases g b <;> rfl
theorem SqL.keepN{K:PySem.W.Frag}{H H':Hp}{a:Addr}{xs:List V}{us:List Addr}(h:SqL K H a xs)(e:Ext us H H')(n:a∉us):SqL K H' a xs:=by
 rcases h with (z | ⟨o,z⟩) | z
 ·exact .inl (.inl (e _ _ n z))
 ·exact .inl (.inr ⟨o,e _ _ n z⟩)
 ·exact .inr z
theorem qWe{t u:TS}{D:Ends}{σ : St}{H:Hp}(h:∀N:St->Hp->Prop,Nx N (u D)->t ⟨N,D.rt,D.bk,D.ct⟩ σ H):tSeq t u D σ H:=h _ λ_ _ h=>h
theorem qYa{tt:TT}{A B:TS}{D:Ends}{σ : St}{H:Hp}(h:∀A' B':St->Hp->Prop,Nx A' (A D)->Nx B' (B D)->tt σ H λc H1=>if c=true then A' σ H1 else B' σ H1):tIfS tt A B D σ H:=h _ _ (λ_ _ h=>h) λ_ _ h=>h
section
variable{H:Hp}{d:Addr}{us us':List V}
variable{ds ds':List Deed}
end
theorem qNd{ws:List (List Blk)}{n:Nat}{wk:List Blk}{bs:List Int}{f:Int->List Int}(h:PlanF ws n wk bs f)(hl:wk.length<=12):∀ns∈bs.map f,(∀y∈ns,0<=y/\y<=100)/\ns.length<=16:=by
 intro ns hns;obtain⟨b,hb,rfl⟩:=bH.mp hns;have hr:=h.rg b hb;refine⟨λy hy=>by have:=hr y hy;lia,?_⟩;have:=qFp ((h.rise b hb).imp λh=>by lia) ((h.rise b hb).imp λh=>by lia) hr;lia
theorem qHh{m works:Int}{ws:List (List Blk)}{n:Nat}{wk:List Blk}{bs:List Int}{f:Int->List Int}(h:PlanF ws n wk bs f)(hk:WorkOk m works wk):(∀b∈bs,0<=b/\b<8)/\bs.length<=8/\bs.Nodup:=by
 refine⟨λb hb=>qMu hk (h.perm.mem_iff.mp hb),?_,h.perm.symm.nodup ((qF1 wk).imp λh=>by lia)⟩;rw [h.perm.length_eq];exact qKk wk
theorem qSm{m works:Int}{ws:List (List Blk)}{n:Nat}{wk:List Blk}{bs:List Int}{f:Int->List Int}(h:PlanF ws n wk bs f)(hk:WorkOk m works wk)(hm:m<=12)(hw:works<=100):PyData.showable (.list [workD wk,qM4 bs (bs.map f)])=true/\PyData.depth (.list [workD wk,qM4 bs (bs.map f)])<=100/\(PyData.shown (.list [workD wk,qM4 bs (bs.map f)])).length<=sizeLine:=by
 obtain⟨t1,t2,t3⟩:=qO3 hm hw hk;obtain⟨p1,p2,p3⟩:=qHh h hk;have hl:=hk.len;have f1:=(Fit.of (n:=5000) (D:=64) t1 t2 t3);have f2:=(qRw p1 p2 (qNd h (by lia))).mono (aE _) (show 3<=64 by lia);exact ((FitS.cons f1 (FitS.cons f2 (FitS.nil 64))).list).shown (by lia) (by lia)
theorem qU9{ways:List (Int×Int)}{bs:List Int}{f:Int->List Int}{k:K4}(h:k∈rowsL ways bs f):k.1∈ways/\k.2.2∈bs/\k.2.1=decide (k.1.2∈f k.2.2):=by
 unfold rowsL at h;obtain⟨w,hw,h⟩:=dH.mp h;obtain⟨b,hb,h⟩:=cP.mp h;unfold rowOf at h;by_cases hc:decide (w.1∈f b)=decide (w.2∈f b)
 ·rw [if_pos hc] at h;cases h
 ·rw [if_neg hc] at h;have h:=bF h;subst h;exact⟨hw,hb,rfl⟩
theorem qRo{m works:Int}{wk:List Blk}{bs:List Int}{f:Int->List Int}{ks:List K4}(hm:m<=12)(hk:WorkOk m works wk)(hbl:bs.length<=8)(hp:ks.Perm (rowsL (qAa wk wk.length) bs f)):ks.length<=200:=by
 have hn2:∀b∈wk,b.ns.length<=2:=λb hb=>(hk.blk b hb).ns.few;have hwl:=hk.len;have hwy:=qBe hn2 wk.length;rw [hp.length_eq];refine cA (qJ9 _ _ _) ?_;exact (gJ (show (qAa wk wk.length).length<=25 by lia) hbl)
def orb5(m:Nat):Nat->Nat->Nat
 | 0,i=>i
 | n+1,i=>orb5 m n ((i*5+1)%(m+1))
theorem qFr(m:Nat):∀(a b i:Nat),orb5 m (a+b) i=orb5 m b (orb5 m a i)
 | 0,b,i=>by rw [eR];rfl
 | a+1,b,i=>by rw [Nat.succ_add];exact qFr m a b _
def Cov(m:Nat):Prop := ∀i e,i<=m->e<=m -> ∃n,n<=m/\orb5 m n i=e
theorem qXu{m:Nat}(full:∀e,e<=m -> ∃n,n<=m/\orb5 m n 0=e)(back:orb5 m (m+1) 0=0):Cov m:=by
 intro i e hi he;obtain⟨a,ha,ea⟩:=full i hi;obtain⟨b,hb,eb⟩:=full e he;by_cases hab:a<=b
 ·refine⟨b - a,by lia,?_⟩;rw [<-ea,<-qFr,show a+(b - a)=b by lia,eb]
 ·refine⟨b+(m+1) - a,by lia,?_⟩;rw [<-ea,<-qFr,show a+(b+(m+1) - a)=(m+1)+b by lia,qFr,back,eb]
def fullB(m:Nat):Bool:=(List.range (m+1)).all (λe=>(List.range (m+1)).any λn=>orb5 m n 0 == e)&&(orb5 m (m+1) 0 == 0)
theorem qLh{m:Nat}(h:fullB m=true):Cov m:=by
 unfold fullB at h;rw [bD] at h;refine qXu (λe he=>?_) (by simpa using h.2);have:=List.all_eq_true.mp h.1 e (bL.mpr (by lia));obtain⟨n,hn,q⟩:=cK.mp this;exact⟨n,by have:=bL.mp hn;lia,by simpa using q⟩
theorem cov7:Cov 7:=qLh (by decide +kernel)
theorem cov31:Cov 31:=qLh (by decide +kernel)
theorem qXv:Cov 127:=qLh (by decide +kernel)
def stepP(m:Nat)(p:SetTable.Probe):SetTable.Probe:=SetTable.advance { SetTable.fresh 0 0 false with mask:=m } p
def advN(m:Nat):Nat->SetTable.Probe->SetTable.Probe
 | 0,p=>p
 | n+1,p=>advN m n (stepP m p)
theorem qC1(m:Nat):∀(a b:Nat) (p:SetTable.Probe),advN m (a+b) p=advN m b (advN m a p)
 | 0,b,p=>by rw [eR];rfl
 | a+1,b,p=>by rw [Nat.succ_add];exact qC1 m a b _
theorem qKq(m n:Nat)(p:SetTable.Probe):advN m (n+1) p=stepP m (advN m n p):=by rw [qC1];rfl
def qAs(m:Nat)(h:Int):SetTable.Probe:=SetTable.probeStart { SetTable.fresh 0 0 false with mask:=m } h
structure PrS(m:Nat)(p:SetTable.Probe):Prop where
 i:p.i<=m
 j:p.j+p.more=SetTable.runEnd m p.i
 ge:p.i<=p.j
 pt:p.perturb<2^64
 dm:p.dummy=none
theorem qD4(m i:Nat):i<=SetTable.runEnd m i:=by unfold SetTable.runEnd;split <;> lia
theorem qG6(m i:Nat)(h:i<=m):SetTable.runEnd m i<=m/\SetTable.runEnd m i<=i+9:=by unfold SetTable.runEnd;split <;> lia
theorem PrS.jm{m:Nat}{p:SetTable.Probe}(h:PrS m p):p.j<=m:=by
 have:=(qG6 m p.i h.i).1;have:=h.j;lia
theorem qVs(h:Int):SetTable.bits h<2^64:=by
 unfold SetTable.bits;lia
theorem qFq(m:Nat)(h:Int):PrS m (qAs m h):=by
 refine⟨?_,?_,aE _,qVs h,rfl⟩
 ·have:=Nat.mod_lt (SetTable.bits h) (Nat.succ_pos m);show SetTable.bits h%(m+1)<=m;exact Nat.le_of_lt_succ this
 ·show SetTable.bits h%(m+1)+(SetTable.runEnd m (SetTable.bits h%(m+1)) - SetTable.bits h%(m+1))=_;have:=qD4 m (SetTable.bits h%(m+1));show _=SetTable.runEnd m (SetTable.bits h%(m+1));lia
theorem qH1{m:Nat}{p:SetTable.Probe}(h:p.more>0):stepP m p = { p with j:=p.j+1,more:=p.more - 1 }:=by
 unfold stepP SetTable.advance;rw [if_pos h]
def leapP(m:Nat)(p:SetTable.Probe):SetTable.Probe :=
 { p with j:=(p.i*5+1+p.perturb / 32)%(m+1),more:=SetTable.runEnd m ((p.i*5+1+p.perturb / 32)%(m+1)) - (p.i*5+1+p.perturb / 32)%(m+1),i:=(p.i*5+1+p.perturb / 32)%(m+1),perturb:=p.perturb / 32 }
theorem qG2{m:Nat}{p:SetTable.Probe}(h:p.more=0):stepP m p=leapP m p:=by
 unfold stepP SetTable.advance;rw [if_neg (by lia)];rfl
theorem qIc{m:Nat}{p:SetTable.Probe}(h:PrS m p):PrS m (leapP m p):=by
 refine⟨?_,?_,aE _,?_,h.dm⟩
 ·exact Nat.le_of_lt_succ (Nat.mod_lt _ (Nat.succ_pos m))
 ·have:=qD4 m ((p.i*5+1+p.perturb / 32)%(m+1));show _%(m+1)+(_ - _)=SetTable.runEnd m (_%(m+1));lia
 ·exact fO (Nat.div_le_self _ _) h.pt
theorem qUj{m:Nat}{p:SetTable.Probe}(h:PrS m p):PrS m (stepP m p):=by
 by_cases hm:p.more>0
 ·rw [qH1 hm];exact⟨h.i,by have:=h.j;show p.j+1+(p.more - 1)=_;lia,by have:=h.ge;show p.i<=p.j+1;lia,h.pt,h.dm⟩
 ·rw [qG2 (by lia)];exact qIc h
theorem qM2{m:Nat}:∀(n:Nat) {p:SetTable.Probe},PrS m p->PrS m (advN m n p)
 | 0,_,h=>h
 | n+1,_,h=>qM2 n (qUj h)
theorem qI9{m:Nat}:∀(k:Nat) {p:SetTable.Probe},p.more=k -> ∀c,c<=k->advN m c p = { p with j:=p.j+c,more:=p.more - c }
 | k,p,e,0,_=>rfl
 | 0,p,e,c+1,h=>absurd h (by lia)
 | k+1,p,e,c+1,h=>by
  show advN m c (stepP m p)=_;rw [qH1 (by lia),qI9 k (p :={ p with j:=p.j+1,more:=p.more - 1 }) (by show p.more - 1=k;lia) c (by lia)];show ({ p with j:=p.j+1+c,more:=p.more - 1 - c }:SetTable.Probe)=_
  congr 1 <;> lia
theorem qS2{m:Nat}{p:SetTable.Probe}(h:PrS m p):∃n,n<=10/\advN m n p=leapP m p:=by
 refine⟨p.more+1,?_,?_⟩
 ·have:=(qG6 m p.i h.i).2;have:=h.j;have:=h.ge;lia
 ·rw [qKq,qI9 p.more rfl p.more (aE _),qG2 (by show p.more - p.more=0;lia)];rfl
def leapN(m:Nat):Nat->SetTable.Probe->SetTable.Probe
 | 0,p=>p
 | n+1,p=>leapN m n (leapP m p)
theorem qHo{m:Nat}:∀(L:Nat) {p:SetTable.Probe},PrS m p -> ∃n,n<=10*L/\advN m n p=leapN m L p
 | 0,p,_=>⟨0,by lia,rfl⟩
 | L+1,p,h=>by
  obtain⟨a,ha,ea⟩:=qS2 h;obtain⟨b,hb,eb⟩:=qHo L (qIc h);exact⟨a+b,by lia,by rw [qC1,ea,eb];rfl⟩
theorem qPv{m:Nat}:∀(L:Nat) (p:SetTable.Probe),(leapN m L p).perturb=p.perturb / 32^L
 | 0,p=>by rw [Nat.pow_zero,Nat.div_one];rfl
 | L+1,p=>by
  show (leapN m L (leapP m p)).perturb=_;rw [qPv L];show p.perturb / 32 / 32^L=_;rw [Nat.div_div_eq_div_mul,Nat.pow_succ,Nat.mul_comm]
theorem qMi{m:Nat}:∀(L:Nat) (p:SetTable.Probe),p.perturb=0->(leapN m L p).i=orb5 m L p.i
 | 0,p,_=>rfl
 | L+1,p,h=>by
  show (leapN m L (leapP m p)).i=_;have e:(leapP m p).i=(p.i*5+1)%(m+1):=by show (p.i*5+1+p.perturb / 32)%(m+1)=_;rw [h]
  rw [qMi L _ (by show p.perturb / 32=0;rw [h]),e];rfl
theorem qJw(m:Nat):∀(a b:Nat) (p:SetTable.Probe),leapN m (a+b) p=leapN m b (leapN m a p)
 | 0,b,p=>by rw [eR];rfl
 | a+1,b,p=>by rw [Nat.succ_add];exact qJw m a b _
theorem qTn{m:Nat}:∀(L:Nat) (p:SetTable.Probe),(leapN m (L+1) p).j=(leapN m (L+1) p).i
 | 0,p=>rfl
 | L+1,p=>qTn L (leapP m p)
theorem qM1{m:Nat}:∀(L:Nat) {p:SetTable.Probe},PrS m p->PrS m (leapN m L p)
 | 0,_,h=>h
 | L+1,_,h=>qM1 L (qIc h)
theorem qGl{m:Nat}(cov:Cov m){p:SetTable.Probe}(h:PrS m p){e:Nat}(he:e<=m):∃L,0<L/\L<=m+13/\(leapN m L p).i=e/\(leapN m L p).j=e:=by
 have h0:(leapN m 13 p).perturb=0:=by
  rw [qPv];refine Nat.div_eq_of_lt (Nat.lt_trans h.pt (by decide))
 obtain⟨n,hn,en⟩:=cov _ _ (qM1 13 h).i he;have e1:(leapN m (13+n) p).i=e:=by rw [qJw,qMi _ _ h0,en]
 refine⟨13+n,by lia,by lia,e1,?_⟩;rw [show 13+n=(12+n)+1 by lia,qTn,show (12+n)+1=13+n by lia,e1]
theorem qOt{m:Nat}(cov:Cov m){p:SetTable.Probe}(h:PrS m p){e:Nat}(he:e<=m):∃n,n<10*SetTable.turns m/\(advN m n p).j=e:=by
 obtain⟨L,_,hL,_,ej⟩:=qGl cov h he;obtain⟨n,hn,en⟩:=qHo L h;exact⟨n,by unfold SetTable.turns;lia,by rw [en,ej]⟩
theorem qCj{t:SetTable}{i j:Nat}(up:t.place.toList.Pairwise (· < ·))(hi:t.place[i]? = some j):t.slot j = .live i:=by
 obtain⟨h1,h2,h3⟩:=qFw t.place j up;have hb:SetTable.below t.place j=i:=by
  have le:SetTable.below t.place j<=i:=by
   rcases Nat.lt_or_ge i (SetTable.below t.place j) with z | z
   ·exact absurd (h2 i j hi z) (fM _)
   ·exact z
  rcases Nat.lt_or_eq_of_le le with z | z
  ·have hs:i<t.place.size:=(fJ.mp hi).1;have hg:t.place[SetTable.below t.place j]? = some t.place[SetTable.below t.place j]:=aZ (by lia);have q:=h3 _ _ hg (aE _);have e2:=(fJ.mp hi).2;have z2:=bQ.mp up (SetTable.below t.place j) i (by rw [aK];lia) (by rw [aK];lia) z;rw [dC,dC,e2] at z2;lia
  ·exact z
 unfold SetTable.slot;dsimp only;rw [hb,hi];simp
theorem qN6{t:SetTable}{j:Nat}(hd:t.dummies = #[])(hn:j∉t.place.toList):t.slot j = .empty:=by
 unfold SetTable.slot;dsimp only;rw [if_neg,if_neg]
 ·rw [hd];unfold SetTable.has;simp
 ·intro e;have e2:t.place[SetTable.below t.place j]? = some j:=by simpa using e
  exact hn (by rw [<-aY] at e2;exact aO e2)
theorem qRh{t:SetTable}{j:Nat}(up:t.place.toList.Pairwise (· < ·))(h:j∈t.place.toList):∃i,t.place[i]? = some j/\t.slot j = .live i:=by
 obtain⟨i,hi,e⟩:=bN h;have:t.place[i]? = some j:=by rw [<-aY,aF hi,e]
 exact⟨i,this,qCj up this⟩
theorem qHg{t:SetTable}{f:Nat->Int}{h:Int}(up:t.place.toList.Pairwise (· < ·))(hd:t.dummies = #[]):∀(fuel n:Nat) (p:SetTable.Probe),p.dummy=none->n<fuel->(advN t.mask n p).j∉t.place.toList ->
  ∃k,k<=n/\(∀m,m<k -> ∃i,t.place[i]? = some (advN t.mask m p).j/\f i≠h) /\
   (((advN t.mask k p).j∉t.place.toList/\SetTable.probe.go t f h fuel p=some (.empty (advN t.mask k p).j none)) \/
     ∃i,t.place[i]? = some (advN t.mask k p).j/\f i=h/\SetTable.probe.go t f h fuel p=some (.candidate (advN t.mask k p).j i (advN t.mask (k+1) p)))
 | 0,n,p,_,h1,_=>absurd h1 (fH _)
 | fuel+1,n,p,dm,h1,h2=>by
  by_cases hp:p.j∈t.place.toList
  ·obtain⟨i,hi,hs⟩:=qRh up hp;by_cases hf:f i=h
   ·refine⟨0,aU _,λm hm=>absurd hm (fH _),.inr ⟨i,hi,hf,?_⟩⟩;unfold SetTable.probe.go;rw [hs];dsimp only;rw [if_pos (by simpa using hf)];rfl
   ·cases n with
    | zero=>exact absurd hp h2
    | succ n =>
     have dm':(stepP t.mask p).dummy=none:=by unfold stepP SetTable.advance;split <;> exact dm
     obtain⟨k,hk,hm,hr⟩:=qHg up hd fuel n (stepP t.mask p) dm' (by lia) h2;have eg:SetTable.probe.go t f h (fuel+1) p=SetTable.probe.go t f h fuel (stepP t.mask p):=by
      conv=>lhs;unfold SetTable.probe.go
      rw [hs];dsimp only;rw [if_neg (by simpa using hf)];rfl
     refine⟨k+1,by lia,λm hm'=>?_,?_⟩
     ·cases m with
      | zero=>exact⟨i,hi,hf⟩
      | succ m=>exact hm m (by lia)
     ·rw [eg];exact hr
  ·refine⟨0,aU _,λm hm=>absurd hm (fH _),.inl ⟨hp,?_⟩⟩;unfold SetTable.probe.go;rw [qN6 hd hp];dsimp only;rw [dm];rfl
def Way(m:Nat)(pl:List Nat)(j:Nat)(h:Int):Prop := ∃n,(advN m n (qAs m h)).j=j /\ ∀k,k<n->(advN m k (qAs m h)).j∈pl
theorem Way.mono{m:Nat}{pl pl':List Nat}{j:Nat}{h:Int}(s:∀x∈pl,x∈pl')(w:Way m pl j h):Way m pl' j h:=let ⟨n,e,q⟩:=w;⟨n,e,λk hk=>s _ (q k hk)⟩
structure Tab(b:Bool)(t:SetTable)(hs:List Int):Prop where
 rise:t.place.toList.Pairwise (· < ·)
 dm:t.dummies = #[]
 led:t.led=b
 cov:Cov t.mask
 odd:t.mask%2=1
 small:t.mask<=127
 len:t.place.size=hs.length
 few:t.place.size<=t.mask
 inm:∀j∈t.place.toList,j<=t.mask
 way:∀q∈t.place.toList.zip hs,Way t.mask t.place.toList q.1 q.2
theorem Tab.good{b:Bool}{t:SetTable}{hs:List Int}(T:Tab b t hs):GoodT b t hs.length:=by
 refine⟨?_,T.rise,T.led⟩;unfold SetTable.fits SetTable.fill;have:=T.few;rw [T.dm,T.len];simp;rw [<-T.len];exact T.few
theorem Tab.free{b:Bool}{t:SetTable}{hs:List Int}(T:Tab b t hs):∃e,e<=t.mask/\e∉t.place.toList:=by
 by_cases hc:∀e,e<=t.mask->e∈t.place.toList
 ·have h1:(List.range (t.mask+1)).length<=t.place.toList.length:=gC List.nodup_range (λx hx=>hc x (by have:=bL.mp hx;lia));rw [bV,aK] at h1;have:=T.few;lia
 ·simp only [Classical.not_forall] at hc;obtain⟨e,he,hn⟩:=hc;exact⟨e,he,hn⟩
theorem Tab.first{b:Bool}{t:SetTable}{hs:List Int}(T:Tab b t hs)(h:Int):∃N,N<10*SetTable.turns t.mask/\(advN t.mask N (qAs t.mask h)).j∉t.place.toList /\ ∀k,k<N->(advN t.mask k (qAs t.mask h)).j∈t.place.toList:=by
 obtain⟨e,he,hn⟩:=T.free;obtain⟨n,hn1,hn2⟩:=qOt T.cov (qFq t.mask h) he;have key:∀n,(advN t.mask n (qAs t.mask h)).j∉t.place.toList -> ∃N,N<=n/\(advN t.mask N (qAs t.mask h)).j∉t.place.toList /\ ∀k,k<N->(advN t.mask k (qAs t.mask h)).j∈t.place.toList:=by
  intro n
  induction n using Nat.strongRecOn with
  | ind n ih =>
   intro hx;by_cases hc:∀k,k<n->(advN t.mask k (qAs t.mask h)).j∈t.place.toList
   ·exact⟨n,aE _,hx,hc⟩
   ·simp only [Classical.not_forall] at hc;obtain⟨k,hk,hq⟩:=hc;obtain⟨N,a,b⟩:=ih k hk hq;exact⟨N,by lia,b⟩
 obtain⟨N,a,b⟩:=key n (by rw [hn2];exact hn);exact⟨N,by lia,b⟩
theorem Tab.before{b:Bool}{t:SetTable}{hs:List Int}(T:Tab b t hs){i:Nat}{h:Int}(hi:hs[i]? = some h){N:Nat}(hN:(advN t.mask N (qAs t.mask h)).j∉t.place.toList):∃n,n<N/\t.place[i]? = some (advN t.mask n (qAs t.mask h)).j:=by
 have hlt:i<hs.length:=(aI.mp hi).1;have hp:t.place.toList[i]? = some (t.place.toList[i]'(by rw [aK,T.len];exact hlt)):=aF _;generalize (t.place.toList[i]'(by rw [aK,T.len];exact hlt))=j at hp;have hz:(j,h)∈t.place.toList.zip hs:=by
  refine aO (i:=i) ?_;rw [gU];exact⟨hp,hi⟩
 obtain⟨n,e,q⟩:=T.way _ hz;dsimp only at e q;refine⟨n,?_,by rw [<-aY,hp,e]⟩;rcases Nat.lt_trichotomy n N with z | z | z
 ·exact z
 ·subst z;rw [e] at hN;exact absurd (aO hp) hN
 ·exact absurd (q N z) hN
theorem Tab.fresh{b:Bool}(f m:Nat):Tab b (SetTable.fresh f m b) []:=⟨List.Pairwise.nil,rfl,rfl,cov7,(show 7%2=1 from rfl),(show 7<=127 by decide),rfl,(show 0<=7 by decide),λj hj=>(by cases hj),λq hq=>(by cases hq)⟩
theorem Tab.put{b:Bool}{t:SetTable}{hs:List Int}(T:Tab b t hs){h:Int}{N:Nat}(hN:(advN t.mask N (qAs t.mask h)).j∉t.place.toList)(hb:∀k,k<N->(advN t.mask k (qAs t.mask h)).j∈t.place.toList)(room:t.place.size<t.mask):Tab b (t.put (advN t.mask N (qAs t.mask h)).j).1 (hs.take (SetTable.below t.place (advN t.mask N (qAs t.mask h)).j)++h::hs.drop (SetTable.below t.place (advN t.mask N (qAs t.mask h)).j))/\(t.put (advN t.mask N (qAs t.mask h)).j).2=SetTable.below t.place (advN t.mask N (qAs t.mask h)).j/\(t.put (advN t.mask N (qAs t.mask h)).j).1.plain=t.plain/\(t.put (advN t.mask N (qAs t.mask h)).j).1.mask=t.mask:=by
 have hjm:=(qM2 N (qFq t.mask h)).jm;have hw:Way t.mask t.place.toList (advN t.mask N (qAs t.mask h)).j h:=⟨N,rfl,hb⟩;generalize (advN t.mask N (qAs t.mask h)).j=j at *;have hbl:=(qFw t.place j T.rise).1;have hnl:t.place[SetTable.below t.place j]? ≠ some j:=λe=>hN (by rw [<-aY] at e;exact aO e);have up:=qJd t.place j T.rise hnl;have hhas:SetTable.has t.dummies j=false:=by rw [T.dm];unfold SetTable.has;simp
 have epl:(t.put j).1.place.toList=t.place.toList.take (SetTable.below t.place j)++j::t.place.toList.drop (SetTable.below t.place j):=gA ..;have emk:(t.put j).1.mask=t.mask:=rfl;have hl:=T.len;have mem:∀x,x∈(t.put j).1.place.toList↔x=j\/x∈t.place.toList:=λx=>by
  rw [epl,aM,aT];have:x∈t.place.toList↔x∈t.place.toList.take (SetTable.below t.place j)\/x∈t.place.toList.drop (SetTable.below t.place j):=by rw [<-aM,cV]
  rw [this];constructor
  ·rintro (z | z | z)
   ·exact .inr (.inl z)
   ·exact .inl z
   ·exact .inr (.inr z)
  ·rintro (z | z | z)
   ·exact .inr (.inl z)
   ·exact .inl z
   ·exact .inr (.inr z)
 have hsz:(t.put j).1.place.size=t.place.size+1:=by
  rw [<-aK,epl,aG,bY,aV,cJ,aK];lia
 refine⟨⟨up,?_,T.led,T.cov,T.odd,T.small,?_,?_,?_,?_⟩,rfl,rfl,rfl⟩
 ·show (if SetTable.has t.dummies j=true then _ else t.dummies) = #[];rw [hhas];exact T.dm
 ·rw [hsz,aG,bY,aV,cJ];lia
 ·rw [hsz,emk];exact room
 ·intro x hx;rw [emk];rcases (mem x).mp hx with z | z
  ·subst z;exact hjm
  ·exact T.inm x z
 ·intro q hq;rw [emk];have sub:∀x∈t.place.toList,x∈(t.put j).1.place.toList:=λx hx=>(mem x).mpr (.inr hx);have hzl:(t.place.toList.take (SetTable.below t.place j)).length=(hs.take (SetTable.below t.place j)).length:=by rw [aV,aV,aK,hl]
  rw [epl,List.zip_append hzl,List.zip_cons_cons,aM,aT] at hq;have inz:q∈(t.place.toList.take (SetTable.below t.place j)).zip (hs.take (SetTable.below t.place j))\/q∈(t.place.toList.drop (SetTable.below t.place j)).zip (hs.drop (SetTable.below t.place j))->q∈t.place.toList.zip hs:=by
   have e:=List.zip_append (l₁ :=t.place.toList.take (SetTable.below t.place j)) (l₂ :=hs.take (SetTable.below t.place j)) (r₁ :=t.place.toList.drop (SetTable.below t.place j)) (r₂ :=hs.drop (SetTable.below t.place j)) hzl;rw [cV,cV] at e;rw [e,aM];exact id
  rcases hq with z | z | z
  ·exact (T.way q (inz (.inl z))).mono sub
  ·subst z;exact hw.mono sub
  ·exact (T.way q (inz (.inr z))).mono sub
structure Ow(m:Nat)(js:List Nat)(hs:List Int)(ow:Array (Option Nat)):Prop where
 size:ow.size=m+1
 len:js.length=hs.length
 nd:js.Nodup
 inm:∀j∈js,j<=m
 fw:∀(k j:Nat),js[k]? = some j->ow[j]? = some (some k)
 bw:∀(k j:Nat),ow[j]? = some (some k)->js[k]? = some j
 way:∀q∈js.zip hs,Way m js q.1 q.2
theorem Ow.none{m:Nat}{js:List Nat}{hs:List Int}{ow:Array (Option Nat)}(O:Ow m js hs ow){j:Nat}(hj:j<=m):(ow.getD j (some 0)).isNone=true↔j∉js:=by
 have hb:j<ow.size:=by rw [O.size];lia
 have hg:ow[j]? = some ow[j]:=aZ hb;have hd:ow.getD j (some 0)=ow[j]:=by rw [bZ,hg];rfl
 rw [hd];constructor
 ·intro h z;obtain⟨k,hk,e⟩:=bN z;have:=O.fw k j (by rw [aF hk,e]);rw [hg] at this;cases this':ow[j] with
  | none=>rw [this'] at this;cases this
  | some k=>rw [this'] at h;cases h
 ·intro h;cases this':ow[j] with
  | none=>rfl
  | some k=>rw [this'] at hg;exact absurd (aO (O.bw k j hg)) h
theorem qQ7{m:Nat}{js:List Nat}{hs:List Int}{ow:Array (Option Nat)}(O:Ow m js hs ow):∀(fuel:Nat) (p:SetTable.Probe),PrS m p->p.j=p.i->(∃L,L<fuel/\(leapN m L p).j∉js) ->
  ∃n,SetTable.layClean.free m ow fuel p.i p.perturb=some (advN m n p).j/\(advN m n p).j∉js /\ ∀k,k<n->(advN m k p).j∈js
 | 0,p,_,_,⟨L,hL,_⟩=>absurd hL (fH _)
 | fuel+1,p,hp,hj,⟨L,hL,he⟩=>by
  have hr:=qG6 m p.i hp.i;have hge:=qD4 m p.i;have hm:p.more=SetTable.runEnd m p.i - p.i:=by have:=hp.j;lia
  have at':∀k,k<=p.more->(advN m k p).j=p.i+k:=λk hk=>by rw [qI9 p.more rfl k hk];show p.j+k=_;rw [hj]
  unfold SetTable.layClean.free;cases hf:(List.range (SetTable.runEnd m p.i+1 - p.i)).find? (λk=>(ow.getD (p.i+k) (some 0)).isNone) with
  | some k =>
   obtain⟨h1,h2,h3⟩:=List.find?_range_eq_some.mp hf;have h2':=bL.mp h2;have hk:k<=p.more:=by have:=qD4 m p.i;lia
   refine⟨k,by dsimp only;rw [at' k hk],?_,λc hc=>?_⟩
   ·rw [at' k hk];exact (O.none (by lia)).mp h1
   ·rw [at' c (by lia)];have:=h3 c hc;by_cases z:p.i+c∈js
    ·exact z
    ·rw [(O.none (by lia)).mpr z] at this;cases this
  | none =>
   have all:∀k,k<=p.more->p.i+k∈js:=λk hk=>by
    have:=List.find?_eq_none.mp hf k (bL.mpr (by have:=qD4 m p.i;lia));by_cases z:p.i+k∈js
    ·exact z
    ·exact absurd ((O.none (by lia)).mpr z) this
   dsimp only;have hl:advN m (p.more+1) p=leapP m p:=by
    rw [qKq,qI9 p.more rfl p.more (aE _),qG2 (by show p.more - p.more=0;lia)];rfl
   cases L with
   | zero=>exact absurd (by have:=all 0 (aU _);rw [fP,<-hj] at this;exact this) he
   | succ L =>
    obtain⟨n,h1,h2,h3⟩:=qQ7 O fuel (leapP m p) (qIc hp) rfl ⟨L,by lia,he⟩;refine⟨p.more+1+n,?_,?_,λk hk=>?_⟩
    ·rw [qC1,hl];exact h1
    ·rw [qC1,hl];exact h2
    ·by_cases hk2:k<=p.more
     ·rw [at' k hk2];exact all k hk2
     ·rw [show k=p.more+1+(k - (p.more+1)) by lia,qC1,hl];exact h3 _ (by lia)
theorem qXa{m:Nat}(cov:Cov m){js:List Nat}{hs:List Int}{ow:Array (Option Nat)}(O:Ow m js hs ow)(few:js.length<=m)(h:Int):∃j,SetTable.layClean.free m ow (SetTable.turns m) (SetTable.bits h%(m+1)) (SetTable.bits h)=some j/\Ow m (js ++ [j]) (hs ++ [h]) (ow.setIfInBounds j (some js.length)):=by
 have hp:=qFq m h;have hfree:∃e,e<=m/\e∉js:=by
  by_cases hc:∀e,e<=m->e∈js
  ·have h1:(List.range (m+1)).length<=js.length:=gC List.nodup_range (λx hx=>hc x (by have:=bL.mp hx;lia));rw [bV] at h1;lia
  ·simp only [Classical.not_forall] at hc;obtain⟨e,he,hn⟩:=hc;exact⟨e,he,hn⟩
 obtain⟨e,he,hn⟩:=hfree;obtain⟨L,_,hL,_,ej⟩:=qGl cov hp he;obtain⟨n,h1,h2,h3⟩:=qQ7 O (SetTable.turns m) (qAs m h) hp rfl ⟨L,by unfold SetTable.turns;lia,by rw [ej];exact hn⟩;have hjm:=(qM2 n hp).jm;have hw:Way m js (advN m n (qAs m h)).j h:=⟨n,rfl,h3⟩;refine⟨_,h1,?_⟩;generalize (advN m n (qAs m h)).j=j at *;have hb:j<ow.size:=by rw [O.size];lia
 refine⟨?_,?_,?_,?_,?_,?_,?_⟩
 ·rw [Array.size_setIfInBounds];exact O.size
 ·rw [aG,aG,O.len];rfl
 ·exact eM.mpr ⟨O.nd,by simp,by intro x hx y hy;simp at hy;subst hy;intro e;subst e;exact h2 hx⟩
 ·intro x hx;rcases aM.mp hx with z | z
  ·exact O.inm x z
  ·simp at z;subst z;exact hjm
 ·intro k x hk;rcases Nat.lt_or_ge k js.length with z | z
  ·rw [fS z] at hk;have hx:x≠j:=λe=>h2 (e▸aO hk);rw [Array.getElem?_setIfInBounds_ne (cS hx)];exact O.fw k x hk
  ·rw [eD z] at hk;cases hz:k - js.length with
   | zero =>
    rw [hz] at hk;simp at hk;subst hk;rw [gP hb,show k=js.length by lia]
   | succ d=>rw [hz] at hk;simp at hk
 ·intro k x hx;by_cases e:x=j
  ·subst e;rw [gP hb] at hx;cases hx;rw [eD (aE _)];simp
  ·rw [Array.getElem?_setIfInBounds_ne (cS e)] at hx;have:=O.bw k x hx;rw [fS (aI.mp this).1];exact this
 ·intro q hq;rw [List.zip_append O.len] at hq;rcases aM.mp hq with z | z
  ·exact (O.way q z).mono λx hx=>bO _ hx
  ·simp at z;subst z;exact hw.mono λx hx=>bO _ hx
theorem qMk{m:Nat}(cov:Cov m):∀(gs:List Int) {js:List Nat} {hs:List Int} {ow:Array (Option Nat)},Ow m js hs ow->js.length+gs.length<=m+1 ->
  ∃js' ow',gs.foldl (λ(acc:Option (Array (Option Nat)×Nat)) h=>do
   let (owner,k) <-acc
   let j <-SetTable.layClean.free m owner (SetTable.turns m) (SetTable.bits h%(m+1)) (SetTable.bits h)
   pure (owner.setIfInBounds j (some k),k+1)) (some (ow,js.length))=some (ow',js'.length)/\Ow m js' (hs++gs) ow'
 | [],js,hs,ow,O,_=>⟨js,ow,rfl,by rw [bW];exact O⟩
 | g::gs,js,hs,ow,O,h=>by
  rw [bY] at h;obtain⟨j,e,O1⟩:=qXa cov O (by lia) g;obtain⟨js',ow',e2,O2⟩:=qMk cov gs O1 (by rw [aG,cT];lia);refine⟨js',ow',?_,by rw [bU] at O2;exact O2⟩;rw [List.foldl_cons];show List.foldl _ ((SetTable.layClean.free m ow (SetTable.turns m) (SetTable.bits g%(m+1)) (SetTable.bits g)).bind λj=>some (ow.setIfInBounds j (some js.length),js.length+1)) gs=_;rw [e];rw [aG,cT] at e2;exact e2
theorem qXb(m:Nat):Ow m [] [] (Array.replicate (m+1) none):=by
 refine⟨Array.size_replicate,rfl,List.nodup_nil,λj hj=>(by cases hj),λk j e=>(by cases e),λk j e=>?_,λq hq=>(by cases hq)⟩;rw [Array.getElem?_replicate] at e;split at e <;> cases e
theorem qPx{m:Nat}(cov:Cov m)(gs:Array Int)(h:gs.size<=m+1):∃js ow,SetTable.layClean m gs=some ow/\Ow m js gs.toList ow:=by
 obtain⟨js,ow,e,O⟩:=qMk cov gs.toList (qXb m) (by rw [aK];simpa using h);refine⟨js,ow,?_,by simpa using O⟩;unfold SetTable.layClean;rw [<-Array.foldl_toList];exact (congrArg (Option.map (·.1)) e)
theorem qSj(ow:Array (Option Nat))(l:List Nat):((l.filterMap λj=>(ow.getD j none).map (j,·)).map (·.1)).Sublist l:=by
 induction l with
 | nil=>exact .slnil
 | cons a r ih =>
  rw [cF];cases ow.getD a none with
  | none=>exact ih.cons _
  | some k=>exact ih.cons₂ a
theorem qSl{m f mv:Nat}{led pl:Bool}(cov:Cov m)(odd:m%2=1)(small:m<=127)(es:Array (Int×Value))(h:es.size<=m):∃t order,SetTable.laid m f mv led pl (es.map (·.1))=some (t,order)/\(order.filterMap (es[·]?)).toList.Perm es.toList/\Tab led t ((order.filterMap (es[·]?)).toList.map (·.1))/\t.plain=pl/\t.mask=m:=by
 obtain⟨js,ow,e,O⟩:=qPx cov (es.map (·.1)) (by rw [eZ];lia);refine⟨_,_,by unfold SetTable.laid;rw [e];rfl,?_⟩;have hlen:js.length=es.size:=by have:=O.len;rw [this,aK,eZ]
 have mem:∀(j k:Nat),(j,k)∈((List.range (m+1)).filterMap λj=>(ow.getD j none).map (j,·))↔js[k]? = some j:=by
  intro j k;rw [cP];constructor
  ·rintro⟨x,hx,q⟩;obtain⟨k',hk',q2⟩:=Option.map_eq_some_iff.mp q;cases q2;refine O.bw _ _ ?_;rw [bZ] at hk';cases z:ow[j]? with
   | none=>rw [z] at hk';cases hk'
   | some y=>rw [z] at hk';simp at hk';rw [hk']
  ·intro q;have hj:=O.inm j (aO q);refine⟨j,bL.mpr (by lia),?_⟩;rw [bZ,O.fw k j q];rfl
 have up:(((List.range (m+1)).filterMap λj=>(ow.getD j none).map (j,·)).map (·.1)).Pairwise (· < ·):=List.Pairwise.sublist (qSj ow _) fI;generalize ((List.range (m+1)).filterMap λj=>(ow.getD j none).map (j,·))=L at mem up ⊢;have lt:∀q∈L,q.2<es.size:=λq hq=>by
  have:=(mem q.1 q.2).mp hq;rw [<-hlen];exact (aI.mp this).1
 have up':L.Pairwise λa b=>a.1<b.1:=fB.mp up;have nd2:(L.map (·.2)).Nodup:=by
  rw [List.Nodup,fB];refine List.Pairwise.imp_of_mem (λ{a b} ha hb hab z=>?_) up';have h1:=(mem a.1 a.2).mp ha;have h2:=(mem b.1 b.2).mp hb;rw [z,h2] at h1;have h3:b.1=a.1:=bF h1;rw [h3] at hab;exact fM _ hab
 have pr:(L.map (·.2)).Perm (List.range es.size):=by
  refine (List.perm_ext_iff_of_nodup nd2 List.nodup_range).mpr λk=>?_;rw [bL];constructor
  ·intro hk;obtain⟨q,hq,rfl⟩:=bH.mp hk;exact lt q hq
  ·intro hk;have hj:js[k]? = some (js[k]'(by lia)):=aF _;exact bH.mpr ⟨_,(mem _ _).mpr hj,rfl⟩
 have es':(((L.map (·.2)).toArray).filterMap (es[·]?)).toList=(L.map (·.2)).filterMap (es[·]?):=by simp
 have zipE:∀(l:List (Nat×Nat)),(∀q∈l,q.2<es.size)->((l.map (·.2)).filterMap (es[·]?)).map (·.1)=l.map λq=>((es[q.2]?).map (·.1)).getD 0:=by
  intro l
  induction l with
  | nil=>intro _;rfl
  | cons q r ih =>
   intro hq;have h1:es[q.2]? = some (es[q.2]'(hq q (by simp))):=aZ _;rw [bG,cF,h1,bG,bG,ih λx hx=>hq x (by simp [hx]),h1];rfl
 rw [es'];refine⟨?_,?_,rfl,rfl⟩
 ·refine (pr.filterMap _).trans ?_;rw [filterMap_getElem?_range]
 ·rw [zipE L lt];have hL:L.length=es.size:=by have:=pr.length_eq;rw [aB,bV] at this;exact this
  have memj:∀x,x∈js↔x∈L.map (·.1):=λx=>by
   constructor
   ·intro hx;obtain⟨k,hk,ek⟩:=bN hx;exact bH.mpr ⟨(x,k),(mem _ _).mpr (by rw [aF hk,ek]),rfl⟩
   ·intro hx;obtain⟨q,hq,rfl⟩:=bH.mp hx;exact aO ((mem q.1 q.2).mp hq)
  refine⟨up,rfl,rfl,cov,odd,small,?_,?_,?_,?_⟩
  ·show (L.map (·.1)).toArray.size=_;rw [aP,aB,aB]
  ·show (L.map (·.1)).toArray.size<=m;rw [aP,aB,hL];exact h
  ·intro j hj;exact O.inm j ((memj j).mpr hj)
  ·intro q hq;have hq':q∈(L.map (·.1)).zip (L.map λq=>((es[q.2]?).map (·.1)).getD 0):=hq;rw [List.zip_map,bH] at hq';obtain⟨⟨a,b⟩,hab,rfl⟩:=hq';have hab2:a=b/\a∈L:=by
    obtain⟨i,hi,e⟩:=bN hab;rw [List.getElem_zip] at e;cases e;exact⟨rfl,dZ _⟩
   obtain⟨rfl,ha⟩:=hab2;have hk:=(mem a.1 a.2).mp ha;have h1:es[a.2]? = some (es[a.2]'(lt a ha)):=aZ _;have hz:(a.1,((es[a.2]?).map (·.1)).getD 0)∈js.zip (es.map (·.1)).toList:=by
    refine aO (i:=a.2) ?_;rw [gU];refine⟨hk,?_⟩;rw [aY,Array.getElem?_map,h1];rfl
   exact (O.way _ hz).mono λx hx=>(memj x).mp hx
section
variable{P:Program}{w:World}{A:Around}{E:Value->Shared->Prop}{s:Shared}
abbrev hT(P:Program)(w:World)(ks:List Int):Int:=(tupleKind (intKind P w)).hash ks
abbrev IsT(P:Program)(w:World)(h:Heap)(ks:List Int)(b:Addr):Prop:=(tupleKind (intKind P w)).is h ks b
def entT(P:Program)(w:World)(q:Addr×List Int):Int×Value:=(hT P w q.2,Value.ref q.1)
theorem Tab.fits'{b:Bool}{t:SetTable}{es:Array (Int×Value)}(T:Tab b t (es.toList.map (·.1))):t.fits es.size=true:=by
 have:=T.good.fits;rw [aB,aK] at this;exact this
theorem qIu(n:Nat){v:Value}(h:carriedByValue v=true):ofAClassStatement n v=pure false:=by
 cases v <;> first | (cases h;done) | (unfold ofAClassStatement;rfl) | rfl
theorem qGs{ks:List Int}{b:Addr}{Q:Bool->Shared->Prop}(hk:IsT P w s.heap ks b)(h:Q false s):wpAny (model P w) A (ofAClassStatement 8 (.ref b)) Q E s:=by
 have hk':IsTupleKey (intKind P w) s.heap ks b:=hk;have hT:=hk'.typeIs;obtain⟨o,items,n,ho,_,hd,hi⟩:=hk';unfold ofAClassStatement;refine aA (wpAny_typeOf hT ?_);dsimp only;rw [if_pos (by decide)];refine aA (aC ?_);rw [if_neg (by decide)];refine aA (wpAny_seqItems ho hd ?_);dsimp only;refine aA ?_;show wpAny _ _ (forIn items _ _) _ _ s;rw [<-Array.forIn_toList];refine wpAny_forIn_list _ (λrest r s'=>r.1=none/\s'=s /\ ∀v∈rest,carriedByValue v=true) _ ?_ ?_ _ _ ⟨rfl,rfl,hi.byValue⟩
 ·rintro v rest r s' ⟨hr,rfl,hall⟩;rw [qIu _ (hall v aR)];refine aA (aC ?_);rw [if_neg (by decide)];exact aC ⟨rfl,rfl,λu hu'=>hall u (aS _ hu')⟩
 ·rintro⟨r1,r2⟩ s' ⟨hr,rfl,_⟩;simp only at hr;subst hr;exact aC h
theorem qRj{b:Addr}{x:List Int}(hx:IsT P w s.heap x b)(l:List Value){Q:Bool->Shared->Prop}(hl:∀v∈l,∃(q:Addr×List Int),v = .ref q.1/\IsT P w s.heap q.2 q.1)(q:Q false s):wpAny (model P w) A (searchCouldBeSeen (.ref b) l) Q E s:=by
 unfold searchCouldBeSeen;refine aA ?_;refine wpAny_forIn_list _ (λrest r s'=>r.1=none/\s'=s /\ ∀v∈rest,∃(q:Addr×List Int),v = .ref q.1/\IsT P w s.heap q.2 q.1) _ ?_ ?_ _ _ ⟨rfl,rfl,hl⟩
 ·rintro v rest r s' ⟨hr,rfl,hall⟩;obtain⟨q,rfl,hq⟩:=hall v aR;have hrest:=λu hu'=>hall u (aS _ hu');dsimp only;split
  ·exact aC ⟨rfl,rfl,hrest⟩
  ·refine aA ((tupleKind (intKind P w)).quiet hx ?_);rw [if_neg (by decide)];refine aA ((tupleKind (intKind P w)).quiet hq ?_);rw [if_neg (by decide)];refine aA (qGs hx ?_);rw [if_neg (by decide)];refine aA (qGs hq ?_);rw [if_neg (by decide)];exact aC ⟨rfl,rfl,hrest⟩
 ·rintro⟨r1,r2⟩ s' ⟨hr,rfl,_⟩;simp only at hr;subst hr;exact aC q
theorem qG5{a b:Addr}{o:Obj}{es:Array (Int×Value)}{ep:Nat}{t:SetTable}{qs:List (Addr×List Int)}{ks:List Int}{R:SetFound->Shared->Prop}(hu:(tupleKind (intKind P w)).room A)(ho:s.heap.get? a=some o)(hd:o.data = .set es ep t)(he:es.toList=qs.map (entT P w))(T:Tab (!qBw w) t (es.toList.map (·.1)))(hk:∀q∈qs,IsT P w s.heap q.2 q.1)(hx:IsT P w s.heap ks b){N:Nat}(hN:(advN t.mask N (qAs t.mask (hT P w ks))).j∉t.place.toList)(hb:∀k,k<N->(advN t.mask k (qAs t.mask (hT P w ks))).j∈t.place.toList)(hN1:N<10*SetTable.turns t.mask)(r1:(∃q∈qs,q.2=ks)->R (.there none) s)(r2:(∀q∈qs,q.2≠ks)->R (.free (advN t.mask N (qAs t.mask (hT P w ks))).j false) s):∀(fuel n:Nat) (st:Option SetTable.Probe),n<=N->N - n<fuel->st.getD (t.probeStart (hT P w ks))=advN t.mask n (qAs t.mask (hT P w ks)) ->
   (∀(k i:Nat) (q:Addr×List Int),k<n->t.place[i]? = some (advN t.mask k (qAs t.mask (hT P w ks))).j->qs[i]? = some q->q.2≠ks) ->
   wpAny (model P w) A (setSearchFrom a (.ref b) (hT P w ks) true fuel st) R E s
 | 0,n,st,_,h2,_,_=>absurd h2 (fH _)
 | fuel+1,n,st,h1,h2,hst,hne=>by
  unfold setSearchFrom;refine aA (cO ho hd T.fits' ?_);dsimp only;rw [if_neg (by unfold SetTable.gaveWay;rw [T.odd];simp)];obtain⟨k,hk1,hbef,hr⟩:=qHg (f:=λi=>(es[i]?.map (·.1)).getD 0) (h:=hT P w ks) T.rise T.dm (10*SetTable.turns t.mask) (N - n) (advN t.mask n (qAs t.mask (hT P w ks))) (qM2 n (qFq _ _)).dm (by lia) (by rw [<-qC1,show n+(N - n)=N by lia];exact hN);have hfits:=T.fits';have hent:∀(i:Nat) (q:Addr×List Int),qs[i]? = some q->es[i]? = some (hT P w q.2,Value.ref q.1):=λi q hq=>by
   rw [<-aY,he,aW,hq];rfl
  have hsz:qs.length=t.place.size:=by
   rw [T.len,aB,he,aB]
  have pass:∀m,m<k -> ∀(i:Nat) (q:Addr×List Int),t.place[i]? = some (advN t.mask (n+m) (qAs t.mask (hT P w ks))).j->qs[i]? = some q->q.2≠ks:=by
   intro m hm i q hi hq ez;obtain⟨i',hi',hf⟩:=hbef m hm;rw [<-qC1] at hi';have ei:i=i':=by
    have h1:=qCj T.rise hi;have h2:=qCj T.rise hi';rw [h1] at h2;injection h2
   subst ei;rw [hent i q hq,ez] at hf;exact hf rfl
  have hne2:∀(m i:Nat) (q:Addr×List Int),m<n+k->t.place[i]? = some (advN t.mask m (qAs t.mask (hT P w ks))).j->qs[i]? = some q->q.2≠ks:=by
   intro m i q hm hi hq;by_cases hmn:m<n
   ·exact hne m i q hmn hi hq
   ·refine pass (m - n) (by lia) i q ?_ hq;rw [show n+(m - n)=m by lia];exact hi
  rw [hst];generalize hpr:t.probe _ (hT P w ks) (advN t.mask n (qAs t.mask (hT P w ks)))=mt;rw [<-qC1] at hr;rcases hr with ⟨hfree,e⟩ | ⟨i,hi,hf,e⟩
  ·have hm:mt=_:=hpr.symm.trans e;rw [hm];dsimp only;have hkN:n+k=N:=by
    rcases Nat.lt_or_ge (n+k) N with z | z
    ·exact absurd (hb _ z) hfree
    ·lia
   refine aC ?_;rw [hkN];refine r2 λq hq ez=>?_;obtain⟨i,hi,eq⟩:=bN hq;have hqi:qs[i]? = some q:=by rw [aF hi,eq]
   obtain⟨n',hn',hp'⟩:=T.before (i:=i) (h:=hT P w ks) (by rw [aW,aY,hent i q hqi,ez];rfl) hN;exact hne2 n' i q (by lia) hp' hqi ez
  ·have hm:mt=_:=hpr.symm.trans e;rw [hm];dsimp only;have hil:i<qs.length:=by rw [hsz];exact (fJ.mp hi).1
   obtain⟨q,hq⟩:∃q,qs[i]? = some q:=⟨_,aF hil⟩;have hqm:=aO hq;have hei:=hent i q hq
   have cont:wpAny (model P w) A (do
     let equal <-holding [Value.ref q.1] (eqBool (Value.ref q.1) (Value.ref b))
     let x <-setState a
     if (true&&equal)=true then pure (SetFound.there none)
      else
       match x.2.snd.sameMemory t.moves t.mask with
       | some same =>
        match if same=true then x.2.snd.slot (advN t.mask (n+k) (qAs t.mask (hT P w ks))).j else SetTable.Slot.empty with
        | SetTable.Slot.live i' =>
         match x.fst[i']? with
         | some (fst,y')=>do
          let d <-isSame y' (Value.ref q.1)
          let still <-pure (if d=true then some i' else none)
          match still with
           | none=>do
            rule "set.search.anew"
            setSearchFrom a (Value.ref b) (hT P w ks) true fuel none
           | some i' =>
            if equal=true then pure (SetFound.there (some i'))
            else setSearchFrom a (Value.ref b) (hT P w ks) true fuel (some (advN t.mask (k+1) (advN t.mask n (qAs t.mask (hT P w ks)))))
         | none=>do
          let still <-pure none
          match still with
           | none=>do
            rule "set.search.anew"
            setSearchFrom a (Value.ref b) (hT P w ks) true fuel none
           | some i' =>
            if equal=true then pure (SetFound.there (some i'))
            else setSearchFrom a (Value.ref b) (hT P w ks) true fuel (some (advN t.mask (k+1) (advN t.mask n (qAs t.mask (hT P w ks)))))
        | x=>do
         let still <-pure none
         match still with
          | none=>do
           rule "set.search.anew"
           setSearchFrom a (Value.ref b) (hT P w ks) true fuel none
          | some i' =>
           if equal=true then pure (SetFound.there (some i'))
           else setSearchFrom a (Value.ref b) (hT P w ks) true fuel (some (advN t.mask (k+1) (advN t.mask n (qAs t.mask (hT P w ks)))))
       | x=>unsupported "set.changed-during-lookup:is-the-new-block-at-the-old-address") R E s:=by
    refine aA (bT ((tupleKind (intKind P w)).eqBool hu (hk q hqm) hx ?_));refine aA (cO ho hd hfits ?_);by_cases hqk:q.2=ks
    ·rw [decide_eq_true hqk];exact aC (r1 ⟨q,hqm,hqk⟩)
    ·rw [decide_eq_false hqk];have hsm:t.sameMemory t.moves t.mask=some true:=by unfold SetTable.sameMemory;simp
     dsimp only;rw [hsm];dsimp only;rw [if_neg (by decide),if_pos rfl,qCj T.rise hi];dsimp only;rw [hei];dsimp only;refine aA (wpAny_isSame_ref_self (aA (aC ?_)));have hnk:n+k<N:=by
      rcases Nat.lt_or_ge (n+k) N with z | z
      ·exact z
      ·have z2:n+k=N:=by lia
       rw [z2] at hi;exact absurd (by rw [<-aY] at hi;exact aO hi) hN
     refine qG5 hu ho hd he T hk hx hN hb hN1 r1 r2 fuel (n+k+1) _ (by lia) (by lia) ?_ ?_
     ·show advN t.mask (k+1) (advN t.mask n _)=_;rw [<-qC1];rfl
     ·intro m i' q' hm hi' hq';rcases Nat.lt_or_ge m (n+k) with z | z
      ·exact hne2 m i' q' z hi' hq'
      ·have z2:m=n+k:=by lia
       subst z2;have h1:=qCj T.rise hi;have h2:=qCj T.rise hi';rw [h1] at h2;injection h2 with h3
       subst h3;rw [hq] at hq';cases hq';exact hqk
   split
   ·refine aA (qRj hx _ (λv hv=>?_) ?_)
    ·obtain⟨e1,he1,rfl⟩:=bH.mp hv;have he2:=(Array.mem_filter.mp (Array.mem_toList_iff.mp he1)).1;have he3:e1∈es.toList:=Array.mem_toList_iff.mpr he2;rw [he] at he3;obtain⟨q1,hq1,rfl⟩:=bH.mp he3;exact⟨q1,rfl,hk q1 hq1⟩
    ·rw [if_neg (by decide),hei];exact cont
   ·rw [hei];exact cont
end
section
variable{P:Program}{w:World}{A:Around}{E:Value->Shared->Prop}{s:Shared}
def Rm(t:SetTable):Prop:=(t.mask=7\/t.mask=31\/t.mask=127)/\t.place.size*5<t.mask*3
def STup(P:Program)(w:World)(h:Heap)(a:Addr)(ps:List (Addr×List Int)):Prop :=
 ∃o es ep t qs,h.get? a=some o/\o.ExactSet/\o.data = .set es ep t/\List.Perm qs ps/\es.toList=qs.map (entT P w)/\(ps.map (·.2)).Nodup/\Tab (!qBw w) t (es.toList.map (·.1))/\Rm t
theorem STup.stay{h h':Heap}{a:Addr}{ps:List (Addr×List Int)}(S:STup P w h a ps)(k:∀o,h.get? a=some o->h'.get? a=some o):STup P w h' a ps:=by
 obtain⟨o,es,ep,t,qs,e,r⟩:=S;exact⟨o,es,ep,t,qs,k o e,r⟩
theorem qK2{k:Int}{v:Value}(h:(intKind P w).is k v=true):∃n t,v=Value.int n t:=by
 have h':Value.isInt k v=true:=h;cases v <;> first | exact⟨_,_,rfl⟩ | (cases h';done) | simp [Value.isInt] at h'
theorem qGd{α β : Type}{f : α -> β}{l:List β}{qs:List α}(h:l.Perm (qs.map f)):∃qs',List.Perm qs' qs/\l=qs'.map f:=by
 generalize e:qs.map f=m at h
 induction h generalizing qs with
 | nil=>cases qs with
  | nil=>exact⟨[],.refl _,rfl⟩
  | cons a r=>cases e
 | cons x p ih =>
  cases qs with
  | nil=>cases e
  | cons a r =>
   rw [bG] at e;injection e with e1 e2
   obtain⟨q,pq,eq⟩:=ih e2;exact⟨a::q,pq.cons a,by rw [bG,<-eq,e1]⟩
 | swap x y l =>
  cases qs with
  | nil=>cases e
  | cons a r =>
   cases r with
   | nil=>cases e
   | cons b r =>
    rw [bG,bG] at e;injection e with e1 e2
    injection e2 with e2 e3
    exact⟨b::a::r,.swap a b r,by rw [bG,bG,e1,e2,e3]⟩
 | trans p1 p2 ih1 ih2 =>
  obtain⟨q2,pq2,e2⟩:=ih2 e;obtain⟨q1,pq1,e1⟩:=ih1 e2.symm;exact⟨q1,pq1.trans pq2,e1⟩
def addT(ps:List (Addr×List Int))(b:Addr)(ks:List Int):List (Addr×List Int):=if ks∈ps.map (·.2) then ps else ps ++ [(b,ks)]
theorem qKu{ks:List Int}{b:Addr}{Q:Bool->Shared->Prop}(hk:IsT P w s.heap ks b)(h:Q true s):wpAny (model P w) A (hashByValue 8 (.ref b)) Q E s:=by
 have hk':IsTupleKey (intKind P w) s.heap ks b:=hk;have hT:=hk'.typeIs;obtain⟨o,items,n,ho,_,hd,hi⟩:=hk';unfold hashByValue;refine aA (wpAny_specialOf hT F.slot_tuple_hash.lookup ?_);show wpAny _ _ (seqItems? (Value.ref b) >>= _) _ _ s;refine aA (wpAny_seqItems ho hd ?_);refine aA ?_;show wpAny _ _ (forIn items _ _) _ _ s;rw [<-Array.forIn_toList];have hall:∀v∈items.toList,∃n t,v=Value.int n t:=by
  clear hd ho hk hT;generalize items.toList=vs at hi
  induction hi with
  | nil=>intro v hv;cases hv
  | cons h1 _ ih =>
   intro v hv;rcases aT.mp hv with rfl | hv
   ·exact qK2 h1
   ·exact ih v hv
 refine wpAny_forIn_list _ (λrest r s'=>r.1=none/\s'=s /\ ∀v∈rest,∃n t,v=Value.int n t) _ ?_ ?_ _ _ ⟨rfl,rfl,hall⟩
 ·rintro v rest r s' ⟨hr,rfl,hall⟩;obtain⟨n,t,rfl⟩:=hall v aR;rw [hashByValue_scannable 7 (x :=.int n t) rfl];refine aA (aC ?_);rw [if_neg (by unfold plainKind;simp)];exact aC ⟨rfl,rfl,λu hu'=>hall u (aS _ hu')⟩
 ·rintro⟨r1,r2⟩ s' ⟨hr,rfl,_⟩;simp only at hr;subst hr;exact aC h
theorem sizes:SetTable.sizeAbove 20=32/\SetTable.sizeAbove 76=128:=by decide +kernel
theorem qR4{a:Addr}{o:Obj}{es es1:Array (Int×Value)}{ep:Nat}{t t2:SetTable}{qs1 ps1:List (Addr×List Int)}{R:Bool->Shared->Prop}(ho:s.heap.get? a=some o)(hex:o.ExactSet)(hd:o.data = .set es ep t)(hz:es1.size=es.size+1)(hm:t2.mask=7\/t2.mask=31\/t2.mask=127)(few:es1.size<=76)(room:es.size*5<t2.mask*3)(hp:List.Perm qs1 ps1)(he:es1.toList=qs1.map (entT P w))(hn:(ps1.map (·.2)).Nodup)(T:Tab (!qBw w) t2 (es1.toList.map (·.1)))(h:∀h',Heap.SameBut a s.heap h'->STup P w h' a ps1->R true { s with heap:=h' }):wpAny (model P w) A (do
    storeSet a es1 t2
    if (!false&&t2.tooFull)=true then do
      setRelay a (SetTable.grown (es.size+1))
      pure true
     else pure true) R E s:=by
 have hb:es1.size<scanBound:=fO few (by decide);refine aA (wpAny_storeSet_of ho hd ?_ (gB hb));have hg:=dI (Obj.putSet es1 t2) ho (by rw [putSet_of es1 t2 hd];rfl);rw [putSet_of es1 t2 hd] at hg;have sb:=cG s.heap a (Obj.putSet es1 t2);have hps:t2.place.size=es1.size:=by rw [T.len,aB,aK]
 have hfull:t2.tooFull=decide (es1.size*5>=t2.mask*3):=by
  unfold SetTable.tooFull SetTable.fill;rw [T.dm,hps];rfl
 split
 ·rename_i hf;have hf':es1.size*5>=t2.mask*3:=by rw [hfull] at hf;simpa using hf
  have hw:∃m,SetTable.sizeAbove (SetTable.grown (es.size+1)) - 1=m/\SetTable.sizeAbove (SetTable.grown (es.size+1))<=128/\Cov m/\m%2=1/\m<=127/\es1.size<=m/\(m=7\/m=31\/m=127)/\es1.size*5<m*3:=by
   rcases hm with z | z | z
   ·have e:es.size+1=5:=by rw [z] at hf' room;lia
    rw [e,show SetTable.grown 5=20 from rfl,sizes.1];exact⟨31,rfl,by decide,cov31,rfl,by decide,by lia,.inr (.inl rfl),by lia⟩
   ·have e:es.size+1=19:=by rw [z] at hf' room;lia
    rw [e,show SetTable.grown 19=76 from rfl,sizes.2];exact⟨127,rfl,by decide,qXv,rfl,by decide,by lia,.inr (.inr rfl),by lia⟩
   ·rw [z] at hf';lia
  obtain⟨m,em,e128,cov,odd,small,hfit,m3,hroom⟩:=hw;refine aA ?_;unfold setRelay;refine aA (cO (s :={ s with heap:=s.heap.update a (Obj.putSet es1 t2) }) hg rfl T.fits' ?_);dsimp only;rw [if_neg (by rw [fE];lia)];unfold SetTable.relaid;rw [em];obtain⟨t3,order,el,pm,T3,_,em3⟩:=qSl (f:=t2.finger) (mv:=t2.movedTo m) (led:=t2.led) (pl:=t2.plain) cov odd small es1 hfit;rw [el];refine aA ?_;have hz3:(order.filterMap (es1[·]?)).size=es1.size:=by rw [<-aK,pm.length_eq,aK]
  show wpAny _ _ (ite _ _ _) _ _ _;rw [if_neg (by rw [hz3];simp)];refine aC ?_;dsimp only;refine wpAny_storeSet_of (s :={ s with heap:=s.heap.update a (Obj.putSet es1 t2) }) hg rfl (aC ?_) (gB (by rw [hz3];exact hb));refine h _ (sb.trans (cG _ a _)) ?_;generalize order.filterMap (es1[·]?)=es2 at pm T3 hz3 ⊢;have hg2:=dI (Obj.putSet es2 t3) hg (by rw [putSet_of es2 t3 rfl];rfl);rw [putSet_of es2 t3 rfl] at hg2;have:∃qs2,List.Perm qs2 qs1/\es2.toList=qs2.map (entT P w):=by
   rw [he] at pm;exact qGd pm
  obtain⟨qs2,pq,e2⟩:=this;rw [T.led] at T3;refine⟨_,es2,_,t3,qs2,hg2,hex,rfl,pq.trans hp,e2,hn,T3,by rw [em3];exact m3,?_⟩;rw [em3,T3.len,aB,aK,hz3];exact hroom
 ·rename_i hf;have hf' : ¬es1.size*5>=t2.mask*3:=by rw [hfull] at hf;simpa using hf
  exact aC (h _ sb ⟨_,es1,_,t2,qs1,hg,hex,rfl,hp,he,hn,T,hm,by rw [hps];lia⟩)
theorem qVu{a b:Addr}{ps:List (Addr×List Int)}{ks:List Int}{Q:Bool->Shared->Prop}(hu:(tupleKind (intKind P w)).room A)(S:STup P w s.heap a ps)(hk:∀q∈ps,IsT P w s.heap q.2 q.1)(hx:IsT P w s.heap ks b)(few:ps.length<76)(h:∀(h':Heap) (tk:Nat),Heap.SameBut a s.heap h'->STup P w h' a (addT ps b ks)->Q (!decide (ks∈ps.map (·.2))) { s with heap:=h',toks:=tk }):wpAny (model P w) A (setAdd a (.ref b)) Q E s:=by
 unfold setAdd;refine bT (aA ((tupleKind (intKind P w)).pyHash hu hx ?_));obtain⟨o,es,ep,t,qs,ho,hex,hd,hp,he,hn,T,Rt⟩:=S;unfold setAddHashed setAddHashedIn;refine bT (aA (cO (s :={ s with toks:=s.toks+(tupleKind (intKind P w)).draws ks }) ho hd T.fits' ?_));dsimp only;rw [if_neg (by unfold byScan;simp [Value.scannable])];have hkq:∀q∈qs,IsT P w s.heap q.2 q.1:=λq hq=>hk q (hp.mem_iff.mp hq);obtain⟨N,hN1,hN,hb⟩:=T.first (hT P w ks)
 have hm:=T.small;refine aA ?_;unfold setSearch;refine qG5 (s :={ s with toks:=s.toks+(tupleKind (intKind P w)).draws ks }) hu ho hd he T hkq hx hN hb hN1 (λz=>?_) (λz=>?_) 100000 0 none (aU _) (by unfold SetTable.turns at hN1;lia) rfl (λk i q hk0=>absurd hk0 (fH _))
 ·dsimp only;have hmem:ks∈ps.map (·.2):=by
   obtain⟨q,hq,e⟩:=z;exact bH.mpr ⟨q,hp.mem_iff.mp hq,e⟩
  refine aC ?_;have q:=h s.heap (s.toks+(tupleKind (intKind P w)).draws ks) (Heap.SameBut.refl a s.heap) ⟨o,es,ep,t,qs,ho,hex,hd,by unfold addT;rw [if_pos hmem];exact hp,he,by unfold addT;rw [if_pos hmem];exact hn,T,Rt⟩;rw [decide_eq_true hmem] at q;exact q
 ·dsimp only;have hmem:ks∉ps.map (·.2):=λhm=>by
   obtain⟨q,hq,e⟩:=bH.mp hm;exact z q (hp.mem_iff.mpr hq) e
  refine aA (cO (s :={ s with toks:=s.toks+(tupleKind (intKind P w)).draws ks }) ho hd T.fits' ?_);dsimp only;have hlen:t.place.size=ps.length:=by rw [T.len,aB,he,aB,hp.length_eq]
  have hes:es.size=ps.length:=by rw [<-aK,he,aB,hp.length_eq]
  have hroom:t.place.size<t.mask:=by have:=Rt.2;lia
  obtain⟨T2,e2,_,emk⟩:=T.put hN hb hroom;rw [e2];generalize (advN t.mask N (qAs t.mask (hT P w ks))).j=j at *;generalize SetTable.below t.place j=i at *;have hl1:(SetTable.insertAt es i ((tupleKind (intKind P w)).hash ks,Value.ref b)).toList=(qs.take i++(b,ks)::qs.drop i).map (entT P w):=by
   rw [gA,he,aN,bG,List.map_take,List.map_drop];rfl
  have hz:(SetTable.insertAt es i ((tupleKind (intKind P w)).hash ks,Value.ref b)).size=es.size+1:=by
   rw [<-aK,(SetTable.insertAt_perm ..).length_eq,aK,Array.size_push]
  have hp1:List.Perm (qs.take i++(b,ks)::qs.drop i) (addT ps b ks):=by
   unfold addT;rw [if_neg hmem];refine List.perm_middle.trans ?_;rw [cV];exact (hp.cons _).trans (List.perm_append_singleton _ _).symm
  have hn1:((addT ps b ks).map (·.2)).Nodup:=by
   unfold addT;rw [if_neg hmem,aN];exact eM.mpr ⟨hn,by simp,by intro x hx' y hy;simp at hy;subst hy;intro e;subst e;exact hmem hx'⟩
  have T3:Tab (!qBw w) (t.put j).1 ((SetTable.insertAt es i ((tupleKind (intKind P w)).hash ks,Value.ref b)).toList.map (·.1)):=by
   rw [gA,aN,bG,List.map_take,List.map_drop];exact T2
  have fin:∀h',Heap.SameBut a s.heap h'->STup P w h' a (addT ps b ks)->Q true { s with heap:=h',toks:=s.toks+(tupleKind (intKind P w)).draws ks }:=λh' sb S'=>by
   have q:=h h' (s.toks+(tupleKind (intKind P w)).draws ks) sb S';rw [decide_eq_false hmem] at q;exact q
  have tail:=qR4 (P:=P) (w:=w) (A:=A) (E:=E) (s :={ s with toks:=s.toks+(tupleKind (intKind P w)).draws ks }) (R:=Q) ho hex hd hz (by rw [emk];exact Rt.1) (by rw [hz];lia) (by rw [emk,hes,<-hlen];exact Rt.2) hp1 hl1 hn1 T3 fin;split
  ·refine aA (qKu (s :={ s with toks:=s.toks+(tupleKind (intKind P w)).draws ks }) hx ?_);exact tail
  ·refine aA (aC ?_);exact tail
end
section
variable{P:Program}{w:World}{A:Around}{E:Value->Shared->Prop}{s:Shared}
theorem qIl{ks:List Int}{vs:List Value}(h:ItemsAre (intKind P w) ks vs):IntsAre vs ks:=by
 induction h with
 | nil=>exact .nil
 | @cons k v ks vs h1 _ ih =>
  obtain⟨n,t,rfl⟩:=qK2 h1;have:k=n:=(intKind P w).inj _ _ _ h1 (intKind_is P w n t);subst this;exact .cons k t ih
theorem qRg{a:Addr}{us:List Value}{n:Nat}{R:PySem.Fin->Shared->Prop}(g2:s.heap.get? a=some (seqObj "list" us.toArray n))(h2:us.length<2)
  (h:∀(h':Heap) (c:Nat),(∀b o,b≠a->s.heap.get? b=some o->h'.get? b=some o)->h'.get? a=some (seqObj "list" us.toArray c)->R (.done (.ret .none)) { s with heap:=h' }) :
  wpAny (model P w) A (Builtin.«list.sort» ⟨[.ref a],[]⟩) R E s:=by
 have ha:a<s.heap.objs.size:=aX g2;have hz:us.length<=sizeLine:=by rw [fE];lia
 rw [list_sort_plain];obtain⟨e1,g3⟩:∃e1,(s.heap.update a (Obj.mapSeq λ_ => #[])).get? a=some (seqObj "list" #[] e1):=⟨_,fF g2 λ_ => #[]⟩;refine aA (listItems_at g2 rfl (aA (listUpdate_at g2 rfl (aA (seqEpoch_at g3 rfl (aA (wpAny_newTuple (aA (gE (bT ?_) (aU _))) (by show us.length<=_;exact hz))))) (by rw [aP];exact hz) (aU _))));dsimp only;have hk:∀b o,b≠a->s.heap.get? b=some o->(((s.heap.update a (Obj.mapSeq λ_=>(#[]:Array Value))).push (seqObj "tuple" us.toArray 0)).push (seqObj "list" #[] 0)).get? b=some o:=λb o hb e=>aH _ (aH _ ((cH _ _ (cS hb)).trans e))
 have g4:(((s.heap.update a (Obj.mapSeq λ_=>(#[]:Array Value))).push (seqObj "tuple" us.toArray 0)).push (seqObj "list" #[] 0)).get? a=some (seqObj "list" #[] e1):=aH _ (aH _ g3);rw [if_pos (by rw [aP];exact h2),if_pos (by rw [aP];exact h2)];refine aA (aC ?_);rw [StateT.run_pure];refine aA (aC ?_);dsimp only;have ha':Array.map (λx:Keyed=>x.snd) (arrOf (SortSt.mk' general' (us.toArray.zip us.toArray) #[] 7 none))=us.toArray:=by
  show Array.map (λx:Keyed=>x.snd) (us.toArray.zip us.toArray)=us.toArray
  match us,h2 with
  | [],_=>simp
  | [v],_=>simp
 rw [ha'];refine aA (seqEpoch_at g4 rfl (aA (listUpdate_at g4 rfl ?_ (hsz2:=by show us.toArray.size<=_;rw [aP];first | exact hz | exact Nat.le_succ_of_le hz))));simp only [bne_self_eq_false,cQ,if_false];refine aC (h _ _ (λb o hb e=>?_) (fF g4 λ_=>us.toArray));rw [gF _ _ _ _ hb];exact hk b o hb e
theorem qI1{h h':Heap}{a:Addr}{its:Array Value}{n:Nat}(g:h.get? a=some (seqObj "list" its n))(k:∀b u,b≠a->h.get? b=some u->h'.get? b=some u):∀ {us:List Value} {ts:List (List Int)},Srt.TupAt h us ts->Srt.TupAt h' us ts
 | _,_,.nil =>.nil
 | _,_,.cons ⟨b,o,xs,m,e,h1,h2,h3,h4⟩ r =>.cons ⟨b,o,xs,m,e,k b o (λz=>by
   subst z;rw [g] at h1;cases h1;revert h2;show Value.type "list" = Value.type "tuple" -> False;intro h2;injection h2 with h2
   revert h2
   decide) h1,h2,h3,h4⟩ (qI1 g k r)
theorem qOl{a:Addr}{us:List Value}{ts:List (List Int)}{n:Nat}{R:PySem.Fin->Shared->Prop}(g2:s.heap.get? a=some (seqObj "list" us.toArray n))(hT:Srt.TupAt s.heap us ts)(hne:∀t∈ts,t ≠ [])(hz:us.length<=sizeLine)
  (h:∀(h':Heap) (c:Nat) (q:List Nat),(∀b o,b≠a->s.heap.get? b=some o->h'.get? b=some o)->q.Perm (List.range us.length)->(q.map λi=>ts.getD i []).Pairwise (λx y=>HT.lexLt y x=false)->h'.get? a=some (seqObj "list" (q.map λi=>us.getD i Value.none).toArray c)->R (.done (.ret .none)) { s with heap:=h' }) :
  wpAny (model P w) A (Builtin.«list.sort» ⟨[.ref a],[]⟩) R (λ_ _=>False) s:=by
 have hlT:us.length=ts.length:=cY hT;by_cases h2:us.length<2
 ·refine qRg g2 h2 λh' c k g=>h h' c (List.range us.length) k (.refl _) ?_ ?_
  ·match us,ts,h2,hlT with
   | [],[],_,_=>exact .nil
   | [_],[_],_,_=>exact List.pairwise_singleton _ _
  ·have e:(List.range us.length).map (λi=>us.getD i Value.none)=us:=by
    match us,h2 with
    | [],_=>rfl
    | [v],_=>rfl
   rw [e];exact g
 ·refine qLt (κ :=tuples' (Value.type "int" != Value.type "tuple")) (Srt.lex_ord ts) g2 (by lia) hz (λh' R k hR=>?_) (λh' k i j s' C hi hj hs hC=>?_) λh' c p k perm up g=>h h' c p.toList k perm ?_ g
  ·obtain⟨fs,kt,hfl,hfi⟩:=(qI1 g2 k hT).firsts hne;refine PySem.W.kat_kind (T :=.type "int") (fs:=fs) kt (by lia) (λv hv=>?_) rfl hR;obtain⟨i,t,rfl⟩:=hfi v hv;exact PySem.W.Looks.of_pure rfl
  ·subst hs;have TA':=qI1 g2 k hT;obtain⟨a1,o1,xs1,k1,b1,b2,b3,b4⟩:=TA'.get i (by lia);obtain⟨a2,o2,xs2,k2,c1,c2,c3,c4⟩:=TA'.get j (by lia);unfold PySem.W.kas_cmp;rw [gH rfl,gH rfl,b1,c1]
   exact PySem.W.kat_lt (s :={ s with heap:=h' }) b2 b3 c2 c3 (Srt.katlex b4 c4 (by
    have e1:=b4.length;have e2:=c4.length;simp only [aK] at e1 e2
    rw [e1,e2]) (hC _ rfl))
  ·rw [bQ];intro i j hi hj hij;have hp:p.toList.length=us.length:=by rw [perm.length_eq,bV]
   have hj':j<p.size:=by simpa using hj
   have hi':i<p.size:=by simpa using hi
   have u:=up i j (dX hij) (by simp at hp;lia);have g1:Srt.at' p (0+i)=p[i]:=by simp [Srt.at',Array.getD,hi']
   have g2:Srt.at' p (0+j)=p[j]:=by simp [Srt.at',Array.getD,hj']
   rw [g1,g2] at u;simpa using u
theorem STup.len{h:Heap}{a:Addr}{ps:List (Addr×List Int)}(S:STup P w h a ps):ps.length<128:=by
 obtain⟨o,es,ep,t,qs,_,_,_,hp,he,_,T,R⟩:=S;have h1:t.place.size=ps.length:=by rw [T.len,aB,he,aB,hp.length_eq]
 have:=T.small;have:=R.2;lia
theorem qL1{a:Addr}{ps:List (Addr×List Int)}{Q:Value->Shared->Prop}(hh:A.handled=none)(S:STup P w s.heap a ps)(hk:∀q∈ps,IsT P w s.heap q.2 q.1)(hne:∀q∈ps,q.2 ≠ [])
  (h:∀(D:Addr) (rs:List (Addr×List Int)) (c:Nat) (h':Heap) (d:Drawn) (tk:Nat),s.heap.objs.size<=D->rs.Perm ps->(rs.map (·.2)).Pairwise (λx y=>HT.lexLt y x=false)->h'.get? D=some (seqObj "list" (rs.map λq=>Value.ref q.1).toArray c)->(∀b u,s.heap.get? b=some u->h'.get? b=some u)->Q (.ref D) { s with heap:=h',drawn:=d,toks:=tk }) :
  wpAny (model P w) A (call (.builtin "sorted") [.ref a]) Q E s:=by
 have hlt:=S.len;refine fT kind_sorted plain_sorted entry_sorted (args_sorted1 _) ?_;unfold Builtin.«sorted»;refine aA (m:=checkCount "sorted" 1 1 _) (aC ?_);obtain⟨o,es,ep,t,qs,ho,hex,hd,hp,he,hn,T,R⟩:=S;have hes:es.size=ps.length:=by rw [<-aK,he,aB,hp.length_eq]
 have hg:GoodT (!qBw w) t es.size:=by have:=T.good;rw [aB,aK] at this;exact this
 refine aA (qFd (A:=A.in1) hh ho hex hd (by show es.size<4096;lia) hg λord h' d tk k hsz hpm=>?_);rw [he] at hpm;obtain⟨rs,pr,er⟩:=qGd hpm;have hrp:rs.Perm ps:=pr.trans hp;have ev:ord.map (·.2)=rs.map λq=>Value.ref q.1:=by rw [er,cU];rfl
 rw [ev];have hrl:(rs.map λq=>Value.ref q.1).length=ps.length:=by rw [aB,hrp.length_eq]
 have hz:(rs.map λq=>Value.ref q.1).length<=sizeLine:=by rw [hrl,fE];lia
 refine aA (gE ?_ hz);have hoL:(h'.push (seqObj "list" (rs.map λq=>Value.ref q.1).toArray 0)).get? h'.objs.size=some (seqObj "list" (rs.map λq=>Value.ref q.1).toArray 0):=bA _ rfl;have kk:∀b u,s.heap.get? b=some u->(h'.push (seqObj "list" (rs.map λq=>Value.ref q.1).toArray 0)).get? b=some u:=λb u e=>aH _ (k b u e);have hTA:Srt.TupAt (h'.push (seqObj "list" (rs.map λq=>Value.ref q.1).toArray 0)) (rs.map λq=>Value.ref q.1) (rs.map (·.2)):=by
  have key:∀l:List (Addr×List Int),(∀q∈l,IsT P w s.heap q.2 q.1)->Srt.TupAt (h'.push (seqObj "list" (rs.map λq=>Value.ref q.1).toArray 0)) (l.map λq=>Value.ref q.1) (l.map (·.2)):=by
   intro l
   induction l with
   | nil=>intro _;exact .nil
   | cons q r ih =>
    intro hq;obtain⟨o,its,n,e1,e2,e3,e4⟩:=(show IsTupleKey (intKind P w) s.heap q.2 q.1 from hq q (by simp));exact .cons ⟨q.1,o,its,n,rfl,kk _ _ e1,e2,e3,qIl e4⟩ (ih λx hx=>hq x (by simp [hx]))
  exact key rs λq hq=>hk q (hrp.mem_iff.mp hq)
 refine aA (bT (cX slot_list_sort (s :={ s with heap:=h'.push (seqObj "list" (rs.map λq=>Value.ref q.1).toArray 0),drawn:=d,toks:=tk }) ⟨_,hoL,rfl⟩ entry_list_sort (dE (qOl hoL hTA (λt ht=>by
   obtain⟨q,hq,rfl⟩:=bH.mp ht
   exact hne q (hrp.mem_iff.mp hq)) hz λh2 c q2 k2 pq up g=>?_) (λ_ _ z=>z) λ_ _ z=>z.elim) (args_list_sort _)))
 have hq2:(q2.map λi=>rs.getD i (0,[])).Perm rs:=by
  have e:=pq.map λi=>rs.getD i (0,[]);rw [aB] at e;have e2:(List.range rs.length).map (λi=>rs.getD i (0,[]))=rs:=by
   refine List.ext_getElem? λi=>?_;rw [aW];by_cases hi:i<rs.length
   ·rw [List.getElem?_range hi,aF hi];simp [bK,hi]
   ·rw [dJ (by simpa using hi),dJ (by simpa using hi)];rfl
  rw [e2] at e;exact e
 have hlt2:∀i∈q2,i<rs.length:=λi hi=>by have:=bL.mp (pq.mem_iff.mp hi);rw [aB] at this;exact this
 have e1:(q2.map λi=>rs.getD i (0,[])).map (·.2)=q2.map λi=>(rs.map (·.2)).getD i []:=by
  rw [cU];refine List.map_congr_left λi hi=>?_;simp [bK,hlt2 i hi]
 have e2:(q2.map λi=>rs.getD i (0,[])).map (λq=>Value.ref q.1)=q2.map λi=>(rs.map λq=>Value.ref q.1).getD i Value.none:=by
  rw [cU];refine List.map_congr_left λi hi=>?_;simp [bK,hlt2 i hi]
 refine⟨_,rfl,aC ⟨_,rfl,h h'.objs.size (q2.map λi=>rs.getD i (0,[])) c _ d tk hsz (hq2.trans hrp) (by rw [e1];exact up) (by rw [e2];exact g) λb u e=>k2 b u (bB (aX (k b u e))) (kk b u e)⟩⟩
end
def setTO(P:Program)(w:World)(ps:List (Addr×List Int)):HO :=.ext λa h=>STup P w h a ps
theorem qSe{P:Program}{w:World}{h:Heap}{a:Addr}(e:h.get? a=some (newS w)):STup P w h a []:=⟨_,#[],0,_,[],e,⟨rfl,rfl,rfl⟩,rfl,.refl _,rfl,.nil,Tab.fresh 0 0,.inl rfl,(show 0*5<7*3 by decide)⟩
section
variable{P:Program}{w:World}{A:Around}{E:Value->Shared->Prop}{s:Shared}{a b:Addr}
theorem qR0{ps:List (Addr×List Int)}{ks:List Int}{Q:Value->Shared->Prop}(hu:A.units+1<cLine)(S:STup P w s.heap a ps)(hk:∀q∈ps,IsT P w s.heap q.2 q.1)(hx:IsT P w s.heap ks b)(few:ps.length<76)
  (q:∀(h':Heap) (tk:Nat),Heap.SameBut a s.heap h'->STup P w h' a (addT ps b ks)->Q .none { s with heap:=h',toks:=tk }):wpAny (model P w) A (call (.builtin "set.add") [.ref a,.ref b]) Q E s:=by
 obtain⟨o,_,_,_,_,ho,hex,_⟩:=id S;refine cX F.slot_set_add ⟨o,ho,hex.1⟩ F.entry_set_add ?_ (F.args_set_add_2 _ _);unfold Builtin.«set.add» Builtin.Frozenset.oneOther;simp only [List.isEmpty_nil,bind_assoc];unfold Builtin.Frozenset.addrOf;refine aA (aC ?_)
 try dsimp only
 refine aA (aC ?_)
 try dsimp only
 refine aA (qVu (fN hu) S hk hx few λh' tk sb S'=>?_);show wpAny _ _ (ret Value.none) _ _ _;exact aC ⟨_,rfl,q h' tk sb S'⟩
end
section
variable{X:Cx}{elt tg iter:Expr}{ifs:List Expr}{scope:Scope}{own:List Str}{cap:List Nat}{wi:TI}{g:TG}{tts:List TT}{te:TE}{pos:Pos}
variable{pins:List (Addr×Obj)}{σ : St}{H:Hp}{s:Shared}{a b:Addr}
theorem qLw{P P':Program}{w w':World}{H:Hp}{h:Heap}{a:Addr}{ps:List (Addr×List Int)}(S:STup P w h a ps):ObjOk P' w' H h a (setTO P w ps):=by
 refine⟨S,?_,λh1 h2 S1 k=>S1.stay k⟩;obtain⟨o,_,_,_,_,e,_⟩:=S;exact⟨o,e⟩
theorem Inv.sTup{P:Program}{w:World}{ps:List (Addr×List Int)}(I:Inv X pins σ H s)(e:H a=some (setTO P w ps)):STup P w s.heap a ps:=(I.hok a _ e).1
theorem qIk{P:Program}{w:World}{vs:List Value}{ks:List Int}(h:IntsAre vs ks):ItemsAre (intKind P w) ks vs:=by
 induction h with
 | nil=>exact .nil
 | cons n t _ ih=>exact .cons (intKind_is P w n t) ih
theorem Inv.isT{P:Program}{w:World}{ks:List Int}(I:Inv X pins σ H s)(h:SqT X.K H b (ks.map V.int)):IsT P w s.heap ks b:=by
 obtain⟨its,r,⟨o,e,hc,n,hd⟩,_⟩:=I.tuple h;refine⟨o,its.toArray,n,e,hc,hd,?_⟩;exact qIk (qCn r)
theorem qT5:qKs X (newSet (.type "set")) (setTO X.prog X.w []):=by
 intro pins s σ H E Q I h;refine qPm (h _ _ (aE _) I.fresh (I.laid (t':=s.toks) (λb u e=>aH _ e) (aE _) (qLw (qSe (bA _ rfl)))) λb u e=>aH _ e)
def eAddT(P:Program)(w:World)(K:PySem.W.Frag)(te:TE)(l:Addr):TB:=λσ H Q=>te σ H λv H1 => ∃ps b ks,v = .ref b/\H1 l=some (setTO P w ps)/\(∀q∈ps,SqT K H1 q.1 (q.2.map V.int))/\SqT K H1 b (ks.map V.int)/\ps.length<76/\Q σ (upd H1 l (setTO P w (addT ps b ks)))
theorem qUn{l:Addr}(P:Program)(w:World)(K:PySem.W.Frag)(hP:X.prog=P)(hw:X.w=w)(hK:X.K=K)(hu:X.A.units+1<cLine)(he:PE X elt te):PB X (qMv elt (.ref l) X.env) (eAddT P w K te l):=by
 subst hw hP hK;intro pins s σ H Q I h;refine aA (thn (he pins s σ H _ I h) λv s1 hq_=>?_);obtain⟨x,H1,I1,r1,ps,b,ks,e,hl,hps,hb,hz,q⟩:=hq_;subst e;cases r1;refine aA (eO (aA (qR0 hu (I1.sTup hl) (λq hq=>I1.isT (hps q hq)) (I1.isT hb) hz λh' tk sb S'=>aC ⟨σ,_,?_,q⟩)));refine qIr (t':=tk) I1 (by rw [hl];exact True.intro) sb ?_ (qLw S');obtain⟨o,_,_,_,_,e,_⟩:=S';exact⟨o,e⟩
theorem qX6(own:List Str)(cap:List Nat)(P:Program)(w:World)(K:PySem.W.Frag)(hP:X.prog=P)(hw:X.w=w)(hK:X.K=K)(hu:X.A.units+1<cLine)(hc:X.calm=true)(S:CompScope X own cap scope)(hi:PI X tg iter wi)(hg:∀cl s H ex,PG (qAm X own cap scope cl s H ex) tg g)(ht:∀cl s H ex,PTs (qAm X own cap scope cl s H ex) ifs tts)(he:∀cl s H ex,PE (qAm X own cap scope cl s H ex) elt te)(hs:∀x,foldedSetIterable iter X.env x=pure x:=by intro _;rfl):PE X (.SetComp elt [⟨tg,iter,ifs,0⟩] scope pos) (tComp own cap (setTO P w []) wi g tts (eAddT P w K te)):=by
 subst hw hP hK;intro pins s σ H Q I h;exact qMn (behOf:=qMv elt) hc S rfl hi qT5 (λ_ _ _ _ _=>qNv) hg ht (λcl s H ex l=>qUn X.prog X.w X.K rfl rfl rfl hu (he cl s H ex)) hs pins s σ H Q I h
def qUg(P:Program)(w:World)(K:PySem.W.Frag):List V->Hp->VK->Prop:=λxs H Q => ∃(a:Addr) (ps:List (Addr×List Int)),xs = [.ref a]/\H a=some (setTO P w ps)/\(∀q∈ps,SqT K H q.1 (q.2.map V.int)/\q.2 ≠ []) /\
 ∀(l:Addr) (rs:List (Addr×List Int)),H l=none->rs.Perm ps->(rs.map (·.2)).Pairwise (λx y=>HT.lexLt y x=false)->Q (.ref l) (upd H l (.lst (rs.map λq=>V.ref q.1)))
theorem qLj(hh:X.A.handled=none):CallR X (.builtin "sorted") (qUg X.prog X.w X.K):=by
 intro pins s σ H xs us Q I r h;obtain⟨a,ps,rfl,hq,hps,q⟩:=h;obtain⟨u,rfl,ru⟩:=vals1 r;cases ru;have S:=I.sTup hq;have hlt:=S.len;refine qL1 hh S (λq hq=>I.isT (hps q hq).1) (λq hq=>(hps q hq).2) λD rs c h' d tk hD perm up hget k=>?_;have hn:H D=none:=I.hok.fresh hD;have rv':∀l:List (Addr×List Int),Vals (l.map λq=>V.ref q.1) (l.map λq=>Value.ref q.1):=by
  intro l
  induction l with
  | nil=>exact .nil
  | cons x r ih=>exact .cons rfl ih
 refine⟨.ref D,_,(I.laid (t':=tk) (o :=.lst (rs.map λq=>V.ref q.1)) k hD ⟨?_,_,c,rv' rs,hget⟩).drew,rfl,q _ rs hn perm up⟩;rw [aB,perm.length_eq,fE];lia
end
def cntO(ways:List (Int×Int))(x:Int):Nat:=(ways.filter λp=>decide (p.1=x)).length
def cntI(ways:List (Int×Int))(x:Int):Nat:=(ways.filter λp=>decide (p.2=x)).length
def homeS(ways:List (Int×Int))(p:Int×Int):Str:=if p=(-1,0) then "begin" else if cntO ways p.1=1 then "end" else if cntI ways p.2=1 then "begin" else "split"
def homeL(ways:List (Int×Int))(p:Int×Int):Str:=if 0<=p.1/\cntO ways p.1=1 then "end" else if cntI ways p.2=1 then "begin" else "split"
theorem qK3{m works:Int}{wk:List Blk}(h:WorkOk m works wk){p:Int×Int}(hp:p∈qAa wk wk.length):homeS (qAa wk wk.length) p=homeL (qAa wk wk.length) p:=by
 unfold homeS homeL;by_cases e:p=(-1,0)
 ·rw [if_pos e,if_neg (by rw [e];intro z;have:=z.1;lia),if_pos];rw [e,qCi];unfold cntI;rw [fL,if_pos (by decide),bY];have:(qF6 wk wk.length).filter (λp=>decide (p.2=(0:Int))) = []:=by
   refine List.filter_eq_nil_iff.mpr λq hq=>?_;have:=(qCd h hq).2.2.1;simp;lia
  rw [this];rfl
 ·rw [if_neg e];have h0:0<=p.1:=by
   rw [qCi] at hp;rcases aT.mp hp with z | z
   ·exact absurd z e
   ·exact (qCd h z).1
  simp only [h0,true_and]
def qG4(K:PySem.W.Frag)(f:List (Int×Int)->Int×Int->Str):Sp:=λvs H Q _ => ∃(wa b:Addr) (wk:List Blk) (m works:Int) (p:Int×Int),vs = [.ref wa,.ref b]/\Den K H (workD wk) (.ref wa)/\WorkOk m works wk/\m<=12/\SqT K H b [.int p.1,.int p.2] /\
 ∀H',Ext [] H H'->Q (.str (f (qAa wk wk.length) p)) H'
def qBj(ways:List (Int×Int))(bs:List Int)(f:Int->List Int):List (Int×Int):=ways.filter λw=>decide (homeS ways w=("split" : Str))&&bs.any λb=>(rowOf f w b).isSome
def qI4(K:PySem.W.Frag):Sp:=λvs H Q _ => ∃(wa d:Addr) (wk:List Blk) (m works:Int) (bs:List Int) (as:List Addr) (f:Int->List Int),vs = [.ref wa,.ref d]/\Den K H (workD wk) (.ref wa)/\WorkOk m works wk/\m<=12/\PlanAt H d bs as (bs.map f)/\bs.Nodup/\bs.length<=8 /\
 ∀(l:Addr) (us:List V) (H':Hp),H l=none->Ext [] H H'->H' l=some (.lst us)->DenL K H' ((qBj (qAa wk wk.length) bs f).map pairD) us->Q (.ref l) H'
theorem qSs(p r:Int×Int):PyData.eqv (pairD p) (pairD r)=decide (p=r):=by
 obtain⟨a,b⟩:=p;obtain⟨c,d⟩:=r;have:PyData.eqv (pairD (a,b)) (pairD (c,d))=(decide (a=c)&&(decide (b=d)&&true)):=by
  simp only [pairD,PyData.eqv,PyData.eqvAll,gG];rw [show (a == c)=decide (a=c) from by by_cases h:a=c <;> simp [h],show (b == d)=decide (b=d) from by by_cases h:b=d <;> simp [h]]
 rw [this];by_cases h1:a=c <;> by_cases h2:b=d <;> simp [h1,h2]
theorem denP{K:PySem.W.Frag}{G:Hp}{b:Addr}{p:Int×Int}(h:SqT K G b [.int p.1,.int p.2]):Den K G (pairD p) (.ref b) :=.tuple h (.cons .int (.cons .int .nil))
theorem qEy{K:PySem.W.Frag}{G:Hp}{v:V}{p:Int×Int}(h:Den K G (pairD p) v):∃b,v = .ref b/\SqT K G b [.int p.1,.int p.2]:=by
 obtain⟨b,ps,rfl,hp1,hps⟩:=h.ofTuple;obtain⟨v1,q1,rfl,hv1,hq1⟩:=hps.ofCons;obtain⟨v2,q2,rfl,hv2,hq2⟩:=hq1.ofCons;have z1:=hv1.ofInt;have z2:=hv2.ofInt;have z3:=hq2.ofNil;subst z1 z2 z3;exact⟨b,rfl,hp1⟩
theorem qKd{ways:List (Int×Int)}{i:Nat}{wv:Int×Int}(h:ways[i]? = some wv)(x:Int):cntO (ways.take (i+1)) x=cntO (ways.take i) x+if wv.1=x then 1 else 0:=by
 unfold cntO;rw [qAw h,cR,aG];by_cases e:wv.1=x <;> simp [e]
theorem qKe{ways:List (Int×Int)}{i:Nat}{wv:Int×Int}(h:ways[i]? = some wv)(x:Int):cntI (ways.take (i+1)) x=cntI (ways.take i) x+if wv.2=x then 1 else 0:=by
 unfold cntI;rw [qAw h,cR,aG];by_cases e:wv.2=x <;> simp [e]
theorem qQu(ways:List (Int×Int))(x:Int):cntO ways x<=ways.length:=bS ..
theorem qQv(ways:List (Int×Int))(x:Int):cntI ways x<=ways.length:=bS ..
theorem Ext.young1{H G:Hp}{l:Addr}(e:Ext [l] H G)(h:H l=Option.none):Ext [] H G:=λb o _ z=>e b o (by
 intro y;have y:b=l:=by simpa using y
 subst y
 rw [h] at z;cases z) z
theorem qE8{H G:Hp}{l:Addr}(e:Ext [l] H G)(h:H l=none):Tups H G:=(e.young1 h).toSame.tups
def phi(q:Addr×(Int×Int)):Addr×List Int:=(q.1,tOf q.2)
def addP(qs:List (Addr×(Int×Int)))(b:Addr)(w:Int×Int):List (Addr×(Int×Int)):=if w∈qs.map (·.2) then qs else qs ++ [(b,w)]
theorem qOa{p q:Int×Int}(h:tOf p=tOf q):p=q:=by
 unfold tOf at h;injection h with h1 h2
 injection h2 with h2 _
 exact Prod.ext h1 h2
theorem mem_phi{qs:List (Addr×(Int×Int))}{w:Int×Int}:tOf w∈(qs.map phi).map (·.2)↔w∈qs.map (·.2):=by
 rw [cU,bH,bH];constructor
 ·rintro⟨q,hq,e⟩;exact⟨q,hq,qOa e⟩
 ·rintro⟨q,hq,rfl⟩;exact⟨q,hq,rfl⟩
theorem qVv(qs:List (Addr×(Int×Int)))(b:Addr)(w:Int×Int):addT (qs.map phi) b (tOf w)=(addP qs b w).map phi:=by
 unfold addT addP;by_cases h:w∈qs.map (·.2)
 ·rw [if_pos h,if_pos (mem_phi.mpr h)]
 ·rw [if_neg h,if_neg (λz=>h (mem_phi.mp z)),aN];rfl
theorem qSh{qs:List (Addr×(Int×Int))}{b:Addr}{w v:Int×Int}:v∈(addP qs b w).map (·.2)↔v∈qs.map (·.2)\/v=w:=by
 unfold addP;by_cases h:w∈qs.map (·.2)
 ·rw [if_pos h];exact⟨.inl,λz=>z.elim id λe=>e▸h⟩
 ·rw [if_neg h,aN,aM];simp
theorem qO0{qs:List (Addr×(Int×Int))}{b:Addr}{w:Int×Int}(hn:(qs.map (·.2)).Nodup):((addP qs b w).map (·.2)).Nodup:=by
 unfold addP;by_cases h:w∈qs.map (·.2)
 ·rw [if_pos h];exact hn
 ·rw [if_neg h,aN];exact eM.mpr ⟨hn,by simp,by intro x hx y hy;simp at hy;subst hy;intro e;subst e;exact h hx⟩
theorem qPr{qs:List (Addr×(Int×Int))}{b:Addr}{w:Int×Int}{q:Addr×(Int×Int)}(h:q∈addP qs b w):q∈qs\/q=(b,w):=by
 unfold addP at h;split at h
 ·exact .inl h
 ·rcases aM.mp h with z | z
  ·exact .inl z
  ·exact .inr (by simpa using z)
theorem rows_way{ways:List (Int×Int)}{bs:List Int}{f:Int->List Int}{w:Int×Int}:(∃k∈rowsL ways bs f,k.1=w)↔w∈ways/\(bs.any λb=>(rowOf f w b).isSome)=true:=by
 unfold rowsL;constructor
 ·rintro⟨k,hk,e⟩;obtain⟨v,hv,hk⟩:=dH.mp hk;obtain⟨b,hb,hr⟩:=cP.mp hk;have e2:k.1=v:=by
   unfold rowOf at hr;split at hr
   ·cases hr
   ·cases hr;rfl
  have e3:v=w:=e2.symm.trans e;subst e3;exact⟨hv,cK.mpr ⟨b,hb,by rw [hr];rfl⟩⟩
 ·rintro⟨hw,hb⟩;obtain⟨b,hb,hs⟩:=cK.mp hb;obtain⟨k,hk⟩:=Option.isSome_iff_exists.mp hs;refine⟨k,dH.mpr ⟨w,hw,cP.mpr ⟨b,hb,hk⟩⟩,?_⟩;unfold rowOf at hk;split at hk
  ·cases hk
  ·cases hk;rfl
theorem qNp{ways:List (Int×Int)}{bs:List Int}{f:Int->List Int}{w:Int×Int}:w∈qBj ways bs f↔(∃k∈rowsL ways bs f,k.1=w)/\homeS ways w=("split" : Str):=by
 unfold qBj;rw [cE,rows_way,bD,decide_eq_true_eq];exact⟨λ⟨a,b,c⟩=>⟨⟨a,c⟩,b⟩,λ⟨⟨a,c⟩,b⟩=>⟨a,b,c⟩⟩
theorem qN9{rq:List (Addr×(Int×Int))}(h:((rq.map phi).map (·.2)).Pairwise (λx y=>HT.lexLt y x=false))(hn:(rq.map (·.2)).Nodup):(rq.map (·.2)).Pairwise ltP:=by
 rw [cU] at h;rw [fB] at h ⊢;rw [List.Nodup,fB] at hn;refine (h.and hn).imp λ{a b} hq_=>?_;obtain⟨h1,h2⟩:=hq_;exact qMf h1 h2
theorem qK6{K:PySem.W.Frag}{G:Hp}:∀ {rq:List (Addr×(Int×Int))},(∀q∈rq,SqT K G q.1 [.int q.2.1,.int q.2.2])->DenL K G ((rq.map (·.2)).map pairD) ((rq.map phi).map λq=>V.ref q.1)
 | [],_ =>.nil
 | q::r,h =>.cons (denP (h q (by simp))) (qK6 λx hx=>h x (by simp [hx]))
def rInP(K:PySem.W.Frag):R2:=λx y H Q => ∃(l b:Addr) (qs:List (Addr×(Int×Int))) (v:Int×Int),y = .ref l/\x = .ref b/\SqL K H l (qs.map λq=>V.ref q.1)/\(∀q∈qs,SqT K H q.1 [.int q.2.1,.int q.2.2])/\SqT K H b [.int v.1,.int v.2]/\Q (.bl (decide (v∈qs.map (·.2)))) H
section
variable{X:Cx}
theorem qJ3:∀ {l:List (Addr×(Int×Int))} {us:List Value},Vals (l.map λq=>V.ref q.1) us->us=l.map λq=>Value.ref q.1
 | [],_,.nil=>rfl
 | q::l,_,.cons r t=>by
  cases (show _=Value.ref q.1 from r);rw [qJ3 t];rfl
theorem qXd(hu:X.A.units+1<cLine):OpR X (compareOp .In) (rInP X.K):=by
 intro pins s σ H x y v u Q I rx ry h;obtain⟨l,b,qs,p,rfl,rfl,hl,hqs,hb,q⟩:=h;cases rx;cases ry;obtain⟨its,r,pl,_⟩:=I.list hl;cases qJ3 r;have isT:∀ {P:Program} {w:World} {a:Addr} {c:Int×Int},SqT X.K H a [.int c.1,.int c.2]->IsT P w s.heap (tOf c) a:=λ{P w a c} z=>I.isT (ks:=tOf c) z;refine SeqAt.in_listAt (λu=>match u with | .ref a=>qs.any λq=>(q.1 == a)&&decide (q.2=p) | _=>false) pl.isList (λu hu'=>?_) ⟨.bl _,H,I,rfl,?_⟩
 ·rw [eQ,bH] at hu';obtain⟨q',hq',rfl⟩:=hu';intro prog w E Q' hQ;have e:(qs.any λq=>(q.1 == q'.1)&&decide (q.2=p))=decide (tOf q'.2=tOf p):=by
   rw [dO,cK,decide_eq_true_eq];constructor
   ·rintro⟨q2,hq2,z⟩;rw [bD,decide_eq_true_eq] at z;have z1:q2.1=q'.1:=by simpa using z.1
    have h1:=isT (P:=prog) (w:=w) (hqs q2 hq2);have h2:=isT (P:=prog) (w:=w) (hqs q' hq');rw [z1] at h1;have:=(tupleKind (intKind prog w)).inj h1 h2;rw [<-this,z.2]
   ·intro z;exact⟨q',hq',by rw [qOa z];simp⟩
  refine (tupleKind (intKind prog w)).eqBool (fN hu) (isT (hqs q' hq')) (isT hb) ?_;rw [<-e];exact hQ
 ·have e:((qs.map λq=>Value.ref q.1).toArray.any λu=>match u with | .ref a=>qs.any λq=>(q.1 == a)&&decide (q.2=p) | _=>false)=decide (p∈qs.map (·.2)):=by
   rw [dO,decide_eq_true_eq,bH,List.any_toArray,List.any_map,cK];constructor
   ·rintro⟨q',hq',z⟩;obtain⟨q2,hq2,z2⟩:=cK.mp z;rw [bD,decide_eq_true_eq] at z2;exact⟨q2,hq2,z2.2⟩
   ·rintro⟨q',hq',z⟩;exact⟨q',hq',cK.mpr ⟨q',hq',by simp [z]⟩⟩
  rw [e];exact q
theorem inP{X:Cx}(K:PySem.W.Frag)(hK:X.K=K)(hu:X.A.units+1<cLine):OpR X (compareOp .In) (rInP K):=hK▸qXd hu
end
theorem qTu{m works:Int}{wk:List Blk}(h:WorkOk m works wk)(hm:m<=12):∀p∈qAa wk wk.length,-1<=p.1/\p.1<=100 /\ -1<=p.2/\p.2<=100:=by
 intro p hp;rw [qCi] at hp;rcases aT.mp hp with z | z
 ·subst z;exact⟨by decide,by decide,by decide,by decide⟩
 ·have:=qCd h z;lia
theorem qN3{ways:List (Int×Int)}{bs:List Int}{f:Int->List Int}:∀p∈qBj ways bs f,p∈ways:=λp hp=>(cE.mp hp).1
theorem qH3(ways:List (Int×Int))(bs:List Int)(f:Int->List Int):(qBj ways bs f).length<=ways.length:=bS ..
theorem qXt{m works:Int}{wk:List Blk}(h:WorkOk m works wk){bs:List Int}{f:Int->List Int}{ks:List K4}(hk:ks.Perm (rowsL (qAa wk wk.length) bs f)){qs:List (Addr×(Int×Int))}
  (hm:∀v,v∈qs.map (·.2)↔(∃k∈ks,k.1=v)/\homeL (qAa wk wk.length) v=("split" : Str)):(qAa wk wk.length).filter (λv=>decide (v∈qs.map (·.2)))=qBj (qAa wk wk.length) bs f:=by
 unfold qBj;refine List.filter_congr λv hv=>?_;rw [dO,decide_eq_true_eq,hm,bD,decide_eq_true_eq,qK3 h hv];have e:(∃k∈ks,k.1=v)↔(bs.any λb=>(rowOf f v b).isSome)=true:=by
  constructor
  ·rintro⟨k,hk',e⟩;exact (rows_way.mp ⟨k,hk.mem_iff.mp hk',e⟩).2
  ·intro z;obtain⟨k,hk',e⟩:=rows_way.mpr ⟨hv,z⟩;exact⟨k,hk.mem_iff.mpr hk',e⟩
 rw [e,and_comm]
theorem qHt{K:PySem.W.Frag}{G:Hp}:∀ {rq:List (Addr×(Int×Int))},(∀q∈rq,SqT K G q.1 [.int q.2.1,.int q.2.2])->DenL K G ((rq.map (·.2)).map pairD) (rq.map λq=>V.ref q.1)
 | [],_ =>.nil
 | q::r,h =>.cons (denP (h q (by simp))) (qHt λx hx=>h x (by simp [hx]))
structure Fr where
 n:Nat
 w0:Int
 w1:Int
 pos:Int
 bx:List Int
 as:List (Int×Int)
structure Ms where
 held:List Int
 told:List Int
 flt:List (Int×Int)
 sv:Int
 bk:Int
 steps:Int
 taken:Int
 log:List (Int×Int×Int)
 st:List Fr
structure Gv where
 mean:Bool
 ws:List (List Blk)
 ch:List Int
 most:Int
section
variable{P:Program}{w:World}
variable{A:Around}{E:Value->Shared->Prop}{s:Shared}
end
structure RA where
 self:Addr
 dx:Addr
 wa:Addr
 ba:Addr
 ca:Addr
 ta:Addr
 fa:Addr
 ga:Addr
 C:Addr
 CC:Addr
end L2
local macro_rules | `(tactic| walk_at "q1") => `(tactic| first | refine L2.r_op ?_ | refine L2.qYf ?_ | refine L2.qNb ?_ | refine L2.qY3 ?_ | refine L2.qOy ?_ | refine L2.qF8 ?_)
local macro_rules | `(tactic| walk_at "q2") => `(tactic| first | refine L2.qWd ?_ | refine L2.r_tB ?_ | refine L2.qXx ?_ | refine L2.qWm ?_ | refine L2.qRq ?_ | refine L2.qOz ?_ | refine L2.qY2 ?_ | refine L2.qY8 ?_ | refine L2.qWr ?_ | refine L2.r_cb ?_ | refine L2.qY9 ?_ | refine L2.r_un ?_ | refine L2.r_u ?_ | refine L2.qWt ?_ | refine L2.r_or ?_ | refine L2.qY6 ?_ | refine L2.qY4 ?_ | refine L2.r_c ?_ | refine L2.r_i0 ?_ | refine L2.qYe ?_ | refine L2.qYd ?_ | refine L2.qTe ?_ | refine L2.qOx ?_ | refine L2.qUb ?_ | refine L2.qUc ?_ | refine L2.qWk ?_ | refine L2.qWg ?_ | refine L2.qYb ?_ | refine L2.qYc ?_ | refine L2.qRr ?_ | refine L2.qWq ?_ | refine L2.qUf ?_ | refine L2.qWo ?_ | refine L2.qWs ?_ | refine L2.qWh ?_ | refine L2.qWv ?_ | refine L2.qWu ?_ | refine L2.qUd ?_ | refine L2.qWn ?_ | refine L2.r_sl ?_ | refine L2.qY7 ?_ | refine L2.qWi ?_ | refine L2.qOv (by with_unfolding_all rfl) ?_ | refine L2.qC2 (by assumption) (by with_unfolding_all rfl) ?_ | refine L2.qDt (by assumption) (by with_unfolding_all rfl) ?_)
local macro_rules | `(tactic| walk_at "rd") => `(tactic| repeat (with_reducible first | refine L2.qWf ?_ | walk_at "q1" | refine L2.qEx (by assumption) ?_ | refine L2.qXr (by assumption) ?_ | refine L2.qYm ?_ | walk_at "q2"))
namespace Fs
open PySem L2
def top(i:Nat):Stmt:=PySem.Challenge.pw_fewsaves_k24_homes_and_splits.main.body.getD i (.Pass ⟨0,0,0,0⟩)
abbrev sDraw:Stmt:=top 9
section
variable{P:Program}{w:World}{K:PySem.W.Frag}{mg:Str->Option Value}{base:Heap}
theorem scDraw:FnScope ["_law_tape_here","_law_many_here","_law_found","_law_once","_law_twice"] ["_law_tape_here","_law_many_here"] (qA8 sDraw):=⟨rfl,rfl,rfl,by decide +kernel,rfl,by decide +kernel,by decide +kernel⟩
theorem qV2{f:Addr}{fd:FuncData}(F:Fun K "_law_draw" "_law_draw" sDraw f fd):FnOk P w K mg base CX0 1 f fd ["_law_tape_here","_law_many_here"] qDv:=by
 refine F.ok scDraw (λvs H Q E h=>?_) (λcdv A outer s H vs Q E hr h=>?_)
 ·obtain⟨t,k,n,rfl,_⟩:=h;rfl
 ·obtain⟨t,k,n,rfl,⟨a,b,c,ht,ha,hb,hb2,hc,hc2⟩,hk,hn,hn2,q⟩:=h
  refine⟨_,qA7 (qCh (qAd qUs (qAu qAr (pv 0) qA6 (λ_ _=>rfl)) qA6 (qAf _))
    (qA7 (qAo (i:=2) scDraw.nd rfl (Or.inl rfl) (qAv qEc (qAu qAr (pv 0) qA6 (λ_ _=>rfl)) (pv 1)))
    (qA7 (qJg (qAv qPc (qAu qAr (pv 0) qA6 (λ_ _=>rfl)) (pv 1)) (qTh (pv 0) qA6 qLv))
    (qA9 (qAt (pv 2))))) qBg)
   (qA7 (qJg (qAv qBf (qAu qAr (pv 0) qA6 (λ_ _=>rfl)) qA6) (qTh (pv 0) qA6 qLv))
   (qA7 (qAo (i:=3) scDraw.nd rfl (Or.inl rfl) (qAv qEc (qAv qJk (qAv qBf (qAu qAr (pv 0) qA6 (λ_ _=>rfl)) (qAv qJm qA6 (qAu qAr (pv 0) qA6 (λ_ _=>rfl)))) qA6) qA6))
   (qA7 (qAo (i:=4) scDraw.nd rfl (Or.inl rfl) (qAv qEc (qAv qJm (qAv qBf (pv 3) (qAu qAr (pv 0) qA6 (λ_ _=>rfl))) (qAv qBf (qAv qBf (qAv qEc (pv 3) qA6) qA6) (qAu qAr (pv 0) qA6 (λ_ _=>rfl)))) qA6))
   (qA9 (qAt (qAv qEc (qAv qPc (qAv qEc (qAv qBf (qAv qJm (pv 4) qA6) (pv 3)) qA6) qA6) (pv 1))))))),?_⟩
  dsimp only [qBx];have hS:SqL K H t [.int a,.int b,.int c]:=SqL.of ht;walk_at "rd";refine ite2 (λg=>?_) (λg=>?_)
  ·walk_at "rd";refine qGa hn ?_;walk_at "rd";refine qWp hn (by lia) ?_;walk_at "rd";refine qTd (n:=0) ht rfl ?_;walk_at "rd";exact q _ _ (gQ _ (by lia)) (fR _ hn) ⟨a / n,b,c,qA1,Int.ediv_nonneg ha (by lia),hb,hb2,hc,by lia⟩ (.put (by simp)) (λb hb=>qA4 hb)
  ·walk_at "rd";refine qTd (n:=2) ht rfl ?_;have hS':SqL K (upd H t (.lst ([V.int a,V.int b,V.int c].set 2 (.int (c+1))))) t [.int a,.int b,.int (c+1)]:=SqL.of qA1;walk_at "rd";refine qL6 (.inl ⟨by decide,by decide⟩) ?_;walk_at "rd";refine qNa (by decide) (by decide) (by lia) ?_;walk_at "rd";refine qGa (by decide) ?_;generalize ho:(b+39373*(c+1))^(5:Int).toNat%2147483647=o;have ho1:0<=o:=by rw [<-ho];exact gQ _ (by decide)
   have ho2:o<2147483647:=by rw [<-ho];exact fR _ (by decide)
   walk_at "rd";refine qGa (by decide) ?_;have hm1:0<=o%40009:=gQ _ (by decide);have hm2:o%40009<40009:=fR _ (by decide);walk_at "rd";refine qL6 (.inl ⟨by lia,by lia⟩) ?_;walk_at "rd";refine qGa (by decide) ?_;generalize hp:(o+(c+1))*(o%40009+7+(c+1))%2147483629=p2;have hp1:0<=p2:=by rw [<-hp];exact gQ _ (by decide)
   have hp2:p2<2147483629:=by rw [<-hp];exact fR _ (by decide)
   walk_at "rd";refine qL6 (.inl ⟨by lia,by lia⟩) ?_;walk_at "rd";refine qGa (by decide) ?_;walk_at "rd";refine qWp (by decide) (by decide) ?_;walk_at "rd";refine qGa hn ?_;exact q _ _ (gQ _ (by lia)) (fR _ hn) ⟨a,b,c+1,qA1,ha,hb,hb2,by lia,by lia⟩ (.put (by simp)) (λb hb=>qA4 hb)
end
section
variable{P:Program}{w:World}{K:PySem.W.Frag}{mg:Str->Option Value}{base:Heap}
abbrev sTape:Stmt:=top 8
abbrev qEq:Stmt:=top 11
abbrev sMany:Stmt:=top 14
theorem scTape:FnScope ["_law_script","_law_k","_law_cell"] ["_law_script","_law_k"] (qA8 sTape):=⟨rfl,rfl,rfl,by decide +kernel,rfl,by decide +kernel,by decide +kernel⟩
theorem qUv{f:Addr}{fd:FuncData}(F:Fun K "_law_tape" "_law_tape" sTape f fd)(nlen:mg "len" = none)(nabs:mg "abs" = none)(nint:mg "int" = none):FnOk P w K mg base CX0 1 f fd ["_law_script","_law_k"] (qOf K):=by
 refine F.ok scTape (λvs H Q E h=>?_) (λcdv A outer s H vs Q E hr h=>?_)
 ·obtain⟨a,ns,k,rfl,_⟩:=h;rfl
 ·obtain⟨a,ns,k,rfl,hS,hk,q⟩:=h
  refine⟨_,qA7 (qAo (i:=2) scTape.nd rfl (Or.inl rfl) (qC7 (qAd qPb (pv 1) (qAe qAh (by rfl) nlen cD (qA0 (pv 0) qA3)) (qAf _)) (qAu qAr (pv 0) (pv 1) (λ_ _=>rfl)) qA6))
   (qA9 (qAt (qB0 (qA0 (qAv qJm (qAe qMt (by rfl) nabs PyProof.Rows.boot_abs (qA0 (pv 2) qA3)) (qB5 qCq (by rfl) nint eU (qA0 (qBk qXe (qAe qMt (by rfl) nabs PyProof.Rows.boot_abs (qA0 (pv 2) qA3)) (qAv qJk qA6 qA6) (qAf _)) qA3)))
    (qA0 (qAv qBf (qAv qBf (qAv qEc (pv 2) qA6) (qAv qJm qA6 (pv 1))) qA6) (qA0 qA6 qA3)))))),?_⟩
  dsimp only [qBx];have key:∀c:Int,0<=(if c<0 then -c else c):=λc=>by split <;> lia
  walk_at "rd";refine⟨a,_,rfl,.inl hS,?_⟩;walk_at "rd";by_cases g:(k:Int)<((ns.map V.int).length:Int)
  ·rw [decide_eq_true g];refine iteT ?_;rw [aB] at g;have hg:k<ns.length:=by lia
   have hat:atI (ns.map V.int) (k:Int)=some (.int ns[k]):=by
    have:=qBa (xs:=ns.map V.int) (j:=k) (by rw [aW,aF hg];rfl);exact this
   walk_at "rd";refine qC2 hS hat ?_;generalize ns[k]=c;walk_at "rd";refine⟨_,rfl,?_⟩;walk_at "rd";refine⟨_,rfl,?_⟩;walk_at "rd";refine qNa (by decide) (by decide) (by decide) ?_;walk_at "rd";refine .inr ⟨_,rfl,?_⟩;refine qL6 (.inr ⟨by have:=bit01 (decide (10^Int.toNat 18<=if c<0 then -c else c));lia,by have:=bit01 (decide (10^Int.toNat 18<=if c<0 then -c else c));lia⟩) ?_;walk_at "rd";refine qGa (by decide) ?_;walk_at "rd";refine qL6 (.inl ⟨by decide,by decide⟩) ?_;walk_at "rd";refine⟨len2 (by show 3<=1000;decide),λt ht=>q t _ ht ⟨_,_,_,qA1,?_,?_,?_,by decide,by decide⟩ λb o e=>?_⟩
   ·exact Int.mul_nonneg (key c) (bit01 _).1
   ·have:=gQ c (show (2305843009213693951:Int)≠0 by decide);lia
   ·have:=fR c (show (0:Int)<2305843009213693951 by decide);lia
   ·rw [qA4 (qA2 e ht)];exact e
  ·rw [decide_eq_false g];refine iteF ?_;walk_at "rd";refine⟨_,rfl,?_⟩;walk_at "rd";refine⟨_,rfl,?_⟩;walk_at "rd";refine qNa (by decide) (by decide) (by decide) ?_;walk_at "rd";refine .inr ⟨_,rfl,?_⟩;refine qL6 (.inr ⟨by have:=bit01 (decide (10^Int.toNat 18<=if 0<0 then -0 else 0));lia,by have:=bit01 (decide (10^Int.toNat 18<=if 0<0 then -0 else 0));lia⟩) ?_;walk_at "rd";refine qGa (by decide) ?_;walk_at "rd";refine qL6 (.inl ⟨by decide,by decide⟩) ?_;walk_at "rd";refine⟨len2 (by show 3<=1000;decide),λt ht=>q t _ ht ⟨_,_,_,qA1,?_,?_,?_,by decide,by decide⟩ λb o e=>?_⟩
   ·exact Int.mul_nonneg (key 0) (bit01 _).1
   ·have:(0:Int)%2305843009213693951=0:=rfl;lia
   ·have:(0:Int)%2305843009213693951=0:=rfl;lia
   ·rw [qA4 (qA2 e ht)];exact e
theorem qW6:FnScope ["_law_tape_here"] ["_law_tape_here"] (qA8 sMany):=⟨rfl,rfl,rfl,by decide +kernel,rfl,by decide +kernel,by decide +kernel⟩
theorem qUy{f:Addr}{fd:FuncData}(F:Fun K "_law_many" "_law_many" sMany f fd)(nint:mg "int" = none)(hD:Has P w K mg base "_law_draw" 1 ["_law_tape_here","_law_many_here"] qDv):FnOk P w K mg base CX0 2 f fd ["_law_tape_here"] qOi:=by
 refine F.ok qW6 (λvs H Q E h=>?_) (λcdv A outer s H vs Q E hr h=>?_)
 ·obtain⟨t,k,rfl,_⟩:=h;rfl
 ·obtain⟨t,k,rfl,hT,hk,q⟩:=h
  refine⟨_,qA9 (qAt (qAu qAr (qB0 (qA0 (qAv qBf qA6 (qAq hD hr (aE _) (qA0 (pv 0) (qA0 qA6 qA3)))) (qA0 (qAv qBf qA6 (qAq hD hr (aE _) (qA0 (pv 0) (qA0 qA6 qA3)))) qA3)))
   (qB5 qCq (by rfl) nint eU (qA0 (qBk qBp (qAq hD hr (aE _) (qA0 (pv 0) (qA0 qA6 qA3))) qA6 (qAf _)) qA3)) (λ_ _=>rfl))),?_⟩
  dsimp only [qBx];walk_at "rd";refine qBb hT (by lia) (by decide) (by decide) λr1 H1 a1 b1 T1 e1 _=>?_;walk_at "rd";refine qBb T1 (by lia) (by decide) (by decide) λr2 H2 a2 b2 T2 e2 _=>?_;walk_at "rd";refine⟨len2 (by show 2<=1000;decide),λp hp=>?_⟩;have np:p≠t:=T2.ne hp;walk_at "rd";refine qBb (T2.ext (.laid (ts :=[]) hp) (by simp)) (by lia) (by decide) (by decide) λr3 H3 a3 b3 T3 e3 k3=>?_;walk_at "rd";refine qC5 ?_;walk_at "rd";refine .inr ⟨_,rfl,?_⟩;have e4:Ext [t] H H3:=(e1.trans e2).trans ((Ext.laid hp).trans e3);have hL:SqL K H3 p [V.int (1+r1),V.int (7+r2)]:=SqL.of (by rw [k3 p np,qA1]);cases c:decide (r3=0) with
  | true=>exact qC2 hL rfl (q _ _ (by lia) (by lia) T3 e4)
  | false=>exact qC2 hL rfl (q _ _ (by lia) (by lia) T3 e4)
theorem qRl:FnScope ["_law_tape_here"] ["_law_tape_here"] (qA8 qEq):=⟨rfl,rfl,rfl,by decide +kernel,rfl,by decide +kernel,by decide +kernel⟩
theorem qPh{f:Addr}{fd:FuncData}(F:Fun K "_law_number" "_law_number" qEq f fd)(hD:Has P w K mg base "_law_draw" 1 ["_law_tape_here","_law_many_here"] qDv):FnOk P w K mg base CX0 2 f fd ["_law_tape_here"] qI5:=by
 refine F.ok qRl (λvs H Q E h=>?_) (λcdv A outer s H vs Q E hr h=>?_)
 ·obtain⟨t,k,rfl,_⟩:=h;rfl
 ·obtain⟨t,k,rfl,hT,hk,q⟩:=h
  refine⟨_,qA9 (qAt (qAu qAr (qB0 (qA0 qA6 (qA0 qA6 (qA0 (qRy qLp qA6) (qA0 qA6 (qA0 (qAv qJk qA6 qA6) (qA0 (qAv qPa qA6 (qAv qJk qA6 qA6))
   (qA0 (qAv qPa (qAq hD hr (aE _) (qA0 (pv 0) (qA0 qA6 qA3))) qA6) (qA0 (qAq hD hr (aE _) (qA0 (pv 0) (qA0 (qAv qJk qA6 qA6) qA3))) qA3)))))))))
   (qAq hD hr (aE _) (qA0 (pv 0) (qA0 qA6 qA3))) (λ_ _=>rfl))),?_⟩
  dsimp only [qBx];walk_at "rd";refine qNa (by decide) (by decide) (by decide) ?_;walk_at "rd";refine qNa (by decide) (by decide) (by decide) ?_;walk_at "rd";refine qBb hT (by lia) (by decide) (by decide) λr1 H1 a1 b1 T1 e1 _=>?_;walk_at "rd";refine qNa (by decide) (by decide) (by decide) ?_;walk_at "rd";refine qBb T1 (by lia) (by decide) (by decide) λr2 H2 a2 b2 T2 e2 _=>?_;have b2':r2<1000000:=b2;walk_at "rd";refine⟨len2 (by show 8<=1000;decide),λp hp=>?_⟩;have np:p≠t:=T2.ne hp;walk_at "rd";refine qBb (T2.ext (.laid (ts :=[]) hp) (by simp)) (by lia) (by decide) (by decide) λr3 H3 a3 b3 T3 e3 k3=>?_;have e4:Ext [t] H H3:=(e1.trans e2).trans ((Ext.laid hp).trans e3);have hL:=SqL.of (K:=K) ((k3 p np).trans qA1)
  have e5:(10:Int)^(12:Int).toNat=1000000000000:=by decide
  have e6 : -((10:Int)^12) = -1000000000000:=by decide
  have e7:((10:Int)^12)=1000000000000:=by decide
  rw [e6,e7] at q;obtain h | h | h | h | h | h | h | h:r3=0\/r3=1\/r3=2\/r3=3\/r3=4\/r3=5\/r3=6\/r3=7:=by lia
  all_goals
   subst h;refine qC2 hL rfl (q _ _ ?_ ?_ T3 e4)
  all_goals first | decide | lia
end
section
variable{P:Program}{w:World}{K:PySem.W.Frag}{mg:Str->Option Value}{base:Heap}
theorem qB8{D:Ends}{σ : St}{H5:Hp}{l d p:Addr}{vs:List V}{kvs:List (Key×V)}{ns:List Int}(h2 : σ[2]? = some (some (.ref l)))(h3 : σ[3]? = some (some (.ref d)))(h7 : σ[7]? = some (some (.ref p)))(hl:H5 l=some (.lst vs))(hd:H5 d=some (.dK kvs))(hp:H5 p=some (.lst (ns.map V.int)))(hz:vs.length<1000)(hz2:kvs.length<=900)(hn:ns.length<=2)(npl:p≠l)(q:∀H6 kvs',H6 l=some (.lst (vs ++ [.ref p]))->H6 d=some (.dK kvs')->kvs'.length<=kvs.length+2->Ext [l,d] H5 H6->D.nx σ H6):tSeq (tDrop (tBM K "list" qIb (tVar 2) (tCons (tVar 7) tNil))) (tDrop (tBM K "dict" qP1 (tVar 3) (tCons (tComp ["_law_one"] [] (.lst []) (iList K (tVar 7)) (gName 0) [] (eApp (tTup (tCons (tVar 0) (tCons (tC (.bl true)) tNil))))) tNil))) D σ H5:=by
 have nld:l≠d:=qNk hl hd (by intro z;cases z);have npd:p≠d:=qNk hp hd (by intro z;cases z);refine qWf (qOy (qYe (qOv h2 (qDs hl (qOz (qOv h7 (qRq (qDu hl (qAc (by lia)) ?_))))))));generalize hH6:upd H5 l (.lst (vs ++ [.ref p]))=H6;have l6:H6 l=some (.lst (vs ++ [.ref p])):=by rw [<-hH6,qA1]
 have d6:H6 d=some (.dK kvs):=by rw [<-hH6,qA4 nld.symm];exact hd
 have p6:H6 p=some (.lst (ns.map V.int)):=by rw [<-hH6,qA4 npl];exact hp
 have e6:Ext [l,d] H5 H6:=by rw [<-hH6];exact .put (by simp)
 refine qOy (qYe (qOv h3 (qY1 d6 (qOz (qTe (qOx (qOv h7 ⟨p,rfl,⟨_,SqL.of p6⟩,λl2 hl2=>?_⟩)))))));have n2p:p≠l2:=qA2 p6 hl2;refine qAp (xs:=ns.map V.int) (λj σ' H'=>(∃o,σ' = [o])/\Ext [l2] H6 H' /\ ∃items,H' l2=some (.lst items)/\PairsAt H' items ((ns.take j).map λn=>((Sum.inl n:Key),V.bl true)))
  ⟨⟨none,rfl⟩,.laid hl2,[],qA1,.nil⟩ (λj σ' H' _ ⟨_,e,_⟩=>SqL.of (e _ _ (by simpa using n2p) p6)) ?_ ?_
 ·rintro j x σ' H' R hx ⟨⟨o,rfl⟩,e,items,hi,pr⟩ hR;obtain⟨n,hnj,rfl⟩:∃n,ns[j]? = some n/\x=V.int n:=by
   rw [aW] at hx;cases z:ns[j]? with
   | none=>rw [z] at hx;cases hx
   | some n=>rw [z] at hx;exact⟨n,rfl,(bF hx).symm⟩
  walk_at "rd";refine iteT ?_;walk_at "rd";refine⟨len2 (by show 2<=1000;decide),λp2 hp2=>?_⟩;have n22:l2≠p2:=qA2 hi hp2;have hlen:items.length<=2:=by
   have:=cY pr;rw [aB,aV] at this;lia
  refine⟨items,by rw [qA4 n22];exact hi,qAc (by lia),hR _ _ ⟨⟨_,rfl⟩,?_,items ++ [.ref p2],qA1,?_⟩⟩
  ·exact e.trans ((Ext.laid hp2).trans (.put (by simp)))
  ·have hj:(ns.take (j+1))=ns.take j ++ [n]:=by rw [dB,hnj];rfl
   rw [hj,aN];refine hU (PairsAt.mono (λb ys e=>?_) pr) ⟨p2,rfl,?_⟩
   ·rw [qA4 (qNk e hi (by intro z;cases z)),qA4 (qA2 e hp2)];exact e
   ·rw [qA4 n22.symm,qA1];rfl
 ·rintro σ' H' ⟨_,e,items,hi,pr⟩;rw [aB,bE] at pr;have n2d:d≠l2:=qA2 d6 hl2;have n2l:l≠l2:=qA2 l6 hl2;have hmore:=cY pr;rw [aB] at hmore;refine qRq ⟨d,l2,kvs,items,_,rfl,rfl,e _ _ (by simpa using n2d) d6,hi,pr,len2 (by rw [aB];lia),?_⟩;have hml:=qEf (ns.map λn=>((Sum.inl n:Key),V.bl true)) kvs;rw [aB] at hml;refine q _ _ (by rw [qA4 nld];exact e _ _ (by simpa using n2l) l6) qA1 (by lia) ?_;exact e6.trans (((e.drop hl2).mono (by simp)).trans (.put (by simp)))
abbrev qH9:Stmt:=top 10
theorem scNexts:FnScope ["_law_tape_here","_law_many_here","_law_found","_law_led","_law_k","_law_way","_law_other","_law_some"] ["_law_tape_here","_law_many_here"] (qA8 qH9):=⟨rfl,rfl,rfl,by decide +kernel,rfl,by decide +kernel,by decide +kernel⟩
theorem qS5{f:Addr}{fd:FuncData}(F:Fun K "_law_nexts" "_law_nexts" qH9 f fd)(nrange:mg "range" = none)(nmax:mg "max" = none)(hD:Has P w K mg base "_law_draw" 1 ["_law_tape_here","_law_many_here"] qDv):FnOk P w K mg base CX0 2 f fd ["_law_tape_here","_law_many_here"] (qKy K):=by
 refine F.ok scNexts (λvs H Q E h=>?_) (λcdv A outer s H vs Q E hr h=>?_)
 ·obtain⟨t,k,m,rfl,_⟩:=h;rfl
 ·obtain⟨t,k,m,rfl,hT,hk,hm1,hm2,q⟩:=h;have hu:=qIm hr
  refine⟨_,qA7 (qM0 (i:=2) (j:=3) rfl scNexts.nd rfl rfl (by decide) rfl rfl (qA0 (qB0 qA3) (qA0 qM7 qA3)) rfl)
   (qA7 (qCb bX rfl (qBr rfl nrange (qA0 (pv 1) qA3)) (qAb (i:=4) scNexts.nd rfl (Or.inl rfl))
    (qA7 (qAo (i:=5) scNexts.nd rfl (Or.inl rfl) (qAq hD hr (aE _) (qA0 (pv 0) (qA0 qA6 qA3))))
    (qA7 (qAo (i:=6) scNexts.nd rfl (Or.inl rfl) (qAv qBf qA6 (qAq hD hr (aE _) (qA0 (pv 0) (qA0 (qAe (qKh rfl) (by rfl) nmax PyProof.Rows.boot_max (qA0 qA6 (qA0 (qAv qPa (pv 1) qA6) qA3))) qA3)))))
    (qA7 (qAo (i:=7) scNexts.nd rfl (Or.inl rfl) (qAu qAr (qB0 (qA0 (qB0 (qA0 (qAv qBf (pv 4) qA6) (qA0 (pv 6) qA3))) (qA0 (qB0 (qA0 (pv 6) (qA0 (qAv qBf (pv 4) qA6) qA3))) qA3))) (qAv qEc (pv 5) qA6) (λ_ _=>rfl)))
    (qA7 (qCh (qAd qBp (qAv qBf (pv 4) qA6) (pv 1) (qAf _))
      (qA9 (qAo (i:=7) scNexts.nd rfl (Or.inl rfl) (qC7 (qF9 (qAd qBp (pv 5) qA6 (qAf _)) (qD5 (qAd qUs (pv 1) qA6 (qAf _)))).pt (qB0 (qA0 (pv 6) qA3)) (qB0 qA3))))
      (qA9 (qCh (qF9 (qTf (qX9 hu (qAv qBf (pv 4) qA6) (pv 3))) (qD5 (qAd qPb (pv 5) qA6 (qAf _)))).pt
       (qA9 (qAo (i:=7) scNexts.nd rfl (Or.inl rfl) (qC7 (qAd qBp (pv 5) qA6 (qAf _)) (qB0 (qA0 (pv 6) qA3)) (qB0 qA3))))
       (qA9 (qCh (qUi (qAd qPb (pv 5) qA6 (qAf _)) (qP2 (qAd qBp (pv 6) (qAv qBf (pv 4) qA6) (qAf _)))).pt
        (qA9 (qAo (i:=7) scNexts.nd rfl (Or.inl rfl) (qB0 (qA0 (qAv qBf (pv 4) qA6) qA3)))) qBg)))))
    (qA7 (qC6 (qEb bJ cB cC qBl (pv 2) (qA0 (pv 7) qA3)))
    (qA9 (qC6 (qEb PySem.F.plainAttrs_dict iC PySem.F.type_dict_update (qPn rfl) (pv 3)
     (qA0 (qCl ["_law_one"] [] rfl (.of rfl) (qAy (pv 7)) (λ_ _ _ _=>qAb (i:=0) (by show ((["_law_one"]:List Str)).Nodup;decide) rfl (Or.inl rfl)) (λ_ _ _ _ =>.nil) (λ_ _ _ _=>qBc (qA0 (pv 0) (qA0 qGy qA3)))) qA3))))))))))
   (qA9 (qAt (pv 2)))),?_⟩
  dsimp only [qBx,qBi];walk_at "rd";refine⟨len2 (aU _),λl hl=>?_⟩;have nlt:l≠t:=hT.ne hl;walk_at "rd";refine qUe λd hd=>?_;have nld:l≠d:=λz=>by rw [<-z,qA1] at hd;cases hd
  rw [qA4 nld.symm] at hd;have ndt:d≠t:=hT.ne hd;walk_at "rd";refine⟨_,_,rfl,?_⟩;walk_at "rd"
  refine⟨m,rfl,by lia,by lia,qCo (lo:=0) (n:=m.toNat) (λi σ' H' => ∃(nx:List (List Int)) (vs:List V) (kvs:List (Key×V)) (o4 o5 o6 o7:Option V),σ' = [some (.ref t),some (.int m),some (.ref l),some (.ref d),o4,o5,o6,o7]/\nx.length=i/\(∀ns∈nx,NsOk m ns) /\
   Tape H' t (k+2*i)/\Ext [t] H H'/\H' l=some (.lst vs)/\DenL K (yo H [t,l,d] H') (nx.map intsD) vs/\H' d=some (.dK kvs)/\kvs.length<=2*i) ?_ ?_ ?_⟩
  ·refine⟨[],[],[],none,none,none,none,rfl,rfl,(λ_ h=>absurd h (by simp)),?_,?_,?_,.nil,qA1,aE _⟩
   ·exact (hT.ext (ts :=[]) ((Ext.laid hl).trans (.laid (by rw [qA4 nld.symm];exact hd))) (by simp)).mono (by lia)
   ·exact (Ext.laid hl).trans (.laid (by rw [qA4 nld.symm];exact hd))
   ·rw [qA4 nld,qA1]
  ·rintro i σ' H' hi ⟨nx,vs,kvs,o4,o5,o6,o7,rfl,hnl,hnx,hT',e',hl',hden,hd',hkl⟩ N_ B_ C_ R_ hN_ hC_ hR_;have hvl:vs.length=i:=by rw [hden.len,aB,hnl]
   walk_at "rd";refine qBb hT' (by lia) (by decide) (by decide) λr1 H1 a1 b1 T1 e1 k1=>?_;walk_at "rd";refine⟨_,_,rfl,?_⟩;walk_at "rd";refine qBb T1 (by lia) (by split <;> lia) (by split <;> lia) λr2 H2 a2 b2 T2 e2 k2=>?_;have l2:H2 l=some (.lst vs):=by rw [k2 l nlt,k1 l nlt];exact hl'
   have d2:H2 d=some (.dK kvs):=by rw [k2 d ndt,k1 d ndt];exact hd'
   have den2:DenL K (yo H [t,l,d] H2) (nx.map intsD) vs:=hden.mono ((e1.trans e2).mono (by simp)).young;walk_at "rd";refine⟨len2 (by show 2<=1000;decide),λp1 hp1=>?_⟩;walk_at "rd";refine⟨len2 (by show 2<=1000;decide),λp2 hp2=>?_⟩;walk_at "rd";refine⟨len2 (by show 2<=1000;decide),λp3 hp3=>?_⟩;have n12:p1≠p2:=qA2 qA1 hp2;have n23:p2≠p3:=qA2 qA1 hp3;have n13:p1≠p3:=qA2 (by rw [qA4 n12,qA1]) hp3;generalize hH5:upd (upd (upd H2 p1 (HO.lst [V.int (0 + ↑i+1),V.int (1+r2)])) p2 (HO.lst [V.int (1+r2),V.int (0 + ↑i+1)])) p3 (HO.lst [V.ref p1,V.ref p2])=H5;have hp2':H2 p2=none:=by rw [qA4 n12.symm] at hp2;exact hp2
   have e5:Ext [] H2 H5:=by
    rw [<-hH5];exact (Ext.laid hp1).trans ((Ext.laid hp2).trans (.laid hp3))
   have q1:H5 p1=some (.lst ([0+(i:Int)+1,1+r2].map V.int)):=by rw [<-hH5,qA4 n13,qA4 n12,qA1];rfl
   have q2:H5 p2=some (.lst ([1+r2,0+(i:Int)+1].map V.int)):=by rw [<-hH5,qA4 n23,qA1];rfl
   have q3:SqL K H5 p3 [V.ref p1,V.ref p2]:=SqL.of (by rw [<-hH5,qA1]);have fr:∀p,H2 p=none->p≠t/\p≠l/\p≠d:=λp hp=>⟨T2.ne hp,(qA2 l2 hp).symm,(qA2 d2 hp).symm⟩;have fin:∀(p:Addr) (ns:List Int) (H6:Hp),Ext [] H5 H6->H6 p=some (.lst (ns.map V.int))->H2 p=none->NsOk m ns -> ∀(H7:Hp) (kvs':List (Key×V)),H7 l=some (.lst (vs ++ [.ref p]))->H7 d=some (.dK kvs')->kvs'.length<=kvs.length+2->Ext [l,d] H6 H7 -> ∀o4 o5 o6 o7:Option V,
     ∃(nx:List (List Int)) (vs:List V) (kvs:List (Key×V)) (p4 p5 p6 p7:Option V),[some (V.ref t),some (.int m),some (.ref l),some (.ref d),o4,o5,o6,o7] = [some (.ref t),some (.int m),some (.ref l),some (.ref d),p4,p5,p6,p7]/\nx.length=i+1/\(∀ns∈nx,NsOk m ns) /\
      Tape H7 t (k+2*(i+1))/\Ext [t] H H7/\H7 l=some (.lst vs)/\DenL K (yo H [t,l,d] H7) (nx.map intsD) vs/\H7 d=some (.dK kvs)/\kvs.length<=2*(i+1):=by
    intro p ns H6 e6 hp hn hns H7 kvs' l7 d7 hk7 e7 o4 o5 o6 o7;obtain⟨npt,npl,npd⟩:=fr p hn;have e27:Ext [l,d] H2 H7:=((e5.trans e6).mono (by simp)).trans e7;refine⟨nx ++ [ns],vs ++ [.ref p],kvs',o4,o5,o6,o7,rfl,by rw [aG,hnl];rfl,λz hz=>?_,?_,?_,l7,?_,d7,by lia⟩
    ·rcases aM.mp hz with y | y
     ·exact hnx z y
     ·rw [aQ.mp y];exact hns
    ·exact (T2.ext e27 (by simp [nlt.symm,ndt.symm])).mono (by lia)
    ·have E7:Ext [l,d,t] H H7:=(e'.mono (by simp)).trans (((e1.trans e2).mono (by simp)).trans (e27.mono (by simp)));exact (E7.drop hl).drop hd
    ·rw [aN];refine DenL.append (den2.mono (e27.mono (by simp)).young) (.cons (.list (SqL.of ?_) (DenL.ofInts ns)) .nil);rw [qAz ((e'.trans (e1.trans e2)).none (by simpa using npt) hn) (by simp [npt,npl,npd])];exact e7 _ _ (by simp [npl,npd]) hp
   have hr2:1+r2<=1\/1+r2<=m - 1:=by
    by_cases c:m - 1>1
    ·rw [if_pos c] at b2;lia
    ·rw [if_neg c] at b2;lia
   have l5:=e5 _ _ (by simp) l2;have d5:=e5 _ _ (by simp) d2;obtain⟨p0,ns0,h0,hp0,hn0,hat⟩:∃p0 ns0,H5 p0=some (.lst (ns0.map V.int))/\H2 p0=none/\(ns0 = [0+(i:Int)+1,1+r2]\/ns0 = [1+r2,0+(i:Int)+1])/\atI [V.ref p1,V.ref p2] (r1%2)=some (.ref p0):=by
    have hm:=Int.emod_two_eq r1;rcases hm with c | c
    ·exact⟨p1,_,q1,hp1,.inl rfl,by rw [c];rfl⟩
    ·exact⟨p2,_,q2,hp2',.inr rfl,by rw [c];rfl⟩
   walk_at "rd";refine qGa (by decide) (qC2 q3 hat ?_);walk_at "rd";refine qC5 ?_;walk_at "rd";have nsl:∀ {ns},NsOk m ns->ns.length<=2:=by
    rintro ns (h | ⟨x,h,_⟩ | ⟨x,y,h,_⟩) <;> subst h <;> simp
   refine ite2 (λg=>?_) (λg=>?_)
   ·have g:=of_decide_eq_true g;walk_at "rd";refine qC5 ?_;walk_at "rd";refine ite2 (λg2=>?_) (λg2=>?_)
    ·walk_at "rd";refine ite2 (λg3=>?_) (λg3=>?_)
     ·have g3:=of_decide_eq_true g3;walk_at "rd";refine⟨len2 (by first | exact aU _ | (show 1<=1000;decide)),λp hp=>?_⟩;have hf:H2 p=none:=by
       cases z:H2 p with
       | none=>rfl
       | some o=>rw [e5 _ _ (by simp) z] at hp;cases hp
      have e6:Ext [] H5 (upd H5 p (.lst (([1+r2]:List Int).map V.int))) :=.laid hp;have hns:NsOk m [1+r2]:=(.inr (.inl ⟨_,rfl,by lia,by lia⟩));obtain⟨_,npl,_⟩:=fr p hf;refine qNb ?_;refine qB8 (l:=l) (d:=d) (p:=p) (ns :=[1+r2]) rfl rfl rfl (e6 _ _ (by simp) l5) (e6 _ _ (by simp) d5) qA1 (by lia) (by lia) (nsl hns) npl ?_;exact λH7 kvs' l7 d7 hk7 e7=>hN_ _ _ <| fin p [1+r2] _ e6 qA1 hf hns H7 kvs' l7 d7 hk7 e7 _ _ _ _
     ·walk_at "rd";refine⟨len2 (by first | exact aU _ | (show 1<=1000;decide)),λp hp=>?_⟩;have hf:H2 p=none:=by
       cases z:H2 p with
       | none=>rfl
       | some o=>rw [e5 _ _ (by simp) z] at hp;cases hp
      have e6:Ext [] H5 (upd H5 p (.lst (([]:List Int).map V.int))) :=.laid hp;have hns:NsOk m []:=(.inl rfl);obtain⟨_,npl,_⟩:=fr p hf;refine qNb ?_;refine qB8 (l:=l) (d:=d) (p:=p) (ns :=[]) rfl rfl rfl (e6 _ _ (by simp) l5) (e6 _ _ (by simp) d5) qA1 (by lia) (by lia) (nsl hns) npl ?_;exact λH7 kvs' l7 d7 hk7 e7=>hN_ _ _ <| fin p [] _ e6 qA1 hf hns H7 kvs' l7 d7 hk7 e7 _ _ _ _
    ·refine iteF ?_;walk_at "rd";refine⟨len2 (by first | exact aU _ | (show 1<=1000;decide)),λp hp=>?_⟩;have hf:H2 p=none:=by
      cases z:H2 p with
      | none=>rfl
      | some o=>rw [e5 _ _ (by simp) z] at hp;cases hp
     have e6:Ext [] H5 (upd H5 p (.lst (([]:List Int).map V.int))) :=.laid hp;have hns:NsOk m []:=(.inl rfl);obtain⟨_,npl,_⟩:=fr p hf;refine qNb ?_;refine qB8 (l:=l) (d:=d) (p:=p) (ns :=[]) rfl rfl rfl (e6 _ _ (by simp) l5) (e6 _ _ (by simp) d5) qA1 (by lia) (by lia) (nsl hns) npl ?_;exact λH7 kvs' l7 d7 hk7 e7=>hN_ _ _ <| fin p [] _ e6 qA1 hf hns H7 kvs' l7 d7 hk7 e7 _ _ _ _
   ·have g : ¬(0+(i:Int)+1=m):=λz=>g (decide_eq_true z);walk_at "rd";refine⟨d,_,rfl,DGet.k (k:=Sum.inl _) d5,?_⟩;refine qXx ?_;refine ite2 (λg2=>?_) (λg2=>?_)
    ·walk_at "rd";refine ite2 (λg3=>?_) (λg3=>?_)
     ·walk_at "rd";refine qC5 ?_;walk_at "rd";refine ite2 (λg4=>?_) (λg4=>?_)
      ·walk_at "rd";refine⟨len2 (by first | exact aU _ | (show 1<=1000;decide)),λp hp=>?_⟩;have hf:H2 p=none:=by
        cases z:H2 p with
        | none=>rfl
        | some o=>rw [e5 _ _ (by simp) z] at hp;cases hp
       have e6:Ext [] H5 (upd H5 p (.lst (([1+r2]:List Int).map V.int))) :=.laid hp;have hns:NsOk m [1+r2]:=(.inr (.inl ⟨_,rfl,by lia,by lia⟩));obtain⟨_,npl,_⟩:=fr p hf;refine qNb ?_;refine qB8 (l:=l) (d:=d) (p:=p) (ns :=[1+r2]) rfl rfl rfl (e6 _ _ (by simp) l5) (e6 _ _ (by simp) d5) qA1 (by lia) (by lia) (nsl hns) npl ?_;exact λH7 kvs' l7 d7 hk7 e7=>hN_ _ _ <| fin p [1+r2] _ e6 qA1 hf hns H7 kvs' l7 d7 hk7 e7 _ _ _ _
      ·walk_at "rd";refine⟨len2 (by first | exact aU _ | (show 1<=1000;decide)),λp hp=>?_⟩;have hf:H2 p=none:=by
        cases z:H2 p with
        | none=>rfl
        | some o=>rw [e5 _ _ (by simp) z] at hp;cases hp
       have e6:Ext [] H5 (upd H5 p (.lst (([]:List Int).map V.int))) :=.laid hp;have hns:NsOk m []:=(.inl rfl);obtain⟨_,npl,_⟩:=fr p hf;refine qNb ?_;refine qB8 (l:=l) (d:=d) (p:=p) (ns :=[]) rfl rfl rfl (e6 _ _ (by simp) l5) (e6 _ _ (by simp) d5) qA1 (by lia) (by lia) (nsl hns) npl ?_;exact λH7 kvs' l7 d7 hk7 e7=>hN_ _ _ <| fin p [] _ e6 qA1 hf hns H7 kvs' l7 d7 hk7 e7 _ _ _ _
     ·walk_at "rd";refine ite2 (λg5=>?_) (λg5=>?_)
      ·refine iteT ?_;walk_at "rd";refine⟨len2 (by first | exact aU _ | (show 1<=1000;decide)),λp hp=>?_⟩;have hf:H2 p=none:=by
        cases z:H2 p with
        | none=>rfl
        | some o=>rw [e5 _ _ (by simp) z] at hp;cases hp
       have e6:Ext [] H5 (upd H5 p (.lst (([0+(i:Int)+1]:List Int).map V.int))) :=.laid hp;have hns:NsOk m [0+(i:Int)+1]:=(.inr (.inl ⟨_,rfl,by lia,by lia⟩));obtain⟨_,npl,_⟩:=fr p hf;refine qNb ?_;refine qB8 (l:=l) (d:=d) (p:=p) (ns :=[0+(i:Int)+1]) rfl rfl rfl (e6 _ _ (by simp) l5) (e6 _ _ (by simp) d5) qA1 (by lia) (by lia) (nsl hns) npl ?_;exact λH7 kvs' l7 d7 hk7 e7=>hN_ _ _ <| fin p [0+(i:Int)+1] _ e6 qA1 hf hns H7 kvs' l7 d7 hk7 e7 _ _ _ _
      ·walk_at "rd";refine qC5 ?_;walk_at "rd";refine ite2 (λg6=>?_) (λg6=>?_)
       ·walk_at "rd";refine⟨len2 (by first | exact aU _ | (show 1<=1000;decide)),λp hp=>?_⟩;have hf:H2 p=none:=by
         cases z:H2 p with
         | none=>rfl
         | some o=>rw [e5 _ _ (by simp) z] at hp;cases hp
        have e6:Ext [] H5 (upd H5 p (.lst (([0+(i:Int)+1]:List Int).map V.int))) :=.laid hp;have hns:NsOk m [0+(i:Int)+1]:=(.inr (.inl ⟨_,rfl,by lia,by lia⟩));obtain⟨_,npl,_⟩:=fr p hf;refine qNb ?_;refine qB8 (l:=l) (d:=d) (p:=p) (ns :=[0+(i:Int)+1]) rfl rfl rfl (e6 _ _ (by simp) l5) (e6 _ _ (by simp) d5) qA1 (by lia) (by lia) (nsl hns) npl ?_;exact λH7 kvs' l7 d7 hk7 e7=>hN_ _ _ <| fin p [0+(i:Int)+1] _ e6 qA1 hf hns H7 kvs' l7 d7 hk7 e7 _ _ _ _
       ·have g6 : ¬(1+r2=0+(i:Int)+1):=λz=>g6 (decide_eq_true z);obtain⟨_,npl,_⟩:=fr p0 hp0;have hns:NsOk m ns0:=by
         rcases hn0 with h | h
         ·exact .inr (.inr ⟨_,_,h,by lia,by lia,by lia,by lia,by lia⟩)
         ·exact .inr (.inr ⟨_,_,h,by lia,by lia,by lia,by lia,by lia⟩)
        refine qF8 ?_;refine qB8 (l:=l) (d:=d) (p:=p0) (ns:=ns0) rfl rfl rfl l5 d5 h0 (by lia) (by lia) (nsl hns) npl ?_;exact λH7 kvs' l7 d7 hk7 e7=>hN_ _ _ <| fin p0 ns0 _ (λ_ _ _ h=>h) h0 hp0 hns H7 kvs' l7 d7 hk7 e7 _ _ _ _
    ·refine iteF ?_;walk_at "rd";refine ite2 (λg5=>?_) (λg5=>?_)
     ·refine iteT ?_;walk_at "rd";refine⟨len2 (by first | exact aU _ | (show 1<=1000;decide)),λp hp=>?_⟩;have hf:H2 p=none:=by
       cases z:H2 p with
       | none=>rfl
       | some o=>rw [e5 _ _ (by simp) z] at hp;cases hp
      have e6:Ext [] H5 (upd H5 p (.lst (([0+(i:Int)+1]:List Int).map V.int))) :=.laid hp;have hns:NsOk m [0+(i:Int)+1]:=(.inr (.inl ⟨_,rfl,by lia,by lia⟩));obtain⟨_,npl,_⟩:=fr p hf;refine qNb ?_;refine qB8 (l:=l) (d:=d) (p:=p) (ns :=[0+(i:Int)+1]) rfl rfl rfl (e6 _ _ (by simp) l5) (e6 _ _ (by simp) d5) qA1 (by lia) (by lia) (nsl hns) npl ?_;exact λH7 kvs' l7 d7 hk7 e7=>hN_ _ _ <| fin p [0+(i:Int)+1] _ e6 qA1 hf hns H7 kvs' l7 d7 hk7 e7 _ _ _ _
     ·walk_at "rd";refine qC5 ?_;walk_at "rd";refine ite2 (λg6=>?_) (λg6=>?_)
      ·walk_at "rd";refine⟨len2 (by first | exact aU _ | (show 1<=1000;decide)),λp hp=>?_⟩;have hf:H2 p=none:=by
        cases z:H2 p with
        | none=>rfl
        | some o=>rw [e5 _ _ (by simp) z] at hp;cases hp
       have e6:Ext [] H5 (upd H5 p (.lst (([0+(i:Int)+1]:List Int).map V.int))) :=.laid hp;have hns:NsOk m [0+(i:Int)+1]:=(.inr (.inl ⟨_,rfl,by lia,by lia⟩));obtain⟨_,npl,_⟩:=fr p hf;refine qNb ?_;refine qB8 (l:=l) (d:=d) (p:=p) (ns :=[0+(i:Int)+1]) rfl rfl rfl (e6 _ _ (by simp) l5) (e6 _ _ (by simp) d5) qA1 (by lia) (by lia) (nsl hns) npl ?_;exact λH7 kvs' l7 d7 hk7 e7=>hN_ _ _ <| fin p [0+(i:Int)+1] _ e6 qA1 hf hns H7 kvs' l7 d7 hk7 e7 _ _ _ _
      ·have g6 : ¬(1+r2=0+(i:Int)+1):=λz=>g6 (decide_eq_true z);obtain⟨_,npl,_⟩:=fr p0 hp0;have hns:NsOk m ns0:=by
        rcases hn0 with h | h
        ·exact .inr (.inr ⟨_,_,h,by lia,by lia,by lia,by lia,by lia⟩)
        ·exact .inr (.inr ⟨_,_,h,by lia,by lia,by lia,by lia,by lia⟩)
       refine qF8 ?_;refine qB8 (l:=l) (d:=d) (p:=p0) (ns:=ns0) rfl rfl rfl l5 d5 h0 (by lia) (by lia) (nsl hns) npl ?_;exact λH7 kvs' l7 d7 hk7 e7=>hN_ _ _ <| fin p0 ns0 _ (λ_ _ _ h=>h) h0 hp0 hns H7 kvs' l7 d7 hk7 e7 _ _ _ _
  ·rintro σ' H' ⟨nx,vs,kvs,o4,o5,o6,o7,rfl,hnl,hnx,hT',e',hl',hden,hd',hkl⟩;walk_at "rd";refine q l nx H' hl (hT'.mono (by lia)) e' ⟨by lia,hnx⟩ (.list (SqL.of ?_) (hden.mono (qHy (by simp))));rw [qAz hl (by simpa using nlt)];exact hl'
end
section
variable{P:Program}{w:World}{K:PySem.W.Frag}{mg:Str->Option Value}{base:Heap}
abbrev qHe:Stmt:=top 12
theorem scDeeds:FnScope ["_law_tape_here","_law_most","_law_boxes_here","_law_first","_law_works_here","_law_found","_law_turn","_law_way","_law_n","_law_box","_law_other","_law_called"] ["_law_tape_here","_law_most","_law_boxes_here","_law_first","_law_works_here"] (qA8 qHe):=⟨rfl,rfl,rfl,by decide +kernel,rfl,by decide +kernel,by decide +kernel⟩
theorem qSa{f:Addr}{fd:FuncData}(F:Fun K "_law_deeds" "_law_deeds" qHe f fd)(nrange:mg "range" = none)(nint:mg "int" = none)(nlen:mg "len" = none)(hD:Has P w K mg base "_law_draw" 1 ["_law_tape_here","_law_many_here"] qDv)(hN:Has P w K mg base "_law_number" 2 ["_law_tape_here"] qI5):FnOk P w K mg base CX0 3 f fd ["_law_tape_here","_law_most","_law_boxes_here","_law_first","_law_works_here"] (qFn K):=by
 refine F.ok scDeeds (λvs H Q E h=>?_) (λcdv A outer s H vs Q E hr h=>?_)
 ·obtain⟨t,b,k,most,first,works,bs,rfl,_⟩:=h;rfl
 ·obtain⟨t,b,k,most,first,works,bs,rfl,hT,hk,hm1,hm2,hf1,hf2,hw1,hw2,hb,nbt,hB,q⟩:=h
  refine⟨_,qA7 (qAo (i:=5) scDeeds.nd rfl (Or.inl rfl) (qB0 qA3))
   (qA7 (qCb bX rfl (qBr rfl nrange (qA0 (qAq hD hr (by decide) (qA0 (pv 0) (qA0 (qAv qBf qA6 (qAu qAr (qB0 (qA0 (pv 1) (qA0 qA6 qA3))) (qB5 qCq (by rfl) nint eU (qA0 (qBk qBp (qAq hD hr (by decide) (qA0 (pv 0) (qA0 qA6 qA3))) qA6 (qAf _)) qA3)) (λ_ _=>rfl))) qA3))) qA3)) (qAb (i:=6) scDeeds.nd rfl (Or.inl rfl))
    (qA7 (qM0 (i:=7) (j:=8) rfl scDeeds.nd rfl rfl (by decide) rfl rfl (qA0 (qAq hD hr (by decide) (qA0 (pv 0) (qA0 qA6 qA3))) (qA0 (qAq hN hr (by decide) (qA0 (pv 0) qA3)) qA3)) rfl)
    (qA7 (qAo (i:=9) scDeeds.nd rfl (Or.inl rfl) (qAu qAr (pv 2) (qAq hD hr (by decide) (qA0 (pv 0) (qA0 (qAe qAh (by rfl) nlen cD (qA0 (pv 2) qA3)) qA3))) (λ_ _=>rfl)))
    (qA7 (qAo (i:=10) scDeeds.nd rfl (Or.inl rfl) (qAu qAr (pv 2) (qAq hD hr (by decide) (qA0 (pv 0) (qA0 (qAe qAh (by rfl) nlen cD (qA0 (pv 2) qA3)) qA3))) (λ_ _=>rfl)))
    (qA7 (qAo (i:=11) scDeeds.nd rfl (Or.inl rfl) (qAu qAr (qB0 (qA0 (qAv qBf (qAv qBf (pv 3) qA6) (qAq hD hr (by decide) (qA0 (pv 0) (qA0 qA6 qA3)))) (qA0 (qAq hD hr (by decide) (qA0 (pv 0) (qA0 (pv 4) qA3))) qA3))) (qB5 qCq (by rfl) nint eU (qA0 (qBk qBp (qAq hD hr (by decide) (qA0 (pv 0) (qA0 qA6 qA3))) qA6 (qAf _)) qA3)) (λ_ _=>rfl)))
    (qA9 (qCh (qF9 (qAd qBp (pv 7) qA6 (qAf _)) (qD5 (qAd qPb (pv 11) (pv 4) (qAf _)))).pt
     (qA9 (qC6 (qEb bJ cB cC qBl (pv 5) (qA0 (qBc (qA0 qB7 (qA0 (pv 11) qA3))) qA3))))
     (qA9 (qC6 (qEb bJ cB cC qBl (pv 5) (qA0 (qAu qAr (qB0 (qA0 (qBc (qA0 qB7 (qA0 (pv 9) (qA0 (pv 8) qA3)))) (qA0 (qBc (qA0 qB7 (qA0 (pv 9) (qA0 (pv 10) qA3)))) (qA0 (qBc (qA0 qB7 (qA0 (pv 9) qA3))) qA3)))) (qAv qEc (pv 7) qA6) (λ_ _=>rfl)) qA3)))))))))))
   (qA9 (qAt (pv 5)))),?_⟩
  dsimp only [qBx,qBi];walk_at "rd";refine⟨len2 (aU _),λl hl=>?_⟩;have nlt:l≠t:=hT.ne hl;have nlb:l≠b:=(qA2 hb hl).symm;have T0:Tape (upd H l (.lst [])) t k:=hT.ext (ts :=[]) (.laid hl) (by simp);walk_at "rd";refine⟨len2 (by show 2<=1000;decide),λp hp=>?_⟩;have npt:p≠t:=T0.ne hp;have npl:p≠l:=λz=>by rw [z,qA1] at hp;cases hp
  walk_at "rd";refine qBb (T0.ext (ts :=[]) (.laid hp) (by simp)) (by lia) (by decide) (by decide) λr1 H1 a1 b1 T1 e1 k1=>?_;walk_at "rd";refine qC5 ?_;walk_at "rd";refine .inr ⟨_,rfl,?_⟩;have hpL:SqL K H1 p [V.int most,V.int 12]:=SqL.of (by rw [k1 p npt,qA1]);obtain⟨mo,hmo,mo0,mo1⟩:∃mo:Int,atI [V.int most,V.int 12] (if decide (r1=0)=true then 1 else 0)=some (.int mo)/\0<=mo/\mo<=12:=by
   cases decide (r1=0)
   ·exact⟨most,rfl,hm1,hm2⟩
   ·exact⟨12,rfl,by decide,by decide⟩
  refine qC2 hpL hmo ?_;walk_at "rd";refine qBb T1 (by lia) (by lia) (by lia) λr2 H2 a2 b2 T2 e2 k2=>?_;have l2:H2 l=some (.lst []):=by rw [k2 l nlt,k1 l nlt,qA4 npl.symm,qA1]
  have E2:Ext [t] H H2:=(Ext.laid hl).trans ((Ext.laid hp).trans (e1.trans e2));walk_at "rd"
  refine⟨r2,rfl,by lia,by lia,qCo (lo:=0) (n:=r2.toNat) (λi σ' H' => ∃(ds:List Deed) (vs:List V) (o6 o7 o8 o9 o10 o11:Option V),σ' = [some (.ref t),some (.int most),some (.ref b),some (.int first),some (.int works),some (.ref l),o6,o7,o8,o9,o10,o11]/\ds.length=i/\(∀d∈ds,qGx works d) /\
   Tape H' t (k+2+10*i)/\Ext [t] H H'/\H' l=some (.lst vs)/\DenEL (yo H [t,l] H') (ds.map deedD) vs) ?_ ?_ ?_⟩
  ·exact⟨[],[],none,none,none,none,none,none,rfl,rfl,(λ_ h=>absurd h (by simp)),T2.mono (by lia),E2,l2,.nil⟩
  ·rintro i σ' H' hi ⟨ds,vs,o6,o7,o8,o9,o10,o11,rfl,hdl,hds,hT',e',hl',hden⟩ N_ B_ C_ R_ hN_ hC_ hR_;have hvl:vs.length=i:=by rw [hden.len,aB,hdl]
   walk_at "rd";refine qBb hT' (by lia) (by decide) (by decide) λr3 H3 a3 b3 T3 e3 _=>?_;walk_at "rd";refine qWl T3 (by lia) λn H4 n0 n1 T4 e4=>?_;walk_at "rd";refine⟨_,_,rfl,?_⟩;have E4:Ext [t] H' H4:=e3.trans e4;have hbt:b ∉ [t]:=by simpa using nbt
   have hltn:l ∉ [t]:=by simpa using nlt
   walk_at "rd";refine⟨b,_,rfl,.inl (SqL.of (E4 _ _ hbt (e' _ _ hbt hb))),?_⟩;rw [aB];walk_at "rd";refine qBb T4 (by lia) (by have:=hB.one;lia) (by have:=hB.few;lia) λr5 H5 a5 b5 T5 e5 _=>?_;have E5:Ext [t] H' H5:=E4.trans e5;obtain⟨bx,hbx,ebx⟩:=qJ0 (ns:=bs) a5 b5;refine qC2 (SqL.of (E5 _ _ hbt (e' _ _ hbt hb))) ebx ?_;walk_at "rd";refine⟨b,_,rfl,.inl (SqL.of (E5 _ _ hbt (e' _ _ hbt hb))),?_⟩;rw [aB];walk_at "rd";refine qBb T5 (by lia) (by have:=hB.one;lia) (by have:=hB.few;lia) λr6 H6 a6 b6 T6 e6 _=>?_;have E6:Ext [t] H' H6:=E5.trans e6;obtain⟨ox,hox,eox⟩:=qJ0 (ns:=bs) a6 b6;refine qC2 (SqL.of (E6 _ _ hbt (e' _ _ hbt hb))) eox ?_;walk_at "rd";refine qBb T6 (by lia) (by decide) (by decide) λr7 H7 a7 b7 T7 e7 _=>?_
   walk_at "rd";refine qBb T7 (by lia) (by lia) (by lia) λr8 H8 a8 b8 T8 e8 _=>?_;walk_at "rd";refine⟨len2 (by show 2<=1000;decide),λp1 hp1=>?_⟩;have np1:p1≠t:=T8.ne hp1;walk_at "rd";refine qBb (T8.ext (ts :=[]) (.laid hp1) (by simp)) (by lia) (by decide) (by decide) λr9 H9 a9 b9 T9 e9 k9=>?_;walk_at "rd";refine qC5 ?_;walk_at "rd";refine .inr ⟨_,rfl,?_⟩;have E9:Ext [t] H' H9:=(E6.trans (e7.trans e8)).trans ((Ext.laid hp1).trans e9);have hL9:SqL K H9 p1 [V.int (first+1+r7),V.int r8]:=SqL.of (by rw [k9 p1 np1,qA1]);obtain⟨ca,hca,ca0⟩:∃ca:Int,atI [V.int (first+1+r7),V.int r8] (if decide (r9=0)=true then 1 else 0)=some (.int ca)/\0<=ca:=by
    cases decide (r9=0)
    ·exact⟨_,rfl,by lia⟩
    ·exact⟨_,rfl,by lia⟩
   refine qC2 hL9 hca ?_;have l9:H9 l=some (.lst vs):=E9 _ _ hltn hl';have fin:∀(d:Deed) (H6:Hp) (p:Addr),qGx works d->Ext [] H9 H6->p≠t->p≠l->DenE (yo H [t,l] H6) (deedD d) (.ref p) -> ∀o6 o7 o8 o9 o10 o11:Option V,∃(ds:List Deed) (vs':List V) (p6 p7 p8 p9 p10 p11:Option V),[some (V.ref t),some (.int most),some (.ref b),some (.int first),some (.int works),some (.ref l),o6,o7,o8,o9,o10,o11] = [some (V.ref t),some (.int most),some (.ref b),some (.int first),some (.int works),some (.ref l),p6,p7,p8,p9,p10,p11]/\ds.length=i+1/\(∀d∈ds,qGx works d) /\
     Tape (upd H6 l (.lst (vs ++ [.ref p]))) t (k+2+10*(i+1))/\Ext [t] H (upd H6 l (.lst (vs ++ [.ref p])))/\(upd H6 l (.lst (vs ++ [.ref p]))) l=some (.lst vs')/\DenEL (yo H [t,l] (upd H6 l (.lst (vs ++ [.ref p])))) (ds.map deedD) vs':=by
    intro d H6 p hd e6 npt npl hden6 o6 o7 o8 o9 o10 o11;have E10:Ext [l,t] H9 (upd H6 l (.lst (vs ++ [.ref p]))):=(e6.mono (by simp)).trans (.put (by simp));have E11:Ext [l,t] H' (upd H6 l (.lst (vs ++ [.ref p]))):=(E9.mono (by simp)).trans E10;refine⟨ds ++ [d],vs ++ [.ref p],o6,o7,o8,o9,o10,o11,rfl,by rw [aG,hdl];rfl,λz hz=>?_,?_,?_,qA1,?_⟩
    ·rcases aM.mp hz with y | y
     ·exact hds z y
     ·rw [aQ.mp y];exact hd
    ·exact ((T9.ext e6 (by simp)).ext (ts :=[l]) (.put (by simp)) (by simpa using nlt.symm)).mono (by lia)
    ·exact ((e'.mono (by simp)).trans E11).drop hl
    ·rw [aN];exact DenEL.append (hden.mono (E11.mono (by simp)).young) (.cons (hden6.mono (Ext.put (by simp)).young) .nil)
   have sz:vs.length<sizeLine:=qAc (by lia);walk_at "rd";refine qC5 ?_;walk_at "rd";refine ite2 (λg=>?_) (λg=>?_)
   ·walk_at "rd";refine ite2 (λg2=>?_) (λg2=>?_)
    ·have g2:=of_decide_eq_true g2;walk_at "rd";refine qDs l9 ?_;walk_at "rd";refine⟨len2 (by show 2<=1000;decide),λp hp=>?_⟩;have npt:=T9.ne hp;have hfresh:=hp;have npl:p≠l:=(qA2 l9 hp).symm;walk_at "rd";refine qDu (by rw [qA4 npl.symm];exact l9) sz ?_;refine L2.qEx hN_ ?_;refine fin (.call ca) _ p ⟨ca0,g2⟩ (.laid hp) npt npl (.tuple ?_ (.cons .str (.cons .int .nil))) _ _ _ _ _ _;rw [qAz ((e'.trans E9).none (by simpa using npt) hfresh) (by simp [npt,npl]),qA1]
    ·walk_at "rd";refine qDs l9 ?_;walk_at "rd";refine⟨len2 (by show 3<=1000;decide),λs1 hs1=>?_⟩;walk_at "rd";refine⟨len2 (by show 3<=1000;decide),λs2 hs2=>?_⟩;walk_at "rd";refine⟨len2 (by show 2<=1000;decide),λs3 hs3=>?_⟩;walk_at "rd";refine⟨len2 (by show 3<=1000;decide),λs4 hs4=>?_⟩;have e12:s1≠s2:=qA2 qA1 hs2;have e13:s1≠s3:=qA2 (by rw [qA4 e12,qA1]) hs3;have e23:s2≠s3:=qA2 qA1 hs3;have e14:s1≠s4:=qA2 (by rw [qA4 e13,qA4 e12,qA1]) hs4;have e24:s2≠s4:=qA2 (by rw [qA4 e23,qA1]) hs4;have e34:s3≠s4:=qA2 qA1 hs4;have f2:H9 s2=none:=by rw [qA4 e12.symm] at hs2;exact hs2
     have f3:H9 s3=none:=by rw [qA4 e23.symm,qA4 e13.symm] at hs3;exact hs3
     have E0:=(Ext.laid (ts :=[]) (o :=.tup [V.str "set",.int bx,.int n]) hs1).trans ((Ext.laid (o :=.tup [V.str "add",.int bx,.int ox]) hs2).trans ((Ext.laid (o :=.tup [V.str "tell",.int bx]) hs3).trans (Ext.laid (o :=.lst [V.ref s1,.ref s2,.ref s3]) hs4)));have l10:=E0 _ _ (by simp) l9;have hbx':=hB.all _ hbx;have hox':=hB.all _ hox;walk_at "rd";refine qGa (by decide) ?_;have h3:r3%3=0\/r3%3=1\/r3%3=2:=by lia
     have q4:SqL K (upd (upd (upd (upd H9 s1 (.tup [V.str "set",.int bx,.int n])) s2 (.tup [V.str "add",.int bx,.int ox])) s3 (.tup [V.str "tell",.int bx])) s4 (.lst [V.ref s1,.ref s2,.ref s3])) s4 [V.ref s1,.ref s2,.ref s3]:=SqL.of qA1;rcases h3 with h | h | h
     ·refine qC2 (v:=V.ref s1) q4 (by rw [h];rfl) ?_;walk_at "rd";have npt:=T9.ne hs1;have hfresh:=hs1;have npl:s1≠l:=(qA2 l9 hs1).symm;refine qDu l10 sz ?_;refine L2.qEx hN_ ?_;refine fin (.set bx n) _ s1 ⟨hbx'.1,hbx'.2,n0,n1⟩ E0 npt npl (.tuple ?_ (.cons .str (.cons .int (.cons .int .nil)))) _ _ _ _ _ _;rw [qAz ((e'.trans E9).none (by simpa using npt) hfresh) (by simp [npt,npl]),qA4 e14,qA4 e13,qA4 e12,qA1]
     ·refine qC2 (v:=V.ref s2) q4 (by rw [h];rfl) ?_;walk_at "rd";have npt:=T9.ne f2;have hfresh:=f2;have npl:s2≠l:=(qA2 l9 f2).symm;refine qDu l10 sz ?_;refine L2.qEx hN_ ?_;refine fin (.add bx ox) _ s2 ⟨hbx'.1,hbx'.2,hox'.1,hox'.2⟩ E0 npt npl (.tuple ?_ (.cons .str (.cons .int (.cons .int .nil)))) _ _ _ _ _ _;rw [qAz ((e'.trans E9).none (by simpa using npt) hfresh) (by simp [npt,npl]),qA4 e24,qA4 e23,qA1]
     ·refine qC2 (v:=V.ref s3) q4 (by rw [h];rfl) ?_;walk_at "rd";have npt:=T9.ne f3;have hfresh:=f3;have npl:s3≠l:=(qA2 l9 f3).symm;refine qDu l10 sz ?_;refine L2.qEx hN_ ?_;refine fin (.tell bx) _ s3 ⟨hbx'.1,hbx'.2⟩ E0 npt npl (.tuple ?_ (.cons .str (.cons .int .nil))) _ _ _ _ _ _;rw [qAz ((e'.trans E9).none (by simpa using npt) hfresh) (by simp [npt,npl]),qA4 e34,qA1]
   ·refine iteF ?_;walk_at "rd";refine qDs l9 ?_;walk_at "rd";refine⟨len2 (by show 3<=1000;decide),λs1 hs1=>?_⟩;walk_at "rd";refine⟨len2 (by show 3<=1000;decide),λs2 hs2=>?_⟩;walk_at "rd";refine⟨len2 (by show 2<=1000;decide),λs3 hs3=>?_⟩;walk_at "rd";refine⟨len2 (by show 3<=1000;decide),λs4 hs4=>?_⟩;have e12:s1≠s2:=qA2 qA1 hs2;have e13:s1≠s3:=qA2 (by rw [qA4 e12,qA1]) hs3;have e23:s2≠s3:=qA2 qA1 hs3;have e14:s1≠s4:=qA2 (by rw [qA4 e13,qA4 e12,qA1]) hs4;have e24:s2≠s4:=qA2 (by rw [qA4 e23,qA1]) hs4;have e34:s3≠s4:=qA2 qA1 hs4;have f2:H9 s2=none:=by rw [qA4 e12.symm] at hs2;exact hs2
    have f3:H9 s3=none:=by rw [qA4 e23.symm,qA4 e13.symm] at hs3;exact hs3
    have E0:=(Ext.laid (ts :=[]) (o :=.tup [V.str "set",.int bx,.int n]) hs1).trans ((Ext.laid (o :=.tup [V.str "add",.int bx,.int ox]) hs2).trans ((Ext.laid (o :=.tup [V.str "tell",.int bx]) hs3).trans (Ext.laid (o :=.lst [V.ref s1,.ref s2,.ref s3]) hs4)));have l10:=E0 _ _ (by simp) l9;have hbx':=hB.all _ hbx;have hox':=hB.all _ hox;walk_at "rd";refine qGa (by decide) ?_;have h3:r3%3=0\/r3%3=1\/r3%3=2:=by lia
    have q4:SqL K (upd (upd (upd (upd H9 s1 (.tup [V.str "set",.int bx,.int n])) s2 (.tup [V.str "add",.int bx,.int ox])) s3 (.tup [V.str "tell",.int bx])) s4 (.lst [V.ref s1,.ref s2,.ref s3])) s4 [V.ref s1,.ref s2,.ref s3]:=SqL.of qA1;rcases h3 with h | h | h
    ·refine qC2 (v:=V.ref s1) q4 (by rw [h];rfl) ?_;walk_at "rd";have npt:=T9.ne hs1;have hfresh:=hs1;have npl:s1≠l:=(qA2 l9 hs1).symm;refine qDu l10 sz ?_;refine L2.qEx hN_ ?_;refine fin (.set bx n) _ s1 ⟨hbx'.1,hbx'.2,n0,n1⟩ E0 npt npl (.tuple ?_ (.cons .str (.cons .int (.cons .int .nil)))) _ _ _ _ _ _;rw [qAz ((e'.trans E9).none (by simpa using npt) hfresh) (by simp [npt,npl]),qA4 e14,qA4 e13,qA4 e12,qA1]
    ·refine qC2 (v:=V.ref s2) q4 (by rw [h];rfl) ?_;walk_at "rd";have npt:=T9.ne f2;have hfresh:=f2;have npl:s2≠l:=(qA2 l9 f2).symm;refine qDu l10 sz ?_;refine L2.qEx hN_ ?_;refine fin (.add bx ox) _ s2 ⟨hbx'.1,hbx'.2,hox'.1,hox'.2⟩ E0 npt npl (.tuple ?_ (.cons .str (.cons .int (.cons .int .nil)))) _ _ _ _ _ _;rw [qAz ((e'.trans E9).none (by simpa using npt) hfresh) (by simp [npt,npl]),qA4 e24,qA4 e23,qA1]
    ·refine qC2 (v:=V.ref s3) q4 (by rw [h];rfl) ?_;walk_at "rd";have npt:=T9.ne f3;have hfresh:=f3;have npl:s3≠l:=(qA2 l9 f3).symm;refine qDu l10 sz ?_;refine L2.qEx hN_ ?_;refine fin (.tell bx) _ s3 ⟨hbx'.1,hbx'.2⟩ E0 npt npl (.tuple ?_ (.cons .str (.cons .int .nil))) _ _ _ _ _ _;rw [qAz ((e'.trans E9).none (by simpa using npt) hfresh) (by simp [npt,npl]),qA4 e34,qA1]
  ·rintro σ' H' ⟨ds,vs,o6,o7,o8,o9,o10,o11,rfl,hdl,hds,hT',e',hl',hden⟩;walk_at "rd";refine q l ds H' hl (hT'.mono (by lia)) e' hds (by lia) (.list ?_ (hden.mono (qHy (by simp))));rw [qAz hl (by simpa using nlt)];exact hl'
end
section
variable{P:Program}{w:World}{K:PySem.W.Frag}{mg:Str->Option Value}{base:Heap}
abbrev sWork:Stmt:=top 13
theorem scWork:FnScope ["_law_tape_here","_law_many_here","_law_most","_law_first","_law_works_here","_law_left","_law_size_here","_law_boxes_here","_law_found","_law_there","_law_end"] ["_law_tape_here","_law_many_here","_law_most","_law_first","_law_works_here"] (qA8 sWork):=⟨rfl,rfl,rfl,by decide +kernel,rfl,by decide +kernel,by decide +kernel⟩
theorem qUt{f:Addr}{fd:FuncData}(F:Fun K "_law_work" "_law_work" sWork f fd)(nrange:mg "range" = none)(nlist:mg "list" = none)(nlen:mg "len" = none)(hD:Has P w K mg base "_law_draw" 1 ["_law_tape_here","_law_many_here"] qDv)
  (hX:Has P w K mg base "_law_nexts" 2 ["_law_tape_here","_law_many_here"] (qKy K)) (hE:Has P w K mg base "_law_deeds" 3 ["_law_tape_here","_law_most","_law_boxes_here","_law_first","_law_works_here"] (qFn K)) :
  FnOk P w K mg base CX0 4 f fd ["_law_tape_here","_law_many_here","_law_most","_law_first","_law_works_here"] (qKw K):=by
 refine F.ok scWork (λvs H Q E h=>?_) (λcdv A outer s H vs Q E hr h=>?_)
 ·obtain⟨t,k,m,most,first,works,rfl,_⟩:=h;rfl
 ·obtain⟨t,k,m,most,first,works,rfl,hT,hk,m1,m2,hm1,hm2,hf1,hf2,hw1,hw2,q⟩:=h
  refine⟨_,qA7 (qAo (i:=5) scWork.nd rfl (Or.inr rfl) (qB5 (qIv hr.hd) (by rfl) nlist gK (qA0 (qB5 qLk (by rfl) nrange PyProof.Rows.boot_range (qA0 qA6 qA3)) qA3)))
   (qA7 (qAo (i:=6) scWork.nd rfl (Or.inl rfl) (qAv qBf qA6 (qAq hD hr (by decide) (qA0 (pv 0) (qA0 (qAu qAr (qB0 (qA0 qA6 (qA0 qA6 (qA0 qA6 qA3)))) (qAq hD hr (by decide) (qA0 (pv 0) (qA0 qA6 qA3))) (λ_ _=>rfl)) qA3)))))
   (qA7 (qRv (i:=7) ["_law_k"] [5,0] rfl (.of rfl) scWork.nd rfl (Or.inl rfl) (qBr rfl nrange (qA0 (pv 6) qA3)) (λ_ _ _ _=>qAb (i:=0) (by show ((["_law_k","_law_left","_law_tape_here"]:List Str)).Nodup;decide) rfl (Or.inl rfl)) (λ_ _ _ _ =>.nil)
     (λ_ _ _ _=>qX7 K rfl bJ PySem.F.slot_list_pop PySem.F.type_list_pop qMb (pv 1) (qA0 (qAq hD hr (by decide) (qA0 (pv 2) (qA0 (qAe (qMh K rfl) (by rfl) nlen cD (qA0 (pv 1) qA3)) qA3))) qA3)))
   (qA7 (qAo (i:=8) scWork.nd rfl (Or.inl rfl) (qB0 qA3))
   (qA7 (qCb bX rfl (qAy (qAq hX hr (by decide) (qA0 (pv 0) (qA0 (pv 1) qA3)))) (qAb (i:=9) scWork.nd rfl (Or.inl rfl))
    (qA7 (qAo (i:=10) scWork.nd rfl (Or.inl rfl) (qC7 (qAd (qPd hr) (pv 9) (qB0 qA3) (qAf _)) (qBc (qA0 qB7 qA3)) (qC7 (qAd qBp (qAe qAh (by rfl) nlen cD (qA0 (pv 9) qA3)) qA6 (qAf _))
      (qBc (qA0 qB7 (qA0 (qAu qAr (pv 9) qA6 (λ_ _=>rfl)) qA3))) (qBc (qA0 qB7 (qA0 (qAu qAr (pv 9) qA6 (λ_ _=>rfl)) (qA0 (qAu qAr (pv 9) qA6 (λ_ _=>rfl)) qA3)))))))
    (qA9 (qC6 (qEb bJ cB cC qBl (pv 8) (qA0 (qBc (qA0 (qAq hE hr (by decide) (qA0 (pv 0) (qA0 (pv 2) (qA0 (pv 7) (qA0 (pv 3) (qA0 (pv 4) qA3)))))) (qA0 (pv 10) qA3))) qA3))))))
   (qA9 (qAt (pv 8))))))),?_⟩
  dsimp only [qBx,qBi];walk_at "rd";refine⟨8,rfl,λpr hpr=>?_⟩;walk_at "rd";refine⟨pr,8,rfl,qA1,by decide,λlf hlf=>?_⟩;have nrl:pr≠lf:=qA2 qA1 hlf;have hlf0:H lf=none:=by rw [qA4 nrl.symm] at hlf;exact hlf
  have nlt:lf≠t:=hT.ne hlf0;have EG:=(Ext.laid (ts :=[]) (o :=.rng 0 8) hpr).trans (.laid (o :=.lst (([0,1,2,3,4,5,6,7]:List Int).map V.int)) hlf);generalize hG:upd (upd H pr (.rng 0 8)) lf (.lst (([0,1,2,3,4,5,6,7]:List Int).map V.int))=G at EG;have hG':upd (upd H pr (.rng 0 8)) lf (.lst ((List.range 8).map λ(i:Nat)=>V.int (i:Int)))=G:=hG;have lG:G lf=some (.lst (([0,1,2,3,4,5,6,7]:List Int).map V.int)):=by rw [<-hG,qA1]
  have TG:=hT.ext EG (by simp)
  first | rw [hG'] | erw [hG']
  clear hG hG';walk_at "rd";refine⟨len2 (by show 3<=1000;decide),λp hp=>?_⟩;have npt:p≠t:=TG.ne hp;have npl:p≠lf:=(qA2 lG hp).symm;walk_at "rd";refine qBb (TG.ext (ts :=[]) (.laid hp) (by simp)) (by lia) (by decide) (by decide) λr1 H1 a1 b1 T1 e1 k1=>?_;have hpL:SqL K H1 p (([3,3,8]:List Int).map V.int):=SqL.of (by rw [k1 p npt,qA1];rfl);obtain⟨n8,hn8,en8⟩:=qJ0 (ns :=[3,3,8]) a1 b1;have hn8':3<=n8/\n8<=8:=by
   simp only [aT,gZ,or_false] at hn8;lia
  refine qC2 hpL en8 ?_;walk_at "rd";refine qBb T1 (by lia) (by lia) (by lia) λr2 H2 a2 b2 T2 e2 k2=>?_;have l2:H2 lf=some (.lst (([0,1,2,3,4,5,6,7]:List Int).map V.int)):=by rw [k2 lf nlt,k1 lf nlt,qA4 npl.symm];exact lG
  have E2:Ext [t] H H2:=(EG.mono (by simp)).trans ((Ext.laid hp).trans (e1.trans e2));walk_at "rd";refine⟨1+r2,rfl,by lia,by lia,λbx hbx=>?_⟩;have nbt:bx≠t:=T2.ne hbx;have nbl:bx≠lf:=(qA2 l2 hbx).symm;refine qDm (lo:=0) (n:=(1+r2).toNat) (λi σ' H' => ∃(o:Option V) (left bs:List Int),σ' = [o,some (.ref lf),some (.ref t)]/\left.length+i=8/\bs.length=i/\(∀b∈left,0<=b/\b<8)/\(∀b∈bs,0<=b/\b<8)/\H' lf=some (.lst (left.map V.int))/\H' bx=some (.lst (bs.map V.int))/\Tape H' t (k+2+i)/\Ext [t] H H') ?_ ?_ ?_
  ·refine⟨none,[0,1,2,3,4,5,6,7],[],rfl,rfl,rfl,by decide,(λ_ h=>absurd h (by simp)),?_,qA1,?_,E2.trans (.laid hbx)⟩
   ·rw [qA4 nbl.symm];exact l2
   ·exact T2.ext (ts :=[]) (.laid hbx) (by simp)
  ·rintro i σ' H' R hi ⟨o,left,bs,rfl,hll,hbl,hleft,hbs,hL,hBx,T',E'⟩ hR;walk_at "rd";refine iteT ?_;walk_at "rd";refine qDs hL ?_;walk_at "rd";refine⟨lf,_,rfl,.inl (SqL.of hL),?_⟩;rw [aB];walk_at "rd";refine qBb T' (by lia) (by lia) (by lia) λr3 H3 a3 b3 T3 e3 k3=>?_;have l3:H3 lf=some (.lst (left.map V.int)):=by rw [k3 lf nlt];exact hL
   have b3x:H3 bx=some (.lst (bs.map V.int)):=by rw [k3 bx nbt];exact hBx
   obtain⟨j,rfl⟩:=dP a3;have hj:j<left.length:=by lia
   walk_at "rd";refine⟨lf,left.map V.int,(j:Int),j,V.int left[j],rfl,rfl,l3,by lia,by lia,?_,by rw [aW,aF hj];rfl,?_⟩
   ·rw [aB];exact qTb hj
   ·refine⟨bs.map V.int,by rw [qA4 nbl];exact b3x,qAc (by rw [aB];lia),hR _ _ ?_⟩;have hmem:left[j]∈left:=dZ hj;refine⟨_,left.eraseIdx j,bs ++ [left[j]],rfl,?_,?_,λb hb=>hleft b (List.mem_of_mem_eraseIdx hb),λb hb=>?_,?_,?_,?_,?_⟩
    ·rw [List.length_eraseIdx,if_pos hj];lia
    ·rw [aG,hbl];rfl
    ·rcases aM.mp hb with y | y
     ·exact hbs b y
     ·rw [aQ.mp y];exact hleft _ hmem
    ·rw [qA4 nbl.symm,qA1,qGk]
    ·rw [qA1,aN];rfl
    ·exact ((T3.ext (ts :=[lf]) (.put (by simp)) (by simpa using nlt.symm)).ext (ts :=[bx]) (.put (by simp)) (by simpa using nbt.symm)).mono (by lia)
    ·have hbx0:H bx=none:=by
      cases z:H bx with
      | none=>rfl
      | some o=>rw [E2 _ _ (by simpa using nbt) z] at hbx;cases hbx
     have E4:Ext [lf,bx,t] H (upd (upd H3 lf (.lst ((left.map V.int).eraseIdx j))) bx (.lst (bs.map V.int ++ [V.int left[j]]))):=(E'.mono (by simp)).trans ((e3.mono (by simp)).trans ((Ext.put (by simp)).trans (.put (by simp))));exact (E4.drop hlf0).drop hbx0
  ·rintro σ' H3 ⟨o,left,bs,rfl,hll,hbl,hleft,hbs,hL,hBx,T3,E3⟩;have hB:BsOk bs:=⟨by lia,by lia,hbs⟩;walk_at "rd";refine⟨len2 (aU _),λl hl=>?_⟩;have nlT:l≠t:=T3.ne hl;have nlb:l≠bx:=(qA2 hBx hl).symm;have hlH:H l=none:=E3.none (by simpa using nlT) hl;walk_at "rd";refine⟨t,_,m,rfl,T3.ext (ts :=[]) (.laid hl) (by simp),by lia,m1,m2,λnl nx H4 hnl T4 e4 hNx hDn=>?_⟩;obtain⟨a,vs,ea,hSq,hDL⟩:=hDn.ofList;cases ea;have nnl:nl≠l:=(qA2 qA1 hnl).symm;have hlen:=hDL.len;rw [aB] at hlen;have hnm:(nx.length:Int)=m:=hNx.1;have l4:H4 l=some (.lst []):=e4 _ _ (by simpa using nlT) qA1;have E4:Ext [t] H H4:=E3.trans ((Ext.laid hl).trans e4);have apart:Same (yo (upd H3 l (.lst [])) [t] H4) (yo (upd H3 l (.lst [])) [l,t] H4):=qLo (H0:=H) (by simp [qA1])
   have hSq4:=Same.seq apart hSq;have hDL4:=hDL.mono apart;have bx4:H4 bx=some (.lst (bs.map V.int)):=e4 _ _ (by simpa using nbt) (by rw [qA4 nlb.symm];exact hBx)
   refine⟨nl,rfl,⟨vs,yo_same.seq hSq4⟩,qCp (xs:=vs) (λi σ' H' => ∃(wk:List Blk) (ws:List V) (o9 o10:Option V),σ' = [some (.ref t),some (.int m),some (.int most),some (.int first),some (.int works),some (.ref lf),some (.int (1+r2)),some (.ref bx),some (.ref l),o9,o10]/\wk.length=i /\
    (∀b∈wk,BlkOk m works b/\b.ds.length<=12)/\Tape H' t (k+45+140*i)/\Ext [l,t] H4 H'/\H' l=some (.lst ws)/\DenEL (yo H [l,t] H') (wk.map blkD) ws) ?_ ?_ ?_ ?_⟩
   ·exact⟨[],[],none,none,rfl,rfl,(λ_ h=>absurd h (by simp)),T4.mono (by lia),.refl _ _,l4,.nil⟩
   ·rintro i σ' H' hi ⟨wk,ws,o9,o10,rfl,hwl,hwk,T',e',hl',hden⟩;exact yo_same.seq (Same.seq e'.young hSq4)
   ·rintro i x σ' H' hx ⟨wk,ws,o9,o10,rfl,hwl,hwk,T',e',hl',hden⟩ N_ B_ C_ R_ hN_ hC_ hR_;obtain⟨dd,hdd,hDx⟩:=hDL4.get hx;have hi:i<vs.length:=(aI.mp hx).1;obtain⟨ns,hns,rfl⟩:∃ns,nx[i]? = some ns/\dd=intsD ns:=by
     rw [aW] at hdd;cases z:nx[i]? with
     | none=>rw [z] at hdd;cases hdd
     | some n=>rw [z] at hdd;exact⟨n,rfl,(bF hdd).symm⟩
    have hok:NsOk m ns:=hNx.2 ns (aO hns);obtain⟨c,zs,rfl,hc,hcs⟩:=hDx.ofList;have hzs:=hcs.ints;subst hzs;have hwl':ws.length=i:=by rw [hden.len,aB,hwl]
    have hc':SqL K H' c (ns.map V.int):=yo_same.seq (Same.seq e'.young hc)
    have tail:∀(en:Addr) (H6:Hp),Ext [] H' H6->H' en=none->DenE (yo H [l,t] H6) (endD ns) (.ref en) -> ∀D:Ends,(∀(H7:Hp) (o9 o10:Option V),(∃(wk:List Blk) (ws:List V) (p9 p10:Option V),[some (V.ref t),some (.int m),some (.int most),some (.int first),some (.int works),some (.ref lf),some (.int (1+r2)),some (.ref bx),some (.ref l),o9,o10] = [some (.ref t),some (.int m),some (.int most),some (.int first),some (.int works),some (.ref lf),some (.int (1+r2)),some (.ref bx),some (.ref l),p9,p10]/\wk.length=i+1 /\
      (∀b∈wk,BlkOk m works b/\b.ds.length<=12)/\Tape H7 t (k+45+140*(i+1))/\Ext [l,t] H4 H7/\H7 l=some (.lst ws)/\DenEL (yo H [l,t] H7) (wk.map blkD) ws)->D.nx [some (V.ref t),some (.int m),some (.int most),some (.int first),some (.int works),some (.ref lf),some (.int (1+r2)),some (.ref bx),some (.ref l),o9,o10] H7) ->
      tDrop (tBM K "list" qIb (tVar 8) (tCons (tTup (tCons (tCall (qFn K) [] E0 (tCons (tVar 0) (tCons (tVar 2) (tCons (tVar 7) (tCons (tVar 3) (tCons (tVar 4) tNil)))))) (tCons (tVar 10) tNil))) tNil)) D [some (V.ref t),some (.int m),some (.int most),some (.int first),some (.int works),some (.ref lf),some (.int (1+r2)),some (.ref bx),some (.ref l),some (.ref c),some (.ref en)] H6:=by
     intro en H6 e6 hen hDe D hD;have l6:=e6 _ _ (by simp) hl';walk_at "rd";refine qDs l6 ?_;walk_at "rd";refine⟨t,bx,_,most,first,works,bs,rfl,T'.ext e6 (by simp),by lia,hm1,hm2,hf1,hf2,hw1,hw2,e6 _ _ (by simp) (e' _ _ (by simp [nbt,nlb.symm]) bx4),nbt,hB,λdl ds H7 hdl T7 e7 hds hdf hDd=>?_⟩;have l7:=e7 _ _ (by simpa using nlT) l6;have ndl:dl≠l:=(qA2 l6 hdl).symm;have EH:Ext [l,t] H H6:=(E4.mono (by simp)).trans (e'.trans (e6.mono (by simp)));have hDd':DenE (yo H [l,t] H7) (.list (ds.map deedD)) (.ref dl):=(hDd.mono (qLo (H0:=H) (us :=[l,t]) (by simp [l6]))).mono (qR7 EH (by simp));walk_at "rd";refine⟨len2 (by show 2<=1000;decide),λp hp=>?_⟩;have npl:p≠l:=(qA2 l7 hp).symm;have npt:p≠t:=T7.ne hp
     walk_at "rd";refine qDu (by rw [qA4 npl.symm];exact l7) (qAc (by lia)) ?_;refine hD _ _ _ ⟨wk ++ [⟨ds,ns⟩],ws ++ [.ref p],_,_,rfl,by rw [aG,hwl];rfl,λb hb=>?_,?_,?_,qA1,?_⟩
     ·rcases aM.mp hb with y | y
      ·exact hwk b y
      ·rw [aQ.mp y];exact⟨⟨hok,hds,cA hdf (by decide)⟩,hdf⟩
     ·exact ((T7.ext (ts :=[]) (.laid hp) (by simp)).ext (ts :=[l]) (.put (by simp)) (by simpa using nlT.symm)).mono (by lia)
     ·exact e'.trans ((e6.mono (by simp)).trans ((e7.mono (by simp)).trans ((Ext.laid hp).trans (.put (by simp)))))
     ·have E7:Ext [l,t] H7 (upd (upd H7 p (.tup [.ref dl,.ref en])) l (.lst (ws ++ [.ref p]))):=(Ext.laid hp).trans (.put (by simp));have E67:Ext [l,t] H6 (upd (upd H7 p (.tup [.ref dl,.ref en])) l (.lst (ws ++ [.ref p]))):=(e7.mono (by simp)).trans E7;rw [aN];refine DenEL.append (hden.mono ((e6.mono (by simp)).trans E67).young) (.cons (.tuple ?_ (.cons (hDd'.mono E7.young) (.cons (hDe.mono E67.young) .nil))) .nil);rw [qAz ((EH.trans (e7.mono (by simp))).none (by simp [npl,npt]) hp) (by simp [npl,npt]),qA4 npl,qA1]
    have nT:∀ {en:Addr},H' en=none->en≠t/\en≠l/\H en=none:=λ{en} h=>by
     have a1:=T'.ne h;have a2:=(qA2 hl' h).symm;exact⟨a1,a2,((E4.mono (us :=[l,t]) (by simp)).trans e').none (by simp [a1,a2]) h⟩
    walk_at "rd";refine⟨len2 (aU _),λe0 he0=>?_⟩;have E0:Ext [] H' (upd H' e0 (.lst [])) :=.laid he0;have hc0:SqL K (upd H' e0 (.lst [])) c (ns.map V.int):=Same.seq (λb o h=>E0 b o (by simp) h) hc';rcases hok with h | ⟨x,h,_⟩ | ⟨x,y,h,_⟩
    ·subst h;refine⟨intsD [],.list [],.list hc0 (DenL.ofInts []),.list (SqL.of qA1) .nil,rfl,rfl,?_⟩;walk_at "rd";refine iteT ?_;walk_at "rd";refine⟨len2 (by show 1<=1000;decide),λen hen=>?_⟩;have hen':=E0.none (by simp) hen;obtain⟨z1,z2,z3⟩:=nT hen';refine qNb (tail en _ (E0.trans (.laid hen)) hen' (.tuple ?_ (.cons .str .nil)) _ λH7 o9 o10 h=>hN_ _ _ h);rw [qAz z3 (by simp [z1,z2]),qA1]
    ·subst h;refine⟨intsD [x],.list [],.list hc0 (DenL.ofInts [x]),.list (SqL.of qA1) .nil,rfl,rfl,?_⟩;walk_at "rd";refine iteF ?_;walk_at "rd";refine⟨c,_,rfl,.inl hc0,?_⟩;walk_at "rd";refine qC5 ?_;walk_at "rd";refine iteT ?_;walk_at "rd";refine⟨len2 (by show 2<=1000;decide),λen hen=>?_⟩;have hen':=E0.none (by simp) hen;obtain⟨z1,z2,z3⟩:=nT hen';refine qNb (tail en _ (E0.trans (.laid hen)) hen' (.tuple ?_ (.cons .str (.cons .int .nil))) _ λH7 o9 o10 h=>hN_ _ _ h);rw [qAz z3 (by simp [z1,z2]),qA1]
    ·subst h;refine⟨intsD [x,y],.list [],.list hc0 (DenL.ofInts [x,y]),.list (SqL.of qA1) .nil,rfl,rfl,?_⟩;walk_at "rd";refine iteF ?_;walk_at "rd";refine⟨c,_,rfl,.inl hc0,?_⟩;walk_at "rd";refine qC5 ?_;walk_at "rd";refine iteF ?_;walk_at "rd";refine⟨len2 (by show 3<=1000;decide),λen hen=>?_⟩;have hen':=E0.none (by simp) hen;obtain⟨z1,z2,z3⟩:=nT hen';refine qNb (tail en _ (E0.trans (.laid hen)) hen' (.tuple ?_ (.cons .str (.cons .int (.cons .int .nil)))) _ λH7 o9 o10 h=>hN_ _ _ h);rw [qAz z3 (by simp [z1,z2]),qA1]
   ·rintro σ' H' ⟨wk,ws,o9,o10,rfl,hwl,hwk,T',e',hl',hden⟩;walk_at "rd";have EH:Ext [l,t] H H':=(E4.mono (by simp)).trans e';exact q l wk ws H' hlH nlT (T'.mono (by lia)) (EH.drop hlH) ⟨by lia,λb hb=>(hwk b hb).1⟩ (λb hb=>(hwk b hb).2) hl' hden
end
section
variable{P:Program}{w:World}{K:PySem.W.Frag}{mg:Str->Option Value}{base:Heap}
abbrev sSize:Stmt:=top 15
theorem qW5:FnScope ["_law_works_here"] ["_law_works_here"] (qA8 sSize):=⟨rfl,rfl,rfl,by decide +kernel,rfl,by decide +kernel,by decide +kernel⟩
theorem qUx{f:Addr}{fd:FuncData}(F:Fun K "_law_size" "_law_size" sSize f fd)(nsum:mg "sum" = none)(nlen:mg "len" = none):FnOk P w K mg base CX0 1 f fd ["_law_works_here"] (qOg K):=by
 have nd2:((["_law_deeds_here","_law_end"]:List Str)).Nodup:=by decide
 refine F.ok qW5 (λvs H Q E h=>?_) (λcdv A outer s H vs Q E hr h=>?_)
 ·obtain⟨wa,ws,rfl,_⟩:=h;rfl
 ·obtain⟨wa,ws,rfl,hW,hl25,hl12,q⟩:=h
  refine⟨_,qA9 (qAt (qAe (qKf hr.hd) (by rfl) nsum PyProof.Rows.boot_sum (qA0 (qCl ["_law_work_here"] [] rfl (.of rfl) (qAy (pv 0)) (λ_ _ _ _=>qAb (i:=0) (by show ((["_law_work_here"]:List Str)).Nodup;decide) rfl (Or.inl rfl)) (λ_ _ _ _ =>.nil)
   (λ_ _ _ _=>qAe (sumK K rfl hr.hd) (by rfl) nsum PyProof.Rows.boot_sum (qA0 (qCl ["_law_deeds_here","_law_end"] [] rfl (.of rfl) (qIf K rfl (pv 0)) (λ_ _ _ _=>qEu (n:=2) K rfl rfl (qAj (qAb (i:=0) nd2 rfl (Or.inl rfl)) (qAj (qAb (i:=1) nd2 rfl (Or.inl rfl)) qBy))) (λ_ _ _ _ =>.nil) (λ_ _ _ _=>qAe (qMh K rfl) (by rfl) nlen cD (qA0 (pv 0) qA3))) qA3))) qA3))),?_⟩
  dsimp only [qBx,qBi];obtain⟨wa',vs,ea,hSq,hDL⟩:=hW.ofList;cases ea;have hvl:vs.length=ws.length:=by rw [hDL.len,aB]
  walk_at "rd";refine⟨wa,rfl,⟨vs,hSq⟩,λl hl=>?_⟩;refine qAp (xs:=vs) (λi σ' G => ∃(o0:Option V) (ns:List Int),σ' = [o0]/\Ext [l] H G/\G l=some (.lst (ns.map V.int))/\ns.length=i) ?_ ?_ ?_ ?_
  ·exact⟨none,[],rfl,.laid hl,qA1,rfl⟩
  ·rintro i σ' G hi ⟨o0,ns,rfl,eG,hlG,hn⟩;exact (eG.drop hl).toSame.seq hSq
  ·rintro i v σ' G R hv ⟨o0,ns,rfl,eG,hlG,hn⟩ hR;obtain⟨dd,hdd,hDv⟩:=hDL.get hv;obtain⟨wk,hwk,rfl⟩:=qB1 hdd;have hil:i<ws.length:=(aI.mp hwk).1;obtain⟨wb,bs,rfl,hbs,hdbs⟩:=hDv.ofList;have hbl:bs.length=wk.length:=by rw [hdbs.len,aB]
   have h12:=hl12 wk (aO hwk);have EG:=eG.drop hl;walk_at "rd";refine iteT ?_;walk_at "rd";refine⟨wb,rfl,⟨bs,EG.toSame.seq hbs⟩,λl2 hl2=>?_⟩;have nl2:l≠l2:=qA2 hlG hl2;refine qAp (xs:=bs) (λj σ' G2 => ∃(o0 o1:Option V) (ms:List Int),σ' = [o0,o1]/\Ext [l2] G G2/\G2 l2=some (.lst (ms.map V.int))/\ms.length=j) ?_ ?_ ?_ ?_
   ·exact⟨none,none,[],rfl,.laid hl2,qA1,rfl⟩
   ·rintro j σ' G2 hj ⟨o0,o1,ms,rfl,e2,hl22,hm⟩;exact (e2.drop hl2).toSame.seq (EG.toSame.seq hbs)
   ·rintro j v σ' G2 R hv ⟨o0,o1,ms,rfl,e2,hl22,hm⟩ hR;obtain⟨dd,hdd,hDv⟩:=hdbs.get hv;obtain⟨b,hb,rfl⟩:=qB1 hdd;have hjl:j<wk.length:=(aI.mp hb).1;obtain⟨c,cs,rfl,hc,hcs⟩:=hDv.ofTuple;obtain⟨vd,q1,rfl,hd1,hr1⟩:=hcs.ofCons;obtain⟨ve,q2,rfl,hd2,hr2⟩:=hr1.ofCons;have hr2:=hr2.ofNil;subst hr2;obtain⟨dl,dvs,rfl,hdl,hdvs⟩:=hd1.ofList;have E2:=EG.trans (e2.drop hl2);refine qCk (E2.toSame.seqT hc) rfl ?_;walk_at "rd";refine iteT ?_;walk_at "rd";refine⟨dl,dvs,rfl,.inl (E2.toSame.seq hdl),?_⟩;refine⟨_,hl22,qAc (by rw [aB];lia),hR _ _ ⟨_,_,ms ++ [(dvs.length:Int)],rfl,e2.trans (.put (by simp)),?_,by simp [hm]⟩⟩;rw [qA1,aN];rfl
   ·rintro σ' G2 ⟨o0,o1,ms,rfl,e2,hl22,hm⟩;walk_at "rd";refine⟨l2,ms,rfl,SqL.of hl22,?_⟩;have E2:=e2.drop hl2;refine⟨_,E2 _ _ (by simp) hlG,qAc (by rw [aB];lia),hR _ _ ⟨_,ns ++ [ms.sum],rfl,(eG.trans (E2.mono (by simp))).trans (.put (by simp)),?_,by simp [hn]⟩⟩;rw [qA1,aN];rfl
  ·rintro σ' G ⟨o0,ns,rfl,eG,hlG,hn⟩;walk_at "rd";refine⟨l,ns,rfl,SqL.of hlG,?_⟩;exact q _ G (eG.drop hl)
end
section
variable{P:Program}{w:World}{K:PySem.W.Frag}{mg:Str->Option Value}{base:Heap}
abbrev sSlim:Stmt:=top 16
theorem qW4:FnScope ["_law_works_here"] ["_law_works_here"] (qA8 sSlim):=⟨rfl,rfl,rfl,by decide +kernel,rfl,by decide +kernel,by decide +kernel⟩
theorem qK7(xs:List V)(n:Nat):cutV xs none (some (n:Int))=xs.take n:=by
 unfold cutV;rw [HT.sIx_none,HT.sIx_nat,List.drop_zero,Nat.sub_zero];by_cases h:n<=xs.length
 ·rw [Nat.min_eq_left h]
 ·rw [Nat.min_eq_right (by lia),cI (aE _),cI (by lia)]
theorem qT0(xs:List V)(n:Nat):cutV xs (some (n:Int)) none=xs.drop n:=by
 unfold cutV;rw [HT.sIx_none,HT.sIx_nat];by_cases h:n<=xs.length
 ·rw [Nat.min_eq_left h,cI (by rw [cJ];lia)]
 ·rw [Nat.min_eq_right (by lia),Nat.sub_self,List.take_zero,eE (by lia)]
theorem dtake{G:Hp}:∀ {ds:List PyData} {vs:List V} (n:Nat),DenEL G ds vs->DenEL G (ds.take n) (vs.take n)
 | [],vs,n,h=>by have:=h.ofNil;subst this;simpa using DenEL.nil
 | d::ds,vs,0,h=>by simpa using DenEL.nil
 | d::ds,vs,n+1,h=>by
  obtain⟨v,r,rfl,h1,h2⟩:=h.ofCons;exact .cons h1 (dtake n h2)
theorem ddrop{G:Hp}:∀ {ds:List PyData} {vs:List V} (n:Nat),DenEL G ds vs->DenEL G (ds.drop n) (vs.drop n)
 | [],vs,n,h=>by have:=h.ofNil;subst this;simpa using DenEL.nil
 | d::ds,vs,0,h=>h
 | d::ds,vs,n+1,h=>by
  obtain⟨v,r,rfl,h1,h2⟩:=h.ofCons;exact ddrop n h2
theorem qUw{f:Addr}{fd:FuncData}(F:Fun K "_law_slim" "_law_slim" sSlim f fd)(hSz:Has P w K mg base "_law_size" 1 ["_law_works_here"] (qOg K)):FnOk P w K mg base CX0 2 f fd ["_law_works_here"] (qKx K):=by
 have nd2:((["_law_deeds_here","_law_end"]:List Str)).Nodup:=by decide
 refine F.ok qW4 (λvs H Q E h=>?_) (λcdv A outer s H vs Q E hr h=>?_)
 ·obtain⟨wa,ws,rfl,_⟩:=h;rfl
 ·obtain⟨wa,ws,rfl,hW,hok,q⟩:=h
  refine⟨_,qA7 (qCh (qAd qYh (qAq hSz hr (by decide) (qA0 (pv 0) qA3)) qA6 (qAf _)) (qA9 (qAt (pv 0))) qBg)
   (qA9 (qAt (qAv qGg (qCe qL3 (pv 0) qD7 (qD6 qA6)) (qCl ["_law_work_here"] [] rfl (.of rfl) (qAy (qCe qL3 (pv 0) (qD6 qA6) qD7)) (λ_ _ _ _=>qAb (i:=0) (by show ((["_law_work_here"]:List Str)).Nodup;decide) rfl (Or.inl rfl)) (λ_ _ _ _ =>.nil)
    (λ_ _ _ _=>qCl ["_law_deeds_here","_law_end"] [] rfl (.of rfl) (qIf K rfl (pv 0)) (λ_ _ _ _=>qEu (n:=2) K rfl rfl (qAj (qAb (i:=0) nd2 rfl (Or.inl rfl)) (qAj (qAb (i:=1) nd2 rfl (Or.inl rfl)) qBy))) (λ_ _ _ _ =>.nil) (λ_ _ _ _=>qBc (qA0 (qCe (qRi K rfl) (pv 0) qD7 (qD6 qA6)) (qA0 (pv 1) qA3)))))))),?_⟩
  dsimp only [qBx,qBi];obtain⟨wa',vs,ea,hSq,hDL⟩:=hW.ofList;cases ea;have hvl:vs.length=ws.length:=by rw [hDL.len,aB]
  have hfew:=hok.few;walk_at "rd";refine⟨wa,ws,rfl,hW.den,hok.few,λw hw=>by obtain⟨m,h1,h2,h3⟩:=hok.all w hw;have:=h3.len;lia,λr H1 e1=>?_⟩;walk_at "rd";refine ite2 (λ_=>?_) (λ_=>?_)
  ·walk_at "rd";exact q wa ws H1 e1 (hW.mono e1.toSame) hok rfl
  ·walk_at "rd";refine⟨1,rfl,?_⟩;refine⟨wa,vs,rfl,e1.toSame.seq hSq,λl1 hl1=>?_⟩;rw [show (1:Int)=((1:Nat):Int) from rfl,qK7];have e2:Ext [] H1 (upd H1 l1 (.lst (vs.take 1))) :=.laid hl1;have hl12:upd H1 l1 (.lst (vs.take 1)) l1=some (.lst (vs.take 1)):=qA1;generalize upd H1 l1 (.lst (vs.take 1))=H2 at e2 hl12 ⊢;walk_at "rd";refine⟨1,rfl,?_⟩;walk_at "rd";refine⟨wa,vs,rfl,(e1.trans e2).toSame.seq hSq,λl2 hl2=>?_⟩;rw [show (1:Int)=((1:Nat):Int) from rfl,qT0];have e3:Ext [] H2 (upd H2 l2 (.lst (vs.drop 1))) :=.laid hl2;have hl23:upd H2 l2 (.lst (vs.drop 1)) l2=some (.lst (vs.drop 1)):=qA1;generalize upd H2 l2 (.lst (vs.drop 1))=H3 at e3 hl23 ⊢;have E3:=e1.trans (e2.trans e3);have hD3:DenEL H ((ws.drop 1).map workD) (vs.drop 1):=by rw [List.map_drop];exact ddrop 1 hDL
   have hdl:(vs.drop 1).length=(ws.drop 1).length:=by rw [cJ,cJ,hvl]
   refine⟨l2,rfl,⟨_,SqL.of hl23⟩,λl hl=>?_⟩;have nl2:l2≠l:=qA2 hl23 hl;refine qAp (xs:=vs.drop 1) (λi σ' G => ∃(o0:Option V) (us:List V),σ' = [o0]/\Ext [l] H3 G/\G l=some (.lst us)/\DenEL (wo [l] G) (((ws.drop 1).take i).map λw=>workD (w.map slimB)) us) ?_ ?_ ?_ ?_
   ·exact⟨none,[],rfl,.laid hl,qA1,.nil⟩
   ·rintro i σ' G hi ⟨o0,us,rfl,eG,hlG,hus⟩;exact SqL.of (eG _ _ (by simpa using nl2) hl23)
   ·rintro i v σ' G R hv ⟨o0,us,rfl,eG,hlG,hus⟩ hR;obtain⟨dd,hdd,hDv⟩:=hD3.get hv;obtain⟨wk,hwk,rfl⟩:=qB1 hdd;have hil:i<(ws.drop 1).length:=(aI.mp hwk).1;rw [cJ] at hil;obtain⟨wb,bs,rfl,hbs,hdbs⟩:=hDv.ofList;have hbl:bs.length=wk.length:=by rw [hdbs.len,aB]
    obtain⟨m,hm1,hm2,hWk⟩:=hok.all wk (List.mem_of_mem_drop (aO hwk));have hwm:=hWk.len;have EG:=eG.drop hl;have EHG:=E3.trans EG;have hul:us.length=i:=by rw [hus.len,aB,aV,cJ];lia
    walk_at "rd";refine iteT ?_;walk_at "rd";refine⟨wb,rfl,⟨bs,EHG.toSame.seq hbs⟩,λle hle=>?_⟩;have nle:l≠le:=qA2 hlG hle;refine qAp (xs:=bs) (λj σ' G2 => ∃(o0 o1:Option V) (ts:List V),σ' = [o0,o1]/\Ext [le] G G2/\G2 le=some (.lst ts)/\DenEL (wo [l,le] G2) ((wk.take j).map λb=>blkD (slimB b)) ts) ?_ ?_ ?_ ?_
    ·exact⟨none,none,[],rfl,.laid hle,qA1,.nil⟩
    ·rintro j σ' G2 hj ⟨o0,o1,ts,rfl,e4,hle4,hts⟩;exact (e4.drop hle).toSame.seq (EHG.toSame.seq hbs)
    ·rintro j v σ' G2 R hv ⟨o0,o1,ts,rfl,e4,hle4,hts⟩ hR;obtain⟨dd,hdd,hDv⟩:=hdbs.get hv;obtain⟨b,hb,rfl⟩:=qB1 hdd;have hjl:j<wk.length:=(aI.mp hb).1;obtain⟨c,cs,rfl,hc,hcs⟩:=hDv.ofTuple;obtain⟨vd,q1,rfl,hd1,hr1⟩:=hcs.ofCons;obtain⟨ve,q2,rfl,hd2,hr2⟩:=hr1.ofCons;have hr2:=hr2.ofNil;subst hr2;obtain⟨dl,dvs,rfl,hdl,hdvs⟩:=hd1.ofList;have E4:=EHG.trans (e4.drop hle);have htl:ts.length=j:=by rw [hts.len,aB,aV];lia
     refine qCk (E4.toSame.seqT hc) rfl ?_;walk_at "rd";refine iteT ?_;walk_at "rd";refine⟨2,rfl,?_⟩;refine⟨dl,dvs,rfl,E4.toSame.seq hdl,λl5 hl5=>?_⟩;rw [show (2:Int)=((2:Nat):Int) from rfl,qK7];have hl4:G2 l=some (.lst us):=e4 _ _ (by simpa using nle) hlG;have n5:l5≠l:=(qA2 hl4 hl5).symm;have n5e:l5≠le:=(qA2 hle4 hl5).symm;walk_at "rd";refine⟨len2 (by show 2<=1000;decide),λp5 hp5=>?_⟩;have n55:l5≠p5:=qA2 qA1 hp5;have np5l:p5≠l:=(qA2 (o :=.lst us) (by rw [qA4 n5.symm];exact hl4) hp5).symm;have np5e:p5≠le:=(qA2 (o :=.lst ts) (by rw [qA4 n5e.symm];exact hle4) hp5).symm;have e5:Ext [] G2 (upd (upd G2 l5 (.lst (dvs.take 2))) p5 (.tup [.ref l5,ve])):=(Ext.laid hl5).trans (.laid hp5);refine⟨ts,e5 _ _ (by simp) hle4,qAc (by lia),hR _ _ ⟨_,_,ts ++ [.ref p5],rfl,e4.trans ((e5.mono (by simp)).trans (.put (by simp))),qA1,?_⟩⟩
     rw [qAw hb,aN];have eF:Ext [l,le] G2 (upd (upd (upd G2 l5 (.lst (dvs.take 2))) p5 (.tup [.ref l5,ve])) le (.lst (ts ++ [.ref p5]))):=(e5.mono (by simp)).trans (.put (by simp));have old:Same H (wo [l,le] (upd (upd (upd G2 l5 (.lst (dvs.take 2))) p5 (.tup [.ref l5,ve])) le (.lst (ts ++ [.ref p5])))):=λa o z=>by
      have ha1:a≠l:=λy=>by rw [y] at z;have:=E3 _ _ (by simp) z;rw [hl] at this;cases this
      have ha2:a≠le:=λy=>by rw [y] at z;have:=EHG _ _ (by simp) z;rw [hle] at this;cases this
      rw [qD0 (by simp [ha1,ha2])];exact eF _ _ (by simp [ha1,ha2]) (E4 _ _ (by simp) z)
     refine DenEL.append (hts.mono eF.same) (.cons (.tuple (vs :=[.ref l5,ve]) ?_ (.cons (.list (vs:=dvs.take 2) ?_ ?_) (.cons (hd2.mono old) .nil))) .nil)
     ·rw [qD0 (by simp [np5l,np5e]),qA4 np5e,qA1]
     ·rw [qD0 (by simp [n5,n5e]),qA4 n5e,qA4 n55,qA1]
     ·show DenEL _ ((b.ds.take 2).map deedD) _;rw [List.map_take];exact dtake 2 (hdvs.mono old)
    ·rintro σ' G2 ⟨o0,o1,ts,rfl,e4,hle4,hts⟩;rw [hbl,bE] at hts;have E4:=e4.drop hle;have hl4:=E4 _ _ (by simp) hlG;refine⟨us,hl4,qAc (by lia),hR _ _ ⟨_,us ++ [.ref le],rfl,(eG.trans (E4.mono (by simp))).trans (.put (by simp)),qA1,?_⟩⟩;have hs:Same (wo [l] G2) (wo [l] (upd G2 l (.lst (us ++ [.ref le])))):=(Ext.put (ts :=[l]) (by simp)).same;rw [qAw hwk,aN];refine DenEL.append ((hus.mono (E4.mono (us :=[l]) (by simp)).same).mono hs) (.cons (.list (vs:=ts) ?_ ?_) .nil)
     ·rw [qD0 (by simpa using nle.symm),qA4 nle.symm];exact hle4
     ·rw [cU];exact (hts.mono (qU7 (by intro z hz;simp at hz;simp [hz]))).mono hs
   ·rintro σ' G ⟨o0,us,rfl,eG,hlG,hus⟩;rw [hdl,bE] at hus;have EG:=eG.drop hl;have hul:us.length=(ws.drop 1).length:=by rw [hus.len,aB]
    rw [cJ] at hul;refine⟨l1,l,vs.take 1,us,rfl,rfl,(e3.trans EG) _ _ (by simp) hl12,hlG,len2 (by rw [aV];lia),λlr hlr=>?_⟩;have EF:Ext [] H (upd G lr (.lst (vs.take 1++us))):=(E3.trans EG).trans (.laid hlr);refine q lr (qH5 ws) _ EF (.list qA1 ?_) (qU2 hok) (qFo ws);unfold qH5;rw [aN,List.map_take,cU];exact DenEL.append ((dtake 1 hDL).mono EF.toSame) ((hus.mono (qKt _ _)).mono (Ext.laid (ts :=[]) hlr).toSame)
end
section
variable{P:Program}{w:World}{K:PySem.W.Frag}{mg:Str->Option Value}{base:Heap}
abbrev qH7:Stmt:=top 17
theorem scWorks:FnScope ["_law_tape_here","_law_most","_law_works_here","_law_found","_law_first","_law_many_here"] ["_law_tape_here","_law_most"] (qA8 qH7):=⟨rfl,rfl,rfl,by decide +kernel,rfl,by decide +kernel,by decide +kernel⟩
theorem qS3{f:Addr}{fd:FuncData}(F:Fun K "_law_works" "_law_works" qH7 f fd)(nrange:mg "range" = none)(nint:mg "int" = none)(hD:Has P w K mg base "_law_draw" 1 ["_law_tape_here","_law_many_here"] qDv)
  (hM:Has P w K mg base "_law_many" 2 ["_law_tape_here"] qOi) (hW:Has P w K mg base "_law_work" 4 ["_law_tape_here","_law_many_here","_law_most","_law_first","_law_works_here"] (qKw K)) (hS:Has P w K mg base "_law_slim" 2 ["_law_works_here"] (qKx K)) :
  FnOk P w K mg base CX0 5 f fd ["_law_tape_here","_law_most"] (qI2 K):=by
 refine F.ok scWorks (λvs H Q E h=>?_) (λcdv A outer s H vs Q E hr h=>?_)
 ·obtain⟨t,k,most,rfl,_⟩:=h;rfl
 ·obtain⟨t,k,most,rfl,hT,hk,hm1,hm2,q⟩:=h
  refine⟨_,qA7 (qAo (i:=2) scWorks.nd rfl (Or.inl rfl) (qAu qAr (qB0 (qA0 (qAv qBf qA6 (qAq hD hr (by decide) (qA0 (pv 0) (qA0 qA6 qA3)))) (qA0 (qAv qBf qA6 (qAq hD hr (by decide) (qA0 (pv 0) (qA0 qA6 qA3)))) qA3)))
    (qB5 qCq (by rfl) nint eU (qA0 (qBk qBp (qAq hD hr (by decide) (qA0 (pv 0) (qA0 qA6 qA3))) qA6 (qAf _)) qA3)) (λ_ _=>rfl)))
   (qA7 (qAo (i:=3) scWorks.nd rfl (Or.inl rfl) (qB0 qA3))
   (qA7 (qCb bX rfl (qBr rfl nrange (qA0 (pv 2) qA3)) (qAb (i:=4) scWorks.nd rfl (Or.inl rfl))
    (qA7 (qAo (i:=5) scWorks.nd rfl (Or.inl rfl) (qC7 (qAd qPb (pv 2) qA6 (qAf _)) (qAq hM hr (by decide) (qA0 (pv 0) qA3)) (qAv qBf qA6 (qAq hD hr (by decide) (qA0 (pv 0) (qA0 qA6 qA3))))))
    (qA9 (qC6 (qEb bJ cB cC qBl (pv 3) (qA0 (qAq hW hr (by decide) (qA0 (pv 0) (qA0 (pv 5) (qA0 (pv 1) (qA0 (pv 4) (qA0 (pv 2) qA3)))))) qA3))))))
   (qA9 (qAt (qAq hS hr (by decide) (qA0 (pv 3) qA3)))))),?_⟩
  dsimp only [qBx];walk_at "rd";refine qBb hT (by lia) (by decide) (by decide) λr1 H1 a1 b1 T1 e1 _=>?_;walk_at "rd";refine qBb T1 (by lia) (by decide) (by decide) λr2 H2 a2 b2 T2 e2 _=>?_;walk_at "rd";refine⟨len2 (by show 2<=1000;decide),λp hp=>?_⟩;have np:p≠t:=T2.ne hp;walk_at "rd";refine qBb (T2.ext (.laid (ts :=[]) hp) (by simp)) (by lia) (by decide) (by decide) λr3 H3 a3 b3 T3 e3 k3=>?_;walk_at "rd";refine qC5 ?_;walk_at "rd";refine .inr ⟨_,rfl,?_⟩;have e4:Ext [t] H H3:=(e1.trans e2).trans ((Ext.laid hp).trans e3);have hL:SqL K H3 p [V.int (1+r1),V.int (5+r2)]:=SqL.of (by rw [k3 p np,qA1]);obtain⟨n,hn1,hn2,en⟩:∃n:Int,1<=n/\n<=10/\atI [V.int (1+r1),V.int (5+r2)] (if decide (r3=0)=true then (1:Int) else 0)=some (.int n):=by
   cases c:decide (r3=0) with
   | true=>exact⟨5+r2,by lia,by lia,rfl⟩
   | false=>exact⟨1+r1,by lia,by lia,rfl⟩
  refine qC2 hL en ?_;clear en hL k3 e3 hp np;walk_at "rd";refine⟨len2 (aU _),λl hl=>?_⟩;have nlt:l≠t:=T3.ne hl;have hlH:H l=none:=e4.none (by simpa using nlt) hl;walk_at "rd"
  refine⟨n,rfl,by lia,by lia,qCo (lo:=0) (n:=n.toNat) (λi σ' H' => ∃(as:List Addr) (ws:List (List Blk)) (o4 o5:Option V),σ' = [some (.ref t),some (.int most),some (.int n),some (.ref l),o4,o5]/\as.length=i/\(∀w∈ws,∃m:Int,1<=m/\m<=12/\WorkOk m n w)/\(∀w∈ws,∀b∈w,b.ds.length<=12) /\
   l∉as/\(∀a∈as,H a=none/\a≠t)/\as.Nodup/\Tape H' t (k+3+2003*i)/\Ext [l,t] H3 H'/\H' l=some (.lst (as.map V.ref))/\WorksE (yo H (l::t::as) H') H' as ws) ?_ ?_ ?_⟩
  ·exact⟨[],[],_,_,rfl,rfl,by simp,by simp,by simp,by simp,.nil,T3.ext (ts :=[]) (.laid hl) (by simp),.laid hl,qA1,.nil⟩
  ·rintro i σ' H' hi ⟨as,ws,o4,o5,rfl,hal,hws,hfew,hla,has,hnd,T',e',hl',hA⟩ N_ B_ C_ R_ hN_ hC_ hR_;have hin:i<10:=by lia
   have EH:Ext [l,t] H H':=(e4.mono (by simp)).trans e';walk_at "rd";have fin:∀(m:Int) (H5 H6:Hp) (a:Addr) (w1:List Blk) (bs:List V),1<=m->m<=12->Ext [t] H' H5->H5 a=none->a≠t->Tape H6 t (k+3+2003*(i+1))->Ext [t] H5 H6->WorkOk m n w1->(∀b∈w1,b.ds.length<=12)->H6 a=some (.lst bs)->DenEL (yo H5 [a,t] H6) (w1.map blkD) bs -> ∀o4 o5:Option V,
     H6 l=some (.lst (as.map V.ref)) /\ ∃(as':List Addr) (ws':List (List Blk)) (o4' o5':Option V),[some (V.ref t),some (.int most),some (.int n),some (.ref l),o4,o5] = [some (V.ref t),some (.int most),some (.int n),some (.ref l),o4',o5']/\as'.length=i+1/\(∀w∈ws',∃m:Int,1<=m/\m<=12/\WorkOk m n w)/\(∀w∈ws',∀b∈w,b.ds.length<=12) /\
     l∉as'/\(∀a∈as',H a=none/\a≠t)/\as'.Nodup/\Tape (upd H6 l (.lst (as.map V.ref ++ [V.ref a]))) t (k+3+2003*(i+1))/\Ext [l,t] H3 (upd H6 l (.lst (as.map V.ref ++ [V.ref a])))/\(upd H6 l (.lst (as.map V.ref ++ [V.ref a]))) l=some (.lst (as'.map V.ref))/\WorksE (yo H (l::t::as') (upd H6 l (.lst (as.map V.ref ++ [V.ref a])))) (upd H6 l (.lst (as.map V.ref ++ [V.ref a]))) as' ws':=by
    intro m H5 H6 a w1 bs hm1 hm2 e5 ha nat T6 e6 hw1 hf1 hba hden o4 o5;have l5:H5 l=some (.lst (as.map V.ref)):=e5 _ _ (by simpa using nlt) hl';have l6:H6 l=some (.lst (as.map V.ref)):=e6 _ _ (by simpa using nlt) l5;have nal:a≠l:=(qA2 l5 ha).symm;have haH':H' a=none:=e5.none (by simpa using nat) ha;have haH:H a=none:=EH.none (by simp [nal,nat]) haH';have naas:a∉as:=λhm=>by
     obtain⟨j,hj,e⟩:=bN hm;obtain⟨_,bs',_,hb',_⟩:=hA.get (i:=j) (a:=a) (by rw [aF hj,e]);rw [haH'] at hb';cases hb'
    have E6:Ext [l,t] H' (upd H6 l (.lst (as.map V.ref ++ [V.ref a]))):=(e5.mono (by simp)).trans ((e6.mono (by simp)).trans (.put (by simp)));refine⟨l6,as ++ [a],ws ++ [w1],o4,o5,rfl,by rw [aG,hal];rfl,?_,?_,by simp [hla,nal.symm],?_,?_,?_,e'.trans E6,by rw [qA1,aN];rfl,?_⟩
    ·intro w hw;rcases aM.mp hw with z | z
     ·exact hws w z
     ·rw [aQ.mp z];exact⟨m,hm1,hm2,hw1⟩
    ·intro w hw;rcases aM.mp hw with z | z
     ·exact hfew w z
     ·rw [aQ.mp z];exact hf1
    ·intro b hb;rcases aM.mp hb with z | z
     ·exact has b z
     ·rw [aQ.mp z];exact⟨haH,nat⟩
    ·exact eM.mpr ⟨hnd,by simp,by intro x hx y hy;simp at hy;subst hy;intro e;subst e;exact naas hx⟩
    ·exact T6.ext (ts :=[l]) (.put (by simp)) (by simpa using nlt.symm)
    ·have key:Same (yo H (l::t::as) H') (yo H (l::t::(as ++ [a])) (upd H6 l (.lst (as.map V.ref ++ [V.ref a])))):=λb o e=>by
      obtain⟨h1,h2,h3⟩:=qCr e;have nb:b≠a:=λz=>by rw [z,haH'] at h3;cases h3
      have h2':b ∉ [l,t]:=λz=>h2 (by rcases aT.mp z with z | z <;> simp_all)
      rw [qAz h1 (λz=>h2 (by
       rcases aT.mp z with z | z
       ·simp [z]
       ·rcases aT.mp z with z | z
        ·simp [z]
        ·rcases aM.mp z with z | z
         ·simp [z]
         ·exact absurd (by simpa using z) nb))]
      exact E6 _ _ h2' h3
     refine (hA.mono key λb hb o e=>?_).snoc (bs:=bs) ?_ (hden.mono λb o e=>?_)
     ·have nbl:b≠l:=λz=>hla (z▸hb);exact E6 _ _ (by simp [nbl,(has b hb).2]) e
     ·rw [qA4 nal];exact hba
     ·obtain⟨h1,h2,h3⟩:=qCr e;have nbl:b≠l:=λz=>by rw [z,l5] at h1;cases h1
      have nbt:b≠t:=λz=>h2 (by simp [z]);have nba:b≠a:=λz=>h2 (by simp [z]);have h1':H' b=none:=e5.none (by simpa using nbt) h1
      rw [qAz (EH.none (by simp [nbl,nbt]) h1') (by
       intro z;rcases aT.mp z with z | z
       ·exact nbl z
       ·rcases aT.mp z with z | z
        ·exact nbt z
        ·rcases aM.mp z with z | z
         ·obtain⟨j,hj,e⟩:=bN z;obtain⟨_,bs',_,hb',_⟩:=hA.get (i:=j) (a:=b) (by rw [aF hj,e]);rw [h1'] at hb';cases hb'
         ·exact nba (by simpa using z)),qA4 nbl]
      exact h3
   refine ite2 (λhn5=>?_) (λhn5=>?_)
   ·walk_at "rd";refine qWl T' (by lia) λm H5 hm1' hm2' T5 e5=>?_;walk_at "rd";refine qDs (e5 _ _ (by simpa using nlt) hl') ?_;walk_at "rd";refine⟨t,_,m,most,_,n,rfl,T5,by lia,hm1',hm2',hm1,hm2,by lia,by lia,by lia,by lia,λa w1 bs H6 ha nat T6 e6 hw1 hf1 hba hden=>?_⟩;obtain⟨l6,post⟩:=fin m H5 H6 a w1 bs hm1' hm2' e5 ha nat (T6.mono (by lia)) e6 hw1 hf1 hba hden _ _;walk_at "rd";exact qDu l6 (qAc (by rw [aB];lia)) (hN_ _ _ post)
   ·walk_at "rd";refine qBb T' (by lia) (by decide) (by decide) λr H5 hm1' hm2' T5 e5 _=>?_;walk_at "rd";refine qDs (e5 _ _ (by simpa using nlt) hl') ?_;walk_at "rd";refine⟨t,_,1+r,most,_,n,rfl,T5,by lia,by lia,by lia,hm1,hm2,by lia,by lia,by lia,by lia,λa w1 bs H6 ha nat T6 e6 hw1 hf1 hba hden=>?_⟩;obtain⟨l6,post⟩:=fin (1+r) H5 H6 a w1 bs (by lia) (by lia) e5 ha nat (T6.mono (by lia)) e6 hw1 hf1 hba hden _ _;walk_at "rd";exact qDu l6 (qAc (by rw [aB];lia)) (hN_ _ _ post)
  ·rintro σ' H' ⟨as,ws,o4,o5,rfl,hal,hws,hfew,hla,has,hnd,T',e',hl',hA⟩;walk_at "rd";have hwl:=hA.len;refine⟨l,ws,rfl,.list hl' (qMx hA yo_same),⟨by rw [show ((ws.length:Nat):Int)=n by lia];exact hws,by lia,by lia⟩,λl2 ws2 H4 e6 dW hok2 _=>?_⟩;walk_at "rd";exact q l2 ws2 H4 (T'.ext (ts :=[]) e6 (by simp) |>.mono (by lia)) (((e4.mono (by simp)).trans e' |>.drop hlH).trans (e6.mono (by simp))) dW hok2
end
section
variable{P:Program}{w:World}{K:PySem.W.Frag}{mg:Str->Option Value}{base:Heap}
theorem qP0{ta tb:TE}{σ : St}{H:Hp}{Q:VK}(h:ta σ H λx H1 => ∃c,x = .bl c/\if c=true then tb σ H1 Q else Q (.bl false) H1):tAndV ta tb σ H Q:=h
theorem qY5{ta tb:TE}{σ : St}{H:Hp}{Q:VK}(h:ta σ H λx H1 => ∃c,x = .bl c/\if c=true then Q (.bl true) H1 else tb σ H1 Q):tOrV ta tb σ H Q:=h
theorem qGp{K:PySem.W.Frag}{H:Hp}{d:Deed}{v:V}(h:Den K H (deedD d) v):∃p,v = .ref p/\SqT K H p (V.str (dword d)::(dargs d).map V.int):=by
 rw [qVn] at h;obtain⟨p,ps,rfl,hp,hps⟩:=h.ofTuple;obtain⟨v1,q1,rfl,hv1,hq1⟩:=hps.ofCons;have z1:=hv1.ofStr;have z2:=hq1.ints;subst z1 z2;exact⟨p,rfl,hp⟩
theorem qMw(d:Deed):atI (V.str (dword d)::(dargs d).map V.int) ((1:Nat):Int)=some (V.int (darg d)):=by
 obtain⟨r,hr⟩:=qNu d;rw [hr];exact qBa rfl
theorem qSv{m:Int}{ns:List Int}(h:NsOk m ns):∃wd:Str,endD ns = .tuple (.str wd::ns.map .int)/\True:=by
 rcases h with z | ⟨x,z,_⟩ | ⟨x,y,z,_⟩ <;> subst z
 ·exact⟨_,rfl,True.intro⟩
 ·exact⟨_,rfl,True.intro⟩
 ·exact⟨_,rfl,True.intro⟩
theorem qS1{H:Hp}{wa:Addr}{ws:List (List Blk)}{n a:Nat}{b:Blk}(hW:Den K H (qCz ws) (.ref wa))(hb:blkAt ws ((n:Int),(a:Int))=some b):∃(vs bs:List V) (wb pb:Addr) (dl:Addr) (dvs:List V) (ve:V),SqL K H wa vs/\atI vs (n:Int)=some (.ref wb)/\SqL K H wb bs/\atI bs (a:Int)=some (.ref pb)/\SqT K H pb [.ref dl,ve]/\SqL K H dl dvs/\DenL K H (b.ds.map deedD) dvs/\Den K H (endD b.ns) ve:=by
 rw [qDc] at hb;cases hw:ws[n]? with
 | none=>rw [hw] at hb;cases hb
 | some w1 =>
  rw [hw] at hb;have hb:w1[a]? = some b:=hb;obtain⟨wa',vs,ea,hvs,hdvs⟩:=hW.ofList;cases ea;obtain⟨v1,hv1,hd1⟩:=hdvs.get' (i:=n) (d:=workD w1) (by rw [aW,hw];rfl);obtain⟨wb,bs,rfl,hbs,hdbs⟩:=hd1.ofList;obtain⟨v2,hv2,hd2⟩:=hdbs.get' (i:=a) (d:=blkD b) (by rw [aW,hb];rfl);obtain⟨pb,cs,rfl,hc,hcs⟩:=hd2.ofTuple;obtain⟨vd,q1,rfl,hdd,hr1⟩:=hcs.ofCons;obtain⟨ve,q2,rfl,hde,hr2⟩:=hr1.ofCons;have hr2:=hr2.ofNil;subst hr2;obtain⟨dl,dvs,rfl,hdl,hdd2⟩:=hdd.ofList;exact⟨vs,bs,wb,pb,dl,dvs,ve,hvs,qBa hv1,hbs,qBa hv2,hc,hdl,hdd2,hde⟩
theorem anyK(K:PySem.W.Frag){X:Cx}(h:X.K=K)(hh:X.A.handled=none):CallR X (.builtin "any") (rAnyB K):=h▸qQz hh
end
section
variable{P:Program}{w:World}{K:PySem.W.Frag}{mg:Str->Option Value}{base:Heap}
abbrev qEr:Stmt:=top 20
theorem qRm:FnScope ["_law_deed","_law_box"] ["_law_deed","_law_box"] (qA8 qEr):=⟨rfl,rfl,rfl,by decide +kernel,rfl,by decide +kernel,by decide +kernel⟩
def isAdd:Deed->Bool
 | .add _ _=>true
 | _=>false
def qQ3:Deed->Bool
 | .tell _=>true
 | _=>false
theorem qR9(d:Deed):decide (dword d = "add")=isAdd d:=by
 cases d with
 | add _ _=>exact decide_eq_true rfl
 | set _ _=>exact decide_eq_false (show ¬("set" : Str) = "add" by decide)
 | call _=>exact decide_eq_false (show ¬("call" : Str) = "add" by decide)
 | tell _=>exact decide_eq_false (show ¬("tell" : Str) = "add" by decide)
 | save _=>exact decide_eq_false (show ¬("save" : Str) = "add" by decide)
 | back _=>exact decide_eq_false (show ¬("back" : Str) = "add" by decide)
theorem qO4(d:Deed):decide (dword d = "tell")=qQ3 d:=by
 cases d with
 | tell _=>exact decide_eq_true rfl
 | set _ _=>exact decide_eq_false (show ¬("set" : Str) = "tell" by decide)
 | call _=>exact decide_eq_false (show ¬("call" : Str) = "tell" by decide)
 | add _ _=>exact decide_eq_false (show ¬("add" : Str) = "tell" by decide)
 | save _=>exact decide_eq_false (show ¬("save" : Str) = "tell" by decide)
 | back _=>exact decide_eq_false (show ¬("back" : Str) = "tell" by decide)
theorem qTo(x:Int)(d:Deed):rdB x d=(isAdd d&&decide (x∈dargs d)||(qQ3 d&&decide (darg d=x))):=by
 cases d with
 | tell b =>
  show (true&&decide (x ∈ [b]))=(false&&_||(true&&decide (b=x)));rw [Bool.true_and,Bool.false_and,Bool.false_or,Bool.true_and];have:(x ∈ [b])↔b=x:=by simp [eq_comm]
  simp only [this]
 | add b o=>show (true&&_)=(true&&_||(false&&_));simp [dargs]
 | set b o=>rfl
 | call b=>rfl
 | save b=>rfl
 | back b=>rfl
theorem qPi{f:Addr}{fd:FuncData}(F:Fun K "_law_reads" "_law_reads" qEr f fd):FnOk P w K mg base CX0 1 f fd ["_law_deed","_law_box"] (qL0 rdB K):=by
 refine F.ok qRm (λvs H Q E h=>?_) (λcdv A outer s H vs Q E hr h=>?_)
 ·obtain⟨v,d,x,rfl,_⟩:=h;rfl
 ·obtain⟨v,d,x,rfl,hd,q⟩:=h
  refine⟨_,qA9 (qAt (qYg (qP8 (qBk qBp (qAu qCf (pv 0) qA6 (λ_ _=>rfl)) qB7 (qAf _)) (qM6 (qBk qEd (pv 1) (qCe qLu (pv 0) (qD6 qA6) qD7) rfl)))
   (qM6 (qP8 (qBk qBp (qAu qCf (pv 0) qA6 (λ_ _=>rfl)) qB7 (qAf _)) (qM6 (qBk qBp (qAu qCf (pv 0) qA6 (λ_ _=>rfl)) (pv 1) (qAf _))))))),?_⟩
  dsimp only [qBx];obtain⟨p,rfl,hp⟩:=qGp hd;have tail:∀H',Ext [] H H'->(isAdd d&&decide (x∈dargs d))=false -> ∀Q':VK,(∀H',Ext [] H H'->Q' (.bl (rdB x d)) H')->tAndV (tOp rEq (tOp (rIxT K) (tVar 0) (tC (V.int 0))) (tC (V.str "tell"))) (tOp rEq (tOp (rIxT K) (tVar 0) (tC (V.int 1))) (tVar 1)) [some (.ref p),some (.int x)] H' Q':=by
   intro H' e' hno Q' hQ;have hp':=e'.toSame.seqT hp;refine qP0 ?_;walk_at "rd";refine qDt hp' (show atI _ ((0:Nat):Int)=some (V.str (dword d)) from qBa rfl) ?_;walk_at "rd";refine qNc ?_;rw [qO4];refine⟨_,rfl,?_⟩;have hq:=hQ H' e';rw [qTo,hno,Bool.false_or] at hq;cases hw:qQ3 d with
   | true =>
    rw [hw] at hq;refine iteT ?_;walk_at "rd";refine qDt hp' (qMw d) ?_;walk_at "rd";exact qC5 hq
   | false =>
    rw [hw] at hq;exact iteF hq
  walk_at "rd";refine qY5 (qP0 ?_);walk_at "rd";refine qDt hp (show atI _ ((0:Nat):Int)=some (V.str (dword d)) from qBa rfl) ?_;walk_at "rd";refine qNc ?_;rw [qR9];refine⟨_,rfl,?_⟩;cases hw:isAdd d with
  | true =>
   refine iteT ?_;walk_at "rd";refine⟨1,rfl,?_⟩;walk_at "rd";refine⟨p,_,rfl,hp,?_,λp2 hp2=>?_⟩
   ·intro h;have:=h.1;revert this;have hn:(V.str (dword d)::(dargs d).map V.int).length=(dargs d).length+1:=by simp
    have:=(qQp d).1;rw [hn];unfold HT.sIx;simp
    try lia
   rw [cut1];refine⟨p2,(dargs d).map V.int,rfl,.inr (SqT.of qA1),rfl,qBu _,?_⟩;rw [if_neg aD,qC8];refine⟨_,rfl,?_⟩;cases hx:decide (x∈dargs d) with
   | true =>
    refine iteT ?_;have hq:=q _ (Ext.laid (o :=.tup ((dargs d).map V.int)) hp2);rw [qTo,hw,hx] at hq;exact hq
   | false =>
    refine iteF ?_;exact tail _ (.laid hp2) (by rw [hx,Bool.and_false]) _ q
  | false =>
   refine iteF ?_;refine⟨_,rfl,iteF ?_⟩;exact tail H (.refl _ _) (by rw [hw];rfl) _ q
end
section
variable{P:Program}{w:World}{K:PySem.W.Frag}{mg:Str->Option Value}{base:Heap}
structure GoI(H:Hp)(d du:Addr)(ws:List (List Blk))(x:Int)(p0:Pl)(ks due:List Pl)(H':Hp):Prop where
 ext:Ext [] H H'
 hd:H' d=some (.dT (trueD ks))
 hdu:∃vs,H' du=some (.lst vs)/\PlsAt H' vs due
 nod:ks.Nodup
 rk:∀y∈ks,RT (metOf ws x) p0 y
 rd:∀y∈due,RT (metOf ws x) p0 y
 clo:∀k∈ks,qJb ws x k=false /\ ∀c∈metOf ws x k,c∈ks\/c∈due
 one:p0∈ks\/p0∈due
 fewd:due.length<=1+22*ks.length
theorem GoI.end_{H H':Hp}{d du:Addr}{ws:List (List Blk)}{x:Int}{p0:Pl}{ks:List Pl}(h:GoI H d du ws x p0 ks [] H'):askB ws x p0=false:=by
 have key:∀y,RT (metOf ws x) p0 y->y∈ks:=by
  intro y r
  induction r with
  | refl=>exact h.one.elim id λz=>absurd z (by simp)
  | step _ hc ih=>exact ((h.clo _ ih).2 _ hc).elim id λz=>absurd z (by simp)
 rw [Bool.eq_false_iff];intro hb;obtain⟨q,r,hq⟩:=askB_iff.mp hb;rw [(h.clo q (key q r)).1] at hq;cases hq
abbrev qDh:Stmt:=top 22
theorem scIsAsked:FnScope ["_law_works_here","_law_number_here","_law_block","_law_box","_law_met","_law_waiting","_law_place","_law_deeds_here","_law_end","_law_open_yet","_law_deed"] ["_law_works_here","_law_number_here","_law_block","_law_box"] (qA8 qDh):=⟨rfl,rfl,rfl,by decide +kernel,rfl,by decide +kernel,by decide +kernel⟩
def GoW(H:Hp)(wa d du:Addr)(ws:List (List Blk))(x:Int)(n b:Nat)(μ : Nat)(σ':St)(H':Hp):Prop := ∃(ks due:List Pl) (o6 o7 o8 o9 o10:Option V),μ = ((places ws).length - ks.length)*24+due.length /\
 σ' = [some (.ref wa),some (.int n),some (.int b),some (.int x),some (.ref d),some (.ref du),o6,o7,o8,o9,o10]/\GoI H d du ws x ((n:Int),(b:Int)) ks due H'
theorem qNj{f:Addr}{fd:FuncData}(F:Fun K "_law_is_asked" "_law_is_asked" qDh f fd)(hRd:Has P w K mg base "_law_reads" 1 ["_law_deed","_law_box"] (qL0 rdB K)):FnOk P w K mg base CX0 2 f fd ["_law_works_here","_law_number_here","_law_block","_law_box"] (qG3 K):=by
 refine F.ok scIsAsked (λvs H Q E h=>?_) (λcdv A outer s H vs Q E hr h=>?_)
 ·obtain⟨wa,ws,n,b,x,rfl,_⟩:=h;rfl
 ·obtain⟨wa,ws,n,b,x,rfl,hW,hok,hpl,q⟩:=h;have hu:=qIm hr
  refine⟨_,qA7 (qM0 (i:=4) (j:=5) rfl scIsAsked.nd rfl rfl (by decide) rfl rfl (qA0 qRz (qA0 (qB0 (qA0 (qBc (qA0 (pv 1) (qA0 (pv 2) qA3))) qA3)) qA3)) rfl)
   (qA7 (qLz bX (qAd (qM8 hr) (pv 5) (qB0 qA3) (qAf _))
    (qA7 (qAo (i:=6) scIsAsked.nd rfl (Or.inr rfl) (qX8 bJ PySem.F.slot_list_pop PySem.F.type_list_pop qXh (pv 5)))
    (qA9 (qCh (qTf (qP9 hu (pv 6) (pv 4)))
     (qA7 (qP4 hu (pv 4) (pv 6) qGy rfl)
     (qA7 (qJg (qAu qAr (qAu qAr (pv 0) (qAu qCf (pv 6) qA6 (λ_ _=>rfl)) (λ_ _=>rfl)) (qAu qCf (pv 6) qA6 (λ_ _=>rfl)) (λ_ _=>rfl)) (qFa (n:=2) rfl (qAj (qAb (i:=7) scIsAsked.nd rfl (Or.inl rfl)) (qAj (qAb (i:=8) scIsAsked.nd rfl (Or.inl rfl)) qBy))))
     (qA7 (qAo (i:=9) scIsAsked.nd rfl (Or.inl rfl) qGy)
     (qA7 (qCb bX rfl (qAy (pv 7)) (qAb (i:=10) scIsAsked.nd rfl (Or.inl rfl))
      (qA7 (qCh (qF9 (qCa K rfl (pv 9) (λ_=>rfl)) (qD5 (qCa K rfl (qAq hRd hr (by decide) (qA0 (pv 10) (qA0 (pv 3) qA3))) (λ_=>rfl)))).pt (qA9 (qAt qGy)) qBg)
      (qA7 (qCh (qF9 (qCa K rfl (pv 9) (λ_=>rfl)) (qD5 (qAd qBp (qAu qCf (pv 10) qA6 (λ_ _=>rfl)) qB7 (qAf _)))).pt (qA9 (qC6 (qEb bJ cB cC qBl (pv 5) (qA0 (qBc (qA0 (qAu qCf (pv 10) qA6 (λ_ _=>rfl)) (qA0 qA6 qA3))) qA3)))) qBg)
      (qA9 (qCh (qF9 (qAd qEd (qAu qCf (pv 10) qA6 (λ_ _=>rfl)) (qBc (qA0 qB7 (qA0 qB7 qA3))) rfl) (qD5 (qAd qBp (qAu qCf (pv 10) qA6 (λ_ _=>rfl)) (pv 3) (qAf _)))).pt (qA9 (qAo (i:=9) scIsAsked.nd rfl (Or.inl rfl) qGy)) qBg)))))
     (qA9 (qCh (qCa K rfl (pv 9) (λ_=>rfl)) (qA9 (qC6 (qEb bJ PySem.F.slot_list_extend PySem.F.type_list_extend qJp (pv 5) (qA0 (qCl ["_law_to"] [6] rfl (.of rfl) (qTg (qCe qLu (pv 8) (qD6 qA6) qD7)) (λ_ _ _ _=>qAb (i:=0) (by show ((["_law_to","_law_place"]:List Str)).Nodup;decide) rfl (Or.inl rfl)) (λ_ _ _ _ =>.nil) (λ_ _ _ _=>qBc (qA0 (qAu (qBt K rfl) (pv 1) qA6 (λ_ _=>rfl)) (qA0 (pv 0) qA3)))) qA3)))) qBg))))))
     qBg))))
   (qA9 (qAt qGy))),?_⟩
  dsimp only [qBx,qBi];walk_at "rd";refine (show ∀p,_=none->_ from λd hd=>?_);walk_at "rd";refine⟨len2 (by show 2<=1000;decide),λp hp=>?_⟩;walk_at "rd";refine⟨len2 (by show 1<=1000;decide),λdu hdu=>?_⟩;have e0:Ext [] H (upd H d (.dT [])) :=.laid hd;have E1:Ext [] H (upd (upd (upd H d (.dT [])) p (.tup [.int n,.int b])) du (.lst [.ref p])):=e0.trans ((Ext.laid hp).trans (.laid hdu));have npd:p≠du:=qA2 qA1 hdu;have hduH:H du=none:=(e0.trans (.laid hp)).none (by simp) hdu;have ndp:d≠p:=qA2 qA1 hp;have ndu:d≠du:=qA2 (o :=.dT []) (by rw [qA4 ndp,qA1]) hdu;refine⟨_,_,rfl,?_⟩;have pfew:=qNf hok;have st0:GoI H d du ws x ((n:Int),(b:Int)) [] [((n:Int),(b:Int))] (upd (upd (upd H d (.dT [])) p (.tup [.int n,.int b])) du (.lst [.ref p])):=by
   refine⟨E1,by rw [qA4 ndu,qA4 ndp,qA1];rfl,⟨[.ref p],qA1,.one (by rw [qA4 npd,qA1])⟩,List.nodup_nil,(λ_ h=>absurd h (by simp)),λy hy=>by rw [aQ.mp hy];exact .refl,(λ_ h=>absurd h (by simp)),.inr (aQ.mpr rfl),by simp⟩
  generalize upd (upd (upd H d (.dT [])) p (.tup [.int n,.int b])) du (.lst [.ref p])=H1 at st0 ⊢;walk_at "rd";refine⟨GoW H wa d du ws x n b,⟨_,[],_,_,_,_,_,_,rfl,rfl,st0⟩,?_⟩;rintro μ σ' H' ⟨ks,due,o6,o7,o8,o9,o10,rfl,rfl,I⟩;obtain⟨dvs,hdu',hdp⟩:=I.hdu;walk_at "rd";refine⟨len2 (aU _),λen0 hen0=>?_⟩;have e2:Ext [] H' (upd H' en0 (.lst [])) :=.laid hen0;have hdu2:=e2 _ _ (by simp) hdu';have hdp2:=hdp.mono e2.tk;have hd2:=e2 _ _ (by simp) I.hd;have ext2:=I.ext.trans e2;refine⟨qBm due,.list [],.list (SqL.of hdu2) hdp2.den,.list (SqL.of qA1) .nil,qD8 due,rfl,?_⟩;rw [if_pos rfl,qIp];generalize upd H' en0 (.lst [])=H2 at e2 hdu2 hdp2 hd2 ext2 ⊢;walk_at "rd";rcases List.eq_nil_or_concat due with h | ⟨init,y,h⟩
  ·subst h;rw [decide_eq_true rfl];refine iteF ?_;walk_at "rd";have hq:=q H2 ext2;rw [I.end_] at hq;exact hq
  ·have h:due=init ++ [y]:=by rw [h,List.concat_eq_append]
   rw [decide_eq_false (by rw [h];simp)];rw [h] at hdp2;obtain⟨wvs,v,rfl,hws,vb,rfl,hvb⟩:=hdp2.last;refine iteT ⟨λσ' H' => ∃m',m'<((places ws).length - ks.length)*24+due.length/\GoW H wa d du ws x n b m' σ' H',λ_ _ h=>h,?_⟩;have hyr:=I.rd y (by rw [h];simp);have hcU:∀p∈places ws,∀q∈metOf ws x p,q∈places ws:=λp _ q hq=>qPo hok hq;have hyU:=hyr.within hcU hpl;have hksU:∀z∈ks,z∈places ws:=λz hz=>(I.rk z hz).within hcU hpl;have hkl:=qIi I.nod hksU;have hdl:due.length=init.length+1:=by rw [h];simp
   have hfd:=I.fewd;have hwl:=hws.len;walk_at "rd";refine qDs hdu2 ?_;refine⟨du,wvs ++ [V.ref vb],.ref vb,rfl,rfl,hdu2,by simp,?_⟩;rw [List.dropLast_concat];have d3:upd H2 du (.lst wvs) d=some (.dT (trueD ks)):=by rw [qA4 ndu];exact hd2
   have e3:Ext [] H (upd H2 du (.lst wvs)):=((ext2.mono (us :=[du]) (by simp)).trans (.put (by simp))).drop hduH;have u3:upd H2 du (.lst wvs) du=some (.lst wvs):=qA1;have tk3:TK H2 (upd H2 du (.lst wvs)) :=.put (by intro ys z;rw [hdu2] at z;cases z);have hws3:=hws.mono tk3;have hvb3:=tk3 _ _ hvb;generalize upd H2 du (.lst wvs)=H3 at d3 e3 u3 tk3 hws3 hvb3 ⊢;walk_at "rd";refine⟨d,_,rfl,DGet.t (k:=plK y) d3 hvb3,?_⟩;rw [qKv];by_cases hy:y∈ks
   ·rw [if_pos hy];refine qXx (iteF ?_);walk_at "rd";refine⟨_,by rw [hdl];exact fK _,ks,init,_,_,_,_,_,rfl,rfl,e3,d3,⟨wvs,u3,hws3⟩,I.nod,I.rk,λz hz=>I.rd z (by rw [h];exact bO _ hz),λk hk=>⟨(I.clo k hk).1,λc hc'=>?_⟩,?_,by lia⟩
    ·rcases (I.clo k hk).2 c hc' with z | z
     ·exact .inl z
     ·rw [h] at z;rcases aM.mp z with z | z
      ·exact .inr z
      ·rw [aQ.mp z];exact .inl hy
    ·rcases I.one with z | z
     ·exact .inl z
     ·rw [h] at z;rcases aM.mp z with z | z
      ·exact .inr z
      ·rw [aQ.mp z];exact .inl hy
   ·rw [if_neg hy];refine qXx (iteT ?_);walk_at "rd";refine⟨d,_,rfl,DPut.t (k:=plK y) d3 hvb3 (qW3 (by unfold trueD;rw [aB];lia)),?_⟩;have hput:putK (trueD ks) (plK y) (V.bl true)=trueD (ks ++ [y]):=by
     rw [qRt _ (by rw [qKv,if_neg hy])];unfold trueD;rw [aN];rfl
    rw [hput];have d4:upd H3 d (.dT (trueD (ks ++ [y]))) d=some (.dT (trueD (ks ++ [y]))):=qA1;have e4:Ext [] H (upd H3 d (.dT (trueD (ks ++ [y])))):=((e3.mono (us :=[d]) (by simp)).trans (.put (by simp))).drop hd;have u4:upd H3 d (.dT (trueD (ks ++ [y]))) du=some (.lst wvs):=by rw [qA4 ndu.symm];exact u3
    have tk4:TK H3 (upd H3 d (.dT (trueD (ks ++ [y])))) :=.put (by intro ys z;rw [d3] at z;cases z);have hws4:=hws3.mono tk4;have hvb4:=tk4 _ _ hvb3;generalize upd H3 d (.dT (trueD (ks ++ [y])))=H4 at d4 e4 u4 tk4 hws4 hvb4 ⊢;have hnod:(ks ++ [y]).Nodup:=by
     rw [eM];refine⟨I.nod,by simp,λz hz z' hz'=>?_⟩;rw [aQ.mp hz'];rintro rfl;exact hy hz
    have hkl2:=qIi (l2:=places ws) hnod λz hz=>by
     rcases aM.mp hz with t | t
     ·exact hksU z t
     ·rw [aQ.mp t];exact hyU
    rw [aG,cT] at hkl2;obtain⟨bk,hbk⟩:=mem_places.mp hyU;obtain⟨yn,ya,w1,hy2,hw1,hb1⟩:=qF2 hbk;subst hy2;obtain⟨m,n',w1',hp1,hw1',hm,hm1,hm2,hbok⟩:=hok.blk hbk;obtain⟨wv,bs,wb,pb,dl,ds,ve,s1,s2,s3,s4,s5,s6,s7,s8⟩:=qS1 hW hbk;have hra:qJb ws x ((yn:Int),(ya:Int))=readB x bk:=by unfold qJb;rw [hbk]
    have hmet:metOf ws x ((yn:Int),(ya:Int))=metB x yn bk:=by unfold metOf;rw [hbk]
    have hml:=qVc hok x ((yn:Int),(ya:Int));have hdsl:ds.length=bk.ds.length:=by rw [s7.len,aB]
    have hds14:=hbok.few;walk_at "rd";refine qDt (SqT.of hvb4) (show atI _ ((0:Nat):Int)=some (V.int yn) from qBa rfl) ?_;refine qC2 (e4.toSame.seq s1) s2 ?_;walk_at "rd";refine qDt (SqT.of hvb4) (show atI _ ((1:Nat):Int)=some (V.int ya) from qBa rfl) ?_;refine qC2 (e4.toSame.seq s3) s4 ?_;refine qCk (e4.toSame.seqT s5) rfl ?_;walk_at "rd"
    refine⟨dl,rfl,⟨_,e4.toSame.seq s6⟩,qCp (xs:=ds) (λj σ' G => ∃(cvs:List V) (o10:Option V),σ' = [some (.ref wa),some (.int n),some (.int b),some (.int x),some (.ref d),some (.ref du),some (.ref vb),some (.ref dl),some ve,some (.bl (!wrote x (bk.ds.take j))),o10]/\Ext [] H G/\G d=some (.dT (trueD (ks ++ [((yn:Int),(ya:Int))])))/\G du=some (.lst cvs) /\
     PlsAt G cvs (init++(((till x (bk.ds.take j)).filterMap qEj).map λc=>(c,0)))/\G vb=some (.tup [.int yn,.int ya])/\(till x (bk.ds.take j)).any (rdB x)=false) ?_ ?_ ?_ ?_⟩
    ·refine⟨wvs,_,rfl,e4,d4,u4,?_,hvb4,rfl⟩;simpa [till] using hws4
    ·rintro j σ' G hj ⟨cvs,o10,rfl,eG,hdG,huG,hcp,hvG,hno⟩;exact eG.toSame.seq s6
    ·rintro j v σ' G hv ⟨cvs,o10,rfl,eG,hdG,huG,hcp,hvG,hno⟩ N_ B_ C_ R_ hN_ hC_ hR_;obtain⟨dd,hdd,hDv⟩:=s7.get hv;obtain⟨de,hde,rfl⟩:=qB1 hdd;have hjl:j<bk.ds.length:=(aI.mp hde).1;obtain⟨pd,rfl,hpd⟩:=qGp hDv;have hcl:=hcp.len;have hfl:=eV qEj (till x (bk.ds.take j));have htl:=qFj x (bk.ds.take j);rw [aV] at htl;rw [aG,aB] at hcl;have htk:bk.ds.take (j+1)=bk.ds.take j ++ [de]:=qAw hde;have third:∀(G5:Hp) (fl:Bool) (D:Ends),Ext [] H G5->(∀G6,Ext [] G5 G6->D.nx [some (V.ref wa),some (.int n),some (.int b),some (.int x),some (.ref d),some (.ref du),some (.ref vb),some (.ref dl),some ve,some (.bl (fl && !wrB x de)),some (.ref pd)] G6) ->
       tIfS (tAnd (tTest (tOp (rIn K false) (tOp (rIxT K) (tVar 10) (tC (V.int 0))) (tTup (tCons (tC (V.str "set")) (tCons (tC (V.str "add")) tNil))))) (tTest (tOp rEq (tOp (rIxT K) (tVar 10) (tC (V.int 1))) (tVar 3)))) (tAsg (tC (V.bl false)) (gName 9)) tNext D [some (V.ref wa),some (.int n),some (.int b),some (.int x),some (.ref d),some (.ref du),some (.ref vb),some (.ref dl),some ve,some (.bl fl),some (.ref pd)] G5:=by
      intro G5 fl D e5 hD;have hp5:=e5.toSame.seqT hpd
      with_reducible refine L2.qYm ?_
      with_reducible refine L2.qWt ?_
      walk_at "rd";refine qDt hp5 (show atI _ ((0:Nat):Int)=some (V.str (dword de)) from qBa rfl) ?_;walk_at "rd";refine⟨len2 (by show 2<=1000;decide),λpt hpt=>?_⟩;have e6:Ext [] G5 (upd G5 pt (.tup [.str "set",.str "add"])) :=.laid hpt;refine⟨pt,[V.str "set",.str "add"],rfl,.inr (SqT.of qA1),rfl,rfl,?_⟩;rw [if_neg aD,qQk];refine⟨_,rfl,?_⟩;have hq:=hD _ e6;have hp6:=e6.toSame.seqT hp5;generalize upd G5 pt (.tup [.str "set",.str "add"])=G6 at e6 hq hp6 ⊢;unfold wrB at hq;cases hw:(wr de).isSome with
      | true =>
       rw [hw] at hq;refine iteT ?_;walk_at "rd";refine qDt hp6 (qMw de) ?_;walk_at "rd";refine qC5 ?_;refine⟨_,rfl,?_⟩;cases hx:decide (darg de=x) with
       | true =>
        rw [hx] at hq;refine iteT ?_;walk_at "rd";simpa using hq
       | false =>
        rw [hx] at hq;refine iteF ?_
        with_reducible refine L2.qF8 ?_
        simpa using hq
      | false =>
       rw [hw] at hq;refine iteF (iteF ?_)
       with_reducible refine L2.qF8 ?_
       simpa using hq
     cases hwt:wrote x (bk.ds.take j) with
     | true =>
      have hw1:wrote x (bk.ds.take (j+1))=true:=by rw [htk,qDf,hwt];rfl
      have ht1:till x (bk.ds.take (j+1))=till x (bk.ds.take j):=by rw [htk,qCt hwt]
      walk_at "rd";refine⟨false,rfl,iteF (iteF ?_)⟩;walk_at "rd";refine⟨false,rfl,iteF (iteF ?_)⟩
      with_reducible refine L2.qF8 ?_
      refine third G false _ eG λG6 e6=>hN_ _ _ ⟨cvs,some (.ref pd),?_,eG.trans e6,e6 _ _ (by simp) hdG,e6 _ _ (by simp) huG,?_,e6 _ _ (by simp) hvG,?_⟩
      ·rw [hw1];rfl
      ·rw [ht1];exact hcp.mono e6.tk
      ·rw [ht1];exact hno
     | false =>
      have hw1:wrote x (bk.ds.take (j+1))=wrB x de:=by rw [htk,qDf,hwt];rfl
      have ht1:till x (bk.ds.take (j+1))=till x (bk.ds.take j) ++ [de]:=by rw [htk,qCu hwt]
      walk_at "rd";refine⟨true,rfl,iteT ?_⟩;walk_at "rd";refine⟨.ref pd,de,x,rfl,hDv.mono eG.toSame,λG2 eG2=>?_⟩;refine⟨rdB x de,rfl,?_⟩;cases hrd:rdB x de with
      | true =>
       refine iteT ?_;walk_at "rd";have hask:askB ws x ((n:Int),(b:Int))=true:=askB_iff.mpr ⟨_,hyr,by rw [hra];unfold readB;exact cK.mpr ⟨de,qRc hwt hde,hrd⟩⟩;have hq:=q G2 (eG.trans eG2);rw [hask] at hq;exact hq
      | false =>
       refine iteF ?_;have E2:=eG.trans eG2;have hd2':=eG2 _ _ (by simp) hdG;have hu2':=eG2 _ _ (by simp) huG;have hcp2:=hcp.mono eG2.tk;have hv2':=eG2 _ _ (by simp) hvG;have hpd2:=E2.toSame.seqT hpd;have hno1:(till x (bk.ds.take (j+1))).any (rdB x)=false:=by rw [ht1,List.any_append,hno];simp [hrd]
       walk_at "rd";refine⟨true,rfl,iteT ?_⟩;walk_at "rd";refine qDt hpd2 (show atI _ ((0:Nat):Int)=some (V.str (dword de)) from qBa rfl) ?_;walk_at "rd";refine qNc ?_;rw [qQl];walk_at "rd";cases hcl2:qMl de with
       | true =>
        refine iteT ?_;walk_at "rd";refine qDs hu2' ?_;walk_at "rd";refine qDt hpd2 (qMw de) ?_;walk_at "rd";refine⟨len2 (by show 2<=1000;decide),λp2 hp2=>?_⟩;have np2:p2≠du:=(qA2 hu2' hp2).symm
        with_reducible refine L2.qRq ?_
        refine qDu (xs:=cvs) (by rw [qA4 np2.symm];exact hu2') (by rw [fE];lia) ?_;have tk:TK G2 (upd (upd G2 p2 (.tup [.int (darg de),.int 0])) du (.lst (cvs ++ [.ref p2]))):=(Ext.laid hp2).tk.trans (.put (by intro ys z;rw [qA4 np2.symm,hu2'] at z;cases z));have ndd:d≠p2:=qA2 hd2' hp2;have E5:Ext [] H (upd (upd G2 p2 (.tup [.int (darg de),.int 0])) du (.lst (cvs ++ [.ref p2]))):=((E2.mono (us :=[du]) (by simp)).trans ((Ext.laid hp2).trans (.put (by simp)))).drop hduH;refine third _ true _ E5 λG6 e6=>hN_ _ _ ⟨cvs ++ [.ref p2],some (.ref pd),?_,E5.trans e6,e6 _ _ (by simp) (by rw [qA4 ndu,qA4 ndd];exact hd2'),e6 _ _ (by simp) qA1,?_,e6.tk _ _ (tk _ _ hv2'),hno1⟩
        ·rw [hw1];rfl
        ·rw [ht1,fQ,aN,<-bU,cF,qVr de hcl2];exact ((hcp2.mono tk).append (.one (p:=(darg de,0)) (by rw [qA4 np2,qA1]))).mono e6.tk
       | false =>
        refine iteF ?_
        with_reducible refine L2.qF8 ?_
        have hn:qEj de=none:=by
         unfold qMl at hcl2;cases z:qEj de with
         | none=>rfl
         | some y=>rw [z] at hcl2;cases hcl2
        refine third _ true _ E2 λG6 e6=>hN_ _ _ ⟨cvs,some (.ref pd),?_,E2.trans e6,e6 _ _ (by simp) hd2',e6 _ _ (by simp) hu2',?_,e6 _ _ (by simp) hv2',hno1⟩
        ·rw [hw1];rfl
        ·rw [ht1,fQ,cF,hn,List.filterMap_nil,bW];exact hcp2.mono e6.tk
    ·rintro σ' G ⟨cvs,o10,rfl,eG,hdG,huG,hcp,hvG,hno⟩;rw [hdsl,bE] at hcp hno ⊢;have hnr:qJb ws x ((yn:Int),(ya:Int))=false:=by rw [hra];exact hno
     have hcl:=hcp.len;have hfl:=eV qEj (till x bk.ds);have htl:=qFj x bk.ds;rw [aG,aB] at hcl;have fin:∀(G6:Hp) (cvs6:List V),Ext [] H G6->G6 d=some (.dT (trueD (ks ++ [((yn:Int),(ya:Int))])))->G6 du=some (.lst cvs6)->PlsAt G6 cvs6 (init++metOf ws x ((yn:Int),(ya:Int))) -> ∀o6 o7 o8 o9 o10:Option V,
       ∃m',m'<((places ws).length - ks.length)*24+due.length/\GoW H wa d du ws x n b m' [some (.ref wa),some (.int n),some (.int b),some (.int x),some (.ref d),some (.ref du),o6,o7,o8,o9,o10] G6:=by
      intro G6 cvs6 e6 hd6 hu6 hp6 o6 o7 o8 o9 o10;refine⟨_,?_,ks ++ [((yn:Int),(ya:Int))],init++metOf ws x ((yn:Int),(ya:Int)),o6,o7,o8,o9,o10,rfl,rfl,e6,hd6,⟨cvs6,hu6,hp6⟩,hnod,?_,?_,?_,?_,?_⟩
      ·rw [aG,aG,cT];lia
      ·intro z hz;rcases aM.mp hz with t | t
       ·exact I.rk z t
       ·rw [aQ.mp t];exact hyr
      ·intro z hz;rcases aM.mp hz with t | t
       ·exact I.rd z (by rw [h];exact bO _ t)
       ·exact .step hyr t
      ·intro k hk;rcases aM.mp hk with t | t
       ·refine⟨(I.clo k t).1,λc hc'=>?_⟩;rcases (I.clo k t).2 c hc' with r | r
        ·exact .inl (bO _ r)
        ·rw [h] at r;rcases aM.mp r with r | r
         ·exact .inr (bO _ r)
         ·exact .inl (bM _ r)
       ·rw [aQ.mp t];exact⟨hnr,λc hc' =>.inr (bM _ hc')⟩
      ·rcases I.one with r | r
       ·exact .inl (bO _ r)
       ·rw [h] at r;rcases aM.mp r with r | r
        ·exact .inr (bO _ r)
        ·exact .inl (bM _ r)
      ·rw [aG,aG,cT];lia
     walk_at "rd";cases hwt:wrote x bk.ds with
     | true =>
      refine⟨false,rfl,iteF ?_⟩
      with_reducible refine L2.qF8 ?_
      refine fin G cvs eG hdG huG ?_ _ _ _ _ _;rw [hmet];unfold metB qGt;rw [hwt,if_pos rfl,bW];exact hcp
     | false =>
      refine⟨true,rfl,iteT ?_⟩;walk_at "rd";refine qDs huG ?_;walk_at "rd";obtain⟨wd,hwd,_⟩:=qSv hbok.ns;rw [hwd] at s8;obtain⟨en,es',rfl,hen,hes⟩:=s8.ofTuple;obtain⟨v3,r3,rfl,hd3',hr3⟩:=hes.ofCons;have ee3:=hd3'.ofStr;subst ee3;have ee4:=hr3.ints;subst ee4;have hnf:=hbok.ns.few;refine⟨1,rfl,?_⟩;walk_at "rd";refine⟨en,_,rfl,eG.toSame.seqT hen,?_,λpp hpp=>?_⟩
      ·intro hh;have:=hh.1;revert this;have hn:(V.str wd::bk.ns.map V.int).length=bk.ns.length+1:=by simp
       rw [hn];unfold HT.sIx;simp
       try lia
      rw [cut1];have e5:Ext [] G (upd G pp (.tup (bk.ns.map V.int))) :=.laid hpp;have hu5:=e5 _ _ (by simp) huG;have hd5:=e5 _ _ (by simp) hdG;have hv5:=e5 _ _ (by simp) hvG;have hcp5:=hcp.mono e5.tk;have hpp5:upd G pp (.tup (bk.ns.map V.int)) pp=some (.tup (bk.ns.map V.int)):=qA1;generalize upd G pp (.tup (bk.ns.map V.int))=G5 at e5 hu5 hd5 hv5 hcp5 hpp5 ⊢;refine⟨pp,rfl,⟨_,SqT.of hpp5⟩,λle hle=>?_⟩;have npl:pp≠le:=qA2 hpp5 hle;have nvl:vb≠le:=qA2 hv5 hle;refine qMd (xs:=bk.ns.map V.int) (λj σ' G6 => ∃(o0:Option V) (ts:List V),σ' = [o0,some (.ref vb)]/\Ext [le] G5 G6/\G6 le=some (.lst ts)/\PlsAt G6 ts ((bk.ns.take j).map λt=>((yn:Int),t))) ?_ ?_ ?_ ?_
      ·exact⟨none,[],rfl,.laid hle,qA1,.nil⟩
      ·rintro j σ' G6 hj ⟨o0,ts,rfl,e6,hle6,hts⟩;exact SqT.of (e6 _ _ (by simpa using npl) hpp5)
      ·rintro j yy σ' G6 R hyy ⟨o0,ts,rfl,e6,hle6,hts⟩ hR;obtain⟨t,ht,rfl⟩:=qB1 hyy;have hj:j<bk.ns.length:=(aI.mp ht).1;have htl:=hts.len;rw [aB,aV] at htl;walk_at "rd";refine iteT ?_;walk_at "rd";refine qDt (SqT.of (e6 _ _ (by simpa using nvl) hv5)) (show atI _ ((0:Nat):Int)=some (V.int yn) from qBa rfl) ?_;walk_at "rd";refine⟨len2 (by show 2<=1000;decide),λp2 hp2=>?_⟩;have np2:p2≠le:=(qA2 hle6 hp2).symm;have tk:TK G6 (upd (upd G6 p2 (.tup [.int yn,.int t])) le (.lst (ts ++ [.ref p2]))):=(Ext.laid hp2).tk.trans (.put (by intro ys z;rw [qA4 np2.symm,hle6] at z;cases z));refine⟨ts,by rw [qA4 np2.symm];exact hle6,qAc (by lia),hR _ _ ⟨_,ts ++ [.ref p2],rfl,e6.trans ((Ext.laid hp2).trans (.put (by simp))),qA1,?_⟩⟩
       rw [qAw ht,aN];exact (hts.mono tk).append (.one (by rw [qA4 np2,qA1]))
      ·rintro σ' G6 ⟨o0,ts,rfl,e6,hle6,hts⟩;rw [aB,bE] at hts;have htl:=hts.len;rw [aB] at htl;have E6:=e6.drop hle;have hu6:=E6 _ _ (by simp) hu5;have hd6:=E6 _ _ (by simp) hd5;walk_at "rd";refine⟨du,le,cvs,ts,rfl,rfl,hu6,hle6,by rw [fE];lia,?_⟩;have tk:TK G6 (upd G6 du (.lst (cvs++ts))) :=.put (by intro ys z;rw [hu6] at z;cases z);refine fin _ (cvs++ts) (((((eG.trans e5).trans E6).mono (us :=[du]) (by simp)).trans (.put (by simp))).drop hduH) (by rw [qA4 ndu];exact hd6) qA1 ?_ _ _ _ _ _;rw [hmet];unfold metB qGt;rw [hwt,if_neg aD,<-bU];exact ((hcp5.mono E6.tk).append hts).mono tk
end
section
variable{P:Program}{w:World}{K:PySem.W.Frag}{mg:Str->Option Value}{base:Heap}
def NsAt(l:Addr)(H:Hp):List V->List (List Int)->Prop:=Paired λv ns => ∃b,v = .ref b/\b≠l/\H b=some (.lst (ns.map V.int))
def qKz(K:PySem.W.Frag):Sp:=λvs H Q _ => ∃(a:Addr) (w:List Blk),vs = [.ref a]/\Den K H (workD w) (.ref a)/\(∀b∈w,b.ns.length<=2)/\w.length<=12 /\
 ∀(l:Addr) (us:List V) (H':Hp),H l=none->Ext [] H H'->H' l=some (.lst us)->NsAt l H' us (w.map Blk.ns)->Q (.ref l) H'
theorem NsAt.mono{l:Addr}{H H':Hp}{us:List V}{ns:List (List Int)}(h:NsAt l H us ns)(e:Ext [l] H H'):NsAt l H' us ns:=Paired.mapP h λ_ _ ⟨b,h1,h2,h3⟩=>⟨b,h1,h2,e _ _ (by simpa using h2) h3⟩
theorem NsAt.len{l:Addr}{H:Hp}{us:List V}{ns:List (List Int)}(h:NsAt l H us ns):us.length=ns.length:=cY h
theorem NsAt.get{l:Addr}{H:Hp}:∀ {us:List V} {wk:List Blk},NsAt l H us (wk.map Blk.ns) -> ∀ {x:Int},0<=x->x<wk.length -> ∃c,atI us x=some (.ref c)/\H c=some (.lst ((nxt wk x).map V.int)):=by
 have key:∀ {us:List V} {wk:List Blk} {i:Nat} {b:Blk},NsAt l H us (wk.map Blk.ns)->wk[i]? = some b -> ∃c,us[i]? = some (.ref c)/\H c=some (.lst (b.ns.map V.int)):=by
  intro us wk
  induction wk generalizing us with
  | nil=>intro i b _ h;simp at h
  | cons b0 r ih =>
   intro i b h hb;cases h with
   | cons a t =>
    obtain⟨c,rfl,_,hc⟩:=a;cases i with
    | zero=>simp at hb;subst hb;exact⟨c,rfl,hc⟩
    | succ i =>
     obtain⟨c',h1,h2⟩:=ih t (by simpa using hb);exact⟨c',by simpa using h1,h2⟩
 intro us wk h x h0 h1;obtain⟨i,rfl⟩:=dP h0;have hi:i<wk.length:=by lia
 obtain⟨c,h2,h3⟩:=key h (aF hi);exact⟨c,qBa h2,by rw [qV4 (aF hi)];exact h3⟩
abbrev sEnds:Stmt:=top 18
theorem qW7:FnScope ["_law_work_here"] ["_law_work_here"] (qA8 sEnds):=⟨rfl,rfl,rfl,by decide +kernel,rfl,by decide +kernel,by decide +kernel⟩
theorem qV1{f:Addr}{fd:FuncData}(F:Fun K "_law_ends" "_law_ends" sEnds f fd)(nlist:mg "list" = none):FnOk P w K mg base CX0 1 f fd ["_law_work_here"] (qKz K):=by
 refine F.ok qW7 (λvs H Q E h=>?_) (λcdv A outer s H vs Q E hr h=>?_)
 ·obtain⟨a,w,rfl,_⟩:=h;rfl
 ·obtain⟨a,wk,rfl,hW,hns,hwl,q⟩:=h;have nd2:((["_law_deeds_here","_law_end"]:List Str)).Nodup:=by decide
  refine⟨_,qA9 (qAt (qCl ["_law_deeds_here","_law_end"] [] rfl (.of rfl) (qAy (pv 0)) (λ_ _ _ _=>qEu (n:=2) K rfl rfl (qAj (qAb (i:=0) nd2 rfl (Or.inl rfl)) (qAj (qAb (i:=1) nd2 rfl (Or.inl rfl)) qBy))) (λ_ _ _ _ =>.nil)
   (λ_ _ _ _=>qB5 (qMe K rfl) (by rfl) nlist gK (qA0 (qCe (qOm K rfl) (pv 1) (qD6 qA6) qD7) qA3)))),?_⟩
  dsimp only [qBx,qBi];obtain⟨a',vs,ea,hSq,hDL⟩:=hW.ofList;cases ea;have hvl:vs.length=wk.length:=by rw [hDL.len,aB]
  walk_at "rd";refine⟨a,rfl,⟨vs,hSq⟩,λl hl=>?_⟩;refine qAp (xs:=vs) (λi σ' H' => ∃(ws:List V) (o0 o1:Option V),σ' = [o0,o1]/\Ext [l] H H'/\H' l=some (.lst ws)/\NsAt l H' ws ((wk.take i).map Blk.ns)) ?_ ?_ ?_ ?_
  ·exact⟨[],none,none,rfl,.laid hl,qA1,.nil⟩
  ·rintro i σ' H' hi ⟨ws,o0,o1,rfl,e',hl',hden⟩;exact (e'.drop hl).toSame.seq hSq
  ·rintro i x σ' H' R hx ⟨ws,o0,o1,rfl,e',hl',hden⟩ hR;have es:Same H H':=(e'.drop hl).toSame;obtain⟨dd,hdd,hDx⟩:=hDL.get hx;obtain⟨b,hb,rfl⟩:∃b,wk[i]? = some b/\dd=blkD b:=by
    rw [aW] at hdd;cases z:wk[i]? with
    | none=>rw [z] at hdd;cases hdd
    | some n=>rw [z] at hdd;exact⟨n,rfl,(bF hdd).symm⟩
   have hi:i<wk.length:=(aI.mp hb).1;have hb2:=hns b (aO hb);obtain⟨c,us,rfl,hc,hcs⟩:=hDx.ofTuple;obtain⟨v1,r1,rfl,hd1,hr1⟩:=hcs.ofCons;obtain⟨v2,r2,rfl,hd2,hr2⟩:=hr1.ofCons;have hr2:=hr2.ofNil;subst hr2;obtain⟨wd,hwd⟩:=qQe hb2;rw [hwd] at hd2;obtain⟨en,es',rfl,hen,hes⟩:=hd2.ofTuple;obtain⟨v3,r3,rfl,hd3,hr3⟩:=hes.ofCons;have e3:=hd3.ofStr;subst e3;have e4:=hr3.ints;subst e4;refine qCk (es.seqT hc) rfl ?_;walk_at "rd";refine iteT ?_;walk_at "rd";refine⟨1,rfl,?_⟩;walk_at "rd";refine⟨en,_,rfl,es.seqT hen,?_,λp hp=>?_⟩
   ·intro h;have:=h.1;revert this;have hn:(V.str wd::b.ns.map V.int).length=b.ns.length+1:=by simp
    rw [hn];unfold HT.sIx;simp
    try lia
   have hcut:cutV (V.str wd::b.ns.map V.int) (some 1) none=b.ns.map V.int:=by
    match hh:b.ns,hb2 with
    | [],_=>rfl
    | [x],_=>rfl
    | [x,y],_=>rfl
   rw [hcut];have npl:p≠l:=(qA2 hl' hp).symm;walk_at "rd";refine⟨p,_,rfl,.inr (SqT.of qA1),λl2 hl2=>?_⟩;have l':upd H' p (.tup (b.ns.map V.int)) l=some (.lst ws):=by rw [qA4 npl.symm];exact hl'
   have n2:l2≠l:=(qA2 l' hl2).symm;have hwsl:ws.length=i:=by rw [hden.len,aB,aV];lia
   refine⟨ws,by rw [qA4 n2.symm];exact l',qAc (by lia),hR _ _ ⟨ws ++ [.ref l2],_,_,rfl,?_,qA1,?_⟩⟩
   ·exact e'.trans ((Ext.laid hp).trans ((Ext.laid hl2).trans (.put (by simp))))
   ·have ht:wk.take (i+1)=wk.take i ++ [b]:=by rw [dB,hb];rfl
    have E2:Ext [l] H' (upd (upd (upd H' p (.tup (b.ns.map V.int))) l2 (.lst (b.ns.map V.int))) l (.lst (ws ++ [.ref l2]))):=(Ext.laid hp).trans ((Ext.laid hl2).trans (.put (by simp)));rw [ht,aN];exact hU (hden.mono E2) ⟨l2,rfl,n2,by rw [qA4 n2,qA1]⟩
  ·rintro σ' H' ⟨ws,o0,o1,rfl,e',hl',hden⟩;rw [hvl,bE] at hden;exact q l ws H' hl (e'.drop hl) hl' hden
end
section
variable{P:Program}{w:World}{K:PySem.W.Frag}{mg:Str->Option Value}{base:Heap}
abbrev qDg:Stmt:=top 21
theorem inK(K:PySem.W.Frag){X:Cx}(h:X.K=K):OpR X (compareOp .In) (rIn K false):=h▸qEd
theorem qOq:FnScope ["_law_work_here","_law_box"] ["_law_work_here","_law_box"] (qA8 qDg):=⟨rfl,rfl,rfl,by decide +kernel,rfl,by decide +kernel,by decide +kernel⟩
theorem qNi{f:Addr}{fd:FuncData}(F:Fun K "_law_writes" "_law_writes" qDg f fd)(nrange:mg "range" = none)(nlen:mg "len" = none)(nany:mg "any" = none):FnOk P w K mg base CX0 1 f fd ["_law_work_here","_law_box"] (qD3 K):=by
 have nd3:((["_law_b","_law_box","_law_work_here"]:List Str)).Nodup:=by decide
 refine F.ok qOq (λvs H Q E h=>?_) (λcdv A outer s H vs Q E hr h=>?_)
 ·obtain⟨wa,wk,m,works,x,rfl,_⟩:=h;rfl
 ·obtain⟨wa,wk,m,works,x,rfl,hW,hOk,hm,q⟩:=h
  refine⟨_,qA9 (qAt (qCl ["_law_b"] [1,0] rfl (.of rfl) (qBr rfl nrange (qA0 (qAe qAh (by rfl) nlen cD (qA0 (pv 0) qA3)) qA3)) (λ_ _ _ _=>qAb (i:=0) nd3 rfl (Or.inl rfl))
   (λ_ _ _ _ =>.cons (qCa K rfl (qAe (anyK K rfl hr.hd) (by rfl) nany PyProof.Rows.boot_any (qA0 (qCl ["_law_one"] [1] rfl (.of rfl) (qIf K rfl (qAu (qBt K rfl) (qAu (qSo K rfl) (pv 2) (pv 0) (λ_ _=>rfl)) qA6 (λ_ _=>rfl))) (λ_ _ _ _=>qAb (i:=0) (by show ((["_law_one","_law_box"]:List Str)).Nodup;decide) rfl (Or.inl rfl)) (λ_ _ _ _ =>.nil)
    (λ_ _ _ _=>qP8 (qBk (inK K rfl) (qAu (qBt K rfl) (pv 0) qA6 (λ_ _=>rfl)) (qBc (qA0 qB7 (qA0 qB7 qA3))) rfl) (qM6 (qBk qBp (qAu (qBt K rfl) (pv 0) qA6 (λ_ _=>rfl)) (pv 1) (qAf _))))) qA3)) (λ_=>rfl)) .nil) (λ_ _ _ _=>pv 0))),?_⟩
  dsimp only [qBx,qBi];obtain⟨a',vs,ea,hSq,hDL⟩:=hW.ofList;cases ea;have hvl:vs.length=wk.length:=by rw [hDL.len,aB]
  have hwm:=hOk.len;walk_at "rd";refine⟨wa,_,rfl,.inl hSq,?_⟩;walk_at "rd";refine⟨_,rfl,by lia,by lia,λl hl=>?_⟩;refine qDm (lo:=0) (n:=(vs.length:Int).toNat) (λi σ' H' => ∃(o0:Option V),σ' = [o0,some (.int x),some (.ref wa)]/\Ext [l] H H'/\H' l=some (.lst ((wrTo wk x i).map V.int))) ?_ ?_ ?_
  ·exact⟨none,rfl,.laid hl,qA1⟩
  ·rintro i σ' H1 R hi ⟨o0,rfl,e1,hl1⟩ hR;have hi:i<wk.length:=by lia
   obtain⟨b,hb⟩:∃b,wk[i]? = some b:=⟨wk[i],aF hi⟩;have es:Same H H1:=(e1.drop hl).toSame;obtain⟨y,hy,hDx⟩:=hDL.get' (i:=i) (d:=blkD b) (by rw [aW,hb];rfl);obtain⟨c,us,rfl,hc,hcs⟩:=hDx.ofTuple;obtain⟨v1,r1,rfl,hd1,hr1⟩:=hcs.ofCons;obtain⟨v2,r2,rfl,hd2,hr2⟩:=hr1.ofCons;have hr2:=hr2.ofNil;subst hr2;obtain⟨dl,dvs,rfl,hdl,hdvs⟩:=hd1.ofList;have hbok:=hOk.blk b (aO hb);walk_at "rd";refine qC2 (es.seq hSq) (show atI vs (0+(i:Int))=some (.ref c) by rw [Int.zero_add];exact qBa hy) ?_;walk_at "rd";refine qDt (es.seqT hc) (show atI _ ((0:Nat):Int)=some (V.ref dl) from qBa rfl) ?_;walk_at "rd";refine⟨dl,rfl,⟨dvs,es.seq hdl⟩,λlc hlc=>?_⟩;have nlc:l≠lc:=qA2 hl1 hlc
   refine qAp (xs:=dvs) (λj σ' G2 => ∃(o0:Option V),σ' = [o0,some (.int x)]/\Ext [lc] H1 G2/\G2 lc=some (.lst (((b.ds.take j).map (wrB x)).map V.bl))) ?_ ?_ ?_ ?_
   ·exact⟨none,rfl,.laid hlc,qA1⟩
   ·rintro j σ' G2 hj ⟨o0,rfl,e2,hlc2⟩;exact (e2.drop hlc).toSame.seq (es.seq hdl)
   ·rintro j y σ' G2 R2 hy ⟨o0,rfl,e2,hlc2⟩ hR2;obtain⟨dd,hdd,hDy⟩:=hdvs.get hy;obtain⟨d,hd,rfl⟩:=qB1 hdd;obtain⟨p,rfl,hp0⟩:=qGp hDy;have hp:=(e2.drop hlc).toSame.seqT (es.seqT hp0);have hjl:j<b.ds.length:=(aI.mp hd).1;walk_at "rd";refine iteT ?_;walk_at "rd";refine qP0 ?_;walk_at "rd";refine qDt hp (show atI _ ((0:Nat):Int)=some (V.str (dword d)) from qBa rfl) ?_;walk_at "rd";refine⟨len2 (by show 2<=1000;decide),λpt hpt=>?_⟩;have e6:Ext [] G2 (upd G2 pt (.tup [.str "set",.str "add"])) :=.laid hpt;refine⟨pt,[V.str "set",.str "add"],rfl,.inr (SqT.of qA1),rfl,rfl,?_⟩;rw [if_neg aD,qQk];refine⟨_,rfl,?_⟩;have hp6:=e6.toSame.seqT hp;generalize upd G2 pt (.tup [.str "set",.str "add"])=G6 at e6 hp6 ⊢
    have fin:∃xs:List V,G6 lc=some (.lst xs)/\xs.length<sizeLine/\R2 [some (.ref p),some (.int x)] (upd G6 lc (.lst (xs ++ [.bl (wrB x d)]))):=by
     refine⟨_,e6 _ _ (by simp) hlc2,qAc (by rw [aB,aB,aV];have:=hbok.few;lia),hR2 _ _ ⟨_,rfl,e2.trans ((e6.mono (by simp)).trans (.put (by simp))),?_⟩⟩;rw [qA1,qAw hd,aN,aN];rfl
    unfold wrB at fin;cases hw:(wr d).isSome with
    | true =>
     rw [hw] at fin;refine iteT ?_;walk_at "rd";refine qDt hp6 (qMw d) ?_;walk_at "rd";refine qC5 ?_;exact fin
    | false =>
     rw [hw] at fin;exact iteF fin
   ·rintro σ' G2 ⟨o0,rfl,e2,hlc2⟩;have hdvl:dvs.length=b.ds.length:=by rw [hdvs.len,aB]
    rw [hdvl,bE] at hlc2;walk_at "rd";refine⟨lc,b.ds.map (wrB x),rfl,SqL.of hlc2,?_⟩;refine⟨wrote x b.ds,?_,?_⟩
    ·have e:(b.ds.map (wrB x)).any id=wrote x b.ds:=by unfold wrote;rw [List.any_map];rfl
     rw [e];rfl
    have E2:Ext [] H1 G2:=e2.drop hlc;have hl2:=E2 _ _ (by simp) hl1;have hs:=qO1 wk x i;have hll:=qE7 wk x i;rw [qVj hb] at hs;cases hw:wrote x b.ds with
    | true =>
     rw [hw,if_pos rfl] at hs;refine iteT (iteT ?_);walk_at "rd";refine⟨_,hl2,qAc (by rw [aB];lia),hR _ _ ⟨_,rfl,(e1.trans (E2.mono (by simp))).trans (.put (by simp)),?_⟩⟩;rw [qA1,hs,aN,Int.zero_add];rfl
    | false =>
     rw [hw,if_neg aD] at hs;refine iteF (iteF (hR _ _ ⟨_,rfl,e1.trans (E2.mono (by simp)),?_⟩));rw [hs];exact hl2
  ·rintro σ' H' ⟨o0,rfl,e',hl'⟩;rw [cL,hvl] at hl';exact q l H' hl (e'.drop hl) hl'
end
section
variable{P:Program}{w:World}{K:PySem.W.Frag}{mg:Str->Option Value}{base:Heap}
abbrev qEt:Stmt:=top 23
theorem scBehind:FnScope ["_law_work_here","_law_box","_law_found","_law_nexts_here","_law_block","_law_turn"] ["_law_work_here","_law_box"] (qA8 qEt):=⟨rfl,rfl,rfl,by decide +kernel,rfl,by decide +kernel,by decide +kernel⟩
theorem qPk{f:Addr}{fd:FuncData}(F:Fun K "_law_behind" "_law_behind" qEt f fd)(nrange:mg "range" = none)(nlen:mg "len" = none)(nlist:mg "list" = none)(nset:mg "set" = none)(nsort:mg "sorted" = none)
  (hEn:Has P w K mg base "_law_ends" 1 ["_law_work_here"] (qKz K)) (hLw:Has P w K mg base "_law_writes" 1 ["_law_work_here","_law_box"] (qD3 K)):FnOk P w K mg base CX0 2 f fd ["_law_work_here","_law_box"] (qI7 K):=by
 refine F.ok scBehind (λvs H Q E h=>?_) (λcdv A outer s H vs Q E hr h=>?_)
 ·obtain⟨wa,wk,m,works,x,rfl,_⟩:=h;rfl
 ·obtain⟨wa,wk,m,works,x,rfl,hW,hOk,hm,q⟩:=h
  refine⟨_,qA7 (qJg (qBc (qA0 (qB0 qA3) (qA0 (qAq hEn hr (by decide) (qA0 (pv 0) qA3)) qA3))) (qFa (n:=2) rfl (qAj (qAb (i:=2) scBehind.nd rfl (Or.inr rfl)) (qAj (qAb (i:=3) scBehind.nd rfl (Or.inl rfl)) qBy))))
   (qA7 (qCb bX rfl (qAy (qAq hLw hr (by decide) (qA0 (pv 0) (qA0 (pv 1) qA3)))) (qAb (i:=4) scBehind.nd rfl (Or.inl rfl))
    (qA9 (qAo (i:=2) scBehind.nd rfl (Or.inr rfl) (qAv qGg (pv 2) (qAu qAr (pv 3) (pv 4) (λ_ _=>rfl))))))
   (qA7 (qCb bX rfl (qBr rfl nrange (qA0 (qAe qAh (by rfl) nlen cD (qA0 (pv 0) qA3)) qA3)) (qAb (i:=5) scBehind.nd rfl (Or.inl rfl))
    (qA9 (qCb bX rfl (qAy (qB5 qFe (by rfl) nlist gK (qA0 (pv 2) qA3))) (qAb (i:=4) scBehind.nd rfl (Or.inl rfl))
     (qA9 (qAo (i:=2) scBehind.nd rfl (Or.inr rfl) (qAv qGg (pv 2) (qCl ["_law_to"] [2] rfl (.of rfl) (qAy (qAu qAr (pv 3) (pv 4) (λ_ _=>rfl))) (λ_ _ _ _=>qAb (i:=0) (by show ((["_law_to","_law_found"]:List Str)).Nodup;decide) rfl (Or.inl rfl)) (λ_ _ _ _ =>.cons (qAd (qXg K rfl) (pv 0) (pv 1) rfl) .nil) (λ_ _ _ _=>pv 0))))))))
   (qA9 (qAt (qAe (qF0 hr.hd) (by rfl) nsort cN (qA0 (qB5 (qGu hr.hd) (by rfl) nset PyProof.Rows.boot_set (qA0 (pv 2) qA3)) qA3)))))),?_⟩
  dsimp only [qBx,qBi];obtain⟨a',vs,ea,hSq,hDL⟩:=hW.ofList;cases ea;have hvl:vs.length=wk.length:=by rw [hDL.len,aB]
  have hwm:=hOk.len;have few:∀y,(nxt wk y).length<=2:=λy=>(qHl hOk y).few;have hss:(qBz wk x).length<=24:=by
   have h1:=qIo (nxt wk) few (wrTo wk x wk.length);have h2:=qE7 wk x wk.length;unfold qBz;lia
  have hrg:∀y,(∃s∈qBz wk x,Reach (nxt wk) s y)->0<=y/\y<(wk.length:Int):=by
   rintro y ⟨s,hs,r⟩;obtain⟨z,_,hz⟩:=dH.mp hs;have h1:=(qHl hOk z).range s hz;have:=r.range hOk ⟨by lia,h1.2⟩;lia
  walk_at "rd";refine⟨len2 (aU _),λp1 hp1=>?_⟩;have e0:Ext [] H (upd H p1 (.lst [])) :=.laid hp1;have hp10:upd H p1 (.lst []) p1=some (.lst []):=qA1;generalize upd H p1 (.lst [])=H0 at e0 hp10 ⊢;walk_at "rd";refine⟨wa,wk,rfl,hW.mono e0.toSame,λb hb=>(hOk.blk b hb).ns.few,by lia,λn us H1 hn e1 hn1 hN1=>?_⟩;walk_at "rd";refine⟨len2 (by show 2<=1000;decide),λp3 hp3=>?_⟩;have e2:Ext [] H1 (upd H1 p3 (.tup [.ref p1,.ref n])) :=.laid hp3;have hp32:SqT K (upd H1 p3 (.tup [.ref p1,.ref n])) p3 [.ref p1,.ref n]:=SqT.of qA1;generalize upd H1 p3 (.tup [.ref p1,.ref n])=H2 at e2 hp32 ⊢;refine qCk hp32 rfl ?_;have hn2:=e2 _ _ (by simp) hn1;have hN2:NsAt n H2 us (wk.map Blk.ns):=hN1.mono (e2.mono (by simp))
  have E2:Ext [] H H2:=e0.trans (e1.trans e2);have hp12:=(e1.trans e2) _ _ (by simp) hp10;walk_at "rd";refine⟨wa,wk,m,works,x,rfl,hW.mono E2.toSame,hOk,hm,λlw H3 hlw e3 hlw3=>?_⟩;walk_at "rd";have hwl:=qE7 wk x wk.length;refine⟨lw,rfl,⟨_,SqL.of hlw3⟩,qCp (xs:=(wrTo wk x wk.length).map V.int) (λi σ' G => ∃(pf:Addr) (o4 o5:Option V),σ' = [some (.ref wa),some (.int x),some (.ref pf),some (.ref n),o4,o5]/\Ext [] H3 G/\G pf=some (.lst ((((wrTo wk x wk.length).take i).flatMap (nxt wk)).map V.int))) ?_ ?_ ?_ ?_⟩
  ·exact⟨p1,_,_,rfl,.refl _ _,e3 _ _ (by simp) hp12⟩
  ·rintro i σ' G hi ⟨pf,o4,o5,rfl,eG,hpf⟩;exact SqL.of (eG _ _ (by simp) hlw3)
  ·rintro i v σ' G hv ⟨pf,o4,o5,rfl,eG,hpf⟩ N_ B_ C_ R_ hN_ hC_ hR_;obtain⟨y,hy,rfl⟩:=qB1 hv;obtain⟨k,rfl,hk,hkw⟩:=mem_wrTo.mp (aO hy);have EG:=e3.trans eG;obtain⟨c,hat,hc⟩:=(hN2.mono (EG.mono (by simp))).get (x:=(k:Int)) (by lia) (by lia);have hll:=qIo (nxt wk) few ((wrTo wk x wk.length).take i);have hn2':=few (k:Int);rw [aV] at hll;walk_at "rd";refine qC2 (SqL.of (EG _ _ (by simp) hn2)) hat ?_;refine⟨pf,c,_,_,rfl,rfl,hpf,hc,len2 (by rw [aB,aB];lia),λf1 hf1=>?_⟩;walk_at "rd";refine⟨f1,_,_,rfl,eG.trans (.laid hf1),?_⟩;rw [qA1,qAw hy,List.flatMap_append,aN];simp
  ·rintro σ' G ⟨pf,o4,o5,rfl,eG,hpf⟩;rw [aB,bE] at hpf;have EG:=e3.trans eG;have hpf:G pf=some (.lst ((qBz wk x).map V.int)):=hpf;walk_at "rd";refine⟨wa,vs,rfl,.inl ((E2.trans EG).toSame.seq hSq),?_⟩;rw [hvl];walk_at "rd";refine⟨_,rfl,by lia,by lia,qCo (lo:=0) (n:=(wk.length:Int).toNat) (λt σ' G1 => ∃(pf:Addr) (Fs:List Int) (o4 o5:Option V),σ' = [some (.ref wa),some (.int x),some (.ref pf),some (.ref n),o4,o5]/\Ext [] G G1/\G1 pf=some (.lst (Fs.map V.int))/\BehI (nxt wk) (qBz wk x) wk.length Fs/\Lays (nxt wk) (qBz wk x) t Fs) ?_ ?_ ?_⟩
   ·exact⟨pf,_,_,_,rfl,.refl _ _,hpf,.start _ _ _,.zero λ_ h=>h⟩
   ·rintro t σ' G1 ht ⟨pf,Fs,o4,o5,rfl,e4,hpf1,hI,hL⟩ N_ B_ C_ R_ hN_ hC_ hR_;walk_at "rd";refine⟨pf,_,rfl,.inl (SqL.of hpf1),λls hls=>?_⟩;have e5:Ext [] G1 (upd G1 ls (.lst (Fs.map V.int))) :=.laid hls;have hls2:upd G1 ls (.lst (Fs.map V.int)) ls=some (.lst (Fs.map V.int)):=qA1;have hpf2:=e5 _ _ (by simp) hpf1;generalize upd G1 ls (.lst (Fs.map V.int))=G2 at e5 hls2 hpf2 ⊢;refine⟨ls,rfl,⟨_,SqL.of hls2⟩,qCp (xs:=Fs.map V.int) (λi σ' G3 => ∃(pf:Addr) (Fs':List Int) (o4:Option V),σ' = [some (.ref wa),some (.int x),some (.ref pf),some (.ref n),o4,some (.int (0+t))]/\Ext [] G2 G3/\G3 pf=some (.lst (Fs'.map V.int))/\BehI (nxt wk) (qBz wk x) wk.length Fs'/\(∀y∈Fs,y∈Fs') /\ ∀b∈Fs.take i,∀c∈nxt wk b,c∈Fs') ?_ ?_ ?_ ?_⟩
    ·exact⟨pf,Fs,_,rfl,.refl _ _,hpf2,hI,λ_ h=>h,λb hb=>absurd hb (by simp)⟩
    ·rintro i σ' G3 hi ⟨pf,Fs',o4,rfl,e6,hpf3,hI3,hsub,hcl⟩;exact SqL.of (e6 _ _ (by simp) hls2)
    ·rintro i v σ' G3 hv ⟨pf,Fs',o4,rfl,e6,hpf3,hI3,hsub,hcl⟩ N_ B_ C_ R_ hN_ hC_ hR_;obtain⟨y,hy,rfl⟩:=qB1 hv;have hyF:=aO hy;obtain⟨y0,y1⟩:=hrg y (hI.rk y hyF);have E3:=EG.trans (e4.trans (e5.trans e6));obtain⟨c,hat,hc⟩:=(hN2.mono (E3.mono (by simp))).get (x:=y) y0 y1;have hFl:=hI3.len;have hcn:=qKc (λx=>decide (x∈Fs')) wk.length;have hf:=few y;walk_at "rd";refine qC2 (SqL.of (E3 _ _ (by simp) hn2)) hat ?_;refine⟨c,rfl,⟨_,SqL.of hc⟩,λlc hlc=>?_⟩;refine qAp (xs:=(nxt wk y).map V.int) (λk σ' H3 => ∃(o0:Option V),σ' = [o0,some (.ref pf)]/\Ext [lc] G3 H3/\H3 lc=some (.lst ((((nxt wk y).take k).filter λx => !decide (x∈Fs')).map V.int))) ?_ ?_ ?_ ?_
     ·exact⟨none,rfl,.laid hlc,qA1⟩
     ·rintro k σ' H3 hk ⟨o0,rfl,e7,h3⟩;exact SqL.of ((e7.drop hlc) _ _ (by simp) hc)
     ·rintro k v σ' H3 R hv ⟨o0,rfl,e7,h3⟩ hR;obtain⟨z,hz,rfl⟩:=qB1 hv;have hk:k<(nxt wk y).length:=(aI.mp hz).1;walk_at "rd";refine qWj (SqL.of ((e7.drop hlc) _ _ (by simp) hpf3)) ?_;walk_at "rd";by_cases g2:z∈Fs'
      ·rw [decide_eq_true g2];refine iteF (iteF (hR _ _ ⟨_,rfl,e7,?_⟩));rw [qAw hz,cR];simpa [g2] using h3
      ·rw [decide_eq_false g2];refine iteT (iteT ?_);walk_at "rd";have hl3:((((nxt wk y).take k).filter λx => !decide (x∈Fs')).map V.int).length<=2:=by
        rw [aB];refine cA (bS _ _) ?_;rw [aV];lia
       refine⟨_,h3,qAc (by lia),hR _ _ ⟨_,rfl,e7.trans (.put (by simp)),?_⟩⟩;rw [qAw hz,cR,qA1];simp [g2]
     ·rintro σ' H3 ⟨o0,rfl,e7,h3⟩;rw [aB,bE] at h3;have e7':=e7.drop hlc;have hfl:=bS (λx => !decide (x∈Fs')) (nxt wk y);refine⟨pf,lc,_,_,rfl,rfl,e7' _ _ (by simp) hpf3,h3,len2 (by rw [aB,aB];lia),λf1 hf1=>?_⟩;walk_at "rd";refine⟨f1,grow (nxt wk) Fs' y,_,rfl,e6.trans (e7'.trans (.laid hf1)),?_,hI3.grow (hsub y hyF) few hrg,λz hz=>mem_grow.mpr (.inl (hsub z hz)),λb hb c hc=>?_⟩
      ·rw [qA1];unfold grow;rw [aN]
      ·rw [qAw hy] at hb;rcases aM.mp hb with z | z
       ·exact mem_grow.mpr (.inl (hcl b z c hc))
       ·rw [aQ.mp z] at hc;exact mem_grow.mpr (.inr hc)
    ·rintro σ' G3 ⟨pf,Fs',o4,rfl,e6,hpf3,hI3,hsub,hcl⟩;rw [aB,bE] at hcl;walk_at "rd";exact⟨pf,Fs',_,_,rfl,e4.trans (e5.trans e6),hpf3,hI3,hL.succ hsub hcl⟩
   ·rintro σ' G1 ⟨pf,Fs,o4,o5,rfl,e4,hpf1,hI,hL⟩;rw [cL] at hL;have hFl:=hI.len;have hcn:=qKc (λx=>decide (x∈Fs)) wk.length;have hal:=qDr Fs;walk_at "rd";refine⟨pf,Fs,rfl,SqL.of hpf1,by lia,λls hls=>?_⟩;walk_at "rd";refine⟨ls,qBo Fs,rfl,qA1,by lia,λlx ns hlx hp hso=>?_⟩;have EF:Ext [] H (upd G1 ls (setO w (qBo Fs))):=(E2.trans (EG.trans e4)).trans (.laid hls);exact q lx ns _ (EF.none (by simp) hlx) (EF.trans (.laid hlx)) qA1 hso (hp.symm.nodup (qDe Fs)) λy=>by rw [hp.mem_iff,qEw,hL.all hI hrg]
end
section
variable{P:Program}{w:World}{K:PySem.W.Frag}{mg:Str->Option Value}{base:Heap}
abbrev qHc:Stmt:=top 24
theorem scLBusy:FnScope ["_law_works_here","_law_number_here","_law_box","_law_work_here","_law_both"] ["_law_works_here","_law_number_here","_law_box"] (qA8 qHc):=⟨rfl,rfl,rfl,by decide +kernel,rfl,by decide +kernel,by decide +kernel⟩
theorem qS8{f:Addr}{fd:FuncData}(F:Fun K "_law_busy" "_law_busy" qHc f fd)(nsort:mg "sorted" = none)(nset:mg "set" = none)(hB:Has P w K mg base "_law_behind" 2 ["_law_work_here","_law_box"] (qI7 K))(hA:Has P w K mg base "_law_is_asked" 2 ["_law_works_here","_law_number_here","_law_block","_law_box"] (qG3 K))(hWr:Has P w K mg base "_law_writes" 1 ["_law_work_here","_law_box"] (qD3 K)):FnOk P w K mg base CX0 3 f fd ["_law_works_here","_law_number_here","_law_box"] (qOk K):=by
 refine F.ok scLBusy (λvs H Q E h=>?_) (λcdv A outer s H vs Q E hr h=>?_)
 ·obtain⟨wa,ws,n,wk,x,rfl,_⟩:=h;rfl
 ·obtain⟨wa,ws,n,wk,x,rfl,hW,hok,hwk,q⟩:=h
  refine⟨_,qA7 (qAo (i:=3) scLBusy.nd rfl (Or.inl rfl) (qAu qAr (pv 0) (pv 1) (λ_ _=>rfl)))
   (qA7 (qRv (i:=4) ["_law_b"] [0,1,2] rfl (.of rfl) scLBusy.nd rfl (Or.inl rfl) (qAy (qAq hB hr (by decide) (qA0 (pv 3) (qA0 (pv 2) qA3)))) (λ_ _ _ _=>qAb (i:=0) (by show ((["_law_b","_law_works_here","_law_number_here","_law_box"]:List Str)).Nodup;decide) rfl (Or.inl rfl)) (λ_ _ _ _ =>.cons (qCa K rfl (qAq hA hr (by decide) (qA0 (pv 1) (qA0 (pv 2) (qA0 (pv 0) (qA0 (pv 3) qA3))))) (λ_=>rfl)) .nil) (λ_ _ _ _=>pv 0))
   (qA9 (qAt (qAe (qF0 hr.hd) (by rfl) nsort cN (qA0 (qB5 (qGu hr.hd) (by rfl) nset PyProof.Rows.boot_set (qA0 (qAv qGg (qAq hWr hr (by decide) (qA0 (pv 3) (qA0 (pv 2) qA3))) (pv 4)) qA3)) qA3))))),?_⟩
  dsimp only [qBx,qBi,qIh,qSz];obtain⟨a',vs,ea,hSq,hDL⟩:=hW.ofList;cases ea;obtain⟨vw,hvw,hDw⟩:=hDL.get' (i:=n) (d:=workD wk) (by rw [aW,hwk];rfl);obtain⟨wb,bs,rfl,hbs,hdbs⟩:=hDw.ofList;obtain⟨m,hm1,hm2,hWk⟩:=hok.all wk (aO hwk);have hwm:=hWk.len;have hDw:Den K H (workD wk) (.ref wb) :=.list hbs hdbs;walk_at "rd";refine qC2 hSq (qBa hvw) ?_;walk_at "rd";refine⟨wb,wk,m,_,x,rfl,hDw,hWk,hm2,λlr ns H2 hlr e2 hlr2 hp hd hy=>?_⟩;have hrg:∀y∈ns,0<=y/\y<m:=λy hy'=>qF4 hWk ((hy y).mp hy');have hnl:=qFp hp hd hrg;walk_at "rd";refine⟨lr,rfl,⟨_,SqL.of hlr2⟩,λlc hlc=>?_⟩;have dW2:=hW.mono e2.toSame;refine qAp (xs:=ns.map V.int) (λj σ' G => ∃(o0:Option V),σ' = [o0,some (.ref wa),some (.int n),some (.int x)]/\Ext [lc] H2 G/\G lc=some (.lst (((ns.take j).filter λy=>decide (y∈waitTo ws x n wk.length)).map V.int))) ?_ ?_ ?_ ?_
  ·exact⟨none,rfl,.laid hlc,qA1⟩
  ·rintro j σ' G hj ⟨o0,rfl,e3,hlc3⟩;exact SqL.of (e3 _ _ (by simpa using qA2 hlr2 hlc) hlr2)
  ·rintro j v σ' G R hv ⟨o0,rfl,e3,hlc3⟩ hR;obtain⟨y,hy',rfl⟩:=qB1 hv;have hjl:j<ns.length:=(aI.mp hy').1;have htk:ns.take (j+1)=ns.take j ++ [y]:=by rw [dB,hy'];rfl
   have hfl:=bS (λy=>decide (y∈waitTo ws x n wk.length)) (ns.take j);rw [aV] at hfl;obtain⟨y0,y1⟩:=hrg y (aO hy');obtain⟨b,rfl⟩:∃b:Nat,y=(b:Int):=⟨y.toNat,by lia⟩;have hbl:b<wk.length:=by lia
   have hpl:((n:Int),(b:Int))∈places ws:=by
    refine mem_places.mpr ?_;rw [qDc,hwk];exact⟨_,aF hbl⟩
   have hiff:((b:Int)∈waitTo ws x n wk.length)↔askB ws x ((n:Int),(b:Int))=true:=by
    rw [qNo];constructor
    ·rintro⟨a,ha,_,h⟩;rw [show b=a by lia];exact h
    ·exact λh=>⟨b,rfl,hbl,h⟩
   walk_at "rd";refine⟨wa,ws,n,b,x,rfl,dW2.mono (e3.drop hlc).toSame,hok,hpl,λG6 e6=>?_⟩;have hlc6:=e6 _ _ (by simp) hlc3;refine⟨askB ws x ((n:Int),(b:Int)),rfl,?_⟩;cases hask:askB ws x ((n:Int),(b:Int)) with
   | true =>
    have hc:=hiff.mpr hask;refine iteT (iteT ?_);walk_at "rd";refine⟨_,hlc6,qAc (by rw [aB];lia),hR _ _ ⟨_,rfl,(e3.trans (e6.mono (by simp))).trans (.put (by simp)),?_⟩⟩;rw [qA1,htk,cR,fL,decide_eq_true hc,if_pos rfl,List.filter_nil,aN];rfl
   | false =>
    have hc : ¬(b:Int)∈waitTo ws x n wk.length:=λz=>by rw [hiff.mp z] at hask;cases hask
    refine iteF (iteF (hR _ _ ⟨_,rfl,e3.trans (e6.mono (by simp)),?_⟩));rw [hlc6,htk,cR,fL,decide_eq_false hc,if_neg aD,List.filter_nil,bW]
  ·rintro σ' G ⟨o0,rfl,e3,hlc3⟩;rw [aB,bE] at hlc3;generalize hF:ns.filter (λy=>decide (y∈waitTo ws x n wk.length))=F at hlc3;have hFm:∀y,y∈F↔y∈ns/\y∈waitTo ws x n wk.length:=λy=>by rw [<-hF,cE,decide_eq_true_eq]
   have hFl:F.length<=ns.length:=by rw [<-hF];exact bS _ _
   have E3:Ext [] H2 G:=e3.drop hlc;have hwl:=qE7 wk x wk.length;walk_at "rd";refine⟨wb,wk,m,_,x,rfl,hDw.mono (e2.trans E3).toSame,hWk,hm2,λlw H4 hlw e4 hlw4=>?_⟩;walk_at "rd";refine⟨lw,lc,_,_,rfl,rfl,hlw4,e4 _ _ (by simp) hlc3,len2 (by rw [aB,aB];lia),λf1 hf1=>?_⟩;rw [<-aN];have X5:Ext [] H4 (upd H4 f1 (.lst ((wrTo wk x wk.length++F).map V.int))) :=.laid hf1;have hf15:(upd H4 f1 (.lst ((wrTo wk x wk.length++F).map V.int))) f1=some (.lst ((wrTo wk x wk.length++F).map V.int)):=qA1;generalize upd H4 f1 (.lst ((wrTo wk x wk.length++F).map V.int))=H5 at X5 hf15 ⊢;walk_at "rd";have hal:=qDr (wrTo wk x wk.length++F);rw [aG] at hal;refine⟨f1,_,rfl,SqL.of hf15,by rw [aG];lia,λs1 hs1=>?_⟩
   walk_at "rd";refine⟨s1,_,rfl,qA1,by lia,λlx nx hlx hpx hso=>?_⟩;have EF:Ext [] H (upd H5 s1 (setO w (qBo (wrTo wk x wk.length++F)))):=(e2.trans (E3.trans (e4.trans X5))).trans (.laid hs1);refine q lx nx _ (EF.none (by simp) hlx) (EF.trans (.laid hlx)) qA1 hso (hpx.symm.nodup (qDe _)) λy=>?_;rw [hpx.mem_iff,qEw,aM,hFm,hy];rfl
end
section
variable{P:Program}{w:World}{K:PySem.W.Frag}{mg:Str->Option Value}{base:Heap}
abbrev qEs:Stmt:=top 25
theorem qRn:FnScope ["_law_work_here"] ["_law_work_here"] (qA8 qEs):=⟨rfl,rfl,rfl,by decide +kernel,rfl,by decide +kernel,by decide +kernel⟩
theorem qPj{f:Addr}{fd:FuncData}(F:Fun K "_law_boxes" "_law_boxes" qEs f fd)(nrange:mg "range" = none)(hWr:Has P w K mg base "_law_writes" 1 ["_law_work_here","_law_box"] (qD3 K)):FnOk P w K mg base CX0 2 f fd ["_law_work_here"] (qI6 K):=by
 refine F.ok qRn (λvs H Q E h=>?_) (λcdv A outer s H vs Q E hr h=>?_)
 ·obtain⟨wa,wk,m,works,rfl,_⟩:=h;rfl
 ·obtain⟨wa,wk,m,works,rfl,hW,hOk,hm,q⟩:=h;refine⟨_,qA9 (qAt (qCl ["_law_box"] [0] rfl (.of rfl) (qBr rfl nrange (qA0 qA6 qA3)) (λ_ _ _ _=>qAb (i:=0) (by show ((["_law_box","_law_work_here"]:List Str)).Nodup;decide) rfl (Or.inl rfl)) (λ_ _ _ _ =>.cons (qAd (neDK K rfl hr) (qAq hWr hr (by decide) (qA0 (pv 1) (qA0 (pv 0) qA3))) (qB0 qA3) (qAf _)) .nil) (λ_ _ _ _=>pv 0))),?_⟩
  try dsimp only [qBx,qBi,qIh,qSz]
  have hwm:=hOk.len;walk_at "rd";refine⟨8,rfl,by decide,by decide,λlc hlc=>?_⟩;refine qDm (lo:=0) (n:=(8:Int).toNat) (λj σ' G => ∃(o0:Option V),σ' = [o0,some (.ref wa)]/\Ext [lc] H G/\G lc=some (.lst ((boxTo wk j).map V.int))) ?_ ?_ ?_
  ·exact⟨none,rfl,.laid hlc,qA1⟩
  ·rintro j σ' G R hj ⟨o0,rfl,e3,hlc3⟩ hR;have hj8:j<8:=hj;have hbl:=qR1 wk j;walk_at "rd";refine⟨wa,wk,m,works,(j:Int),by show [V.ref wa,V.int (0+(j:Int))] = [V.ref wa,V.int (j:Int)];rw [Int.zero_add],hW.mono (e3.drop hlc).toSame,hOk,hm,λlw G4 hlw e4 hlw4=>?_⟩;walk_at "rd";refine⟨len2 (aU _),λle hle=>?_⟩;have X5:Ext [] G4 (upd G4 le (.lst [])) :=.laid hle;have hle5:(upd G4 le (.lst [])) le=some (.lst []):=qA1;generalize upd G4 le (.lst [])=G5 at X5 hle5 ⊢;have hwl:=qE7 wk (j:Int) wk.length;obtain⟨t1,t2,t3⟩:=qEh (ns:=wrTo wk (j:Int) wk.length) (λn hn=>by have:=qH0 hOk hn;lia) (by lia);have tS:=qDz t1 t3 ⟨_,rfl⟩;obtain⟨z1,z2,z3⟩:=qEh (ns :=[]) (λn hn=>by cases hn) (by decide);have zS:=qDz z1 z3 ⟨_,rfl⟩
   refine⟨intsD (wrTo wk (j:Int) wk.length),intsD [],.list (SqL.of (X5 _ _ (by simp) hlw4)) (DenL.ofInts _),.list (SqL.of hle5) (DenL.ofInts _),tS,zS,?_⟩;rw [if_pos rfl];have hev:PyData.eqv (intsD (wrTo wk (j:Int) wk.length)) (intsD [])=decide (wrTo wk (j:Int) wk.length = []):=by
    cases wrTo wk (j:Int) wk.length with
    | nil=>rfl
    | cons a r=>simp [intsD,PyData.eqv,PyData.eqvAll]
   rw [hev];walk_at "rd";have hlc5:=(e4.trans X5) _ _ (by simp) hlc3;by_cases hc:wrTo wk (j:Int) wk.length = []
   ·rw [decide_eq_true hc];refine iteF (iteF (hR _ _ ⟨_,rfl,e3.trans ((e4.trans X5).mono (by simp)),?_⟩));rw [hlc5,qHx,if_pos hc]
   ·rw [decide_eq_false hc];refine iteT (iteT ?_);walk_at "rd";refine⟨_,hlc5,qAc (by rw [aB];lia),hR _ _ ⟨_,rfl,(e3.trans ((e4.trans X5).mono (by simp))).trans (.put (by simp)),?_⟩⟩;rw [qA1,qHx,if_neg hc,aN,Int.zero_add];rfl
  ·rintro σ' G ⟨o0,rfl,e3,hlc3⟩;exact q lc G hlc (e3.drop hlc) hlc3
end
section
variable{P:Program}{w:World}{K:PySem.W.Frag}{mg:Str->Option Value}{base:Heap}
abbrev qHd:Stmt:=top 18
theorem qU6:FnScope ["_law_work_here"] ["_law_work_here"] (qA8 qHd):=⟨rfl,rfl,rfl,by decide +kernel,rfl,by decide +kernel,by decide +kernel⟩
theorem qS9{f:Addr}{fd:FuncData}(F:Fun K "_law_ends" "_law_ends" qHd f fd)(nlist:mg "list" = none):FnOk P w K mg base CX0 1 f fd ["_law_work_here"] (qOj K):=by
 refine F.ok qU6 (λvs H Q E h=>?_) (λcdv A outer s H vs Q E hr h=>?_)
 ·obtain⟨a,w,rfl,_⟩:=h;rfl
 ·obtain⟨a,wk,rfl,hW,hns,hwl,q⟩:=h;have nd2:((["_law_deeds_here","_law_end"]:List Str)).Nodup:=by decide
  refine⟨_,qA9 (qAt (qCl ["_law_deeds_here","_law_end"] [] rfl (.of rfl) (qAy (pv 0)) (λ_ _ _ _=>qEu (n:=2) K rfl rfl (qAj (qAb (i:=0) nd2 rfl (Or.inl rfl)) (qAj (qAb (i:=1) nd2 rfl (Or.inl rfl)) qBy))) (λ_ _ _ _ =>.nil)
   (λ_ _ _ _=>qB5 (qMe K rfl) (by rfl) nlist gK (qA0 (qCe (qOm K rfl) (pv 1) (qD6 qA6) qD7) qA3)))),?_⟩
  dsimp only [qBx,qBi];obtain⟨a',vs,ea,hSq,hDL⟩:=hW.ofList;cases ea;have hvl:vs.length=wk.length:=by rw [hDL.len,aB]
  walk_at "rd";refine⟨a,rfl,⟨vs,hSq⟩,λl hl=>?_⟩;refine qAp (xs:=vs) (λi σ' H' => ∃(ws:List V) (o0 o1:Option V),σ' = [o0,o1]/\Ext [l] H H'/\H' l=some (.lst ws)/\DenL K (yo H [l] H') ((wk.take i).map λb=>intsD b.ns) ws) ?_ ?_ ?_ ?_
  ·exact⟨[],none,none,rfl,.laid hl,qA1,.nil⟩
  ·rintro i σ' H' hi ⟨ws,o0,o1,rfl,e',hl',hden⟩;exact (e'.drop hl).toSame.seq hSq
  ·rintro i x σ' H' R hx ⟨ws,o0,o1,rfl,e',hl',hden⟩ hR;have es:Same H H':=(e'.drop hl).toSame;obtain⟨dd,hdd,hDx⟩:=hDL.get hx;obtain⟨b,hb,rfl⟩:∃b,wk[i]? = some b/\dd=blkD b:=by
    rw [aW] at hdd;cases z:wk[i]? with
    | none=>rw [z] at hdd;cases hdd
    | some n=>rw [z] at hdd;exact⟨n,rfl,(bF hdd).symm⟩
   have hi:i<wk.length:=(aI.mp hb).1;have hb2:=hns b (aO hb);obtain⟨c,us,rfl,hc,hcs⟩:=hDx.ofTuple;obtain⟨v1,r1,rfl,hd1,hr1⟩:=hcs.ofCons;obtain⟨v2,r2,rfl,hd2,hr2⟩:=hr1.ofCons;have hr2:=hr2.ofNil;subst hr2;obtain⟨wd,hwd⟩:=qQe hb2;rw [hwd] at hd2;obtain⟨en,es',rfl,hen,hes⟩:=hd2.ofTuple;obtain⟨v3,r3,rfl,hd3,hr3⟩:=hes.ofCons;have e3:=hd3.ofStr;subst e3;have e4:=hr3.ints;subst e4;refine qCk (es.seqT hc) rfl ?_;walk_at "rd";refine iteT ?_;walk_at "rd";refine⟨1,rfl,?_⟩;walk_at "rd";refine⟨en,_,rfl,es.seqT hen,?_,λp hp=>?_⟩
   ·intro h;have:=h.1;revert this;have hn:(V.str wd::b.ns.map V.int).length=b.ns.length+1:=by simp
    rw [hn];unfold HT.sIx;simp
    try lia
   have hcut:cutV (V.str wd::b.ns.map V.int) (some 1) none=b.ns.map V.int:=by
    match hh:b.ns,hb2 with
    | [],_=>rfl
    | [x],_=>rfl
    | [x,y],_=>rfl
   rw [hcut];have npl:p≠l:=(qA2 hl' hp).symm;walk_at "rd";refine⟨p,_,rfl,.inr (SqT.of qA1),λl2 hl2=>?_⟩;have l':upd H' p (.tup (b.ns.map V.int)) l=some (.lst ws):=by rw [qA4 npl.symm];exact hl'
   have n2:l2≠l:=(qA2 l' hl2).symm;have hwsl:ws.length=i:=by rw [hden.len,aB,aV];lia
   refine⟨ws,by rw [qA4 n2.symm];exact l',qAc (by lia),hR _ _ ⟨ws ++ [.ref l2],_,_,rfl,?_,qA1,?_⟩⟩
   ·exact e'.trans ((Ext.laid hp).trans ((Ext.laid hl2).trans (.put (by simp))))
   ·have ht:wk.take (i+1)=wk.take i ++ [b]:=by rw [dB,hb];rfl
    have E2:Ext [l] H' (upd (upd (upd H' p (.tup (b.ns.map V.int))) l2 (.lst (b.ns.map V.int))) l (.lst (ws ++ [.ref l2]))):=(Ext.laid hp).trans ((Ext.laid hl2).trans (.put (by simp)));rw [ht,aN];refine DenL.append (hden.mono E2.young) (.cons (.list (SqL.of ?_) (DenL.ofInts b.ns)) .nil);rw [qAz ((e'.trans (.laid hp)).none (by simpa using n2) hl2) (by simpa using n2),qA4 n2,qA1]
  ·rintro σ' H' ⟨ws,o0,o1,rfl,e',hl',hden⟩;rw [hvl,bE] at hden;refine q l H' hl (e'.drop hl) (.list (SqL.of ?_) (hden.mono (qHy (by simp))));rw [qAz hl (by simp)];exact hl'
end
section
variable{P:Program}{w:World}{K:PySem.W.Frag}{mg:Str->Option Value}{base:Heap}
abbrev sWays:Stmt:=top 19
theorem scWays:FnScope ["_law_work_here","_law_found","_law_block","_law_there"] ["_law_work_here"] (qA8 sWays):=⟨rfl,rfl,rfl,by decide +kernel,rfl,by decide +kernel,by decide +kernel⟩
theorem qUu{f:Addr}{fd:FuncData}(F:Fun K "_law_ways" "_law_ways" sWays f fd)(nenum:mg "enumerate" = none)(nlen:mg "len" = none)(nint:mg "int" = none)(nsort:mg "sorted" = none)
  (hE:Has P w K mg base "_law_ends" 1 ["_law_work_here"] (qOj K)):FnOk P w K mg base CX0 2 f fd ["_law_work_here"] (qJ5 K):=by
 refine F.ok scWays (λvs H Q E h=>?_) (λcdv A outer s H vs Q E hr h=>?_)
 ·obtain⟨a,w,m,works,rfl,_⟩:=h;rfl
 ·obtain⟨a,wk,m,works,rfl,hW,hOk,hm,q⟩:=h
  refine⟨_,qA7 (qAo (i:=1) scWays.nd rfl (Or.inl rfl) (qB0 (qA0 (qBc (qA0 (qRy qLp qA6) (qA0 qA6 qA3))) qA3)))
   (qA7 (qCb bX rfl (qL8 rfl nenum (qA0 (qAq hE hr (by decide) (qA0 (pv 0) qA3)) qA3)) (qFa (n:=2) rfl (qAj (qAb (i:=2) scWays.nd rfl (Or.inr rfl)) (qAj (qAb (i:=3) scWays.nd rfl (Or.inl rfl)) qBy)))
    (qA9 (qAo (i:=1) scWays.nd rfl (Or.inl rfl) (qAv qGg (qAv qGg (pv 1)
     (qCl ["_law_to"] [2] rfl (.of rfl) (qAy (qAe qNw (by rfl) nsort cN (qA0 (pv 3) qA3))) (λ_ _ _ _=>qAb (i:=0) (by show ((["_law_to","_law_block"]:List Str)).Nodup;decide) rfl (Or.inl rfl)) (λ_ _ _ _ =>.nil) (λ_ _ _ _=>qBc (qA0 (pv 1) (qA0 (pv 0) qA3)))))
     (qAv qXc (qB0 (qA0 (qBc (qA0 (pv 2) (qA0 (qAe qAh (by rfl) nlen cD (qA0 (pv 0) qA3)) qA3))) qA3)) (qB5 qCq (by rfl) nint eU (qA0 (qBk (qPd hr) (pv 3) (qB0 qA3) (qAf _)) qA3)))))))
   (qA9 (qAt (pv 1)))),?_⟩
  dsimp only [qBx,qBi];obtain⟨a',vs,ea,hSq,hDL⟩:=hW.ofList;cases ea;have hvl:vs.length=wk.length:=by rw [hDL.len,aB]
  have hwm:=hOk.len;have hns:∀b∈wk,b.ns.length<=2:=λb hb=>(hOk.blk b hb).ns.few;walk_at "rd";refine⟨len2 (by show 2<=1000;decide),λp0 hp0=>?_⟩;walk_at "rd";refine⟨len2 (by show 1<=1000;decide),λl0 hl0=>?_⟩;have E0:=(Ext.laid (ts :=[]) (o :=.tup [V.int (-1),.int 0]) hp0).trans (.laid (o :=.lst [V.ref p0]) hl0);have n0:p0≠l0:=qA2 qA1 hl0;walk_at "rd";refine⟨a,wk,rfl,hW.mono E0.toSame,hns,by lia,λle H1 hle e1 hDe=>?_⟩;obtain⟨le',us,ea,hSe,hDu⟩:=hDe.ofList;cases ea;have hul:us.length=wk.length:=by rw [hDu.len,aB]
  refine⟨le,rfl,⟨us,yo_same.seq hSe⟩,qIn (xs:=us) (λi σ' H' => ∃(fl:Addr) (fs:List V) (o2 o3:Option V),σ' = [some (.ref a),some (.ref fl),o2,o3]/\Ext [] H1 H'/\H fl=none/\H' fl=some (.lst fs)/\DenL K (yo H [] H') ((qAa wk i).map pairD) fs) ?_ ?_ ?_ ?_⟩
  ·refine⟨l0,[.ref p0],none,none,rfl,.refl _ _,by rw [qA4 n0.symm] at hl0;exact hl0,e1 _ _ (by simp) qA1,.cons (.tuple (SqT.of ?_) (.cons .int (.cons .int .nil))) .nil⟩;rw [qAz hp0 (by simp)];exact e1 _ _ (by simp) (by rw [qA4 n0,qA1])
  ·rintro i σ' H' hi ⟨fl,fs,o2,o3,rfl,e',hfl0,hfl,hden⟩;exact e'.toSame.seq (yo_same.seq hSe)
  ·rintro i x σ' H' pt hx ⟨fl,fs,o2,o3,rfl,e',hfl0,hfl,hden⟩ hpt;obtain⟨dd,hdd,hDx⟩:=hDu.get hx;obtain⟨b,hb,rfl⟩:∃b,wk[i]? = some b/\dd=intsD b.ns:=by
    rw [aW] at hdd;cases z:wk[i]? with
    | none=>rw [z] at hdd;cases hdd
    | some n=>rw [z] at hdd;exact⟨n,rfl,(bF hdd).symm⟩
   have hi:i<wk.length:=(aI.mp hb).1;have hok:=(hOk.blk b (aO hb)).ns;obtain⟨c,zs,rfl,hc,hcs⟩:=hDx.ofList;have hzs:=hcs.ints;subst hzs;have e2:Ext [] H1 (upd H' pt (.tup [.int i,.ref c])):=e'.trans (.laid hpt);have EH:Ext [] H (upd H' pt (.tup [.int i,.ref c])):=E0.trans (e1.trans e2);have den2:=hden.mono (Ext.young (H0:=H) (Ext.laid (ts :=[]) (o :=.tup [.int i,.ref c]) hpt));have hfl2:=Ext.laid (ts :=[]) (o :=.tup [.int i,.ref c]) hpt _ _ (by simp) hfl;generalize hH2:upd H' pt (.tup [.int i,.ref c])=H2 at *;have hptT:SqT K H2 pt [.int i,.ref c]:=SqT.of (by rw [<-hH2,qA1]);have hc2:SqL K H2 c (b.ns.map V.int):=e2.toSame.seq (yo_same.seq hc);refine qCk hptT rfl ?_
   walk_at "rd";refine⟨c,b.ns,rfl,hc2,by have:=hok.few;lia,λls ns' hls hpm hsd=>?_⟩;have hsr:=qW2 hok hpm hsd;subst hsr;refine⟨ls,rfl,⟨_,SqL.of qA1⟩,λlc hlc=>?_⟩;have nsc:ls≠lc:=qA2 qA1 hlc;generalize hH3:upd H2 ls (.lst ((srt b.ns).map V.int))=H3 at *;have e3:Ext [] H2 H3:=by rw [<-hH3];exact .laid hls
   have h3s:H3 ls=some (.lst ((srt b.ns).map V.int)):=by rw [<-hH3,qA1]
   have hsl:(srt b.ns).length<=2:=by rw [qOe];exact hok.few
   have hlcH:H lc=none:=(EH.trans e3).none (by simp) hlc;refine qAp (xs:=(srt b.ns).map V.int) (λj σ' H' => ∃(o0:Option V) (ws:List V),σ' = [o0,some (.int i)]/\Ext [lc] H3 H'/\H' lc=some (.lst ws)/\DenL K (yo H [lc] H') (((srt b.ns).take j).map λx=>pairD ((i:Int),x)) ws) ?_ ?_ ?_ ?_
   ·exact⟨none,[],rfl,.laid hlc,qA1,.nil⟩
   ·rintro j σ' H' hj ⟨o0,ws,rfl,e4,hws,hden4⟩;exact SqL.of (e4 _ _ (by simpa using nsc) h3s)
   ·rintro j x σ' H' R hx ⟨o0,ws,rfl,e4,hws,hden4⟩ hR;obtain⟨y,hy,rfl⟩:∃y,(srt b.ns)[j]? = some y/\x=V.int y:=by
     rw [aW] at hx;cases z:(srt b.ns)[j]? with
     | none=>rw [z] at hx;cases hx
     | some n=>rw [z] at hx;exact⟨n,rfl,(bF hx).symm⟩
    have hj:j<(srt b.ns).length:=(aI.mp hy).1;walk_at "rd";refine iteT ?_;walk_at "rd";refine⟨len2 (by show 2<=1000;decide),λp hp=>?_⟩;have npl:p≠lc:=(qA2 hws hp).symm;have hwl:ws.length=j:=by rw [hden4.len,aB,aV];lia
    refine⟨ws,by rw [qA4 npl.symm];exact hws,qAc (by lia),hR _ _ ⟨_,ws ++ [.ref p],rfl,?_,qA1,?_⟩⟩
    ·exact e4.trans ((Ext.laid hp).trans (.put (by simp)))
    ·have ht:(srt b.ns).take (j+1)=(srt b.ns).take j ++ [y]:=by rw [dB,hy];rfl
     rw [ht,aN];refine DenL.append (hden4.mono ((Ext.laid hp).trans (.put (by simp))).young) (.cons (.tuple (SqT.of ?_) (.cons .int (.cons .int .nil))) .nil);rw [qAz (((EH.trans e3).mono (us :=[lc]) (by simp)).trans e4 |>.none (by simpa using npl) hp) (by simpa using npl),qA4 npl,qA1]
   ·rintro σ' H4 ⟨o0,ws,rfl,e4,hws,hden4⟩;rw [aB,bE] at hden4;have e24:Ext [] H2 H4:=(e3.trans (e4.drop hlc));have hfl4:=e24 _ _ (by simp) hfl2;have hfsl:fs.length<=1+2*i:=by rw [den2.len,aB];exact qBe hns i
    have hwsl:ws.length<=2:=by rw [hden4.len,aB];exact hsl
    refine⟨fl,lc,fs,ws,rfl,rfl,hfl4,hws,len2 (by lia),λf1 hf1=>?_⟩;have e5:Ext [] H2 (upd H4 f1 (.lst (fs++ws))):=e24.trans (.laid hf1);have den5:DenL K (yo H [] (upd H4 f1 (.lst (fs++ws)))) ((qAa wk i).map pairD++(srt b.ns).map (λx=>pairD ((i:Int),x))) (fs++ws) :=
     DenL.append (den2.mono e5.young) ((hden4.mono (qHy (by simp))).mono (Ext.laid hf1).young)
    have h5:upd H4 f1 (.lst (fs++ws)) f1=some (.lst (fs++ws)):=qA1;generalize upd H4 f1 (.lst (fs++ws))=H5 at *;walk_at "rd";refine⟨a,vs,rfl,.inl ((EH.trans e5).toSame.seq hSq),?_⟩;rw [hvl];walk_at "rd";refine⟨len2 (by show 2<=1000;decide),λpm hpm=>?_⟩;walk_at "rd";refine⟨len2 (by show 1<=1000;decide),λlm hlm=>?_⟩;have e6:Ext [] H5 (upd (upd H5 pm (.tup [.int i,.int wk.length])) lm (.lst [.ref pm])):=(Ext.laid hpm).trans (.laid hlm);have npm:pm≠lm:=qA2 qA1 hlm;have h6:upd (upd H5 pm (.tup [.int i,.int wk.length])) lm (.lst [.ref pm]) lm=some (.lst [.ref pm]):=qA1
    have hpm6:SqT K (yo H [] (upd (upd H5 pm (.tup [.int i,.int wk.length])) lm (.lst [.ref pm]))) pm [.int i,.int wk.length]:=SqT.of (by
     rw [qAz ((EH.trans e5).none (by simp) hpm) (by simp),qA4 npm,qA1])
    generalize upd (upd H5 pm (.tup [.int i,.int wk.length])) lm (.lst [.ref pm])=H6 at *;walk_at "rd";refine⟨len2 (aU _),λe0 he0=>?_⟩;have e7:Ext [] H6 (upd H6 e0 (.lst [])) :=.laid he0;refine⟨intsD b.ns,.list [],.list ((e5.trans (e6.trans e7)).toSame.seq hc2) (DenL.ofInts b.ns),.list (SqL.of qA1) .nil,qOn hok,rfl,?_⟩;rw [qFc];have h7:=e7 _ _ (by simp) h6;have hpm7:=e7.young.seqT hpm6;have f7:=(e6.trans e7) _ _ (by simp) h5;have den7:=den5.mono (e6.trans e7).young;have e57:=e6.trans e7;generalize upd H6 e0 (.lst [])=H7 at *;walk_at "rd";refine .inr ⟨_,rfl,?_⟩;have hwt:(qAa wk (i+1)).map pairD=(qAa wk i).map pairD++(srt b.ns).map (λx=>pairD ((i:Int),x))++(if b.ns = [] then [pairD ((i:Int),(wk.length:Int))] else []):=by
     show (qAa wk i++outs wk.length i ((wk[i]?.map Blk.ns).getD [])).map pairD=_;rw [hb];show (qAa wk i++outs wk.length i b.ns).map pairD=_;unfold outs;rw [aN,aN,cU,bU]
     congr 2
     split <;> rfl
    have key:∀(rs:List V),DenL K (yo H [] H7) (if b.ns = [] then [pairD ((i:Int),(wk.length:Int))] else []) rs->rs.length<=1 -> ∀lr,H7 lr=none -> ∀f2,upd H7 lr (.lst rs) f2=none ->
      DenL K (yo H [] (upd (upd H7 lr (.lst rs)) f2 (.lst (fs++ws++rs)))) ((qAa wk (i+1)).map pairD) (fs++ws++rs):=by
     intro rs hrs hrl lr hlr f2 hf2;rw [hwt];exact DenL.append (den7.mono ((Ext.laid hlr).trans (.laid hf2)).young) (hrs.mono ((Ext.laid hlr).trans (.laid hf2)).young)
    have fin:∀(k:Int) (rs:List V),(k=0\/k=1)->(List.replicate k.toNat [V.ref pm]).flatten=rs->DenL K (yo H [] H7) (if b.ns = [] then [pairD ((i:Int),(wk.length:Int))] else []) rs -> ∀Q:VK,(∀f2 H8,Ext [] H2 H8->H f2=none->H8 f2=some (.lst (fs++ws++rs))->DenL K (yo H [] H8) ((qAa wk (i+1)).map pairD) (fs++ws++rs)->Q (.ref f2) H8) ->
      rRep (.ref lm) (.int k) H7 (λy H2=>rCat (.ref f1) y H2 Q):=by
     intro k rs hk hrs hden Q hQ;have hrl:rs.length<=1:=by rw [<-hrs];rcases hk with h | h <;> subst h <;> first | exact aU _ | exact aE _
     refine⟨lm,k,[.ref pm],rfl,rfl,h7,by lia,by lia,len2 (by rcases hk with h | h <;> subst h <;> first | (show 1*0<=1000;decide) | (show 1*1<=1000;decide)),λlr hlr=>?_⟩;rw [hrs];refine⟨f1,lr,fs++ws,rs,rfl,rfl,Ext.laid (ts :=[]) hlr _ _ (by simp) f7,qA1,len2 (by rw [aG];lia),λf2 hf2=>?_⟩;refine hQ f2 _ (e5.trans (e57.trans ((Ext.laid hlr).trans (.laid hf2)))) ?_ qA1 (key rs hden hrl lr hlr f2 hf2);exact (EH.trans (e5.trans (e57.trans (.laid hlr)))).none (by simp) hf2
    by_cases hb0:b.ns = []
    ·rw [decide_eq_true hb0];rw [if_pos hb0] at fin;refine fin 1 [.ref pm] (.inr rfl) rfl (.cons (.tuple hpm7 (.cons .int (.cons .int .nil))) .nil) _ λf2 H8 e8 h0 h8 d8=>?_;exact⟨f2,_,_,_,rfl,e2.trans e8,h0,h8,d8⟩
    ·rw [decide_eq_false hb0];rw [if_neg hb0] at fin;refine fin 0 [] (.inl rfl) rfl .nil _ λf2 H8 e8 h0 h8 d8=>?_;exact⟨f2,_,_,_,rfl,e2.trans e8,h0,h8,d8⟩
  ·rintro σ' H' ⟨fl,fs,o2,o3,rfl,e',hfl0,hfl,hden⟩;rw [hul] at hden;walk_at "rd";refine q fl H' hfl0 (E0.trans (e1.trans e')) (.list (SqL.of ?_) hden);rw [qAz hfl0 (by simp)];exact hfl
end
section
variable{P:Program}{w:World}{K:PySem.W.Frag}{mg:Str->Option Value}{base:Heap}
theorem qSt{m:Int}{ns:List Int}(h:NsOk m ns):∃wd:Str,endD ns = .tuple (.str wd::ns.map .int)/\(wd = "out" ↔ ns = []):=by
 rcases h with z | ⟨x,z,_⟩ | ⟨x,y,z,_⟩ <;> subst z
 ·exact⟨_,rfl,by simp⟩
 ·exact⟨"go",rfl,by simp;decide⟩
 ·exact⟨"fork",rfl,by simp;decide⟩
abbrev qEo:Stmt:=top 1
theorem scWaysOf:FnScope ["work","ways","at","deeds","end"] ["work"] (qA8 qEo):=⟨rfl,rfl,rfl,by decide +kernel,rfl,by decide +kernel,by decide +kernel⟩
theorem qPf{f:Addr}{fd:FuncData}(F:Fun K "ways_of" "ways_of" qEo f fd)(nenum:mg "enumerate" = none)(nlen:mg "len" = none)(nsort:mg "sorted" = none):FnOk P w K mg base CX0 1 f fd ["work"] (qFm K):=by
 refine F.ok scWaysOf (λvs H Q E h=>?_) (λcdv A outer s H vs Q E hr h=>?_)
 ·obtain⟨a,w,m,works,rfl,_⟩:=h;rfl
 ·obtain⟨a,wk,m,works,rfl,hW,hOk,hm,q⟩:=h
  refine⟨_,qA7 (qAo (i:=1) scWaysOf.nd rfl (Or.inl rfl) (qB0 (qA0 (qBc (qA0 (qRy qLp qA6) (qA0 qA6 qA3))) qA3)))
   (qA7 (qCb bX rfl (qL8 rfl nenum (qA0 (pv 0) qA3)) (qFa (n:=2) rfl (qAj (qAb (i:=2) scWaysOf.nd rfl (Or.inr rfl)) (qAj (qFa (n:=2) rfl (qAj (qAb (i:=3) scWaysOf.nd rfl (Or.inl rfl)) (qAj (qAb (i:=4) scWaysOf.nd rfl (Or.inl rfl)) qBy))) qBy)))
    (qA9 (qCh (qAd qBp (qAu qCf (pv 4) qA6 (λ_ _=>rfl)) qB7 (qAf _))
     (qA9 (qC6 (qEb bJ cB cC qBl (pv 1) (qA0 (qBc (qA0 (pv 2) (qA0 (qAe qAh (by rfl) nlen cD (qA0 (pv 0) qA3)) qA3))) qA3))))
     (qA9 (qC6 (qEb bJ PySem.F.slot_list_extend PySem.F.type_list_extend qJp (pv 1) (qA0
      (qCl ["to"] [2] rfl (.of rfl) (qTg (qCe qLu (pv 4) (qD6 qA6) qD7)) (λ_ _ _ _=>qAb (i:=0) (by show ((["to","at"]:List Str)).Nodup;decide) rfl (Or.inl rfl)) (λ_ _ _ _ =>.nil) (λ_ _ _ _=>qBc (qA0 (pv 1) (qA0 (pv 0) qA3)))) qA3)))))))
   (qA9 (qAt (qAe qLi (by rfl) nsort cN (qA0 (pv 1) qA3))))),?_⟩
  dsimp only [qBx,qBi];obtain⟨a',vs,ea,hSq,hDL⟩:=hW.ofList;cases ea;have hvl:vs.length=wk.length:=by rw [hDL.len,aB]
  have hwm:=hOk.len;walk_at "rd";refine⟨len2 (by show 2<=1000;decide),λp0 hp0=>?_⟩;walk_at "rd";refine⟨len2 (by show 1<=1000;decide),λl0 hl0=>?_⟩;have E0:=(Ext.laid (ts :=[]) (o :=.tup [V.int (-1),.int 0]) hp0).trans (.laid (o :=.lst [V.ref p0]) hl0);have n0:p0≠l0:=qA2 qA1 hl0;have hl00:H l0=none:=by rw [qA4 n0.symm] at hl0;exact hl0
  have d0:DenL K (yo H [l0] (upd (upd H p0 (.tup [V.int (-1),.int 0])) l0 (.lst [V.ref p0]))) ((rawTo wk 0).map pairD) [V.ref p0]:=by
   refine .cons (.tuple (SqT.of ?_) (.cons .int (.cons .int .nil))) .nil;rw [qAz hp0 (by simpa using n0),qA4 n0,qA1]
  have l1:upd (upd H p0 (.tup [V.int (-1),.int 0])) l0 (.lst [V.ref p0]) l0=some (.lst [V.ref p0]):=qA1;generalize upd (upd H p0 (.tup [V.int (-1),.int 0])) l0 (.lst [V.ref p0])=H1 at E0 d0 l1 ⊢;walk_at "rd";refine⟨a,rfl,⟨vs,E0.toSame.seq hSq⟩,qIn (xs:=vs) (λi σ' H' => ∃(us:List V) (o2 o3 o4:Option V),σ' = [some (.ref a),some (.ref l0),o2,o3,o4]/\Ext [l0] H1 H'/\H' l0=some (.lst us)/\DenL K (yo H [l0] H') ((rawTo wk i).map pairD) us) ?_ ?_ ?_ ?_⟩
  ·exact⟨_,_,_,_,rfl,.refl _ _,l1,d0⟩
  ·rintro i σ' H' hi ⟨us,o2,o3,o4,rfl,e',hl',hden⟩;exact (((E0.mono (us :=[l0]) (by simp)).trans e').drop hl00).toSame.seq hSq
  ·rintro i x σ' H' pt hx ⟨us,o2,o3,o4,rfl,e',hl',hden⟩ hpt;have EH:Ext [] H H':=((E0.mono (us :=[l0]) (by simp)).trans e').drop hl00;obtain⟨dd,hdd,hDx⟩:=hDL.get hx;obtain⟨b,hb,rfl⟩:=qB1 hdd;have hi:i<wk.length:=(aI.mp hb).1;have hok:=(hOk.blk b (aO hb)).ns;obtain⟨c,cs,rfl,hc,hcs⟩:=hDx.ofTuple;obtain⟨vd,r1,rfl,hd1,hr1⟩:=hcs.ofCons;obtain⟨ve,r2,rfl,hd2,hr2⟩:=hr1.ofCons;have hr2:=hr2.ofNil;subst hr2;obtain⟨wd,hwd,hout⟩:=qSt hok;rw [hwd] at hd2;obtain⟨en,es',rfl,hen,hes⟩:=hd2.ofTuple;obtain⟨v3,r3,rfl,hd3,hr3⟩:=hes.ofCons;have e3:=hd3.ofStr;subst e3;have e4:=hr3.ints;subst e4;have hul:=hden.len;rw [aB] at hul;have hrl:=qJc hOk i;have e2:Ext [] H' (upd H' pt (.tup [.int i,.ref c])) :=.laid hpt
   have hl2:=e2 _ _ (by simp) hl';have den2:=hden.mono (e2.mono (us :=[l0]) (by simp)).young;have EH2:Ext [] H (upd H' pt (.tup [.int i,.ref c])):=EH.trans e2;have hptT:SqT K (upd H' pt (.tup [.int i,.ref c])) pt [.int i,.ref c]:=SqT.of qA1;generalize upd H' pt (.tup [.int i,.ref c])=H2 at e2 hl2 den2 EH2 hptT ⊢;have eL:∀ {G:Hp},Ext [l0] H2 G->Ext [l0] H1 G:=λ{G} z=>e'.trans ((e2.mono (by simp)).trans z);refine qCk hptT rfl ?_;walk_at "rd";refine qCk (EH2.toSame.seqT hc) rfl ?_;walk_at "rd";refine qDt (EH2.toSame.seqT hen) (show atI (V.str wd::b.ns.map V.int) ((0:Nat):Int)=some (V.str wd) from qBa rfl) ?_;walk_at "rd";refine qNc ?_;walk_at "rd";have hraw:rawTo wk (i+1)=rawTo wk i++qF7 wk.length i b.ns:=by
    show rawTo wk i++qF7 wk.length i ((wk[i]?.map Blk.ns).getD [])=_;rw [hb];rfl
   by_cases hns:b.ns = []
   ·rw [decide_eq_true (hout.mpr hns)];refine iteT ?_;walk_at "rd";refine qDs hl2 ?_;walk_at "rd";refine⟨a,vs,rfl,.inl (EH2.toSame.seq hSq),?_⟩;rw [hvl];walk_at "rd";refine⟨len2 (by show 2<=1000;decide),λp hp=>?_⟩;have npl:p≠l0:=(qA2 hl2 hp).symm;walk_at "rd";refine qDu (by rw [qA4 npl.symm];exact hl2) (qAc (by lia)) ?_;have eF:Ext [l0] H2 (upd (upd H2 p (.tup [.int i,.int wk.length])) l0 (.lst (us ++ [V.ref p]))):=(Ext.laid hp).trans (.put (by simp));refine⟨us ++ [V.ref p],_,_,_,rfl,eL eF,qA1,?_⟩;rw [hraw,aN];unfold qF7;rw [if_pos hns];refine DenL.append (den2.mono eF.young) (.cons (.tuple (SqT.of ?_) (.cons .int (.cons .int .nil))) .nil);rw [qAz (EH2.none (by simp) hp) (by simpa using npl),qA4 npl,qA1]
   ·rw [decide_eq_false (λz=>hns (hout.mp z))];refine iteF ?_;walk_at "rd";refine qDs hl2 ?_;walk_at "rd";refine⟨1,rfl,?_⟩;walk_at "rd";refine⟨en,_,rfl,EH2.toSame.seqT hen,?_,λp hp=>?_⟩
    ·intro h;have:=h.1;revert this;have hn:(V.str wd::b.ns.map V.int).length=b.ns.length+1:=by simp
     rw [hn];unfold HT.sIx;simp
     try lia
    rw [cut1];have npl:p≠l0:=(qA2 hl2 hp).symm;have e3:Ext [] H2 (upd H2 p (.tup (b.ns.map V.int))) :=.laid hp;have hl3:=e3 _ _ (by simp) hl2;have den3:=den2.mono (e3.mono (us :=[l0]) (by simp)).young;have EH3:=EH2.trans e3;have hp3:upd H2 p (.tup (b.ns.map V.int)) p=some (.tup (b.ns.map V.int)):=qA1;generalize upd H2 p (.tup (b.ns.map V.int))=H3 at e3 hl3 den3 EH3 hp3 ⊢;refine⟨p,rfl,⟨_,SqT.of hp3⟩,λlc hlc=>?_⟩;have nlc:lc≠l0:=(qA2 hl3 hlc).symm;have npc:p≠lc:=qA2 hp3 hlc;have hlcH:H lc=none:=EH3.none (by simp) hlc;have hnf:=hok.few;refine qMd (xs:=b.ns.map V.int) (λj σ' G => ∃(o0:Option V) (ws:List V),σ' = [o0,some (.int i)]/\Ext [lc] H3 G/\G lc=some (.lst ws)/\DenL K (yo H [lc,l0] G) ((b.ns.take j).map λx=>pairD ((i:Int),x)) ws) ?_ ?_ ?_ ?_
    ·exact⟨none,[],rfl,.laid hlc,qA1,.nil⟩
    ·rintro j σ' G hj ⟨o0,ws,rfl,eG,hws,hdG⟩;exact SqT.of (eG _ _ (by simpa using npc) hp3)
    ·rintro j x σ' G R hx ⟨o0,ws,rfl,eG,hws,hdG⟩ hR;obtain⟨y,hy,rfl⟩:=qB1 hx;have hj:j<b.ns.length:=(aI.mp hy).1;walk_at "rd";refine iteT ?_;walk_at "rd";refine⟨len2 (by show 2<=1000;decide),λp2 hp2=>?_⟩;have np2:p2≠lc:=(qA2 hws hp2).symm;have lG:G l0=some (.lst us):=eG _ _ (by simpa using nlc.symm) hl3;have np20:p2≠l0:=(qA2 lG hp2).symm;have hwl:ws.length=j:=by rw [hdG.len,aB,aV];lia
     refine⟨ws,by rw [qA4 np2.symm];exact hws,qAc (by lia),hR _ _ ⟨_,ws ++ [.ref p2],rfl,eG.trans ((Ext.laid hp2).trans (.put (by simp))),qA1,?_⟩⟩;rw [qAw hy,aN];refine DenL.append (hdG.mono (((Ext.laid hp2).trans (.put (by simp)):Ext [lc,l0] G _)).young) (.cons (.tuple (SqT.of ?_) (.cons .int (.cons .int .nil))) .nil);rw [qAz (((EH3.mono (us :=[lc]) (by simp)).trans eG).none (by simpa using np2) hp2) (by simp [np2,np20]),qA4 np2,qA1]
    ·rintro σ' G ⟨o0,ws,rfl,eG,hws,hdG⟩;rw [aB,bE] at hdG;have lG:G l0=some (.lst us):=eG _ _ (by simpa using nlc.symm) hl3;have hwl:ws.length=b.ns.length:=by rw [hdG.len,aB]
     walk_at "rd";refine⟨l0,lc,us,ws,rfl,rfl,lG,hws,len2 (by lia),?_⟩;have e3G:Ext [l0] H3 G:=(eG.drop hlc).mono (by simp);have eF:Ext [l0] H2 (upd G l0 (.lst (us++ws))):=(e3.mono (by simp)).trans (e3G.trans (.put (by simp)));refine⟨us++ws,_,_,_,rfl,eL eF,qA1,?_⟩;rw [hraw,aN];unfold qF7;rw [if_neg hns,cU];refine DenL.append (den2.mono eF.young) (hdG.mono λc oc hc=>?_);obtain⟨z1,z2,z3⟩:=qCr hc;have nc:c≠l0:=λz=>z2 (by simp [z]);rw [qAz z1 (by simpa using nc),qA4 nc];exact z3
  ·rintro σ' H' ⟨us,o2,o3,o4,rfl,e',hl',hden⟩;have EH:Ext [] H H':=((E0.mono (us :=[l0]) (by simp)).trans e').drop hl00;rw [hvl] at hden;have hrl:=qJc hOk wk.length;walk_at "rd";refine⟨l0,us,(rawTo wk wk.length).map tOf,rfl,SqL.of hl',qO9 yo_same hden,λt ht=>?_,by rw [aB];lia,λl res hl hperm hsort=>?_⟩
   ·obtain⟨p,_,rfl⟩:=bH.mp ht;exact λz=>nomatch z
   ·have hnl:l≠l0:=(qA2 hl' hl).symm;have hlH:H l=none:=EH.none (by simp) hl;have den3:DenL K (yo H [l] (upd H' l (.lst (res.map (·.1))))) ((rawTo wk wk.length).map pairD) us:=by
     refine (hden.mono ?_).mono (Ext.young (H0:=H) (Ext.put (ts :=[l]) (t:=l) (o :=.lst (res.map (·.1))) (by simp)));intro b ob hb;obtain⟨z1,z2,z3⟩:=qCr hb;rw [qAz z1 (by simpa using qA2 z3 hl)];exact z3
    obtain⟨ps',h1,h2,h3⟩:=qJ6 den3 (qL5 hOk) hperm hsort;have he:ps'=qAa wk wk.length:=qG7 h2 (qDx hOk) λp=>by rw [h3,(qDi hOk _).mem_iff]
    rw [he] at h1;exact q l _ _ hlH (EH.trans (.laid hl)) qA1 h1
end
end Fs
local macro_rules | `(tactic| walk_at "re") => `(tactic| repeat (with_reducible first | (refine L2.qWe ?_; intro NN_ hNN_) | walk_at "q1" | refine L2.qEx (by assumption) ?_ | refine L2.qXr (by assumption) ?_ | (refine L2.qYa ?_; intro NA_ NB_ hNA_ hNB_) | walk_at "q2"))
namespace Fs
open PySem L2
section
variable{P:Program}{w:World}{K:PySem.W.Frag}{mg:Str->Option Value}{base:Heap}
abbrev qEn:Stmt:=top 3
theorem scWordOn:FnScope ["way","inside","begin","to"] ["way","inside"] (qA8 qEn):=⟨rfl,rfl,rfl,by decide +kernel,rfl,by decide +kernel,by decide +kernel⟩
theorem qPe{f:Addr}{fd:FuncData}(F:Fun K "word_on" "word_on" qEn f fd):FnOk P w K mg base CX0 1 f fd ["way","inside"] (qI3 K):=by
 refine F.ok scWordOn (λvs H Q E h=>?_) (λcdv A outer s H vs Q E hr h=>?_)
 ·obtain⟨p,la,b,t,ns,rfl,_⟩:=h;rfl
 ·obtain⟨p,la,b,t,ns,rfl,hp,hl,q⟩:=h
  refine⟨_,(qA7 (qJg (pv 0) (qFa (n:=2) rfl (qAj (qAb (i:=2) scWordOn.nd rfl (Or.inl rfl)) (qAj (qAb (i:=3) scWordOn.nd rfl (Or.inl rfl)) qBy))))
   (qA7 (qCh (qAd qBp (qBk (inK K rfl) (pv 2) (pv 1) rfl) (qBk (inK K rfl) (pv 3) (pv 1) rfl) (qAf _)) (qA9 (qAt qTi)) qBg)
   (qA9 (qAt (qC7 (qAd (inK K rfl) (pv 3) (pv 1) rfl) qB7 qB7))))),?_⟩
  dsimp only [qBx,qBi,qDb];walk_at "re";refine qCk hp rfl ?_;walk_at "re";refine⟨la,_,rfl,.inl hl,rfl,qBu _,?_⟩;rw [if_neg aD,qC8];walk_at "re";refine⟨la,_,rfl,.inl hl,rfl,qBu _,?_⟩;rw [if_neg aD,qC8];refine⟨rfl,_,rfl,?_⟩;by_cases hc:decide (b∈ns)=decide (t∈ns)
  ·rw [decide_eq_true (show V.bl (decide (b∈ns))=V.bl (decide (t∈ns)) by rw [hc]),if_pos rfl];have e:wordV (decide (b∈ns)) (decide (t∈ns)) = .non:=if_pos hc;rw [e] at q;walk_at "re";exact q
  ·rw [decide_eq_false (show ¬V.bl (decide (b∈ns))=V.bl (decide (t∈ns)) from λz=>hc (V.bl.inj z)),if_neg aD];have e:wordV (decide (b∈ns)) (decide (t∈ns)) = .str (wdS (decide (t∈ns))):=if_neg hc;rw [e] at q;walk_at "re";refine⟨la,_,rfl,.inl hl,rfl,qBu _,?_⟩;rw [if_neg aD,qC8];refine⟨_,rfl,?_⟩;cases hd:decide (t∈ns) with
   | true =>
    rw [hd] at q;exact q
   | false =>
    rw [hd] at q;exact q
end
section
variable{P:Program}{w:World}{K:PySem.W.Frag}{mg:Str->Option Value}{base:Heap}
abbrev qH8:Stmt:=top 4
theorem scPutOn:FnScope ["work","plan","words"] ["work","plan"] (qA8 qH8):=⟨rfl,rfl,rfl,by decide +kernel,rfl,by decide +kernel,by decide +kernel⟩
theorem qS4{f:Addr}{fd:FuncData}(F:Fun K "put_on" "put_on" qH8 f fd)(nsorted:mg "sorted" = none)(hWy:Has P w K mg base "ways_of" 1 ["work"] (qFm K))(hWo:Has P w K mg base "word_on" 1 ["way","inside"] (qI3 K)):FnOk P w K mg base CX0 2 f fd ["work","plan"] (qN4 K):=by
 refine F.ok scPutOn (λvs H Q E h=>?_) (λcdv A outer s H vs Q E hr h=>?_)
 ·obtain⟨wa,d,wk,m,works,bs,as,f,rfl,_⟩:=h;rfl
 ·obtain⟨wa,d,wk,m,works,bs,as,f,rfl,hW,hOk,hm,hP,hbn,hbl,q⟩:=h;have hu:=qIm hr
  refine⟨_,(qA7 (qP3 (qX4 (i:=2) ["way","box"] [1] rfl (.of rfl) scPutOn.nd rfl (Or.inl rfl) (qAy (qAq hWy hr (by decide) (qA0 (pv 0) qA3))) (λ_ _ _ _=>(qAb (i:=0) (by show (((["way","box","plan"]:List Str))).Nodup;decide) rfl (Or.inl rfl))) (λ_ _ _ _ =>.nil) (λ_ _ _ _=>(qM5 (pv 2))) (λ_ _ _ _=>(qAb (i:=1) (by show (((["way","box","plan"]:List Str))).Nodup;decide) rfl (Or.inl rfl))) (λ_ _ _ _ =>.nil) (λ_ _ _ _=>(qBc (qA0 (pv 0) (qA0 (qAq hWo hr (by decide) (qA0 (pv 0) (qA0 (qIg hu (pv 2) (pv 1) (λ_ _=>rfl)) qA3))) (qA0 (pv 1) qA3)))))))
   (qA9 (qAt (qAe (qHw (qT8 hr)) (by rfl) nsorted cN (qA0 (qCl ["row"] [] rfl (.of rfl) (qAy (pv 2)) (λ_ _ _ _=>(qAb (i:=0) (by show (((["row"]:List Str))).Nodup;decide) rfl (Or.inl rfl))) (λ_ _ _ _ =>.cons (qAd qUq (qAu (qBt K rfl) (pv 0) qA6 (λ_ _=>rfl)) qTi (qAf _)) .nil) (λ_ _ _ _=>(pv 0))) qA3))))),?_⟩
  dsimp only [qBx,qBi,qDb,qIh,qSz];have hwl:=hOk.len;have hn2:∀b∈wk,b.ns.length<=2:=λb hb=>(hOk.blk b hb).ns.few;have hwy:=qBe hn2 wk.length;have nfz:∀o u,H d≠some (.frz o u):=λo u z=>by rw [hP.dict] at z;cases z
  walk_at "re";refine qOw ?_;walk_at "re";refine⟨wa,wk,m,works,rfl,hW,hOk,hm,λlw us H1 hlw e1 hlw1 hus=>?_⟩;have hd1:=e1 _ _ (by simp) hP.dict;have dU:DenL K H1 ((qAa wk wk.length).map pairD) us:=hus.mono yo_same;have hul:=dU.len;rw [aB] at hul;refine⟨lw,rfl,⟨_,SqL.of hlw1⟩,λlc hlc=>?_⟩;have ndl:d≠lc:=qA2 hd1 hlc;have nlw:lw≠lc:=qA2 hlw1 hlc;have nwd:lw≠d:=λz=>by rw [z,hP.dict] at hlw;cases hlw
  have hA1:∀(j:Nat) (a:Addr) (b:Int),as[j]? = some a->bs[j]? = some b->H1 a=some (.lst ((f b).map V.int))/\a≠d:=λj a b h1 h2=>by
   obtain⟨ns,h3,h4⟩:=hP.lists.get h1;rw [aW,h2] at h3;have h3:f b=ns:=bF h3;rw [h3];exact⟨e1 _ _ (by simp) h4,λz=>hP.nda (z▸aO h1)⟩
  generalize hkv:planK bs as=kv at hd1;refine qAp (xs:=us) (λi σ' G => ∃(o0 o1:Option V) (ts:List Addr),σ' = [o0,o1,some (.ref d)]/\Ext [d,lc] H1 G/\((i=0/\G d=some (.dK kv)) \/ ∃o,G d=some (.frz o (.dK kv)))/\G lc=some (.lst (ts.map V.ref))/\TriL K f G ts (((qAa wk wk.length).take i).flatMap λw=>bs.map λb=>(w,b))) ?_ ?_ ?_ ?_
  ·exact⟨none,none,[],rfl,.laid hlc,.inl ⟨rfl,by rw [qA4 ndl];exact hd1⟩,qA1,.nil⟩
  ·rintro i σ' G hi ⟨o0,o1,ts,rfl,e2,hdG,hlG,hT⟩;exact SqL.of (e2 _ _ (by simpa using ⟨nwd,nlw⟩) hlw1)
  ·rintro i x σ' G R hx ⟨o0,o1,ts,rfl,e2,hdG,hlG,hT⟩ hR;obtain⟨dd,hdd,hDx⟩:=dU.get hx;obtain⟨wv,hwv,rfl⟩:=qB1 hdd;have hil:i<(qAa wk wk.length).length:=(aI.mp hwv).1;obtain⟨p,ps,rfl,hp1,hps⟩:=hDx.ofTuple;obtain⟨v1,q1,rfl,hv1,hq1⟩:=hps.ofCons;obtain⟨v2,q2,rfl,hv2,hq2⟩:=hq1.ofCons;have z1:=hv1.ofInt;have z2:=hv2.ofInt;have z3:=hq2.ofNil;subst z1 z2 z3;have hT0:Tups H1 G:=e2.tups λu hu xs q=>by
    rcases aT.mp hu with z | z
    ·subst z;rcases q with q | ⟨o,q⟩ <;> rw [hd1] at q <;> cases q
    ·have z:u=lc:=by simpa using z
     subst z;rcases q with q | ⟨o,q⟩ <;> rw [hlc] at q <;> cases q
   have hpG:=hT0.sq hp1;have hRd:Rd G d (.dK kv):=by
    rcases hdG with ⟨_,z⟩ | ⟨o,z⟩
    ·exact .inl z
    ·exact .inr ⟨o,z⟩
   walk_at "re";refine iteT ?_;unfold bNext;refine qLx ?_;walk_at "re";refine⟨d,kv,rfl,hRd,λo=>?_⟩;have hT1:Tups G (upd G d (.frz o (.dK kv))):=by
    rcases hdG with ⟨_,z⟩ | ⟨o',z⟩
    ·exact Tups.melt z
    ·exact Tups.melt z
   have hk1:∀b xs,G b=some (.tup xs)->(upd G d (.frz o (.dK kv))) b=some (.tup xs):=λb xs z=>by
    rw [qA4];exact z;rintro rfl;rcases hdG with ⟨_,y⟩ | ⟨o',y⟩ <;> rw [y] at z <;> cases z
   have hT':=hT.mono hT1 hk1;have hpG':=hT1.sq hpG;have e2':Ext [d,lc] H1 (upd G d (.frz o (.dK kv))):=e2.trans (.put (by simp));have hdG':(upd G d (.frz o (.dK kv))) d=some (.frz o (.dK kv)):=qA1;have hlG':(upd G d (.frz o (.dK kv))) lc=some (.lst (ts.map V.ref)):=by rw [qA4 (cS ndl)];exact hlG
   clear hk1 hT1 hT hpG hlG hRd hdG hT0 e2;generalize upd G d (.frz o (.dK kv))=G' at hT' hpG' e2' hdG' hlG' ⊢;have htl:=hT'.len;rw [qD9,aV] at htl;have hb1:min i (qAa wk wk.length).length*bs.length<=25*8:=gJ (by lia) hbl;refine qPt (λj σ' G2 => ∃(o1:Option V) (ts:List Addr),σ' = [some (.ref p),o1,some (.ref d)]/\Ext [lc] G' G2/\G2 lc=some (.lst (ts.map V.ref))/\TriL K f G2 ts ((((qAa wk wk.length).take i).flatMap λw=>bs.map λb=>(w,b))++(bs.take j).map λb=>(wv,b))) ?_ ?_ ?_ ?_
   ·exact⟨_,ts,rfl,.refl _ _,hlG',by rw [List.take_zero,List.map_nil,bW];exact hT'⟩
   ·rintro j σ' G2 hj ⟨o1,ts,rfl,e3,hl3,hT3⟩;exact e3 _ _ (by simpa using ndl) hdG'
   ·rintro j k v σ' G2 R2 hv ⟨o1,ts2,rfl,e3,hl3,hT3⟩ hR2;rw [<-hkv] at hv;obtain⟨b,a,hb,ha,rfl,rfl⟩:=qM3 hv;obtain⟨ha1,nad⟩:=hA1 j a b ha hb;have nal:a≠lc:=qA2 ha1 hlc;have ha2:=e3 _ _ (by simpa using nal) (e2' _ _ (by simpa using ⟨nad,nal⟩) ha1);have hd2:=e3 _ _ (by simpa using ndl) hdG';have hT2:Tups G' G2:=e3.tups λu hu xs q=>by
     have z:u=lc:=by simpa using hu
     subst z;rcases q with q | ⟨o,q⟩ <;> rw [hlG'] at q <;> cases q
    have ht3:=hT3.len;rw [aG,qD9,aV,aB,aV] at ht3;walk_at "re";refine iteT ?_;walk_at "re";refine⟨d,.ref a,rfl,.inl ⟨kv,Sum.inl b,.inr ⟨o,hd2⟩,rfl,by rw [<-hkv];exact (qGb hbn hb ha).symm⟩,?_⟩;refine⟨p,a,wv.1,wv.2,f b,rfl,hT2.sq hpG',SqL.of ha2,?_⟩;walk_at "re";refine⟨len2 (by simp),λtp htp=>?_⟩;have ntl:tp≠lc:=λz=>by rw [z,hl3] at htp;cases htp
    refine⟨_,by rw [qA4 (cS ntl)];exact hl3,qAc (by rw [aB];lia),hR2 _ _ ⟨_,ts2 ++ [tp],rfl,(e3.trans (.laid htp)).trans (.put (by simp)),by rw [qA1,aN];rfl,?_⟩⟩;have t1:bs.take (j+1)=bs.take j ++ [b]:=by rw [dB,hb];rfl
    rw [t1,aN,<-bU];have eT:Tups G2 (upd (upd G2 tp (.tup [.ref p,wordV (decide (wv.1∈f b)) (decide (wv.2∈f b)),.int b])) lc (.lst (ts2.map V.ref ++ [V.ref tp]))):=((Ext.laid (ts :=[]) htp).toSame.tups).trans (Tups.melt (by rw [qA4 (cS ntl)];exact hl3));refine hU (hT3.mono eT λc xs z=>?_) ⟨p,?_,(hT2.trans eT).sq hpG'⟩
    ·rw [qA4 (λy=>by rw [y,hl3] at z;cases z),qA4 (λy=>by rw [y,htp] at z;cases z)];exact z
    ·rw [qA4 ntl,qA1];rfl
   ·rintro σ' G2 ⟨o1,ts2,rfl,e3,hl3,hT3⟩;have hkl:kv.length=bs.length:=by rw [<-hkv];exact qGc hP.len
    rw [hkl,bE] at hT3;refine hR _ _ ⟨_,_,ts2,rfl,e2'.trans (e3.mono (by simp)),.inr ⟨o,e3 _ _ (by simpa using ndl) hdG'⟩,hl3,?_⟩;rw [qAw hwv,List.flatMap_append,fD,List.flatMap_nil,bW];exact hT3
  ·rintro σ' G ⟨o0,o1,ts,rfl,e2,hdG,hlG,hT⟩;rw [show us.length=(qAa wk wk.length).length from hul,bE] at hT;obtain⟨o,hdG⟩:∃o,G d=some (.frz o (.dK kv)):=by
    rcases hdG with ⟨z,_⟩ | z
    ·rw [hul,qCi] at z;cases z
    ·exact z
   have htl:=hT.len;rw [qD9] at htl;have hb1:(qAa wk wk.length).length*bs.length<=25*8:=gJ (by lia) hbl;have e3:=e2.melt hd1;have hlG':(upd G d (.dK kv)) lc=some (.lst (ts.map V.ref)):=by rw [qA4 (cS ndl)];exact hlG
   have hT':TriL K f (upd G d (.dK kv)) ts ((qAa wk wk.length).flatMap λw=>bs.map λb=>(w,b)):=hT.mono (Tups.melt hdG) λb xs z=>by
    rw [qA4 (λy=>by rw [y,hdG] at z;cases z)];exact z
   refine⟨d,o,_,hdG,nfz,?_⟩;clear hT hlG;generalize upd G d (.dK kv)=G' at e3 hlG' hT' ⊢;have eG:=e1.trans (e3.drop hlc);clear e3 hdG e2;walk_at "re";refine⟨lc,rfl,⟨_,SqL.of hlG'⟩,λl2 hl2=>?_⟩;refine qAp (xs:=ts.map V.ref) (λi σ' G2 => ∃(o0:Option V) (rs:List Addr),σ' = [o0]/\Ext [l2] G' G2/\G2 l2=some (.lst (rs.map V.ref))/\rs.length<=i/\RowsI K G2 (rs.map V.ref) ((((qAa wk wk.length).flatMap λw=>bs.map λb=>(w,b)).take i).filterMap λp=>rowOf f p.1 p.2)) ?_ ?_ ?_ ?_
   ·exact⟨none,[],rfl,.laid hl2,qA1,aU _,.nil⟩
   ·rintro i σ' G2 hi ⟨o0,rs,rfl,e4,hl4,hrl,hI⟩;exact SqL.of (e4 _ _ (by simpa using qA2 hlG' hl2) hlG')
   ·rintro i x σ' G2 R hx ⟨o0,rs,rfl,e4,hl4,hrl,hI⟩ hR;obtain⟨t,ht,rfl⟩:=qB1 hx;have hil:i<ts.length:=(aI.mp ht).1;obtain⟨p,hp,wa',hq1,hq2⟩:=qEv hT' ht;have eS:=(e4.drop hl2).toSame;have hq1':=eS _ _ hq1;have hq2':=eS.tups.sq hq2;have htk:=qAw hp;walk_at "re";refine qDt (SqT.of hq1') rfl ?_;refine⟨rfl,_,rfl,?_⟩;have fin:∀ {r:Option K4},rowOf f p.1 p.2=r->(((qAa wk wk.length).flatMap λw=>bs.map λb=>(w,b)).take (i+1)).filterMap (λp=>rowOf f p.1 p.2)=(((qAa wk wk.length).flatMap λw=>bs.map λb=>(w,b)).take i).filterMap (λp=>rowOf f p.1 p.2)++r.toList:=λ{r} hr=>by
     rw [htk,fQ,cF,hr];cases r <;> rfl
    by_cases hc:decide (p.1.1∈f p.2)=decide (p.1.2∈f p.2)
    ·have e0:wordV (decide (p.1.1∈f p.2)) (decide (p.1.2∈f p.2)) = .non:=if_pos hc;rw [e0,decide_eq_true rfl];refine hR _ _ ⟨_,rs,rfl,e4,hl4,by lia,?_⟩;rw [fin (r:=none) (if_pos hc)];exact bW _▸hI
    ·have e0:wordV (decide (p.1.1∈f p.2)) (decide (p.1.2∈f p.2)) = .str (wdS (decide (p.1.2∈f p.2))):=if_neg hc;rw [e0] at hq1' ⊢;rw [decide_eq_false (by simp)];refine iteT (iteT ?_);walk_at "re";refine⟨_,hl4,qAc (by rw [aB];lia),hR _ _ ⟨_,rs ++ [t],rfl,e4.trans (.put (by simp)),by rw [qA1,aN];rfl,by rw [aG,cT];lia,?_⟩⟩;rw [fin (r:=some (p.1,decide (p.1.2∈f p.2),p.2)) (if_neg hc),aN];have eT:Tups G2 (upd G2 l2 (.lst (rs.map V.ref ++ [V.ref t]))):=Tups.melt hl4;exact hU (hI.mono eT) ⟨t,wa',rfl,eT.sq (SqT.of hq1'),eT.sq hq2'⟩
   ·rintro σ' G2 ⟨o0,rs,rfl,e4,hl4,hrl,hI⟩;rw [aB,htl,<-qD9,bE,<-qHf] at hI;walk_at "re";refine⟨l2,_,_,rfl,SqL.of hl4,hI,λl ps hl hpm hpw=>?_⟩;have eF:Ext [] G' G2:=e4.drop hl2;have eA:=eG.trans eF;obtain⟨z1,z2⟩:=qLn hI hpm;have eL:Ext [] G2 (upd G2 l (.lst (ps.map (·.1)))) :=.laid hl;exact q l _ _ _ (eA.none (by simp) hl) (eA.trans eL) qA1 (z1.mono eL.toSame.tups) z2 hpw
end
section
variable{P:Program}{w:World}{K:PySem.W.Frag}{mg:Str->Option Value}{base:Heap}
abbrev qHa:Stmt:=top 26
theorem scLPlan:FnScope ["_law_tape_here","_law_works_here","_law_number_here","_law_found","_law_left","_law_box","_law_way","_law_some","_law_more"] ["_law_tape_here","_law_works_here","_law_number_here"] (qA8 qHa):=⟨rfl,rfl,rfl,by decide +kernel,rfl,by decide +kernel,by decide +kernel⟩
theorem qS6{f:Addr}{fd:FuncData}(F:Fun K "_law_plan" "_law_plan" qHa f fd)(nrange:mg "range" = none)(nlen:mg "len" = none)(nset:mg "set" = none)(nsorted:mg "sorted" = none)(hD:Has P w K mg base "_law_draw" 1 ["_law_tape_here","_law_many_here"] qDv)(hX:Has P w K mg base "_law_boxes" 2 ["_law_work_here"] (qI6 K))(hB:Has P w K mg base "_law_busy" 3 ["_law_works_here","_law_number_here","_law_box"] (qOk K)):FnOk P w K mg base CX0 4 f fd ["_law_tape_here","_law_works_here","_law_number_here"] (qOh K):=by
 refine F.ok scLPlan (λvs H Q E h=>?_) (λcdv A outer s H vs Q E hr h=>?_)
 ·obtain⟨t,wa,k,ws,n,wk,rfl,_⟩:=h;rfl
 ·obtain⟨t,wa,k,ws,n,wk,rfl,hTp,hk,hW,hok,hwk,q⟩:=h;have hu:=qIm hr
  refine⟨_,(qA7 (qM0 (i:=3) (j:=4) rfl scLPlan.nd rfl rfl (by decide) rfl rfl (qA0 qM7 (qA0 (qAq hX hr (by decide) (qA0 (qAu qAr (pv 1) (pv 2) (λ_ _=>rfl)) qA3)) qA3)) rfl)
   (qA7 (qLz bX (qAd (qM8 hr) (pv 4) (qB0 qA3) (qAf _))
   (qA7 (qAo (i:=5) scLPlan.nd rfl (Or.inl rfl) (qEb bJ PySem.F.slot_list_pop PySem.F.type_list_pop qMb (pv 4) (qA0 (qAq hD hr (by decide) (qA0 (pv 0) (qA0 (qAe qAh (by rfl) nlen cD (qA0 (pv 4) qA3)) qA3))) qA3)))
   (qA7 (qAo (i:=6) scLPlan.nd rfl (Or.inr rfl) (qAq hD hr (by decide) (qA0 (pv 0) (qA0 qA6 qA3))))
   (qA7 (qAo (i:=7) scLPlan.nd rfl (Or.inl rfl) (qAq hB hr (by decide) (qA0 (pv 1) (qA0 (pv 2) (qA0 (pv 5) qA3)))))
   (qA7 (qRv (i:=8) ["_law_b"] [0,6] rfl (.of rfl) scLPlan.nd rfl (Or.inl rfl) (qBr rfl nrange (qA0 (qAe qAh (by rfl) nlen cD (qA0 (qAu qAr (pv 1) (pv 2) (λ_ _=>rfl)) qA3)) qA3)) (λ_ _ _ _=>(qAb (i:=0) (by show (((["_law_b","_law_tape_here","_law_way"]:List Str))).Nodup;decide) rfl (Or.inl rfl))) (λ_ _ _ _ =>.cons (PW.pt (qUi (qAd qBp (pv 2) qA6 (qAf _)) (qP2 (PW.pt (qF9 (qAd qUs (pv 2) qA6 (qAf _)) (qD5 (qAd qBp (qAq hD hr (by decide) (qA0 (pv 1) (qA0 qA6 qA3))) qA6 (qAf _)))))))) .nil) (λ_ _ _ _=>(pv 0)))
   (qA9 (qP4 hu (pv 3) (pv 5) (qAe (qF0 hr.hd) (by rfl) nsorted cN (qA0 (qB5 (qGu hr.hd) (by rfl) nset PyProof.Rows.boot_set (qA0 (qAv qGg (pv 7) (pv 8)) qA3)) qA3)) rfl)))))))
   (qA9 (qAt (pv 3))))),?_⟩
  dsimp only [qBx,qBi,qDb,qIh,qSz];obtain⟨m,hm1,hm2,hWk⟩:=hok.all wk (aO hwk);have hwm:=hWk.len;have hbx:=qKk wk;obtain⟨ta,tb,tc,htp,htp2⟩:=id hTp;have hW0:=Den.off htp (qJn ws) hW;have dW:∀ {G:Hp},Ext [t] H G->Den K G (qCz ws) (.ref wa):=λ{G} e=>(hW0.mono e.same).mono (qKt _ _);have hex:∃o,H t=some o:=⟨_,htp⟩;walk_at "re";refine (show ∀p,_=none->_ from λd hd=>?_);have ed:Ext [] H (upd H d (.dK [])) :=.laid hd;have hdd:(upd H d (.dK [])) d=some (.dK []):=qA1;generalize upd H d (.dK [])=H1 at ed hdd ⊢;have dW1:=dW (ed.mono (us :=[t]) (by simp));obtain⟨a',vs,ea,hSq,hDL⟩:=dW1.ofList;cases ea;obtain⟨vw,hvw,hDw⟩:=hDL.get' (i:=n) (d:=workD wk) (by rw [aW,hwk];rfl);have hDw0:=hDw
  obtain⟨wb,ub,rfl,hSw,hDw'⟩:=hDw.ofList;walk_at "re";refine qC2 hSq (qBa hvw) ?_;walk_at "re";refine⟨wb,wk,m,ws.length,rfl,hDw0,hWk,hm2,λlf H2 hlf e2 hlf2=>?_⟩;rw [qLl hWk] at hlf2;refine⟨_,_,rfl,?_⟩;have E2:=ed.trans e2;have st0:PlI H t d lf ws n wk (boxes wk) (boxes wk) [] [] (λ_ =>[]) k H2:=⟨hTp.ext E2 (by simp),E2.mono (by simp),hlf2,⟨e2 _ _ (by simp) hdd,.nil,rfl,.nil,by simp⟩,hd,ed.none (by simp) hlf,by simp,by simp,(λz=>by rw [z,hdd] at hlf;cases hlf),.refl _,by simp,by simp,by simp⟩;clear hlf2 hDw' hSw hDw0 hDL hSq hvw dW1 hdd;walk_at "re";refine⟨LpW H t wa d lf ws n wk k,⟨_,_,_,_,_,_,_,_,_,_,rfl,rfl,by lia,st0⟩,?_⟩;rintro μ σ' G ⟨ls,bs,as,f,kk,o5,o6,o7,o8,rfl,rfl,hkk,I⟩;walk_at "re"
  refine⟨len2 (aU _),λen0 hen0=>?_⟩;have e3:Ext [] G (upd G en0 (.lst [])) :=.laid hen0;have I3:=I.grown hex e3;have hlm:=I.perm.length_eq;rw [aG] at hlm;have hlr:∀b∈ls,0<=b/\b<8:=λb hb=>qMu hWk (I.perm.mem_iff.mp (bM _ hb));have hnd:(bs++ls).Nodup:=I.perm.symm.nodup ((qF1 wk).imp λh=>by lia);obtain⟨t1,t2,t3⟩:=qEh (ns:=ls) (λn hn=>by have:=hlr n hn;lia) (by lia);refine⟨intsD ls,.list [],.list (SqL.of I3.left) (DenL.ofInts _),.list (SqL.of qA1) .nil,qDz t1 t3 ⟨_,rfl⟩,rfl,?_⟩;rw [if_pos rfl,qFc];generalize upd G en0 (.lst [])=G1 at e3 I3 ⊢;clear e3 I hen0;walk_at "re";by_cases hz:ls = []
  ·subst hz;rw [decide_eq_true rfl];refine iteF ?_;walk_at "re";have hp:=I3.perm;rw [bW] at hp;refine q d bs as f G1 I3.fd I3.fa (I3.tape.mono (by lia)) I3.ext I3.plan ⟨hp,I3.rise,I3.rg,I3.busy⟩
  ·rw [decide_eq_false hz];have hl1:1<=ls.length:=by
    cases ls with
    | nil=>exact absurd rfl hz
    | cons x r=>simp
   refine iteT ⟨λσ' H' => ∃m',m'<ls.length/\LpW H t wa d lf ws n wk k m' σ' H',λ_ _ h=>h,?_⟩;walk_at "re";refine qDs I3.left ?_;walk_at "re";refine⟨lf,_,rfl,.inl (SqL.of I3.left),?_⟩;rw [aB];walk_at "re";refine qBb I3.tape (by lia) (by lia) (by lia) λr4 G4 a4 b4 T4 e4 k4=>?_;have I4:=I3.keep hex e4 T4;obtain⟨j,rfl⟩:=dP a4;have hj:j<ls.length:=by lia
   clear e4 k4 T4 I3;walk_at "re";refine⟨lf,ls.map V.int,(j:Int),j,V.int ls[j],rfl,rfl,I4.left,by lia,by lia,?_,by rw [aW,aF hj];rfl,?_⟩
   ·rw [aB];exact qTb hj
   have hpm:=qDo hj;have hel:(ls.eraseIdx j).length=ls.length - 1:=by rw [List.length_eraseIdx,if_pos hj]
   have hxm:ls[j]∈ls:=dZ hj;have hxr:=hlr _ hxm;have hxb:ls[j]∉bs:=λz=>(eM.mp hnd).2.2 _ z _ hxm rfl;have I5:=I4.popped hex (ls.eraseIdx j);rw [<-qGk];generalize upd G4 lf (.lst ((ls.eraseIdx j).map V.int))=G5 at I5 ⊢;generalize ls[j]=x at hpm hxm hxr hxb ⊢;clear I4;walk_at "re";refine qBb I5.tape (by lia) (by decide) (by decide) λway G6 a6 b6 T6 e6 k6=>?_;have I6:=I5.keep hex e6 T6;clear I5 e6 k6 T6;walk_at "re";refine⟨wa,ws,n,wk,x,rfl,dW I6.ext,hok,hwk,λlb nb G7 hlb e7 hlb7 hp7 hd7 hy7=>?_⟩;have I7:=I6.grown hex e7;have nlt:lb≠t:=I6.tape.ne hlb;have hnb:∀y∈nb,0<=y/\y<(wk.length:Int):=λy hy=>by have:=qNx hWk ((hy7 y).mp hy);lia
   have hnbl:=qFp hp7 hd7 hnb;clear I6 e7 hlb;have dW7:=dW I7.ext;obtain⟨a',vs,ea,hSq,hDL⟩:=dW7.ofList;cases ea;obtain⟨vw,hvw,hDw⟩:=hDL.get' (i:=n) (d:=workD wk) (by rw [aW,hwk];rfl);obtain⟨wb,ub,rfl,hSw,hDw'⟩:=hDw.ofList;have hul:ub.length=wk.length:=by rw [hDw'.len,aB]
   walk_at "re";refine qC2 hSq (qBa hvw) ?_;walk_at "re";refine⟨wb,ub,rfl,.inl hSw,?_⟩;rw [hul];refine⟨_,rfl,by lia,by lia,λlc hlc=>?_⟩;rw [show ((wk.length:Nat):Int).toNat=wk.length by lia];clear hSw hSq hDw hDw' hDL hvw dW7;have nct:t≠lc:=λz=>by obtain⟨_,_,_,q1,_⟩:=I7.tape;rw [z,hlc] at q1;cases q1
   refine qDm (lo:=0) (n:=wk.length) (λi σ' G8 => ∃(o0:Option V) (ms:List Int) (k8:Nat),σ' = [o0,some (.ref t),some (.int way)]/\Ext [lc,t] G7 G8/\G8 lc=some (.lst (ms.map V.int))/\ms.length<=i/\(∀y∈ms,0<=y/\y<(i:Int))/\Tape G8 t k8/\k8<=kk+2+i) ?_ ?_ ?_
   ·refine⟨none,[],_,rfl,(Ext.laid hlc),qA1,aE _,by simp,I7.tape.ext (ts :=[]) (.laid hlc) (by simp),by lia⟩
   ·rintro i σ' G8 R hi ⟨o0,ms,k8,rfl,e8,hl8,hml,hmr,T8,hk8⟩ hR;have yes:∀ {G9:Hp} {k9:Nat},Ext [lc,t] G7 G9->G9 lc=some (.lst (ms.map V.int))->Tape G9 t k9->k9<=k8+1->eApp (tVar 0) lc [some (.int (0+(i:Int))),some (.ref t),some (.int way)] G9 R:=λ{G9 k9} e9 hl9 T9 hk9=>by
     walk_at "re";refine⟨_,hl9,qAc (by rw [aB];lia),hR _ _ ⟨_,ms ++ [0+(i:Int)],k9,rfl,e9.trans (.put (by simp)),by rw [qA1,aN];rfl,by rw [aG,cT];lia,λy hy=>?_,T9.ext (ts :=[lc]) (.put (by simp)) (by simpa using nct),by lia⟩⟩;rcases aM.mp hy with z | z
     ·have:=hmr y z;lia
     ·have z:y=0+(i:Int):=by simpa using z
      lia
    have no:∀ {G9:Hp} {k9:Nat},Ext [lc,t] G7 G9->G9 lc=some (.lst (ms.map V.int))->Tape G9 t k9->k9<=k8+1->R [some (.int (0+(i:Int))),some (.ref t),some (.int way)] G9:=λ{G9 k9} e9 hl9 T9 hk9 =>
     hR _ _ ⟨_,ms,k9,rfl,e9,hl9,by lia,λy hy=>by have:=hmr y hy;lia,T9,by lia⟩
    walk_at "re";refine qC5 ⟨_,rfl,?_⟩;refine ite2 (λg=>iteT (iteT (yes e8 hl8 T8 (by lia)))) (λg=>?_);walk_at "re";refine ite2 (λg2=>?_) (λg2=>?_)
    ·walk_at "re";refine qBb T8 (by lia) (by decide) (by decide) λr9 G9 a9 b9 T9 e9 k9=>?_;have E9:Ext [lc,t] G7 G9:=e8.trans (e9.mono (by simp));have hl9:G9 lc=some (.lst (ms.map V.int)):=by rw [k9 lc (cS nct)];exact hl8
     walk_at "re";refine qC5 ⟨_,rfl,?_⟩;refine ite2 (λg3=>?_) (λg3=>?_)
     ·exact iteT (yes E9 hl9 T9 (by lia))
     ·exact iteF (no E9 hl9 T9 (by lia))
    ·exact iteF (no e8 hl8 T8 (by lia))
   ·rintro σ' G8 ⟨o0,ms,k8,rfl,e8,hl8,hml,hmr,T8,hk8⟩;have E8:Ext [t] G7 G8:=e8.drop hlc;have I8:=I7.keep hex E8 T8;have hlb8:=E8 _ _ (by simpa using nlt) hlb7;clear e8 E8 I7 T8 hlb7;walk_at "re";refine⟨lb,lc,_,_,rfl,rfl,hlb8,hl8,len2 (by rw [aB,aB];lia),λf1 hf1=>?_⟩;rw [<-aN];have X9:Ext [] G8 (upd G8 f1 (.lst ((nb++ms).map V.int))) :=.laid hf1;have hf19:(upd G8 f1 (.lst ((nb++ms).map V.int))) f1=some (.lst ((nb++ms).map V.int)):=qA1;generalize upd G8 f1 (.lst ((nb++ms).map V.int))=G9 at X9 hf19 ⊢;walk_at "re";have hal:=qDr (nb++ms);rw [aG] at hal;refine⟨f1,_,rfl,SqL.of hf19,by rw [aG];lia,λs1 hs1=>?_⟩;walk_at "re";refine⟨s1,_,rfl,qA1,by lia,λlx nx hlx hpx hso=>?_⟩
    have EF:Ext [] G8 (upd G9 s1 (setO w (qBo (nb++ms)))):=X9.trans (.laid hs1);have hmx:∀y,y∈nx↔y∈nb\/y∈ms:=λy=>by rw [hpx.mem_iff,qEw,aM]
    have hrx:nx.Pairwise (· < ·):=(hso.and (hpx.symm.nodup (qDe _))).imp λ{a b} z=>by obtain⟨z1,z2⟩:=z;lia
    have hlx8:G8 lx=none:=EF.none (by simp) hlx;have EX:Ext [] G8 (upd (upd G9 s1 (setO w (qBo (nb++ms)))) lx (.lst (nx.map V.int))):=EF.trans (.laid hlx);have hxX:(upd (upd G9 s1 (setO w (qBo (nb++ms)))) lx (.lst (nx.map V.int))) lx=some (.lst (nx.map V.int)):=qA1;generalize upd (upd G9 s1 (setO w (qBo (nb++ms)))) lx (.lst (nx.map V.int))=GX at EX hxX ⊢;clear EF hlx hpx hso hs1 hf19 X9 hf1;have IX:=I8.put (rs':=ls.eraseIdx j) (x:=x) (ns:=nx) (m:=0) (works:=0) hex EX hlx8 hxX hpm.symm hxb hrx (λy hy=>?_) (λy hy=>(hmx y).mpr (.inl ((hy7 y).mpr hy)));walk_at "re";have hPX:=(I8.grown hex EX).plan;refine⟨d,_,rfl,.inl ⟨_,Sum.inl x,hPX.dict,rfl,qAc ?_,rfl⟩,?_⟩
    ·rw [qGc hPX.len];lia
    ·refine⟨(ls.eraseIdx j).length,by lia,ls.eraseIdx j,_,_,_,k8,_,_,_,_,rfl,rfl,by lia,IX⟩
    ·rcases (hmx y).mp hy with z | z
     ·exact hnb y z
     ·exact hmr y z
end
section
variable{P:Program}{w:World}{K:PySem.W.Frag}{mg:Str->Option Value}{base:Heap}
abbrev sLPut:Stmt:=top 27
theorem scLPut:FnScope ["_law_work_here","_law_plan_here","_law_found","_law_way","_law_box"] ["_law_work_here","_law_plan_here"] (qA8 sLPut):=⟨rfl,rfl,rfl,by decide +kernel,rfl,by decide +kernel,by decide +kernel⟩
theorem qUz{f:Addr}{fd:FuncData}(F:Fun K "_law_put" "_law_put" sLPut f fd)(nsorted:mg "sorted" = none)(hWy:Has P w K mg base "_law_ways" 2 ["_law_work_here"] (qJ5 K)):FnOk P w K mg base CX0 3 f fd ["_law_work_here","_law_plan_here"] (qN4 K):=by
 refine F.ok scLPut (λvs H Q E h=>?_) (λcdv A outer s H vs Q E hr h=>?_)
 ·obtain⟨wa,d,wk,m,works,bs,as,f,rfl,_⟩:=h;rfl
 ·obtain⟨wa,d,wk,m,works,bs,as,f,rfl,hW,hOk,hm,hP,hbn,hbl,q⟩:=h;have hu:=qIm hr
  refine⟨_,(qA7 (qAo (i:=2) scLPut.nd rfl (Or.inl rfl) (qB0 qA3))
   (qA7 (qCb bX rfl (qAy (qAq hWy hr (by decide) (qA0 (pv 0) qA3))) (qAb (i:=3) scLPut.nd rfl (Or.inl rfl))
   (qA9 (qP3 (qCb bX rfl (qM5 (pv 1)) (qAb (i:=4) scLPut.nd rfl (Or.inl rfl))
   (qA9 (qCh (qAd qUr (qBk (inK K rfl) (qAu qCf (pv 3) qA6 (λ_ _=>rfl)) (qIg hu (pv 1) (pv 4) (λ_ _=>rfl)) rfl) (qBk (inK K rfl) (qAu qCf (pv 3) qA6 (λ_ _=>rfl)) (qIg hu (pv 1) (pv 4) (λ_ _=>rfl)) rfl) (qAf _)) (qA9 (qC6 (qEb bJ cB cC qBl (pv 2) (qA0 (qBc (qA0 (pv 3) (qA0 (qC7 (qAd (inK K rfl) (qAu qCf (pv 3) qA6 (λ_ _=>rfl)) (qIg hu (pv 1) (pv 4) (λ_ _=>rfl)) rfl) qB7 qB7) (qA0 (pv 4) qA3)))) qA3)))) qBg))))))
   (qA9 (qAt (qAe (qHw (qT8 hr)) (by rfl) nsorted cN (qA0 (pv 2) qA3)))))),?_⟩
  dsimp only [qBx,qBi,qDb,qIh,qSz];have hwl:=hOk.len;have hn2:∀b∈wk,b.ns.length<=2:=λb hb=>(hOk.blk b hb).ns.few;have hwy:=qBe hn2 wk.length;have nfz:∀o u,H d≠some (.frz o u):=λo u z=>by rw [hP.dict] at z;cases z
  walk_at "re";refine⟨len2 (aU _),λlf hlf=>?_⟩;have e0:Ext [] H (upd H lf (.lst [])) :=.laid hlf;have hlf0:(upd H lf (.lst [])) lf=some (.lst []):=qA1;generalize upd H lf (.lst [])=H1 at e0 hlf0 ⊢;walk_at "re";refine⟨wa,wk,m,works,rfl,hW.mono e0.toSame,hOk,hm,λlw H2 hlw e1 dW=>?_⟩;have E2:=e0.trans e1;have hd2:=E2 _ _ (by simp) hP.dict;have hlf2:=e1 _ _ (by simp) hlf0;obtain⟨lw',us,ew,hSw,dU⟩:=(dW.mono yo_same).ofList;cases ew;have hul:=dU.len;rw [aB] at hul;have ndl:d≠lf:=λz=>by rw [<-z,hP.dict] at hlf;cases hlf
  have hA1:∀(j:Nat) (a:Addr) (b:Int),as[j]? = some a->bs[j]? = some b->H2 a=some (.lst ((f b).map V.int))/\a≠d/\a≠lf:=λj a b h1 h2=>by
   obtain⟨ns,h3,h4⟩:=hP.lists.get h1;rw [aW,h2] at h3;have h3:f b=ns:=bF h3;rw [h3];exact⟨E2 _ _ (by simp) h4,λz=>hP.nda (z▸aO h1),qA2 h4 hlf⟩
  have nwl:lw≠lf:=λz=>by rw [z,hlf0] at hlw;cases hlw
  clear hlf0 e0 e1;generalize hkv:planK bs as=kv at hd2;refine⟨lw,rfl,⟨_,hSw⟩,qCp (xs:=us) (λi σ' G => ∃(o3 o4:Option V) (rs:List Addr),σ' = [some (.ref wa),some (.ref d),some (.ref lf),o3,o4]/\Ext [lf] H2 G/\G lf=some (.lst (rs.map V.ref))/\RowsI K G (rs.map V.ref) (rowsL ((qAa wk wk.length).take i) bs f)) ?_ ?_ ?_ ?_⟩
  ·exact⟨_,_,[],rfl,.refl _ _,hlf2,.nil⟩
  ·rintro i σ' G hi ⟨o3,o4,rs,rfl,e2,hlG,hI⟩;exact hSw.keepN e2 (by simpa using nwl)
  ·rintro i x σ' G hx ⟨o3,o4,rs,rfl,e2,hlG,hI⟩ N_ B_ C_ R_ hN_ hC_ hR_;obtain⟨dd,hdd,hDx⟩:=dU.get hx;obtain⟨wv,hwv,rfl⟩:=qB1 hdd;have hil:i<(qAa wk wk.length).length:=(aI.mp hwv).1;obtain⟨p,ps,rfl,hp1,hps⟩:=hDx.ofTuple;obtain⟨v1,q1,rfl,hv1,hq1⟩:=hps.ofCons;obtain⟨v2,q2,rfl,hv2,hq2⟩:=hq1.ofCons;have z1:=hv1.ofInt;have z2:=hv2.ofInt;have z3:=hq2.ofNil;subst z1 z2 z3;have hT0:Tups H2 G:=e2.tups λu hu xs q=>by
    have z:u=lf:=by simpa using hu
    subst z;rcases q with q | ⟨o,q⟩ <;> rw [hlf2] at q <;> cases q
   have hpG:=hT0.sq hp1;have hdG:=e2 _ _ (by simpa using ndl) hd2;walk_at "re";refine qOw ?_;walk_at "re";refine qLx ?_;walk_at "re";refine⟨d,kv,rfl,.inl hdG,λo=>?_⟩;have hT1:Tups G (upd G d (.frz o (.dK kv))):=Tups.melt hdG;have hI':=hI.mono hT1;have hpG':=hT1.sq hpG;have e3:Ext [d,lf] G (upd G d (.frz o (.dK kv))) :=.put (by simp);have hdG':(upd G d (.frz o (.dK kv))) d=some (.frz o (.dK kv)):=qA1;have hlG':(upd G d (.frz o (.dK kv))) lf=some (.lst (rs.map V.ref)):=by rw [qA4 (cS ndl)];exact hlG
   generalize upd G d (.frz o (.dK kv))=G' at hI' hpG' e3 hdG' hlG' ⊢;have hrl:=hI'.len;have hr2:=qJ9 ((qAa wk wk.length).take i) bs f;have hb1:((qAa wk wk.length).take i).length*bs.length<=25*8:=gJ (by rw [aV];lia) hbl;rw [aB] at hrl;clear hI hpG hT1 hT0;refine qQa (λj σ' G2 => ∃(o4:Option V) (rs:List Addr),σ' = [some (.ref wa),some (.ref d),some (.ref lf),some (.ref p),o4]/\Ext [lf] G' G2/\G2 lf=some (.lst (rs.map V.ref))/\RowsI K G2 (rs.map V.ref) (rowsL ((qAa wk wk.length).take i) bs f++(bs.take j).filterMap (rowOf f wv))) ?_ ?_ ?_ ?_
   ·exact⟨_,rs,rfl,.refl _ _,hlG',by rw [List.take_zero,List.filterMap_nil,bW];exact hI'⟩
   ·rintro j σ' G2 hj ⟨o4,rs,rfl,e4,hl4,hI4⟩;exact e4 _ _ (by simpa using ndl) hdG'
   ·rintro j k v σ' G2 hv ⟨o4,rs2,rfl,e4,hl4,hI4⟩ N2_ B2_ C2_ R2_ hN2_ hC2_ hR2_;rw [<-hkv] at hv;obtain⟨b,a,hb,ha,rfl,rfl⟩:=qM3 hv;obtain⟨ha1,nad,nal⟩:=hA1 j a b ha hb;have ha2:=e4 _ _ (by simpa using nal) (e3 _ _ (by simpa using ⟨nad,nal⟩) (e2 _ _ (by simpa using nal) ha1));have hd4:=e4 _ _ (by simpa using ndl) hdG';have hT2:Tups G' G2:=e4.tups λu hu xs q=>by
     have z:u=lf:=by simpa using hu
     subst z;rcases q with q | ⟨o,q⟩ <;> rw [hlG'] at q <;> cases q
    have hp4:=hT2.sq hpG';have hge:DGet G2 d (kV (Sum.inl b)) (some (.ref a)) :=.inl ⟨kv,Sum.inl b,.inr ⟨o,hd4⟩,rfl,by rw [<-hkv];exact (qGb hbn hb ha).symm⟩;have hr4:=hI4.len;rw [aB,aG] at hr4;have hf4:=eV (rowOf f wv) (bs.take j);rw [aV] at hf4;walk_at "re";refine⟨d,_,rfl,hge,?_⟩;refine⟨a,_,rfl,.inl (SqL.of ha2),rfl,qBu _,?_⟩;rw [if_neg aD,qC8];walk_at "re";refine⟨d,_,rfl,hge,?_⟩;refine⟨a,_,rfl,.inl (SqL.of ha2),rfl,qBu _,?_⟩;rw [if_neg aD,qC8];refine⟨rfl,_,rfl,?_⟩;by_cases hc:decide (wv.1∈f b)=decide (wv.2∈f b)
    ·rw [decide_eq_true (show V.bl (decide (wv.1∈f b))=V.bl (decide (wv.2∈f b)) by rw [hc])];refine iteF ?_;walk_at "re";refine⟨_,rs2,rfl,e4,hl4,?_⟩;rw [qJ7 hb,show rowOf f wv b=none from if_pos hc];exact (bW _).symm▸hI4
    ·rw [decide_eq_false (show ¬V.bl (decide (wv.1∈f b))=V.bl (decide (wv.2∈f b)) from λz=>hc (V.bl.inj z))];refine iteT ?_;walk_at "re";refine qDs hl4 ?_;walk_at "re";refine⟨d,_,rfl,hge,?_⟩;refine⟨a,_,rfl,.inl (SqL.of ha2),rfl,qBu _,?_⟩;rw [if_neg aD,qC8];have fin:∀(wd:V),wd = .str (wdS (decide (wv.2∈f b))) -> ∀tp,G2 tp=none->RowsI K (upd (upd G2 tp (.tup [.ref p,wd,.int b])) lf (.lst (rs2.map V.ref ++ [V.ref tp]))) ((rs2 ++ [tp]).map V.ref) (rowsL ((qAa wk wk.length).take i) bs f++(bs.take (j+1)).filterMap (rowOf f wv)):=λwd hwd tp htp=>by
      have ntl:tp≠lf:=λz=>by rw [z,hl4] at htp;cases htp
      have eT:Tups G2 (upd (upd G2 tp (.tup [.ref p,wd,.int b])) lf (.lst (rs2.map V.ref ++ [V.ref tp]))):=((Ext.laid (ts :=[]) htp).toSame.tups).trans (Tups.melt (by rw [qA4 (cS ntl)];exact hl4));rw [qJ7 hb,show rowOf f wv b=some (wv,decide (wv.2∈f b),b) from if_neg hc,<-bU,aN];refine hU (hI4.mono eT) ⟨tp,p,rfl,SqT.of ?_,eT.sq hp4⟩;rw [qA4 ntl,qA1,hwd]
     refine⟨_,rfl,?_⟩;cases hd:decide (wv.2∈f b) with
     | true =>
      rw [hd] at fin;refine iteT ?_;walk_at "re";refine⟨len2 (by simp),λtp htp=>?_⟩;have ntl:tp≠lf:=λz=>by rw [z,hl4] at htp;cases htp
      walk_at "re";refine qDu (by rw [qA4 (cS ntl)];exact hl4) (qAc (by rw [aB];lia)) ?_;refine L2.qEx hN2_ ⟨_,rs2 ++ [tp],rfl,(e4.trans (.laid htp)).trans (.put (by simp)),by rw [qA1,aN];rfl,fin _ rfl tp htp⟩
     | false =>
      rw [hd] at fin;refine iteF ?_;walk_at "re";refine⟨len2 (by simp),λtp htp=>?_⟩;have ntl:tp≠lf:=λz=>by rw [z,hl4] at htp;cases htp
      walk_at "re";refine qDu (by rw [qA4 (cS ntl)];exact hl4) (qAc (by rw [aB];lia)) ?_;refine L2.qEx hN2_ ⟨_,rs2 ++ [tp],rfl,(e4.trans (.laid htp)).trans (.put (by simp)),by rw [qA1,aN];rfl,fin _ rfl tp htp⟩
   ·rintro σ' G2 ⟨o4,rs2,rfl,e4,hl4,hI4⟩;have hkl:kv.length=bs.length:=by rw [<-hkv];exact qGc hP.len
    rw [hkl,bE,<-qN8 hwv] at hI4;have hd4:=e4 _ _ (by simpa using ndl) hdG';refine⟨d,o,_,hd4,nfz,?_⟩;refine L2.qEx hN_ ⟨_,_,rs2,rfl,e2.trans ((e3.trans (e4.mono (by simp))).melt hdG),by rw [qA4 (cS ndl)];exact hl4,hI4.mono (Tups.melt hd4)⟩
  ·rintro σ' G ⟨o3,o4,rs,rfl,e2,hlG,hI⟩;rw [hul,bE] at hI;walk_at "re";refine⟨lf,_,_,rfl,SqL.of hlG,hI,λl ps hl hpm hpw=>?_⟩;have eA:Ext [] H G:=λb u _ h=>e2 _ _ (by simpa using qA2 h hlf) (E2 _ _ (by simp) h);obtain⟨z1,z2⟩:=qLn hI hpm;have eL:Ext [] G (upd G l (.lst (ps.map (·.1)))) :=.laid hl;exact q l _ _ _ (eA.none (by simp) hl) (eA.trans eL) qA1 (z1.mono eL.toSame.tups) z2 hpw
end
section
variable{P:Program}{w:World}{K:PySem.W.Frag}{mg:Str->Option Value}{base:Heap}
abbrev sHome:Stmt:=top 5
theorem scHome:FnScope ["work","way","ways"] ["work","way"] (qA8 sHome):=⟨rfl,rfl,rfl,by decide +kernel,rfl,by decide +kernel,by decide +kernel⟩
theorem qV0{f:Addr}{fd:FuncData}(F:Fun K "home_of" "home_of" sHome f fd)(nlen:mg "len" = none)(hWy:Has P w K mg base "ways_of" 1 ["work"] (qFm K)):FnOk P w K mg base CX0 2 f fd ["work","way"] (qG4 K homeS):=by
 refine F.ok scHome (λvs H Q E h=>?_) (λcdv A outer s H vs Q E hr h=>?_)
 ·obtain⟨wa,b,wk,m,works,p,rfl,_⟩:=h;rfl
 ·obtain⟨wa,b,wk,m,works,p,rfl,hW,hOk,hm,hb,q⟩:=h;have hu:=qIm hr
  refine⟨_,(qA7 (qCh (qAd (qPd hr) (pv 1) (qBc (qA0 (qRy qLp qA6) (qA0 qA6 qA3))) (qAf _)) (qA9 (qAt qB7)) qBg)
   (qA7 (qAo (i:=2) scHome.nd rfl (Or.inl rfl) (qAq hWy hr (by decide) (qA0 (pv 0) qA3)))
   (qA7 (qCh (qAd qBp (qAe qAh (by rfl) nlen cD (qA0 (qCl ["other"] [1] rfl (.of rfl) (qAy (pv 2)) (λ_ _ _ _=>(qAb (i:=0) (by show (((["other","way"]:List Str))).Nodup;decide) rfl (Or.inl rfl))) (λ_ _ _ _ =>.cons (qAd qBp (qAu (qBt K rfl) (pv 0) qA6 (λ_ _=>rfl)) (qAu (qBt K rfl) (pv 1) qA6 (λ_ _=>rfl)) (qAf _)) .nil) (λ_ _ _ _=>(pv 0))) qA3)) qA6 (qAf _)) (qA9 (qAt qB7)) qBg)
   (qA7 (qCh (qAd qBp (qAe qAh (by rfl) nlen cD (qA0 (qCl ["other"] [1] rfl (.of rfl) (qAy (pv 2)) (λ_ _ _ _=>(qAb (i:=0) (by show (((["other","way"]:List Str))).Nodup;decide) rfl (Or.inl rfl))) (λ_ _ _ _ =>.cons (qAd qBp (qAu (qBt K rfl) (pv 0) qA6 (λ_ _=>rfl)) (qAu (qBt K rfl) (pv 1) qA6 (λ_ _=>rfl)) (qAf _)) .nil) (λ_ _ _ _=>(pv 0))) qA3)) qA6 (qAf _)) (qA9 (qAt qB7)) qBg)
   (qA9 (qAt qB7)))))),?_⟩
  dsimp only [qBx,qBi,qDb,qIh,qSz];have hwl:=hOk.len;have hn2:∀b∈wk,b.ns.length<=2:=λb hb=>(hOk.blk b hb).ns.few;have hwy:=qBe hn2 wk.length;walk_at "re";refine⟨len2 (by decide),λt0 ht0=>?_⟩;have e0:Ext [] H (upd H t0 (.tup [.int (-1),.int 0])) :=.laid ht0;have hb0:=e0.toSame.tups.sq hb;have hW0:=hW.mono e0.toSame;have ht1:(upd H t0 (.tup [.int (-1),.int 0])) t0=some (.tup [.int (-1),.int 0]):=qA1;generalize upd H t0 (.tup [.int (-1),.int 0])=G at *;refine⟨pairD p,pairD (-1,0),denP hb0,denP (p:=(-1,0)) (.inl (.inl ht1)),rfl,rfl,?_⟩;refine⟨_,rfl,?_⟩;rw [show (if false=true then !(pairD p).eqv (pairD (-1,0)) else (pairD p).eqv (pairD (-1,0)))=decide (p=(-1,0)) from qSs _ _];by_cases hp:p=(-1,0)
  ·rw [if_pos (decide_eq_true hp)];walk_at "re";have:=q _ e0;unfold homeS at this;rw [if_pos hp] at this;exact this
  ·rw [if_neg (by rw [decide_eq_false hp];decide)];walk_at "re";refine⟨wa,wk,m,works,rfl,hW0,hOk,hm,λlw us H1 hlw e1 hlw1 hus=>?_⟩;have dU1:DenL K H1 ((qAa wk wk.length).map pairD) us:=hus.mono yo_same;have hul:=dU1.len;have eE1:=e0.trans e1;rw [aB] at hul;have hb1:=e1.toSame.tups.sq hb0;walk_at "re";refine⟨lw,rfl,⟨_,SqL.of hlw1⟩,λlc hlc=>?_⟩;refine qAp (xs:=us) (λi σ' G' => ∃(o0:Option V) (ts:List V),σ' = [o0,some (.ref b)]/\Ext [lc] H1 G'/\G' lc=some (.lst ts)/\ts.length=cntO ((qAa wk wk.length).take i) p.1) ?_ ?_ ?_ ?_
   ·exact⟨none,[],rfl,.laid hlc,qA1,rfl⟩
   ·rintro i σ' G' hi ⟨o0,ts,rfl,e2,hl2,ht2⟩;exact SqL.of (e2 _ _ (by simpa using qA2 hlw1 hlc) hlw1)
   ·rintro i x σ' G' R hx ⟨o0,ts,rfl,e2,hl2,ht2⟩ hR;obtain⟨dd,hdd,hDx⟩:=dU1.get hx;obtain⟨wv,hwv,rfl⟩:=qB1 hdd;obtain⟨c,rfl,hc⟩:=qEy hDx;have hT:=qE8 e2 hlc;have hcG:=hT.sq hc;have hbG:=hT.sq hb1;walk_at "re";refine qC5 ⟨_,rfl,?_⟩;have hst:=qKd hwv p.1;have hle:=qQu ((qAa wk wk.length).take i) p.1;rw [aV] at hle;by_cases hq:wv.1=p.1
    ·rw [if_pos (decide_eq_true hq),if_pos rfl];walk_at "re";refine⟨_,hl2,qAc (by lia),hR _ _ ⟨_,_,rfl,e2.trans (.put (by simp)),qA1,?_⟩⟩;rw [hst,if_pos hq,aG,ht2];rfl
    ·rw [if_neg (by rw [decide_eq_false hq];decide),if_neg (by decide)];exact hR _ _ ⟨_,_,rfl,e2,hl2,by rw [hst,if_neg hq];exact ht2⟩
   ·rintro σ' G2 ⟨o0,ts,rfl,e2,hl2,ht2⟩;rw [hul,bE] at ht2;have e3:=e2.young1 hlc;have hbG:=e3.toSame.tups.sq hb1;have eG:=eE1.trans e3;walk_at "re";refine⟨lc,ts,rfl,.inl (SqL.of hl2),?_⟩;rw [ht2];dsimp only;walk_at "re";refine qC5 ⟨_,rfl,?_⟩;by_cases hz:cntO (qAa wk wk.length) p.1=1
    ·rw [if_pos (by rw [hz];rfl)];walk_at "re";have:=q _ eG;unfold homeS at this;rw [if_neg hp,if_pos hz] at this;exact this
    ·rw [if_neg (by simpa using λz=>hz (by lia))];have hlw2:=e3 _ _ (by simp) hlw1;have dU2:=dU1.mono e3.toSame;have eE2:=eG;have hb2:=hbG;clear hl2 ht2 e2;walk_at "re";refine⟨lw,rfl,⟨_,SqL.of hlw2⟩,λlc2 hlc2=>?_⟩;refine qAp (xs:=us) (λi σ' G' => ∃(o0:Option V) (ts:List V),σ' = [o0,some (.ref b)]/\Ext [lc2] G2 G'/\G' lc2=some (.lst ts)/\ts.length=cntI ((qAa wk wk.length).take i) p.2) ?_ ?_ ?_ ?_
     ·exact⟨none,[],rfl,.laid hlc2,qA1,rfl⟩
     ·rintro i σ' G' hi ⟨o0,ts,rfl,e2,hl2,ht2⟩;exact SqL.of (e2 _ _ (by simpa using qA2 hlw2 hlc2) hlw2)
     ·rintro i x σ' G' R hx ⟨o0,ts,rfl,e2,hl2,ht2⟩ hR;obtain⟨dd,hdd,hDx⟩:=dU2.get hx;obtain⟨wv,hwv,rfl⟩:=qB1 hdd;obtain⟨c,rfl,hc⟩:=qEy hDx;have hT:=qE8 e2 hlc2;have hcG:=hT.sq hc;have hbG:=hT.sq hb2;walk_at "re";refine qC5 ⟨_,rfl,?_⟩;have hst:=qKe hwv p.2;have hle:=qQv ((qAa wk wk.length).take i) p.2;rw [aV] at hle;by_cases hq:wv.2=p.2
      ·rw [if_pos (decide_eq_true hq),if_pos rfl];walk_at "re";refine⟨_,hl2,qAc (by lia),hR _ _ ⟨_,_,rfl,e2.trans (.put (by simp)),qA1,?_⟩⟩;rw [hst,if_pos hq,aG,ht2];rfl
      ·rw [if_neg (by rw [decide_eq_false hq];decide),if_neg (by decide)];exact hR _ _ ⟨_,_,rfl,e2,hl2,by rw [hst,if_neg hq];exact ht2⟩
     ·rintro σ' G3 ⟨o0,ts,rfl,e2,hl2,ht2⟩;rw [hul,bE] at ht2;have e3:=e2.young1 hlc2;have hbG:=e3.toSame.tups.sq hb2;have eG:=eE2.trans e3;walk_at "re";refine⟨lc2,ts,rfl,.inl (SqL.of hl2),?_⟩;rw [ht2];dsimp only;walk_at "re";refine qC5 ⟨_,rfl,?_⟩;by_cases hy:cntI (qAa wk wk.length) p.2=1
      ·rw [if_pos (by rw [hy];rfl)];walk_at "re";have:=q _ eG;unfold homeS at this;rw [if_neg hp,if_neg hz,if_pos hy] at this;exact this
      ·rw [if_neg (by simpa using λz=>hy (by lia))];walk_at "re";have:=q _ eG;unfold homeS at this;rw [if_neg hp,if_neg hz,if_neg hy] at this;exact this
end
section
variable{P:Program}{w:World}{K:PySem.W.Frag}{mg:Str->Option Value}{base:Heap}
abbrev qEp:Stmt:=top 6
theorem qRk:FnScope ["work","plan"] ["work","plan"] (qA8 qEp):=⟨rfl,rfl,rfl,by decide +kernel,rfl,by decide +kernel,by decide +kernel⟩
theorem qPg{f:Addr}{fd:FuncData}(F:Fun K "splits" "splits" qEp f fd)(nsorted:mg "sorted" = none)(hPo:Has P w K mg base "put_on" 2 ["work","plan"] (qN4 K))(hHo:Has P w K mg base "home_of" 2 ["work","way"] (qG4 K homeS)):FnOk P w K mg base CX0 3 f fd ["work","plan"] (qI4 K):=by
 refine F.ok qRk (λvs H Q E h=>?_) (λcdv A outer s H vs Q E hr h=>?_)
 ·obtain⟨wa,d,wk,m,works,bs,as,f,rfl,_⟩:=h;rfl
 ·obtain⟨wa,d,wk,m,works,bs,as,f,rfl,hW,hOk,hm,hP,hbn,hbl,q⟩:=h;have hu:=qIm hr;refine⟨_,(qA9 (qAt (qAe (qLj hr.hd) (by rfl) nsorted cN (qA0 (qX6 ["way","word","box"] [0] P w K rfl rfl rfl hu rfl (.of rfl) (qAy (qAq hPo hr (by decide) (qA0 (pv 0) (qA0 (pv 1) qA3)))) (λ_ _ _ _=>(qEu (n:=3) K rfl rfl (qAj (qAb (i:=0) (by show (((["way","word","box","work"]:List Str))).Nodup;decide) rfl (Or.inl rfl)) (qAj (qAb (i:=1) (by show (((["way","word","box","work"]:List Str))).Nodup;decide) rfl (Or.inl rfl)) (qAj (qAb (i:=2) (by show (((["way","word","box","work"]:List Str))).Nodup;decide) rfl (Or.inl rfl)) qBy))))) (λ_ _ _ _ =>.cons (qAd qBp (qAq hHo hr (by decide) (qA0 (pv 3) (qA0 (pv 0) qA3))) qB7 (qAf _)) .nil) (λ_ _ _ _=>(pv 0))) qA3)))),?_⟩
  dsimp only [qBx,qBi,qDb,qIh,qSz];have hwl:=hOk.len;have hn2:∀b∈wk,b.ns.length<=2:=λb hb=>(hOk.blk b hb).ns.few;have hwy:=qBe hn2 wk.length;walk_at "re";refine⟨wa,d,wk,m,works,bs,as,f,rfl,hW,hOk,hm,hP,hbn,hbl,λlr us ks H1 hlr e1 hlr1 hrows hperm hsort=>?_⟩;have hul:=hrows.len;refine⟨lr,rfl,⟨_,SqL.of hlr1⟩,λlc hlc=>?_⟩;have kw:∀k∈ks,k.1∈qAa wk wk.length:=λk hk=>(qU9 (hperm.mem_iff.mp hk)).1;refine qAp (xs:=us) (λi σ' G => ∃(o0 o1 o2:Option V) (qs:List (Addr×(Int×Int))),σ' = [o0,o1,o2,some (.ref wa)]/\Ext [lc] H1 G/\G lc=some (setTO P w (qs.map phi))/\(∀q∈qs,SqT K G q.1 [.int q.2.1,.int q.2.2])/\(qs.map (·.2)).Nodup /\ ∀v,v∈qs.map (·.2)↔(∃k∈ks.take i,k.1=v)/\homeS (qAa wk wk.length) v=("split" : Str)) ?_ ?_ ?_ ?_
  ·refine⟨none,none,none,[],rfl,.laid hlc,qA1,λq hq=>(by cases hq),List.nodup_nil,λv=>⟨λz=>(by cases z),λ⟨⟨k,hk,_⟩,_⟩=>(by rw [List.take_zero] at hk;cases hk)⟩⟩
  ·rintro i σ' G hi ⟨o0,o1,o2,qs,rfl,e2,hl2,hq2,hn2,hm2⟩;exact SqL.of (e2 _ _ (by simpa using qA2 hlr1 hlc) hlr1)
  ·rintro i x σ' G R hx ⟨o0,o1,o2,qs,rfl,e2,hl2,hq2,hn2,hm2⟩ hR;obtain⟨k,hk,a,c,rfl,ha,hc⟩:=qEv hrows hx;have e3:=e2.young1 hlc;have haG:=e3.toSame.tups.sq ha;have hcG:=e3.toSame.tups.sq hc;have hWG:=(hW.mono e1.toSame).mono e3.toSame;refine qCk haG rfl ?_;walk_at "re";refine⟨wa,c,wk,m,works,k.1,rfl,hWG,hOk,hm,hcG,λG' e4=>?_⟩;walk_at "re";refine qNc ⟨_,rfl,?_⟩;have tk:ks.take (i+1)=ks.take i ++ [k]:=qAw hk;have e5:Ext [lc] H1 G':=e2.trans (e4.mono (by simp));have hl4:=e4 _ _ (by simp) hl2;have hq4:∀q∈qs,SqT K G' q.1 [.int q.2.1,.int q.2.2]:=λq hq=>e4.toSame.tups.sq (hq2 q hq);have hcG4:=e4.toSame.tups.sq hcG;have hql:qs.length<=(qAa wk wk.length).length:=by
    have h1:(qs.map (·.2)).length<=(qAa wk wk.length).length:=gC hn2 (λv hv=>by
     obtain⟨⟨k',hk',e⟩,_⟩:=(hm2 v).mp hv
     exact e▸kw k' (gR hk'))
    rwa [aB] at h1
   by_cases hs:homeS (qAa wk wk.length) k.1=("split" : Str)
   ·rw [if_pos (decide_eq_true hs),if_pos rfl];unfold eAddT;walk_at "re";refine⟨qs.map phi,c,tOf k.1,rfl,hl4,λq hq=>?_,hcG4,by rw [aB];lia,?_⟩
    ·obtain⟨q',hq',rfl⟩:=bH.mp hq;exact hq4 q' hq'
    ·rw [qVv];have eT:Tups G' (upd G' lc (setTO P w ((addP qs c k.1).map phi))):=Tups.melt hl4 (λxs=>⟨(λz=>by cases z),λ_ z=>by cases z⟩);refine hR _ _ ⟨_,_,_,addP qs c k.1,rfl,e5.trans (.put (by simp)),qA1,λq hq=>eT.sq ?_,qO0 hn2,λv=>?_⟩
     ·rcases qPr hq with z | z
      ·exact hq4 q z
      ·subst z;exact hcG4
     ·rw [qSh,hm2,tk];constructor
      ·rintro (⟨⟨k',hk',e⟩,hs'⟩ | rfl)
       ·exact⟨⟨k',bO _ hk',e⟩,hs'⟩
       ·exact⟨⟨k,by simp,rfl⟩,hs⟩
      ·rintro⟨⟨k',hk',e⟩,hs'⟩;rcases aM.mp hk' with z | z
       ·exact .inl ⟨⟨k',z,e⟩,hs'⟩
       ·have z:k'=k:=by simpa using z
        subst z;exact .inr e.symm
   ·rw [if_neg (by rw [decide_eq_false hs];decide),if_neg (by decide)];refine hR _ _ ⟨_,_,_,qs,rfl,e5,hl4,hq4,hn2,λv=>?_⟩;rw [hm2,tk];constructor
    ·rintro⟨⟨k',hk',e⟩,hs'⟩;exact⟨⟨k',bO _ hk',e⟩,hs'⟩
    ·rintro⟨⟨k',hk',e⟩,hs'⟩;rcases aM.mp hk' with z | z
     ·exact⟨⟨k',z,e⟩,hs'⟩
     ·have z:k'=k:=by simpa using z
      subst z;subst e;exact absurd hs' hs
  ·rintro σ' G ⟨o0,o1,o2,qs,rfl,e2,hl2,hq2,hn2,hm2⟩;rw [hul,bE] at hm2;walk_at "re";have e3:=e2.young1 hlc;refine⟨lc,qs.map phi,rfl,hl2,λq hq=>?_,λl rs hl pr up=>?_⟩
   ·obtain⟨q',hq',rfl⟩:=bH.mp hq;exact⟨hq2 q' hq',λz=>by cases z⟩
   ·obtain⟨rq,pq,rfl⟩:=qGd pr;have hnr:(rq.map (·.2)).Nodup:=((pq.map (·.2)).nodup_iff).mpr hn2;have hris:=qN9 up hnr;have he:rq.map (·.2)=qBj (qAa wk wk.length) bs f:=qG7 hris ((qDx hOk).sublist List.filter_sublist) λv=>by
     rw [(pq.map (·.2)).mem_iff,hm2,qNp];constructor
     ·rintro⟨⟨k,hk,e⟩,hs⟩;exact⟨⟨k,hperm.mem_iff.mp hk,e⟩,hs⟩
     ·rintro⟨⟨k,hk,e⟩,hs⟩;exact⟨⟨k,hperm.mem_iff.mpr hk,e⟩,hs⟩
    have eA:Ext [] H G:=e1.trans e3;have eB:Ext [] G (upd G l (.lst ((rq.map phi).map λq=>V.ref q.1))) :=.laid hl;refine q l _ _ (eA.none (by simp) hl) (eA.trans eB) qA1 ?_;rw [<-he];exact qK6 λq hq=>eB.toSame.tups.sq (hq2 q (pq.mem_iff.mp hq))
end
section
variable{P:Program}{w:World}{K:PySem.W.Frag}{mg:Str->Option Value}{base:Heap}
abbrev qHb:Stmt:=top 28
theorem scLHome:FnScope ["_law_work_here","_law_way","_law_ways_here"] ["_law_work_here","_law_way"] (qA8 qHb):=⟨rfl,rfl,rfl,by decide +kernel,rfl,by decide +kernel,by decide +kernel⟩
theorem qS7{f:Addr}{fd:FuncData}(F:Fun K "_law_home" "_law_home" qHb f fd)(nlen:mg "len" = none)(hWy:Has P w K mg base "_law_ways" 2 ["_law_work_here"] (qJ5 K)):FnOk P w K mg base CX0 3 f fd ["_law_work_here","_law_way"] (qG4 K homeL):=by
 refine F.ok scLHome (λvs H Q E h=>?_) (λcdv A outer s H vs Q E hr h=>?_)
 ·obtain⟨wa,b,wk,m,works,p,rfl,_⟩:=h;rfl
 ·obtain⟨wa,b,wk,m,works,p,rfl,hW,hOk,hm,hb,q⟩:=h;have hu:=qIm hr
  refine⟨_,(qA7 (qAo (i:=2) scLHome.nd rfl (Or.inl rfl) (qAq hWy hr (by decide) (qA0 (pv 0) qA3)))
   (qA7 (qCh (PW.pt (qF9 (qAd qXe (qAu (qBt K rfl) (pv 1) qA6 (λ_ _=>rfl)) qA6 (qAf _)) (qD5 (qAd qBp (qAe qAh (by rfl) nlen cD (qA0 (qCl ["_law_one"] [1] rfl (.of rfl) (qAy (pv 2)) (λ_ _ _ _=>(qAb (i:=0) (by show (((["_law_one","_law_way"]:List Str))).Nodup;decide) rfl (Or.inl rfl))) (λ_ _ _ _ =>.cons (qAd qBp (qAu (qBt K rfl) (pv 0) qA6 (λ_ _=>rfl)) (qAu (qBt K rfl) (pv 1) qA6 (λ_ _=>rfl)) (qAf _)) .nil) (λ_ _ _ _=>(pv 0))) qA3)) qA6 (qAf _))))) (qA9 (qAt qB7)) qBg)
   (qA9 (qAt (qC7 (qAd qBp (qAe qAh (by rfl) nlen cD (qA0 (qCl ["_law_one"] [1] rfl (.of rfl) (qAy (pv 2)) (λ_ _ _ _=>(qAb (i:=0) (by show (((["_law_one","_law_way"]:List Str))).Nodup;decide) rfl (Or.inl rfl))) (λ_ _ _ _ =>.cons (qAd qBp (qAu (qBt K rfl) (pv 0) qA6 (λ_ _=>rfl)) (qAu (qBt K rfl) (pv 1) qA6 (λ_ _=>rfl)) (qAf _)) .nil) (λ_ _ _ _=>(pv 0))) qA3)) qA6 (qAf _)) qB7 qB7))))),?_⟩
  dsimp only [qBx,qBi,qDb,qIh,qSz];have hwl:=hOk.len;have hn2:∀b∈wk,b.ns.length<=2:=λb hb=>(hOk.blk b hb).ns.few;have hwy:=qBe hn2 wk.length;walk_at "re";refine⟨wa,wk,m,works,rfl,hW,hOk,hm,λlw H1 hlw eE1 hus=>?_⟩;obtain⟨lw',us,ez,hlw1,dU1⟩:=(hus.mono yo_same).ofList;cases ez;have hul:=dU1.len;rw [aB] at hul;have hb1:=eE1.toSame.tups.sq hb;walk_at "re";rename_i NA NB hNA hNB;have rest : ¬(0<=p.1/\cntO (qAa wk wk.length) p.1=1) -> ∀G2,Ext [] H1 G2->NB (List.set (L2.start ["_law_work_here","_law_way","_law_ways_here"] [V.ref wa,V.ref b]) 2 (some (V.ref lw))) G2:=by
   intro hz G2 eH;have hlw2:=hlw1.keepN eH (by simp);have dU2:=dU1.mono eH.toSame;have eE2:=eE1.trans eH;have hb2:=eH.toSame.tups.sq hb1;walk_at "re";refine⟨lw,rfl,⟨_,hlw2⟩,λlc2 hlc2=>?_⟩;refine qAp (xs:=us) (λi σ' G' => ∃(o0:Option V) (ts:List V),σ' = [o0,some (.ref b)]/\Ext [lc2] G2 G'/\G' lc2=some (.lst ts)/\ts.length=cntI ((qAa wk wk.length).take i) p.2) ?_ ?_ ?_ ?_
   ·exact⟨none,[],rfl,.laid hlc2,qA1,rfl⟩
   ·rintro i σ' G' hi ⟨o0,ts,rfl,e2,hl2,ht2⟩;exact hlw2.keepN (e2.young1 hlc2) (by simp)
   ·rintro i x σ' G' R hx ⟨o0,ts,rfl,e2,hl2,ht2⟩ hR;obtain⟨dd,hdd,hDx⟩:=dU2.get hx;obtain⟨wv,hwv,rfl⟩:=qB1 hdd;obtain⟨c,rfl,hc⟩:=qEy hDx;have hT:=qE8 e2 hlc2;have hcG:=hT.sq hc;have hbG:=hT.sq hb2;walk_at "re";refine qC5 ⟨_,rfl,?_⟩;have hst:=qKe hwv p.2;have hle:=qQv ((qAa wk wk.length).take i) p.2;rw [aV] at hle;by_cases hq:wv.2=p.2
    ·rw [if_pos (decide_eq_true hq),if_pos rfl];walk_at "re";refine⟨_,hl2,qAc (by lia),hR _ _ ⟨_,_,rfl,e2.trans (.put (by simp)),qA1,?_⟩⟩;rw [hst,if_pos hq,aG,ht2];rfl
    ·rw [if_neg (by rw [decide_eq_false hq];decide),if_neg (by decide)];exact hR _ _ ⟨_,_,rfl,e2,hl2,by rw [hst,if_neg hq];exact ht2⟩
   ·rintro σ' G3 ⟨o0,ts,rfl,e2,hl2,ht2⟩;rw [hul,bE] at ht2;have e3:=e2.young1 hlc2;have hbG:=e3.toSame.tups.sq hb2;have eG:=eE2.trans e3;walk_at "re";refine⟨lc2,ts,rfl,.inl (SqL.of hl2),?_⟩;rw [ht2];dsimp only;walk_at "re";refine qC5 ⟨_,rfl,?_⟩;have:=q _ eG;unfold homeL at this;rw [if_neg hz] at this;by_cases hy:cntI (qAa wk wk.length) p.2=1
    ·rw [if_pos (by rw [hy];rfl)];walk_at "re";rw [if_pos hy] at this;exact this
    ·rw [if_neg (by simpa using λz=>hy (by lia))];walk_at "re";rw [if_neg hy] at this;exact this
  by_cases h0:0<=p.1
  ·rw [if_pos (decide_eq_true h0)];walk_at "re";refine⟨lw,rfl,⟨_,hlw1⟩,λlc hlc=>?_⟩;refine qAp (xs:=us) (λi σ' G' => ∃(o0:Option V) (ts:List V),σ' = [o0,some (.ref b)]/\Ext [lc] H1 G'/\G' lc=some (.lst ts)/\ts.length=cntO ((qAa wk wk.length).take i) p.1) ?_ ?_ ?_ ?_
   ·exact⟨none,[],rfl,.laid hlc,qA1,rfl⟩
   ·rintro i σ' G' hi ⟨o0,ts,rfl,e2,hl2,ht2⟩;exact hlw1.keepN (e2.young1 hlc) (by simp)
   ·rintro i x σ' G' R hx ⟨o0,ts,rfl,e2,hl2,ht2⟩ hR;obtain⟨dd,hdd,hDx⟩:=dU1.get hx;obtain⟨wv,hwv,rfl⟩:=qB1 hdd;obtain⟨c,rfl,hc⟩:=qEy hDx;have hT:=qE8 e2 hlc;have hcG:=hT.sq hc;have hbG:=hT.sq hb1;walk_at "re";refine qC5 ⟨_,rfl,?_⟩;have hst:=qKd hwv p.1;have hle:=qQu ((qAa wk wk.length).take i) p.1;rw [aV] at hle;by_cases hq:wv.1=p.1
    ·rw [if_pos (decide_eq_true hq),if_pos rfl];walk_at "re";refine⟨_,hl2,qAc (by lia),hR _ _ ⟨_,_,rfl,e2.trans (.put (by simp)),qA1,?_⟩⟩;rw [hst,if_pos hq,aG,ht2];rfl
    ·rw [if_neg (by rw [decide_eq_false hq];decide),if_neg (by decide)];exact hR _ _ ⟨_,_,rfl,e2,hl2,by rw [hst,if_neg hq];exact ht2⟩
   ·rintro σ' G2 ⟨o0,ts,rfl,e2,hl2,ht2⟩;rw [hul,bE] at ht2;have e3:=e2.young1 hlc;have hbG:=e3.toSame.tups.sq hb1;have eG:=eE1.trans e3;walk_at "re";refine⟨lc,ts,rfl,.inl (SqL.of hl2),?_⟩;rw [ht2];dsimp only;walk_at "re";refine qC5 ⟨_,rfl,?_⟩;by_cases hz:cntO (qAa wk wk.length) p.1=1
    ·rw [if_pos (by rw [hz];rfl)];walk_at "re";have:=q _ eG;unfold homeL at this;rw [if_pos ⟨h0,hz⟩] at this;exact this
    ·rw [if_neg (by simpa using λz=>hz (by lia))];exact rest (λz=>hz z.2) _ e3
  ·rw [if_neg (by rw [decide_eq_false h0];decide),if_neg (by decide)];exact rest (λz=>h0 z.1) _ (.refl _ _)
end
section
variable{P:Program}{w:World}{K:PySem.W.Frag}{mg:Str->Option Value}{base:Heap}
abbrev sLaw:Stmt:=top 29
theorem scLaw:FnScope ["_law_script","_law_k","_law_tape_here","_law_works_here","_law_number_here","_law_work_here","_law_plan_here","_law_way","_law_found","_law_ways_here","_law_due"] ["_law_script"] (qA8 sLaw):=⟨rfl,rfl,rfl,by decide +kernel,rfl,by decide +kernel,by decide +kernel⟩
def qRf(K:PySem.W.Frag):Sp:=λvs H Q _ => ∃(a:Addr) (ns:List Int),vs = [.ref a]/\SqL K H a (ns.map V.int)/\ns.length<=63 /\ ∀H',Q (.bl true) H'
theorem qXf{f:Addr}{fd:FuncData}(F:Fun K "law" "law" sLaw f fd)(nrange:mg "range" = none)(nlen:mg "len" = none)(nmax:mg "max" = none)(nmin:mg "min" = none)(nrepr:mg "repr" = none)(nenumerate:mg "enumerate" = none)(nisi:mg "isinstance" = none)(nstr:mg "str" = none)
  (hT:Has P w K mg base "_law_tape" 1 ["_law_script","_law_k"] (qOf K)) (hW:Has P w K mg base "_law_works" 5 ["_law_tape_here","_law_most"] (qI2 K))
  (hP:Has P w K mg base "_law_plan" 4 ["_law_tape_here","_law_works_here","_law_number_here"] (qOh K)) (hLp:Has P w K mg base "_law_put" 3 ["_law_work_here","_law_plan_here"] (qN4 K)) (hWy:Has P w K mg base "_law_ways" 2 ["_law_work_here"] (qJ5 K))
  (hLh:Has P w K mg base "_law_home" 3 ["_law_work_here","_law_way"] (qG4 K homeL)) (hHo:Has P w K mg base "home_of" 2 ["work","way"] (qG4 K homeS)) (hSp:Has P w K mg base "splits" 3 ["work","plan"] (qI4 K)) :
  FnOk P w K mg base CX0 6 f fd ["_law_script"] (qRf K):=by
 refine F.ok scLaw (λvs H Q E h=>?_) (λcdv A outer s H vs Q E hr h=>?_)
 ·obtain⟨a,ns,rfl,_⟩:=h;rfl
 ·obtain⟨a,ns,rfl,hSq,hlen,q⟩:=h;have hu:=qIm hr
  refine⟨_,(qA7 (qCb bX rfl (qBr rfl nrange (qA0 (qAe (qKh rfl) (by rfl) nmax PyProof.Rows.boot_max (qA0 qA6 (qA0 (qAe (qQy rfl) (by rfl) nmin PyProof.Rows.boot_min (qA0 (qAe qAh (by rfl) nlen cD (qA0 (pv 0) qA3)) (qA0 qA6 qA3))) qA3))) qA3)) (qAb (i:=1) scLaw.nd rfl (Or.inl rfl))
   (qA7 (qAo (i:=2) scLaw.nd rfl (Or.inl rfl) (qAq hT hr (by decide) (qA0 (pv 0) (qA0 (pv 1) qA3))))
   (qA7 (qAo (i:=3) scLaw.nd rfl (Or.inl rfl) (qAq hW hr (by decide) (qA0 (pv 2) (qA0 qA6 qA3))))
   (qA9 (qCb bX rfl (qL8 rfl nenumerate (qA0 (pv 3) qA3)) (qFa (n:=2) rfl (qAj (qAb (i:=4) scLaw.nd rfl (Or.inl rfl)) (qAj (qAb (i:=5) scLaw.nd rfl (Or.inr rfl)) qBy)))
   (qA7 (qAo (i:=6) scLaw.nd rfl (Or.inl rfl) (qAq hP hr (by decide) (qA0 (pv 2) (qA0 (pv 3) (qA0 (pv 4) qA3)))))
   (qA7 (qCb bX rfl (qAy (qAq hWy hr (by decide) (qA0 (pv 5) qA3))) (qAb (i:=7) scLaw.nd rfl (Or.inl rfl))
   (qA7 (qAo (i:=8) scLaw.nd rfl (Or.inl rfl) (qAq hHo hr (by decide) (qA0 (pv 5) (qA0 (pv 7) qA3))))
   (qA9 (qCh (PW.pt (qUi (qX3 (qCa K rfl (qAe (isIK K rfl) (by rfl) nisi (by decide +kernel) (qA0 (pv 8) (qA0 (qUm (v :=.ty "str") rfl nstr PyProof.Rows.boot_str rfl) qA3))) (λ_=>rfl))) (qP2 (qAd qUr (pv 8) (qAq hLh hr (by decide) (qA0 (pv 5) (qA0 (pv 7) qA3))) (qAf _))))) (qA9 (qAt qGy)) qBg))))
   (qA7 (qAo (i:=9) scLaw.nd rfl (Or.inr rfl) (qCl ["_law_way","_law_word","_law_box"] [5] rfl (.of rfl) (qAy (qAq hLp hr (by decide) (qA0 (pv 5) (qA0 (pv 6) qA3)))) (λ_ _ _ _=>(qEu (n:=3) K rfl rfl (qAj (qAb (i:=0) (by show (((["_law_way","_law_word","_law_box","_law_work_here"]:List Str))).Nodup;decide) rfl (Or.inl rfl)) (qAj (qAb (i:=1) (by show (((["_law_way","_law_word","_law_box","_law_work_here"]:List Str))).Nodup;decide) rfl (Or.inl rfl)) (qAj (qAb (i:=2) (by show (((["_law_way","_law_word","_law_box","_law_work_here"]:List Str))).Nodup;decide) rfl (Or.inl rfl)) qBy))))) (λ_ _ _ _ =>.cons (qAd qBp (qAq hLh hr (by decide) (qA0 (pv 3) (qA0 (pv 0) qA3))) qB7 (qAf _)) .nil) (λ_ _ _ _=>(pv 0))))
   (qA7 (qRv (i:=10) ["_law_way"] [9] rfl (.of rfl) scLaw.nd rfl (Or.inl rfl) (qAy (qAq hWy hr (by decide) (qA0 (pv 5) qA3))) (λ_ _ _ _=>(qAb (i:=0) (by show (((["_law_way","_law_ways_here"]:List Str))).Nodup;decide) rfl (Or.inl rfl))) (λ_ _ _ _ =>.cons (qAd (inP K rfl hu) (pv 0) (pv 1) rfl) .nil) (λ_ _ _ _=>(pv 0)))
   (qA7 (qAo (i:=8) scLaw.nd rfl (Or.inl rfl) (qAq hSp hr (by decide) (qA0 (pv 5) (qA0 (pv 6) qA3))))
   (qA7 (qCh (qAd qUr (qAe (qKg hr) (by rfl) nrepr PyProof.Rows.boot_repr (qA0 (pv 8) qA3)) (qAe (qKg hr) (by rfl) nrepr PyProof.Rows.boot_repr (qA0 (pv 10) qA3)) (qAf _)) (qA9 (qAt qGy)) qBg)
   (qA7 (qC6 (qEb bJ cB cC qBl (pv 8) (qA0 (qBc (qA0 qA6 (qA0 qA6 qA3))) qA3)))
   (qA9 (qCh (qAd (qM8 hr) (qAq hSp hr (by decide) (qA0 (pv 5) (qA0 (pv 6) qA3))) (pv 10) (qAf _)) (qA9 (qAt qGy)) qBg))))))))))))))
   (qA9 (qAt qGy))),?_⟩
  dsimp only [qBx,qBi,qDb,qIh,qSz];walk_at "re";refine⟨a,_,rfl,.inl hSq,?_⟩;rw [aB];walk_at "re";refine⟨_,_,rfl,?_⟩;walk_at "re";refine⟨_,_,rfl,?_⟩;generalize hN:(if (if (4:Int)<(ns.length:Int) then (4:Int) else (ns.length:Int))>1 then (if (4:Int)<(ns.length:Int) then (4:Int) else (ns.length:Int)) else 1)=N;have hN1:1<=N/\N<=4:=by
   rw [<-hN]
   repeat' split
   all_goals lia
  walk_at "re";refine⟨N,rfl,by lia,by lia,qCo (lo:=0) (n:=N.toNat) (λi σ' H' => ∃(o1 o2 o3 o4 o5 o6 o7 o8 o9 o10:Option V),σ' = [some (.ref a),o1,o2,o3,o4,o5,o6,o7,o8,o9,o10]/\Ext [] H H') ?_ ?_ ?_⟩
  ·exact⟨_,_,_,_,_,_,_,_,_,_,rfl,.refl _ _⟩
  ·rintro i σ' H' hi ⟨o1,o2,o3,o4,o5,o6,o7,o8,o9,o10,rfl,e'⟩ N_ B_ C_ R_ hN_ hC_ hR_;walk_at "re";refine⟨a,ns,i,by show [V.ref a,V.int (0+(i:Int))] = [V.ref a,V.int (i:Int)];rw [Int.zero_add],e'.toSame.seq hSq,by lia,λt H1 ht T1 s1=>?_⟩;walk_at "re";refine⟨t,0,3,rfl,T1,by lia,by decide,by decide,λl ws H2 T2 e2 dWE hok=>?_⟩;have e12:Ext [t] H' H2:=(show Ext [t] H' H1 from λb o _ h=>s1 b o h).trans e2;have EH2:Ext [] H H2:=e'.trans (e12.drop ht);have hof:=hok.few;have dW:Den K H2 (qCz ws) (.ref l):=dWE.den;obtain⟨ta,tb,tc,htp,htp2⟩:=id T2;have hW0:=Den.off htp (qJn ws) dW;obtain⟨l',us,ee,hSl,hDus⟩:=hW0.ofList;cases ee;have hul:=hDus.len;rw [aB] at hul;have sm:∀ {G:Hp},Ext [t] H2 G->Same (wo [t] H2) G:=λ{G} e b o h=>qKt [t] G _ _ (e.same _ _ h)
   have Hnt:H t=none:=e'.none (by simp) ht;clear dWE e12 e2 s1 T1 ht e' dW;walk_at "re";refine⟨l,rfl,⟨_,(sm (.refl _ _)).seq hSl⟩,qQ9 (xs:=us) (λj σ' G' => ∃(o4 o5 o6 o7 o8 o9 o10:Option V),σ' = [some (.ref a),some (.int (0+(i:Int))),some (.ref t),some (.ref l),o4,o5,o6,o7,o8,o9,o10]/\Ext [t] H2 G'/\Tape G' t (21000+200*j)) ?_ ?_ ?_ ?_⟩
   ·exact⟨_,_,_,_,_,_,_,rfl,.refl _ _,T2.mono (by lia)⟩
   ·rintro j σ' G' hj ⟨o4,o5,o6,o7,o8,o9,o10,rfl,e3,T3⟩;exact (sm e3).seq hSl
   ·rintro j x σ' G' p hx ⟨o4,o5,o6,o7,o8,o9,o10,rfl,e3,T3⟩ hp N2_ B2_ C2_ R2_ hN2_ hC2_ hR2_;have hjl:j<us.length:=(aI.mp hx).1;have eT:Ext [] G' (upd G' p (.tup [V.int j,x])) :=.laid hp;have hpT:(upd G' p (.tup [V.int j,x])) p=some (.tup [V.int j,x]):=qA1;generalize upd G' p (.tup [V.int j,x])=G2 at eT hpT ⊢;refine qCk (SqT.of hpT) rfl ?_;walk_at "re";obtain⟨dd,hdd,hDx⟩:=hDus.get hx;obtain⟨wk,hwk,rfl⟩:=qB1 hdd;obtain⟨m,hm1,hm2,hOk⟩:=hok.all wk (aO hwk);have hwm:=hOk.len;obtain⟨wl,bsv,rfl,hSw,hDw⟩:=id hDx.ofList;have eG2:Ext [t] H2 G2:=e3.trans (eT.mono (by simp));clear hpT hp;refine⟨t,l,21000+200*j,ws,j,wk,rfl,T3.ext eT (by simp),by lia,hW0.mono (sm eG2),hok,hwk,λd bs as f G3 hd has T4 e4 hPl hPF=>?_⟩
    have eG3:Ext [t] H2 G3:=eG2.trans e4;obtain⟨pb1,pb2,pb3⟩:=qHh hPF hOk;have fit:=qSm hPF hOk hm2 (show ((ws.length:Nat):Int)<=100 by lia);clear e4 eG2 eT e3 T3;have fitx:=fit;walk_at "re";have pk:∀ {G:Hp},Ext [] G3 G->PlanAt G d bs as (bs.map f):=λ{G} e=>hPl.keep λa _ o q=>e _ _ (by simp) q;have dw:∀ {G:Hp},Ext [] G3 G->Den K G (workD wk) (.ref wl):=λ{G} e=>hDx.mono (sm (eG3.trans (e.mono (by simp))));have hn2:∀b∈wk,b.ns.length<=2:=λb hb=>(hOk.blk b hb).ns.few;have hwy:=qBe hn2 wk.length;refine⟨wl,wk,m,ws.length,rfl,dw (.refl _ _),hOk,hm2,λlw H4 hlw e4 hus=>?_⟩;obtain⟨lw',uw,ez,hlw4,dU⟩:=(hus.mono yo_same).ofList;cases ez;have huw:=dU.len;rw [aB] at huw;refine⟨lw,rfl,⟨_,hlw4⟩,qCp (xs:=uw) (λc σ' G => ∃(o7 o8:Option V),σ' = [some (.ref a),some (.int (0+(i:Int))),some (.ref t),some (.ref l),some (.int j),some (.ref wl),some (.ref d),o7,o8,o9,o10]/\Ext [] H4 G) ?_ ?_ ?_ ?_⟩
    ·exact⟨_,_,rfl,.refl _ _⟩
    ·rintro c σ' G hc ⟨o7,o8,rfl,e5⟩;exact hlw4.keepN e5 (by simp)
    ·rintro c x σ' G hx ⟨o7,o8,rfl,e5⟩ N3_ B3_ C3_ R3_ hN3_ hC3_ hR3_;obtain⟨dd,hdd,hDw2⟩:=dU.get hx;obtain⟨wv,hwv,rfl⟩:=qB1 hdd;obtain⟨b,rfl,hb⟩:=qEy hDw2;have hbG:=e5.toSame.tups.sq hb;walk_at "re";refine⟨wl,b,wk,m,ws.length,wv,rfl,dw (e4.trans e5),hOk,hm2,hbG,λG' e6=>?_⟩;walk_at "re";refine⟨_,"str",_,true,rfl,.str _,by rfl,⟨true,by simp [TruV],iteF ?_⟩⟩;walk_at "re";refine⟨wl,b,wk,m,ws.length,wv,rfl,dw ((e4.trans e5).trans e6),hOk,hm2,e6.toSame.tups.sq hbG,λG'' e7=>?_⟩;rw [qK3 hOk (aO hwv)];generalize homeL (qAa wk wk.length) wv=S;refine⟨rfl,?_⟩;rw [decide_eq_true rfl];refine⟨_,rfl,iteF ?_⟩;walk_at "re";exact⟨_,_,rfl,(e5.trans e6).trans e7⟩
    ·rintro σ' G ⟨o7,o8,rfl,e5⟩;walk_at "re";have E5:=e4.trans e5;refine⟨wl,d,wk,m,ws.length,bs,as,f,rfl,dw E5,hOk,hm2,pk E5,pb3,pb2,λlr us6 ks G6 hlr e6 hlr6 hR6 hk1 hk2=>?_⟩;have hu6:=hR6.len;have hkf:=qRo hm2 hOk pb2 hk1;have E6:=E5.trans e6;refine⟨lr,rfl,⟨_,SqL.of hlr6⟩,λlh hlh=>?_⟩;refine qAp (xs:=us6) (λc σ' G => ∃(o0 o1 o2:Option V) (qs:List (Addr×(Int×Int))),σ' = [o0,o1,o2,some (.ref wl)]/\Ext [lh] G6 G/\G lh=some (.lst (qs.map λq=>V.ref q.1))/\(∀q∈qs,SqT K G q.1 [.int q.2.1,.int q.2.2])/\qs.length<=c /\ ∀v,v∈qs.map (·.2)↔(∃k∈ks.take c,k.1=v)/\homeL (qAa wk wk.length) v=("split" : Str)) ?_ ?_ ?_ ?_
     ·exact⟨none,none,none,[],rfl,.laid hlh,qA1,λq hq=>(by cases hq),aE _,λv=>⟨λz=>(by cases z),λ⟨⟨k,hk,_⟩,_⟩=>(by rw [List.take_zero] at hk;cases hk)⟩⟩
     ·rintro c σ' G7 hc ⟨o0,o1,o2,qs,rfl,e7,hl7,hq7,hn7,hm7⟩;exact SqL.of (e7 _ _ (by simpa using qA2 hlr6 hlh) hlr6)
     ·rintro c x σ' G7 R hx ⟨o0,o1,o2,qs,rfl,e7,hl7,hq7,hn7,hm7⟩ hR;have hcl:c<us6.length:=(aI.mp hx).1;obtain⟨k,hk,a7,b7,rfl,ha,hb⟩:=qEv hR6 hx;have e8:=e7.young1 hlh;refine qCk (e8.toSame.tups.sq ha) rfl ?_;walk_at "re";refine⟨wl,b7,wk,m,ws.length,k.1,rfl,dw (E6.trans e8),hOk,hm2,e8.toSame.tups.sq hb,λG8 e9=>?_⟩;walk_at "re";refine qNc ⟨_,rfl,?_⟩;have tk:ks.take (c+1)=ks.take c ++ [k]:=qAw hk;have e10:Ext [lh] G6 G8:=e7.trans (e9.mono (by simp));have hl8:=e9 _ _ (by simp) hl7;have hq8:∀q∈qs,SqT K G8 q.1 [.int q.2.1,.int q.2.2]:=λq hq=>e9.toSame.tups.sq (hq7 q hq);by_cases hs:homeL (qAa wk wk.length) k.1=("split" : Str)
      ·rw [if_pos (decide_eq_true hs),if_pos rfl];walk_at "re";have eT:Tups G8 (upd G8 lh (.lst ((qs.map λq=>V.ref q.1) ++ [V.ref b7]))):=Tups.melt hl8;refine⟨_,hl8,qAc (by rw [aB];lia),hR _ _ ⟨_,_,_,qs ++ [(b7,k.1)],rfl,e10.trans (.put (by simp)),by rw [qA1,aN];rfl,λq hq=>eT.sq ?_,by rw [aG];simp;lia,λv=>?_⟩⟩
       ·rcases aM.mp hq with z | z
        ·exact hq8 q z
        ·have z:q=(b7,k.1):=by simpa using z
         subst z;exact (e8.trans e9).toSame.tups.sq hb
       ·rw [aN,aM,hm7,tk];constructor
        ·rintro (⟨⟨k',hk',e⟩,hs'⟩ | z)
         ·exact⟨⟨k',bO _ hk',e⟩,hs'⟩
         ·have z:v=k.1:=by simpa using z
          subst z;exact⟨⟨k,by simp,rfl⟩,hs⟩
        ·rintro⟨⟨k',hk',e⟩,hs'⟩;rcases aM.mp hk' with z | z
         ·exact .inl ⟨⟨k',z,e⟩,hs'⟩
         ·have z:k'=k:=by simpa using z
          subst z;exact .inr (by simp [e])
      ·rw [if_neg (by rw [decide_eq_false hs];decide),if_neg (by decide)];refine hR _ _ ⟨_,_,_,qs,rfl,e10,hl8,hq8,by lia,λv=>?_⟩;rw [hm7,tk];constructor
       ·rintro⟨⟨k',hk',e⟩,hs'⟩;exact⟨⟨k',bO _ hk',e⟩,hs'⟩
       ·rintro⟨⟨k',hk',e⟩,hs'⟩;rcases aM.mp hk' with z | z
        ·exact⟨⟨k',z,e⟩,hs'⟩
        ·have z:k'=k:=by simpa using z
         subst z;subst e;exact absurd hs' hs
     ·rintro σ' G7 ⟨o0,o1,o2,qs,rfl,e7,hl7,hq7,hn7,hm7⟩;rw [hu6,bE] at hm7;have hdue:=qXt hOk hk1 hm7;have E7:=E6.trans (e7.young1 hlh);clear hR6 hlr6 e7;walk_at "re";refine⟨wl,wk,m,ws.length,rfl,dw E7,hOk,hm2,λlv H8 hlv e8 hus8=>?_⟩;obtain⟨lv',uv,ez,hlv8,dV⟩:=(hus8.mono yo_same).ofList;cases ez;have huv:=dV.len;rw [aB] at huv;have hl8:=e8 _ _ (by simp) hl7;refine⟨lv,rfl,⟨_,hlv8⟩,λld hld=>?_⟩;refine qAp (xs:=uv) (λc σ' G => ∃(o0:Option V) (rs:List (Addr×(Int×Int))),σ' = [o0,some (.ref lh)]/\Ext [ld] H8 G/\G ld=some (.lst (rs.map λq=>V.ref q.1))/\(∀q∈rs,SqT K G q.1 [.int q.2.1,.int q.2.2])/\rs.map (·.2)=((qAa wk wk.length).take c).filter λv=>decide (v∈qs.map (·.2))) ?_ ?_ ?_ ?_
      ·exact⟨none,[],rfl,.laid hld,qA1,λq hq=>(by cases hq),rfl⟩
      ·rintro c σ' G9 hc ⟨o0,rs,rfl,e9,hl9,hq9,hd9⟩;exact hlv8.keepN (e9.young1 hld) (by simp)
      ·rintro c x σ' G9 R hx ⟨o0,rs,rfl,e9,hl9,hq9,hd9⟩ hR;obtain⟨dd,hdd,hDw2⟩:=dV.get hx;obtain⟨wv,hwv,rfl⟩:=qB1 hdd;obtain⟨b,rfl,hb⟩:=qEy hDw2;have e10:=e9.young1 hld;have hbG:=e10.toSame.tups.sq hb;have htl:=congrArg List.length hd9;rw [aB] at htl;have hfl:=bS (λv=>decide (v∈qs.map (·.2))) ((qAa wk wk.length).take c);rw [aV] at hfl;walk_at "re";refine⟨lh,b,qs,wv,rfl,rfl,SqL.of (e10 _ _ (by simp) hl8),λq hq=>(e8.trans e10).toSame.tups.sq (hq7 q hq),hbG,?_⟩;refine⟨_,rfl,?_⟩;by_cases hs:wv∈qs.map (·.2)
       ·rw [if_pos (decide_eq_true hs),if_pos rfl];walk_at "re";have eT:Tups G9 (upd G9 ld (.lst ((rs.map λq=>V.ref q.1) ++ [V.ref b]))):=Tups.melt hl9;refine⟨_,hl9,qAc (by rw [aB];lia),hR _ _ ⟨_,rs ++ [(b,wv)],rfl,e9.trans (.put (by simp)),by rw [qA1,aN];rfl,λq hq=>eT.sq ?_,?_⟩⟩
        ·rcases aM.mp hq with z | z
         ·exact hq9 q z
         ·have z:q=(b,wv):=by simpa using z
          subst z;exact hbG
        ·rw [qAw hwv,cR,aN,fL,if_pos (decide_eq_true hs),hd9];rfl
       ·rw [if_neg (by rw [decide_eq_false hs];decide),if_neg (by decide)];refine hR _ _ ⟨_,_,rfl,e9,hl9,hq9,?_⟩;rw [qAw hwv,cR,fL,if_neg (by rw [decide_eq_false hs];decide),List.filter_nil,bW];exact hd9
      ·rintro σ' G9 ⟨o0,rs,rfl,e9,hl9,hq9,hd9⟩;rw [huv,bE,hdue] at hd9;have e10:=e9.young1 hld;have E9:=(E7.trans e8).trans e10;obtain⟨s1,s2,s3⟩:(qBm (qBj (qAa wk wk.length) bs f)).showable=true/\(qBm (qBj (qAa wk wk.length) bs f)).depth<=100/\(qBm (qBj (qAa wk wk.length) bs f)).shown.length<=sizeLine:=by
        have hsl:=qH3 (qAa wk wk.length) bs f;obtain⟨y1,y2,y3⟩:=qNh (ps:=qBj (qAa wk wk.length) bs f) (λp hp=>qTu hOk hm2 p (qN3 p hp)) (by lia);exact qN0 y1 y2 y3
       have dD:∀ {G:Hp},Ext [] G9 G->Den K G (qBm (qBj (qAa wk wk.length) bs f)) (.ref ld):=λ{G} e =>.list (SqL.of (e _ _ (by simp) hl9)) (by rw [<-hd9];exact (qHt hq9).mono e.toSame);have hsl:=qH3 (qAa wk wk.length) bs f;clear hq7 hm7 hdue dV hlv8 hl8 e9 e10 hl7 hus8;walk_at "re";refine⟨wl,d,wk,m,ws.length,bs,as,f,rfl,dw E9,hOk,hm2,pk E9,pb3,pb2,λlf usf G10 hlf e11 hlf10 dF=>?_⟩;have hul:=dF.len;rw [aB] at hul;walk_at "re";refine⟨lf,_,rfl,.list (SqL.of hlf10) dF,s1,s2,s3,?_⟩;walk_at "re";refine⟨ld,_,rfl,dD e11,s1,s2,s3,?_⟩;generalize hS2:(qBm (qBj (qAa wk wk.length) bs f)).shown=S2;refine⟨rfl,?_⟩;rw [decide_eq_true rfl];refine⟨_,rfl,iteF ?_⟩;have nlf:G9 lf=none:=hlf;walk_at "re"
       refine qDs hlf10 ?_;walk_at "re";refine⟨len2 (by decide),λpe hpe=>?_⟩;have npe:lf≠pe:=qA2 hlf10 hpe;walk_at "re";refine qDu (by rw [qA4 npe];exact hlf10) (qAc (by lia)) ?_;have e12:Ext [] G9 (upd (upd G10 pe (.tup [.int 0,.int 0])) lf (.lst (usf ++ [V.ref pe]))):=λb o _ h=>by
        rw [qA4 (qA2 h nlf)];exact (e11.trans (.laid hpe)) _ _ (by simp) h
       generalize upd (upd G10 pe (.tup [.int 0,.int 0])) lf (.lst (usf ++ [V.ref pe]))=G12 at e12 ⊢;have E12:=E9.trans e12;walk_at "re";refine⟨wl,d,wk,m,ws.length,bs,as,f,rfl,dw E12,hOk,hm2,pk E12,pb3,pb2,λlf2 us13 G13 hlf2 e13 hlf13 dF2=>?_⟩;walk_at "re";refine⟨qBm (qBj (qAa wk wk.length) bs f),qBm (qBj (qAa wk wk.length) bs f),.list (SqL.of hlf13) dF2,dD (e12.trans e13),qD8 _,qD8 _,?_⟩;rw [if_pos rfl,qMm _ (qJi _)];walk_at "re";refine iteF ?_;walk_at "re";have EF:=eG3.trans ((E12.trans e13).mono (us :=[t]) (by simp));exact⟨_,_,_,_,_,_,_,rfl,EF,(T4.ext (E12.trans e13) (by simp)).mono (by lia)⟩
   ·rintro σ' G' ⟨o4,o5,o6,o7,o8,o9,o10,rfl,e3,T3⟩;exact L2.qEx hN_ ⟨_,_,_,_,_,_,_,_,_,_,rfl,EH2.dropAll e3 λx hx=>by rw [show x=t by simpa using hx];exact Hnt⟩
  ·rintro σ' H' ⟨o1,o2,o3,o4,o5,o6,o7,o8,o9,o10,rfl,e'⟩;walk_at "re";exact q _
end
theorem qB9{P:Program}{w:World}{K:PySem.W.Frag}{mg:Str->Option Value}{base h:Heap}{x:Str}{st:Stmt}{k:Nat}{ps:List Str}{sp:Sp}{f:Addr}{oc:Value}{od an:Option Addr}{osl:Array (Option Value)}{kV doc pm cdv ct:Value}(X:K.In h)(G:h.Ns mainGlobals mg)(a:PySem.W.nsIn K mainGlobals x=some (some (.ref f)))(l:K.lookup f=some ⟨oc,od,.func (PySem.W.fnOf x x (qAk st) (qAi st) (qA8 st) .none kV doc pm an cdv ct),osl⟩)(c:PySem.W.codeIn K cdv x=true)(kk:PySem.W.keepIn K (.ref f)=true)(hb:∀(kV doc pm:Value) (an:Option Addr) (cdv ct:Value) (us:List Value),us.length=ps.length->bindArgs (PySem.W.fnOf x x (qAk st) (qAi st) (qA8 st) .none kV doc pm an cdv ct) ⟨us,[]⟩=pure (ps.zip us))(ok:∀fd,Fun K x x st f fd->FnOk P w K mg base CX0 k f fd ps sp):Has P w K mg base x k ps sp:=by
 have F:=qTq (st:=st) l c kk;exact⟨f,_,ok _ F,PySem.W.mg_of X G a,kk,F.binds hb⟩
theorem qEg{us:List Value}(h:us.length=1):∃a0,us = [a0]:=by
 obtain _ | ⟨x0,us⟩:=us
 ·cases h
 obtain _ | ⟨y,us⟩:=us
 ·exact⟨x0,rfl⟩
 ·simp at h
theorem qCm{us:List Value}(h:us.length=2):∃a0 a1,us = [a0,a1]:=by
 obtain _ | ⟨x0,us⟩:=us
 ·cases h
 obtain _ | ⟨x1,us⟩:=us
 ·cases h
 obtain _ | ⟨y,us⟩:=us
 ·exact⟨x0,x1,rfl⟩
 ·simp at h
theorem qTm{us:List Value}(h:us.length=3):∃a0 a1 a2,us = [a0,a1,a2]:=by
 obtain _ | ⟨x0,us⟩:=us
 ·cases h
 obtain _ | ⟨x1,us⟩:=us
 ·cases h
 obtain _ | ⟨x2,us⟩:=us
 ·cases h
 obtain _ | ⟨y,us⟩:=us
 ·exact⟨x0,x1,x2,rfl⟩
 ·simp at h
theorem qXi{us:List Value}(h:us.length=4):∃a0 a1 a2 a3,us = [a0,a1,a2,a3]:=by
 obtain _ | ⟨x0,us⟩:=us
 ·cases h
 obtain _ | ⟨x1,us⟩:=us
 ·cases h
 obtain _ | ⟨x2,us⟩:=us
 ·cases h
 obtain _ | ⟨x3,us⟩:=us
 ·cases h
 obtain _ | ⟨y,us⟩:=us
 ·exact⟨x0,x1,x2,x3,rfl⟩
 ·simp at h
theorem qTl{us:List Value}(h:us.length=5):∃a0 a1 a2 a3 a4,us = [a0,a1,a2,a3,a4]:=by
 obtain _ | ⟨x0,us⟩:=us
 ·cases h
 obtain _ | ⟨x1,us⟩:=us
 ·cases h
 obtain _ | ⟨x2,us⟩:=us
 ·cases h
 obtain _ | ⟨x3,us⟩:=us
 ·cases h
 obtain _ | ⟨x4,us⟩:=us
 ·cases h
 obtain _ | ⟨y,us⟩:=us
 ·exact⟨x0,x1,x2,x3,x4,rfl⟩
 ·simp at h
theorem qXw{l:PySem.W.OpenLaw}{w:World}{K:PySem.W.Frag}{h:Heap}{mg:Str->Option Value}{fa f1 f2 f3 f4 f5 f6 f7 f8 f9 f10 f11 f12 f13 f14 f15 f16 f17 f18 f19 f20 f21 f22 f23 f24 f25 f26 f27 f28:Addr}(X:K.In h)(G:h.Ns mainGlobals mg)(hfa:mg "law" = some (.ref fa))
  {od1 an1 od2 an2 od3 an3 od4 an4 od5 an5 od6 an6 od7 an7 od8 an8 od9 an9 od10 an10 od11 an11 od12 an12 od13 an13 od14 an14 od15 an15 od16 an16 od17 an17 od18 an18 od19 an19 od20 an20 od21 an21 od22 an22 od23 an23 od24 an24 od25 an25 od26 an26 od27 an27 od28 an28:Option Addr} {sl1 sl2 sl3 sl4 sl5 sl6 sl7 sl8 sl9 sl10 sl11 sl12 sl13 sl14 sl15 sl16 sl17 sl18 sl19 sl20 sl21 sl22 sl23 sl24 sl25 sl26 sl27 sl28:Array (Option Value)} {oc1 kV1 dc1 pm1 cd1 ct1 oc2 kV2 dc2 pm2 cd2 ct2 oc3 kV3 dc3 pm3 cd3 ct3 oc4 kV4 dc4 pm4 cd4 ct4 oc5 kV5 dc5 pm5 cd5 ct5 oc6 kV6 dc6 pm6 cd6 ct6 oc7 kV7 dc7 pm7 cd7 ct7 oc8 kV8 dc8 pm8 cd8 ct8 oc9 kV9 dc9 pm9 cd9 ct9 oc10 kV10 dc10 pm10 cd10 ct10 oc11 kV11 dc11 pm11 cd11 ct11 oc12 kV12 dc12 pm12 cd12 ct12 oc13 kV13 dc13 pm13 cd13 ct13 oc14 kV14 dc14 pm14 cd14 ct14 oc15 kV15 dc15 pm15 cd15 ct15 oc16 kV16 dc16 pm16 cd16 ct16 oc17 kV17 dc17 pm17 cd17 ct17 oc18 kV18 dc18 pm18 cd18 ct18 oc19 kV19 dc19 pm19 cd19 ct19 oc20 kV20 dc20 pm20 cd20 ct20 oc21 kV21 dc21 pm21 cd21 ct21 oc22 kV22 dc22 pm22 cd22 ct22 oc23 kV23 dc23 pm23 cd23 ct23 oc24 kV24 dc24 pm24 cd24 ct24 oc25 kV25 dc25 pm25 cd25 ct25 oc26 kV26 dc26 pm26 cd26 ct26 oc27 kV27 dc27 pm27 cd27 ct27 oc28 kV28 dc28 pm28 cd28 ct28:Value}
  (a1:PySem.W.nsIn K mainGlobals "_law_tape" = some (some (.ref f1))) (l1:K.lookup f1=some ⟨oc1,od1,.func (PySem.W.fnOf "_law_tape" "_law_tape" (qAk sTape) (qAi sTape) (qA8 sTape) .none kV1 dc1 pm1 an1 cd1 ct1),sl1⟩) (c1:PySem.W.codeIn K cd1 "_law_tape" = true) (k1:PySem.W.keepIn K (.ref f1)=true)
  (a2:PySem.W.nsIn K mainGlobals "_law_draw" = some (some (.ref f2))) (l2:K.lookup f2=some ⟨oc2,od2,.func (PySem.W.fnOf "_law_draw" "_law_draw" (qAk sDraw) (qAi sDraw) (qA8 sDraw) .none kV2 dc2 pm2 an2 cd2 ct2),sl2⟩) (c2:PySem.W.codeIn K cd2 "_law_draw" = true) (k2:PySem.W.keepIn K (.ref f2)=true)
  (a3:PySem.W.nsIn K mainGlobals "_law_nexts" = some (some (.ref f3))) (l3:K.lookup f3=some ⟨oc3,od3,.func (PySem.W.fnOf "_law_nexts" "_law_nexts" (qAk qH9) (qAi qH9) (qA8 qH9) .none kV3 dc3 pm3 an3 cd3 ct3),sl3⟩) (c3:PySem.W.codeIn K cd3 "_law_nexts" = true) (k3:PySem.W.keepIn K (.ref f3)=true)
  (a4:PySem.W.nsIn K mainGlobals "_law_number" = some (some (.ref f4))) (l4:K.lookup f4=some ⟨oc4,od4,.func (PySem.W.fnOf "_law_number" "_law_number" (qAk qEq) (qAi qEq) (qA8 qEq) .none kV4 dc4 pm4 an4 cd4 ct4),sl4⟩) (c4:PySem.W.codeIn K cd4 "_law_number" = true) (k4:PySem.W.keepIn K (.ref f4)=true)
  (a5:PySem.W.nsIn K mainGlobals "_law_deeds" = some (some (.ref f5))) (l5:K.lookup f5=some ⟨oc5,od5,.func (PySem.W.fnOf "_law_deeds" "_law_deeds" (qAk qHe) (qAi qHe) (qA8 qHe) .none kV5 dc5 pm5 an5 cd5 ct5),sl5⟩) (c5:PySem.W.codeIn K cd5 "_law_deeds" = true) (k5:PySem.W.keepIn K (.ref f5)=true)
  (a6:PySem.W.nsIn K mainGlobals "_law_work" = some (some (.ref f6))) (l6:K.lookup f6=some ⟨oc6,od6,.func (PySem.W.fnOf "_law_work" "_law_work" (qAk sWork) (qAi sWork) (qA8 sWork) .none kV6 dc6 pm6 an6 cd6 ct6),sl6⟩) (c6:PySem.W.codeIn K cd6 "_law_work" = true) (k6:PySem.W.keepIn K (.ref f6)=true)
  (a7:PySem.W.nsIn K mainGlobals "_law_many" = some (some (.ref f7))) (l7:K.lookup f7=some ⟨oc7,od7,.func (PySem.W.fnOf "_law_many" "_law_many" (qAk sMany) (qAi sMany) (qA8 sMany) .none kV7 dc7 pm7 an7 cd7 ct7),sl7⟩) (c7:PySem.W.codeIn K cd7 "_law_many" = true) (k7:PySem.W.keepIn K (.ref f7)=true)
  (a8:PySem.W.nsIn K mainGlobals "_law_size" = some (some (.ref f8))) (l8:K.lookup f8=some ⟨oc8,od8,.func (PySem.W.fnOf "_law_size" "_law_size" (qAk sSize) (qAi sSize) (qA8 sSize) .none kV8 dc8 pm8 an8 cd8 ct8),sl8⟩) (c8:PySem.W.codeIn K cd8 "_law_size" = true) (k8:PySem.W.keepIn K (.ref f8)=true)
  (a9:PySem.W.nsIn K mainGlobals "_law_slim" = some (some (.ref f9))) (l9:K.lookup f9=some ⟨oc9,od9,.func (PySem.W.fnOf "_law_slim" "_law_slim" (qAk sSlim) (qAi sSlim) (qA8 sSlim) .none kV9 dc9 pm9 an9 cd9 ct9),sl9⟩) (c9:PySem.W.codeIn K cd9 "_law_slim" = true) (k9:PySem.W.keepIn K (.ref f9)=true)
  (a10:PySem.W.nsIn K mainGlobals "_law_works" = some (some (.ref f10))) (l10:K.lookup f10=some ⟨oc10,od10,.func (PySem.W.fnOf "_law_works" "_law_works" (qAk qH7) (qAi qH7) (qA8 qH7) .none kV10 dc10 pm10 an10 cd10 ct10),sl10⟩) (c10:PySem.W.codeIn K cd10 "_law_works" = true) (k10:PySem.W.keepIn K (.ref f10)=true)
  (a11:PySem.W.nsIn K mainGlobals "_law_reads" = some (some (.ref f11))) (l11:K.lookup f11=some ⟨oc11,od11,.func (PySem.W.fnOf "_law_reads" "_law_reads" (qAk qEr) (qAi qEr) (qA8 qEr) .none kV11 dc11 pm11 an11 cd11 ct11),sl11⟩) (c11:PySem.W.codeIn K cd11 "_law_reads" = true) (k11:PySem.W.keepIn K (.ref f11)=true)
  (a12:PySem.W.nsIn K mainGlobals "_law_is_asked" = some (some (.ref f12))) (l12:K.lookup f12=some ⟨oc12,od12,.func (PySem.W.fnOf "_law_is_asked" "_law_is_asked" (qAk qDh) (qAi qDh) (qA8 qDh) .none kV12 dc12 pm12 an12 cd12 ct12),sl12⟩) (c12:PySem.W.codeIn K cd12 "_law_is_asked" = true) (k12:PySem.W.keepIn K (.ref f12)=true)
  (a13:PySem.W.nsIn K mainGlobals "_law_ends" = some (some (.ref f13))) (l13:K.lookup f13=some ⟨oc13,od13,.func (PySem.W.fnOf "_law_ends" "_law_ends" (qAk sEnds) (qAi sEnds) (qA8 sEnds) .none kV13 dc13 pm13 an13 cd13 ct13),sl13⟩) (c13:PySem.W.codeIn K cd13 "_law_ends" = true) (k13:PySem.W.keepIn K (.ref f13)=true)
  (a14:PySem.W.nsIn K mainGlobals "_law_writes" = some (some (.ref f14))) (l14:K.lookup f14=some ⟨oc14,od14,.func (PySem.W.fnOf "_law_writes" "_law_writes" (qAk qDg) (qAi qDg) (qA8 qDg) .none kV14 dc14 pm14 an14 cd14 ct14),sl14⟩) (c14:PySem.W.codeIn K cd14 "_law_writes" = true) (k14:PySem.W.keepIn K (.ref f14)=true)
  (a15:PySem.W.nsIn K mainGlobals "_law_behind" = some (some (.ref f15))) (l15:K.lookup f15=some ⟨oc15,od15,.func (PySem.W.fnOf "_law_behind" "_law_behind" (qAk qEt) (qAi qEt) (qA8 qEt) .none kV15 dc15 pm15 an15 cd15 ct15),sl15⟩) (c15:PySem.W.codeIn K cd15 "_law_behind" = true) (k15:PySem.W.keepIn K (.ref f15)=true)
  (a16:PySem.W.nsIn K mainGlobals "_law_busy" = some (some (.ref f16))) (l16:K.lookup f16=some ⟨oc16,od16,.func (PySem.W.fnOf "_law_busy" "_law_busy" (qAk qHc) (qAi qHc) (qA8 qHc) .none kV16 dc16 pm16 an16 cd16 ct16),sl16⟩) (c16:PySem.W.codeIn K cd16 "_law_busy" = true) (k16:PySem.W.keepIn K (.ref f16)=true)
  (a17:PySem.W.nsIn K mainGlobals "_law_boxes" = some (some (.ref f17))) (l17:K.lookup f17=some ⟨oc17,od17,.func (PySem.W.fnOf "_law_boxes" "_law_boxes" (qAk qEs) (qAi qEs) (qA8 qEs) .none kV17 dc17 pm17 an17 cd17 ct17),sl17⟩) (c17:PySem.W.codeIn K cd17 "_law_boxes" = true) (k17:PySem.W.keepIn K (.ref f17)=true)
  (a18:PySem.W.nsIn K mainGlobals "_law_ends" = some (some (.ref f18))) (l18:K.lookup f18=some ⟨oc18,od18,.func (PySem.W.fnOf "_law_ends" "_law_ends" (qAk qHd) (qAi qHd) (qA8 qHd) .none kV18 dc18 pm18 an18 cd18 ct18),sl18⟩) (c18:PySem.W.codeIn K cd18 "_law_ends" = true) (k18:PySem.W.keepIn K (.ref f18)=true)
  (a19:PySem.W.nsIn K mainGlobals "_law_ways" = some (some (.ref f19))) (l19:K.lookup f19=some ⟨oc19,od19,.func (PySem.W.fnOf "_law_ways" "_law_ways" (qAk sWays) (qAi sWays) (qA8 sWays) .none kV19 dc19 pm19 an19 cd19 ct19),sl19⟩) (c19:PySem.W.codeIn K cd19 "_law_ways" = true) (k19:PySem.W.keepIn K (.ref f19)=true)
  (a20:PySem.W.nsIn K mainGlobals "ways_of" = some (some (.ref f20))) (l20:K.lookup f20=some ⟨oc20,od20,.func (PySem.W.fnOf "ways_of" "ways_of" (qAk qEo) (qAi qEo) (qA8 qEo) .none kV20 dc20 pm20 an20 cd20 ct20),sl20⟩) (c20:PySem.W.codeIn K cd20 "ways_of" = true) (k20:PySem.W.keepIn K (.ref f20)=true)
  (a21:PySem.W.nsIn K mainGlobals "word_on" = some (some (.ref f21))) (l21:K.lookup f21=some ⟨oc21,od21,.func (PySem.W.fnOf "word_on" "word_on" (qAk qEn) (qAi qEn) (qA8 qEn) .none kV21 dc21 pm21 an21 cd21 ct21),sl21⟩) (c21:PySem.W.codeIn K cd21 "word_on" = true) (k21:PySem.W.keepIn K (.ref f21)=true)
  (a22:PySem.W.nsIn K mainGlobals "put_on" = some (some (.ref f22))) (l22:K.lookup f22=some ⟨oc22,od22,.func (PySem.W.fnOf "put_on" "put_on" (qAk qH8) (qAi qH8) (qA8 qH8) .none kV22 dc22 pm22 an22 cd22 ct22),sl22⟩) (c22:PySem.W.codeIn K cd22 "put_on" = true) (k22:PySem.W.keepIn K (.ref f22)=true)
  (a23:PySem.W.nsIn K mainGlobals "_law_plan" = some (some (.ref f23))) (l23:K.lookup f23=some ⟨oc23,od23,.func (PySem.W.fnOf "_law_plan" "_law_plan" (qAk qHa) (qAi qHa) (qA8 qHa) .none kV23 dc23 pm23 an23 cd23 ct23),sl23⟩) (c23:PySem.W.codeIn K cd23 "_law_plan" = true) (k23:PySem.W.keepIn K (.ref f23)=true)
  (a24:PySem.W.nsIn K mainGlobals "_law_put" = some (some (.ref f24))) (l24:K.lookup f24=some ⟨oc24,od24,.func (PySem.W.fnOf "_law_put" "_law_put" (qAk sLPut) (qAi sLPut) (qA8 sLPut) .none kV24 dc24 pm24 an24 cd24 ct24),sl24⟩) (c24:PySem.W.codeIn K cd24 "_law_put" = true) (k24:PySem.W.keepIn K (.ref f24)=true)
  (a25:PySem.W.nsIn K mainGlobals "home_of" = some (some (.ref f25))) (l25:K.lookup f25=some ⟨oc25,od25,.func (PySem.W.fnOf "home_of" "home_of" (qAk sHome) (qAi sHome) (qA8 sHome) .none kV25 dc25 pm25 an25 cd25 ct25),sl25⟩) (c25:PySem.W.codeIn K cd25 "home_of" = true) (k25:PySem.W.keepIn K (.ref f25)=true)
  (a26:PySem.W.nsIn K mainGlobals "splits" = some (some (.ref f26))) (l26:K.lookup f26=some ⟨oc26,od26,.func (PySem.W.fnOf "splits" "splits" (qAk qEp) (qAi qEp) (qA8 qEp) .none kV26 dc26 pm26 an26 cd26 ct26),sl26⟩) (c26:PySem.W.codeIn K cd26 "splits" = true) (k26:PySem.W.keepIn K (.ref f26)=true)
  (a27:PySem.W.nsIn K mainGlobals "_law_home" = some (some (.ref f27))) (l27:K.lookup f27=some ⟨oc27,od27,.func (PySem.W.fnOf "_law_home" "_law_home" (qAk qHb) (qAi qHb) (qA8 qHb) .none kV27 dc27 pm27 an27 cd27 ct27),sl27⟩) (c27:PySem.W.codeIn K cd27 "_law_home" = true) (k27:PySem.W.keepIn K (.ref f27)=true)
  (a28:PySem.W.nsIn K mainGlobals "law" = some (some (.ref f28))) (l28:K.lookup f28=some ⟨oc28,od28,.func (PySem.W.fnOf "law" "law" (qAk sLaw) (qAi sLaw) (qA8 sLaw) .none kV28 dc28 pm28 an28 cd28 ct28),sl28⟩) (c28:PySem.W.codeIn K cd28 "law" = true) (k28:PySem.W.keepIn K (.ref f28)=true)
  (z1:PySem.W.nsIn K mainGlobals "range" = some none) (z2:PySem.W.nsIn K mainGlobals "len" = some none) (z3:PySem.W.nsIn K mainGlobals "abs" = some none) (z4:PySem.W.nsIn K mainGlobals "int" = some none) (z5:PySem.W.nsIn K mainGlobals "max" = some none) (z6:PySem.W.nsIn K mainGlobals "min" = some none) (z7:PySem.W.nsIn K mainGlobals "list" = some none) (z8:PySem.W.nsIn K mainGlobals "repr" = some none) (z9:PySem.W.nsIn K mainGlobals "enumerate" = some none) (z10:PySem.W.nsIn K mainGlobals "any" = some none) (z11:PySem.W.nsIn K mainGlobals "sum" = some none) (z12:PySem.W.nsIn K mainGlobals "sorted" = some none) (z13:PySem.W.nsIn K mainGlobals "set" = some none) (z14:PySem.W.nsIn K mainGlobals "isinstance" = some none) (z15:PySem.W.nsIn K mainGlobals "str" = some none) :
  ∃fd:FuncData,(∀(s:Shared) (v:Value),BindsTo s fd ⟨[v],[]⟩ [("_law_script",v)]) /\ ∀base:Heap,K.In base->base.Ns mainGlobals mg->FnOk l.prog w K mg base CX0 6 fa fd ["_law_script"] (qRf K):=by
 have e:=hfa.symm.trans (PySem.W.mg_of X G a28);cases e;have nrange:=bR X G z1;have nlen:=bR X G z2;have nabs:=bR X G z3;have nint:=bR X G z4;have nmax:=bR X G z5;have nmin:=bR X G z6;have nlist:=bR X G z7;have nrepr:=bR X G z8;have nenumerate:=bR X G z9;have nany:=bR X G z10;have nsum:=bR X G z11;have nsorted:=bR X G z12;have nset:=bR X G z13;have nisinstance:=bR X G z14;have nstr:=bR X G z15;have FL:=qTq (st:=sLaw) l28 c28 k28;refine⟨PySem.W.fnOf "law" "law" (qAk sLaw) (qAi sLaw) (qA8 sLaw) .none kV28 dc28 pm28 an28 cd28 ct28,λs v =>.of_eq rfl,λbase _ _=>?_⟩
 have htape:Has l.prog w K mg base "_law_tape" 1 ["_law_script","_law_k"] (qOf K):=qB9 (st:=sTape) X G a1 l1 c1 k1 (λ_ _ _ _ _ _ us hl=>by obtain⟨_,_,rfl⟩:=qCm hl;rfl) λ_ F=>qUv F nlen nabs nint;have hdraw:Has l.prog w K mg base "_law_draw" 1 ["_law_tape_here","_law_many_here"] qDv:=qB9 (st:=sDraw) X G a2 l2 c2 k2 (λ_ _ _ _ _ _ us hl=>by obtain⟨_,_,rfl⟩:=qCm hl;rfl) λ_ F=>qV2 F;have hnexts:Has l.prog w K mg base "_law_nexts" 2 ["_law_tape_here","_law_many_here"] (qKy K):=qB9 (st:=qH9) X G a3 l3 c3 k3 (λ_ _ _ _ _ _ us hl=>by obtain⟨_,_,rfl⟩:=qCm hl;rfl) λ_ F=>qS5 F nrange nmax hdraw;have hnumber:Has l.prog w K mg base "_law_number" 2 ["_law_tape_here"] qI5:=qB9 (st:=qEq) X G a4 l4 c4 k4 (λ_ _ _ _ _ _ us hl=>by obtain⟨_,rfl⟩:=qEg hl;rfl) λ_ F=>qPh F hdraw
 have hdeeds:Has l.prog w K mg base "_law_deeds" 3 ["_law_tape_here","_law_most","_law_boxes_here","_law_first","_law_works_here"] (qFn K):=qB9 (st:=qHe) X G a5 l5 c5 k5 (λ_ _ _ _ _ _ us hl=>by obtain⟨_,_,_,_,_,rfl⟩:=qTl hl;rfl) λ_ F=>qSa F nrange nint nlen hdraw hnumber;have hwork:Has l.prog w K mg base "_law_work" 4 ["_law_tape_here","_law_many_here","_law_most","_law_first","_law_works_here"] (qKw K):=qB9 (st:=sWork) X G a6 l6 c6 k6 (λ_ _ _ _ _ _ us hl=>by obtain⟨_,_,_,_,_,rfl⟩:=qTl hl;rfl) λ_ F=>qUt F nrange nlist nlen hdraw hnexts hdeeds;have hmany:Has l.prog w K mg base "_law_many" 2 ["_law_tape_here"] qOi:=qB9 (st:=sMany) X G a7 l7 c7 k7 (λ_ _ _ _ _ _ us hl=>by obtain⟨_,rfl⟩:=qEg hl;rfl) λ_ F=>qUy F nint hdraw
 have hsize:Has l.prog w K mg base "_law_size" 1 ["_law_works_here"] (qOg K):=qB9 (st:=sSize) X G a8 l8 c8 k8 (λ_ _ _ _ _ _ us hl=>by obtain⟨_,rfl⟩:=qEg hl;rfl) λ_ F=>qUx F nsum nlen;have hslim:Has l.prog w K mg base "_law_slim" 2 ["_law_works_here"] (qKx K):=qB9 (st:=sSlim) X G a9 l9 c9 k9 (λ_ _ _ _ _ _ us hl=>by obtain⟨_,rfl⟩:=qEg hl;rfl) λ_ F=>qUw F hsize;have hworks:Has l.prog w K mg base "_law_works" 5 ["_law_tape_here","_law_most"] (qI2 K):=qB9 (st:=qH7) X G a10 l10 c10 k10 (λ_ _ _ _ _ _ us hl=>by obtain⟨_,_,rfl⟩:=qCm hl;rfl) λ_ F=>qS3 F nrange nint hdraw hmany hwork hslim;have hreads:Has l.prog w K mg base "_law_reads" 1 ["_law_deed","_law_box"] (qL0 rdB K):=qB9 (st:=qEr) X G a11 l11 c11 k11 (λ_ _ _ _ _ _ us hl=>by obtain⟨_,_,rfl⟩:=qCm hl;rfl) λ_ F=>qPi F
 have his_asked:Has l.prog w K mg base "_law_is_asked" 2 ["_law_works_here","_law_number_here","_law_block","_law_box"] (qG3 K):=qB9 (st:=qDh) X G a12 l12 c12 k12 (λ_ _ _ _ _ _ us hl=>by obtain⟨_,_,_,_,rfl⟩:=qXi hl;rfl) λ_ F=>qNj F hreads;have hends:Has l.prog w K mg base "_law_ends" 1 ["_law_work_here"] (qKz K):=qB9 (st:=sEnds) X G a13 l13 c13 k13 (λ_ _ _ _ _ _ us hl=>by obtain⟨_,rfl⟩:=qEg hl;rfl) λ_ F=>qV1 F nlist;have hwrites:Has l.prog w K mg base "_law_writes" 1 ["_law_work_here","_law_box"] (qD3 K):=qB9 (st:=qDg) X G a14 l14 c14 k14 (λ_ _ _ _ _ _ us hl=>by obtain⟨_,_,rfl⟩:=qCm hl;rfl) λ_ F=>qNi F nrange nlen nany;have hbehind:Has l.prog w K mg base "_law_behind" 2 ["_law_work_here","_law_box"] (qI7 K):=qB9 (st:=qEt) X G a15 l15 c15 k15 (λ_ _ _ _ _ _ us hl=>by obtain⟨_,_,rfl⟩:=qCm hl;rfl) λ_ F=>qPk F nrange nlen nlist nset nsorted hends hwrites
 have hbusy:Has l.prog w K mg base "_law_busy" 3 ["_law_works_here","_law_number_here","_law_box"] (qOk K):=qB9 (st:=qHc) X G a16 l16 c16 k16 (λ_ _ _ _ _ _ us hl=>by obtain⟨_,_,_,rfl⟩:=qTm hl;rfl) λ_ F=>qS8 F nsorted nset hbehind his_asked hwrites;have hboxes:Has l.prog w K mg base "_law_boxes" 2 ["_law_work_here"] (qI6 K):=qB9 (st:=qEs) X G a17 l17 c17 k17 (λ_ _ _ _ _ _ us hl=>by obtain⟨_,rfl⟩:=qEg hl;rfl) λ_ F=>qPj F nrange hwrites;have hends2:Has l.prog w K mg base "_law_ends" 1 ["_law_work_here"] (qOj K):=qB9 (st:=qHd) X G a18 l18 c18 k18 (λ_ _ _ _ _ _ us hl=>by obtain⟨_,rfl⟩:=qEg hl;rfl) λ_ F=>qS9 F nlist;have hways:Has l.prog w K mg base "_law_ways" 2 ["_law_work_here"] (qJ5 K):=qB9 (st:=sWays) X G a19 l19 c19 k19 (λ_ _ _ _ _ _ us hl=>by obtain⟨_,rfl⟩:=qEg hl;rfl) λ_ F=>qUu F nenumerate nlen nint nsorted hends2
 have hways_of:Has l.prog w K mg base "ways_of" 1 ["work"] (qFm K):=qB9 (st:=qEo) X G a20 l20 c20 k20 (λ_ _ _ _ _ _ us hl=>by obtain⟨_,rfl⟩:=qEg hl;rfl) λ_ F=>qPf F nenumerate nlen nsorted;have hword_on:Has l.prog w K mg base "word_on" 1 ["way","inside"] (qI3 K):=qB9 (st:=qEn) X G a21 l21 c21 k21 (λ_ _ _ _ _ _ us hl=>by obtain⟨_,_,rfl⟩:=qCm hl;rfl) λ_ F=>qPe F;have hput_on:Has l.prog w K mg base "put_on" 2 ["work","plan"] (qN4 K):=qB9 (st:=qH8) X G a22 l22 c22 k22 (λ_ _ _ _ _ _ us hl=>by obtain⟨_,_,rfl⟩:=qCm hl;rfl) λ_ F=>qS4 F nsorted hways_of hword_on;have hplan:Has l.prog w K mg base "_law_plan" 4 ["_law_tape_here","_law_works_here","_law_number_here"] (qOh K):=qB9 (st:=qHa) X G a23 l23 c23 k23 (λ_ _ _ _ _ _ us hl=>by obtain⟨_,_,_,rfl⟩:=qTm hl;rfl) λ_ F=>qS6 F nrange nlen nset nsorted hdraw hboxes hbusy
 have hput:Has l.prog w K mg base "_law_put" 3 ["_law_work_here","_law_plan_here"] (qN4 K):=qB9 (st:=sLPut) X G a24 l24 c24 k24 (λ_ _ _ _ _ _ us hl=>by obtain⟨_,_,rfl⟩:=qCm hl;rfl) λ_ F=>qUz F nsorted hways;have hhome_of:Has l.prog w K mg base "home_of" 2 ["work","way"] (qG4 K homeS):=qB9 (st:=sHome) X G a25 l25 c25 k25 (λ_ _ _ _ _ _ us hl=>by obtain⟨_,_,rfl⟩:=qCm hl;rfl) λ_ F=>qV0 F nlen hways_of;have hsplits:Has l.prog w K mg base "splits" 3 ["work","plan"] (qI4 K):=qB9 (st:=qEp) X G a26 l26 c26 k26 (λ_ _ _ _ _ _ us hl=>by obtain⟨_,_,rfl⟩:=qCm hl;rfl) λ_ F=>qPg F nsorted hput_on hhome_of;have hhome:Has l.prog w K mg base "_law_home" 3 ["_law_work_here","_law_way"] (qG4 K homeL):=qB9 (st:=qHb) X G a27 l27 c27 k27 (λ_ _ _ _ _ _ us hl=>by obtain⟨_,_,rfl⟩:=qCm hl;rfl) λ_ F=>qS7 F nlen hways
 exact qXf FL nrange nlen nmax nmin nrepr nenumerate nisinstance nstr htape hworks hplan hput hways hhome hhome_of hsplits
theorem walk{l:PySem.W.OpenLaw}{q:Program}{loose:List Str}{XP:(Str->Option Value)->Heap->Prop}{YP:World->Heap->Prop}{d:DefRec}{K:Params->PySem.W.Frag}(hn:l.most=some 63)(hdf:d.params.defaults = [])(hY:∀(w:World) (h:Heap),YP w h->(K w.params).In h)(F:∀(w:World) (mg:Str->Option Value) (fa:Addr) (h:Heap),(K w.params).In h->h.Ns mainGlobals mg->mg d.name=some (.ref fa) ->
   ∃fd:FuncData,(∀(s:Shared) (u:Value),BindsTo s fd ⟨[u],[]⟩ [("_law_script",u)]) /\ ∀base:Heap,(K w.params).In base->base.Ns mainGlobals mg->FnOk l.prog w (K w.params) mg base CX0 6 fa fd ["_law_script"] (qRf (K w.params))) :
  PySem.W.WalkO q loose XP YP l.row.toRowW d [] (λf vs=>PySem.call f vs) :=
 L2.qTv (n:=63) (k:=6) (x := "_law_script") (CX:=λ_=>CX0) (sp:=λw=>qRf (K w.params)) hn (by decide) hdf ⟨rfl,by decide,by decide,rfl⟩ hY F (λ_ _ a ns hl _ hS=>⟨a,ns,rfl,hS,hl,λ_=>rfl⟩) λ_ _ _ _ _ z=>z
end Fs
open PySem PySem.W PyProof.Rows
namespace PySem.W.Fast
def tw13056279278678059804:=0
def tw5652525936239710712:=0
def tw10913425429997071448:=0
def tw5888569227997221971:=0
def tw15195794666446159085:=0
def tw2241353270506522534:=0
def tw7828583991167845968:=0
def tw16709675799949965728:=0
def tw6623039865100761447:=0
def tw13942262438167151707:=0
def tw298084520573166267:=0
def tw9788308639827641811:=0
def tw4956018281167851798:=0
def tw1347416649849292705:=0
def tw6067517073242380688:=0
def tw8868183810332177274:=0
def tw16990475228693155008:=0
def tw4784660954413604070:=0
def tw5942631519222171803:=0
def tw9075986473606812252:=0
def tw11420222986432818187:=0
def tw13082292914949503744:=0
def tw4633582847038781099:=0
def tw12465833057392925503:=0
def tw10978307725548117113:=0
def tw343483789373523163:=0
def tw11051099687259474334:=0
def tw2956299717372727127:=0
def tw1163718579243516412:=0
def tw1046449251906815830:=0
def tw13786078662858246210:=0
def tw5546377943589563010:=0
def tw11695684084283363304:=0
def tw14942137712565483346:=0
def tw7639510183506944627:=0
def tw8727882204340598161:=0
def tw5690518248433928973:=0
def tw15369963538500243973:=0
def tw3885893804918922668:=0
def tw17765655790175825096:=0
def tw3424175881545535420:=0
def tw15374396410736427878:=0
def tw14622607353420715176:=0
def tw6490999387266573782:=0
def tw6735720323591853835:=0
def tw14414827822848385365:=0
def tw18288660315114191935:=0
def tw1821151929213924531:=0
def tw5488260067756534075:=0
def tw5019584695025499251:=0
def tw6786466648512027757:=0
def tw8028928670219024358:=0
def tw9192843585805042895:=0
def tw2808554478867342848:=0
def tw1255086196609772064:=0
def tw15461010048771639833:=0
def tw17201768882977057348:=0
def tw9860544765808790173:=0
def tw11027019360507105573:=0
def tw15104172541493258677:=0
def tw6115285463943533913:=0
def tw8905866545222169520:=0
def tw907600437347569905:=0
def tw12955056005850689157:=0
def tw3287148552250928652:=0
def tw6425579810069146335:=0
def tw14839838252339819499:=0
def tw8458818534070282434:=0
def tw11495322606526420419:=0
def tw15773292150036167098:=0
def tw13687195652006499533:=0
def tw14491798892735227:=0
def tw17142614447671913946:=0
def tw17584635739213465094:=0
def tw13870518262239888948:=0
def tw2308372167829350242:=0
def tw1545855703691664210:=0
def tw11546475423815856424:=0
def tw9097659032508611076:=0
def tw9235921389242709125:=0
def tw5417756563447861188:=0
def tw5338642098791318640:=0
def tw9500755285796666133:=0
def tw11002084585799705708:=0
def tw2996802581020557894:=0
def tw15352037319778585457:=0
def tw11485243819171715149:=0
def tw4685402164509469946:=0
def tw8930872541635543347:=0
def tw12069703707061780638:=0
def tw16055276516830281007:=0
def tw5248595181035078446:=0
def tw12307892651209117149:=0
def tw14359348329722105434:=0
def tw8607239608506089878:=0
def tw541075959714646772:=0
def tw5402528727479644865:=0
def tw7036381784567536447:=0
def tw1677038692288680733:=0
def tw3704672019529550121:=0
def tw11615138774852083445:=0
def tw6244161665778352348:=0
def tw11053643274999346172:=0
def tw8136362036340415790:=0
def tw11453335146327603816:=0
def tw2341262444734390153:=0
def tw16223216845894740494:=0
def tw8896978753970090409:=0
def tw6107536209449660873:=0
def tw9608866955485534133:=0
def tw10899665457127665203:=0
def tw5721748242706014438:=0
def tw17802655134638233125:=0
def tw18341654275918056757:=0
def tw17453602831110837472:=0
def tw9196244722247854303:=0
def tw18185357711775770042:=0
def tw16678534618484562104:=0
def tw11230917443009932174:=0
def tw573791898159957000:=0
def tw2423036698677270271:=0
def tw868562260178514675:=0
def tw7372763957859272272:=0
def tw1800444501369901280:=0
def tw13670332152496991389:=0
def tw12287815978374679892:=0
def tw10088527861882041528:=0
def tw15250726950933084975:=0
def tw11433870614502759453:=0
def tw6930886154105923151:=0
def tw12609870418213995783:=0
def tw8131022663142351497:=0
def tw10076062072549985582:=0
def tw5604000006043348571:=0
def tw10770033845661498875:=0
def tw10764804158555595981:=0
def tw9188169075510307252:=0
def tw1362584999934109525:=0
def tw6183059955004106000:=0
def tw17847384379667490953:=0
def tw2882340450510627069:=0
def tw13884283053019372237:=0
def tw14588928174949662892:=0
def tw1521683432386942345:=0
def tw12178656064404106538:=0
def tw18248515756952017371:=0
end PySem.W.Fast
set_option maxRecDepth 100000 in
set_option maxHeartbeats 0 in
theorem PySem.Challenge.cw_fewsaves_k24_homes_and_splits_holds : PySem.Challenge.rw_fewsaves_k24_homes_and_splits.Holds := by
 w_on;o_law;k_head;(case hw=>w_witness2)
 k_fill
 refine Fs.walk (l:=PySem.Challenge.rw_fewsaves_k24_homes_and_splits) rfl rfl (λw h Y=>PySem.W.kIn_of Y) ?F
 case F =>
  intro w mg fa h KX G hmg
  refine' Fs.qXw KX G hmg ?a1 ?l1 ?c1 ?k1 ?a2 ?l2 ?c2 ?k2 ?a3 ?l3 ?c3 ?k3 ?a4 ?l4 ?c4 ?k4 ?a5 ?l5 ?c5 ?k5 ?a6 ?l6 ?c6 ?k6 ?a7 ?l7 ?c7 ?k7 ?a8 ?l8 ?c8 ?k8 ?a9 ?l9 ?c9 ?k9 ?a10 ?l10 ?c10 ?k10 ?a11 ?l11 ?c11 ?k11 ?a12 ?l12 ?c12 ?k12 ?a13 ?l13 ?c13 ?k13 ?a14 ?l14 ?c14 ?k14 ?a15 ?l15 ?c15 ?k15 ?a16 ?l16 ?c16 ?k16 ?a17 ?l17 ?c17 ?k17 ?a18 ?l18 ?c18 ?k18 ?a19 ?l19 ?c19 ?k19 ?a20 ?l20 ?c20 ?k20 ?a21 ?l21 ?c21 ?k21 ?a22 ?l22 ?c22 ?k22 ?a23 ?l23 ?c23 ?k23 ?a24 ?l24 ?c24 ?k24 ?a25 ?l25 ?c25 ?k25 ?a26 ?l26 ?c26 ?k26 ?a27 ?l27 ?c27 ?k27 ?a28 ?l28 ?c28 ?k28 ?z1 ?z2 ?z3 ?z4 ?z5 ?z6 ?z7 ?z8 ?z9 ?z10 ?z11 ?z12 ?z13 ?z14 ?z15
  (case a1=>k_is)
  (case l1=>k_is)
  (case c1=>k_is)
  (case k1=>k_is)
  (case a2=>k_is)
  (case l2=>k_is)
  (case c2=>k_is)
  (case k2=>k_is)
  (case a3=>k_is)
  (case l3=>k_is)
  (case c3=>k_is)
  (case k3=>k_is)
  (case a4=>k_is)
  (case l4=>k_is)
  (case c4=>k_is)
  (case k4=>k_is)
  (case a5=>k_is)
  (case l5=>k_is)
  (case c5=>k_is)
  (case k5=>k_is)
  (case a6=>k_is)
  (case l6=>k_is)
  (case c6=>k_is)
  (case k6=>k_is)
  (case a7=>k_is)
  (case l7=>k_is)
  (case c7=>k_is)
  (case k7=>k_is)
  (case a8=>k_is)
  (case l8=>k_is)
  (case c8=>k_is)
  (case k8=>k_is)
  (case a9=>k_is)
  (case l9=>k_is)
  (case c9=>k_is)
  (case k9=>k_is)
  (case a10=>k_is)
  (case l10=>k_is)
  (case c10=>k_is)
  (case k10=>k_is)
  (case a11=>k_is)
  (case l11=>k_is)
  (case c11=>k_is)
  (case k11=>k_is)
  (case a12=>k_is)
  (case l12=>k_is)
  (case c12=>k_is)
  (case k12=>k_is)
  (case a13=>k_is)
  (case l13=>k_is)
  (case c13=>k_is)
  (case k13=>k_is)
  (case a14=>k_is)
  (case l14=>k_is)
  (case c14=>k_is)
  (case k14=>k_is)
  (case a15=>k_is)
  (case l15=>k_is)
  (case c15=>k_is)
  (case k15=>k_is)
  (case a16=>k_is)
  (case l16=>k_is)
  (case c16=>k_is)
  (case k16=>k_is)
  (case a17=>k_is)
  (case l17=>k_is)
  (case c17=>k_is)
  (case k17=>k_is)
  (case a18=>k_is)
  (case l18=>k_is)
  (case c18=>k_is)
  (case k18=>k_is)
  (case a19=>k_is)
  (case l19=>k_is)
  (case c19=>k_is)
  (case k19=>k_is)
  (case a20=>k_is)
  (case l20=>k_is)
  (case c20=>k_is)
  (case k20=>k_is)
  (case a21=>k_is)
  (case l21=>k_is)
  (case c21=>k_is)
  (case k21=>k_is)
  (case a22=>k_is)
  (case l22=>k_is)
  (case c22=>k_is)
  (case k22=>k_is)
  (case a23=>k_is)
  (case l23=>k_is)
  (case c23=>k_is)
  (case k23=>k_is)
  (case a24=>k_is)
  (case l24=>k_is)
  (case c24=>k_is)
  (case k24=>k_is)
  (case a25=>k_is)
  (case l25=>k_is)
  (case c25=>k_is)
  (case k25=>k_is)
  (case a26=>k_is)
  (case l26=>k_is)
  (case c26=>k_is)
  (case k26=>k_is)
  (case a27=>k_is)
  (case l27=>k_is)
  (case c27=>k_is)
  (case k27=>k_is)
  (case a28=>k_is)
  (case l28=>k_is)
  (case c28=>k_is)
  (case k28=>k_is)
  (case z1=>k_is)
  (case z2=>k_is)
  (case z3=>k_is)
  (case z4=>k_is)
  (case z5=>k_is)
  (case z6=>k_is)
  (case z7=>k_is)
  (case z8=>k_is)
  (case z9=>k_is)
  (case z10=>k_is)
  (case z11=>k_is)
  (case z12=>k_is)
  (case z13=>k_is)
  (case z14=>k_is)
  (case z15=>k_is)
