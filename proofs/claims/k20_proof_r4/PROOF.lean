import PyProof.Rows.All
import Wide.All
import OpenK.AllK
import Wide.FinOn
import Lean
import PyProof.EqAt
import PyProof.EqKinds
import PyProof.TupleCall
import PySem.Challenge.RW_fewsaves_k20_plans_or_not
import PyProof.CollectWalk
import PyProof.DictItems
import KE.KItemsList
import PyProof.StrCalls2
import PyProof.StrBlockH
import PyProof.CallStr
import PyProof.FitsReplace
import PyProof.StrWalks
import KE.KIntText
import KE.KTabLook
import KE.KUnpackStar
import PyProof.WalksMore
import PyProof.FactsAll.subtypes_4
import PyProof.SetRoads
import PyProof.ZipIter
import PyProof.Rows.ZipGen
import PyProof.TupleIter
import Wide.Seal
import KE.KDictOf
import PyProof.FactsAll.zip_1
import PyProof.TupleOfSeq
import PyProof.Rows.TupAdd
set_option Elab.async false
set_option linter.all false
set_option maxRecDepth 100000
set_option compiler.extract_closed false
set_option genInjectivity false
set_option genSizeOfSpec false
open PySem renaming wpAny_bind->aA,wpAny_pure->aC,wpAny_holding->bM,wpAny_newObj_type->bV,wpAny_call_entry->bX,boot_len->cK,wpAny_callSpecial?_slot->cS,wpAny_askSetting->cU,wpAny_rule->cV,wpAny_truthy_bool->dJ,wpAny_standAt->dP,codeAny_builtin->dR,sizeLine_eq->dX,mem_of_lookup->dY,wpAny_setState_of->dZ,wpAny_notOrdered_dict->eI,wpAny_mono->eM,tupleKind_room_in1->eQ,wpAny_typeNameOfWhole_keyiter->eU,wpAny_setField->eY,plainId_quiet->fF,wpAny_passesOwn->fK,wpAny_pyIter_list->fL,wpAny_typeNameOf_keyiter->fP,wpAny_typeOf->fS,fits_of_scanBound->gA,wpAny_dictEntries->gC,not_mem_of_deeper->gF,wpAny_fieldsOf->gN,wpAny_isInstance->gP,wpAny_setEntries_of->gS,codeAny_mono->gX
open List renaming length_map->aB,getElem?_eq_getElem->aD,getElem?_eq_some_iff->aE,mem_singleton->aH,length_append->aI,map_append->aJ,mem_append->aK,mem_of_getElem?->aM,length_take->aN,mem_cons_of_mem->aP,mem_cons_self->aQ,size_toArray->aR,getElem?_map->aS,mem_cons->aV,mem_map->aW,take_length->aY,mem_append_right->aZ,mem_append_left->bA,length_filter_le->bC,mem_range->bF,map_cons->bG,getElem_of_mem->bI,length_singleton->bN,all_eq_true->bO,mem_filter->bQ,filterMap_cons->bW,length_cons->bY,filter_append->cA,take_of_length_le->cB,length_drop->cC,nodup_append->cF,mem_flatMap->cG,append_nil->cH,getD_eq_getElem?_getD->cJ,getElem_mem->cL,length_range->cO,filter_cons->cT,mem_of_mem_take->cX,nodup_cons->dA,any_eq_true->dE,filterMap_append->dL,map_map->dS,pairwise_lt_range->dU,getElem?_toArray->eJ,range_succ->eK,filter_nil->eL,mem_filterMap->eO,length_filterMap_le->eR,append_assoc->eZ,flatMap_append->fA,mem_of_mem_drop->fJ,find?_cons->fM,take_add_one->fN,length_eq_zero_iff->fU,filterMap_nil->fV,flatMap_cons->gD,map_take->gG,getElem?_append_right->gH,exists_mem_of_ne_nil->gK,pairwise_iff_getElem->gL,findIdx?_eq_none_iff->gM,lookup_cons->gO,map_congr_left->gU,length_reverse->gW
open Nat renaming le_refl->aF,zero_le->bB,ne_of_lt->bD,le_trans->bL,lt_of_lt_of_le->bP,le_of_lt->dH,ne_of_gt->eE,lt_succ_self->eS,lt_irrefl->fT,min_eq_right->gQ,le_succ->gR
open PySem.Heap renaming get?_push_of_some->aG,get?_push_size->aT,lt_size->aX,get?_update_self->bZ,get?_update_other->cY,size_push->dI
open Bool renaming false_ne_true->aL,and_eq_true->aO,eq_iff_iff->cM,false_and->cR,true_and->dG,false_eq_true->dQ,and_self->eW,eq_false_iff->gE
open Array renaming length_toList->aU,getElem?_toList->bE,getElem?_eq_getElem->bK,getD_eq_getD_getElem?->dC,toList_push->gB
open PySem.F renaming plainAttrs_list->bH,slot_list_append->cP,type_list_append->cQ,slot_dict_keyiterator_next->dN,plainAttrs_dict->eV,slot_list_pop->fH,type_list_pop->fI,slot_list_extend->fQ,type_list_extend->fR,called_set->fX,slot_list_getattribute->gY,slot_dict_update->gZ
open PyProof.Rows renaming boot_sorted->bJ,boot_list->cI,slot_tuple_getitem->cN,boot_int->dD,boot_set->dM,boot_dict->fD,callWith_type1->fW,boot_any->fZ
open PySem.Heap.SameBut renaming update->bR,refl->fO
open PySem.W renaming mg_none_of->bS
open Option.some renaming inj->bT
open PySem.PassesOwn renaming never->bU
open Int renaming eq_ofNat_of_zero_le->cD,toNat_natCast->cE,emod_lt_of_pos->fG,emod_nonneg->fY,toNat_of_nonneg->gT,zero_add->hJ
open PySem.Around renaming under_plainId->cW
open PySem.Paired renaming length->cZ
open Ne renaming symm->dF
open PySem.Calls renaming callWith_builtin->fB,spliced_cons->fE,evalArgs_plain->gI
open PySem.Obj renaming data_mapDictKeys->gJ
namespace L2
open PySem PySem.Spec PyProof.Rows
abbrev Key:=Sum Int Str
def keyIs:Key->Value->Bool
 | .inl k,v=>Value.isInt k v
 | .inr x,v=>Value.isStrOf x v
def keyH(w:World):Key->Int
 | .inl k=>hashInt k
 | .inr x=>hashStr w x
theorem yU:∀ {k:Key} {v:Value},keyIs k v=true->(∃i t,k=Sum.inl i/\v=Value.int i t)\/(∃x t,k=Sum.inr x/\v=Value.str x t)
 | .inl i,v,h=>by
  obtain⟨t,e⟩:=Value.isInt_shape (k:=i) (v:=v) h;exact .inl ⟨i,t,rfl,e⟩
 | .inr x,v,h=>by
  obtain⟨t,e⟩:=Value.isStrOf_shape (x:=x) (v:=v) h;exact .inr ⟨x,t,rfl,e⟩
theorem qSk(i:Int)(t:Tok):keyIs (.inl i) (.int i t)=true:=by simp [keyIs,Value.isInt]
theorem qSj(x:Str)(t:Tok):keyIs (.inr x) (.str x t)=true:=by simp [keyIs,Value.isStrOf]
theorem vH(a b:Int):decide ((Sum.inl a:Key)=Sum.inl b)=(a == b):=by
 by_cases e:a=b
 ·subst e;simp
 ·have h : ¬(Sum.inl a:Key)=Sum.inl b:=λq=>e (Sum.inl.inj q);rw [decide_eq_false h];exact (beq_eq_false_iff_ne.mpr e).symm
theorem ix(a b:Str):decide ((Sum.inr a:Key)=Sum.inr b)=decide (a=b):=by
 by_cases e:a=b
 ·subst e;simp
 ·have h : ¬(Sum.inr a:Key)=Sum.inr b:=λq=>e (Sum.inr.inj q);rw [decide_eq_false h,decide_eq_false e]
theorem kE(a:Int)(b:Str):decide ((Sum.inl a:Key)=Sum.inr b)=false:=decide_eq_false (λq=>nomatch q)
theorem kF(a:Str)(b:Int):decide ((Sum.inr a:Key)=Sum.inl b)=false:=decide_eq_false (λq=>nomatch q)
def zY(prog:Program)(w:World):PySem.KeyKind prog w Key where
 is:=keyIs
 hash:=keyH w
 inj:=λv a b ha hb=>by
  rcases yU ha with ⟨i,t,rfl,rfl⟩ | ⟨x,t,rfl,rfl⟩
  ·rcases yU hb with ⟨j,u,rfl,e⟩ | ⟨y,u,rfl,e⟩
   ·injection e with e1 _;rw [e1]
   ·exact nomatch e
  ·rcases yU hb with ⟨j,u,rfl,e⟩ | ⟨y,u,rfl,e⟩
   ·exact nomatch e
   ·injection e with e1 _;rw [e1]
 byValue:=λk v h=>by
  rcases yU h with ⟨i,t,rfl,rfl⟩ | ⟨x,t,rfl,rfl⟩ <;> rfl
 pyHash:=λhv h=>by
  rcases yU hv with ⟨i,t,rfl,rfl⟩ | ⟨x,t,rfl,rfl⟩
  ·exact wpAny_pyHash_int h
  ·exact wpAny_pyHash_str h
 eqBool:=λhu hv h=>by
  rcases yU hu with ⟨i,t,rfl,rfl⟩ | ⟨x,t,rfl,rfl⟩
  ·rcases yU hv with ⟨j,u,rfl,rfl⟩ | ⟨y,u,rfl,rfl⟩
   ·rw [vH] at h;exact wpAny_eqBool_int h
   ·rw [kE] at h;exact SeqAt.EqAt.int_str i t y u _ _ _ _ h
  ·rcases yU hv with ⟨j,u,rfl,rfl⟩ | ⟨y,u,rfl,rfl⟩
   ·rw [kF] at h;exact SeqAt.EqAt.str_int x t j u _ _ _ _ h
   ·rw [ix] at h;exact wpAny_eqBool_str h
 «strs» :=λk x t v h=>by
  rcases yU h with ⟨i,u,rfl,e⟩ | ⟨y,u,rfl,e⟩
  ·exact nomatch e
  ·injection e with e1 _
   subst e1;cases v <;> rfl
theorem vq(prog:Program)(w:World)(k:Key)(v:Value):(zY prog w).is k v=keyIs k v:=rfl
theorem qMa(prog:Program)(w:World)(i:Int)(t:Tok):(zY prog w).is (.inl i) (.int i t)=true:=qSk i t
theorem qM9(prog:Program)(w:World)(x:Str)(t:Tok):(zY prog w).is (.inr x) (.str x t)=true:=qSj x t
set_option genInjectivity true in
inductive V where
 | non | bl (b:Bool) | int (i:Int) | str (x:Str) | byt (b:Array UInt8) | flt (b:UInt64) | ref (a:Addr) | ty (n:String)
 deriving DecidableEq
def RelV:V->Value->Prop
 | .non,u=>u=Value.none
 | .bl b,u=>u=Value.bool b
 | .int i,u => ∃t,u=Value.int i t
 | .str x,u => ∃t,u=Value.str x t
 | .byt b,u => ∃t,u=Value.bytes b t
 | .flt b,u => ∃t,u=Value.float b t
 | .ref a,u=>u=Value.ref a
 | .ty n,u=>u=Value.type n
abbrev Vals:List V->List Value->Prop:=Paired RelV
theorem Vals.length{xs:List V}{us:List Value}(r:Vals xs us):xs.length=us.length:=cZ r
theorem Vals.get:∀ {xs:List V} {us:List Value} {i:Nat} {x:V},Vals xs us->xs[i]? = some x -> ∃u,us[i]? = some u/\RelV x u
 | _,_,_,_,.nil,e=>by simp at e
 | _,_,0,_,.cons r _,e=>by simp at e;subst e;exact⟨_,rfl,r⟩
 | _,_,i+1,x,.cons _ t,e=>by
  obtain⟨u,a,b⟩:=Vals.get (i:=i) (x:=x) t (by simpa using e);exact⟨u,by simpa using a,b⟩
theorem Vals.set{x:V}{u:Value}(r:RelV x u):∀ {xs:List V} {us:List Value} (i:Nat),Vals xs us->Vals (xs.set i x) (us.set i u)
 | _,_,_,.nil =>.nil
 | _,_,0,.cons _ t =>.cons r t
 | _,_,i+1,.cons q t =>.cons q (Vals.set r i t)
theorem Vals.append{xs ys:List V}{us ws:List Value}(h:Vals xs us)(s:Vals ys ws):Vals (xs++ys) (us++ws):=by
 induction h with
 | nil=>exact s
 | cons r _ a=>exact .cons r a
theorem Vals.take:∀ {xs:List V} {us:List Value} (n:Nat),Vals xs us->Vals (xs.take n) (us.take n)
 | _,_,0,_ =>.nil
 | _,_,_+1,.nil =>.nil
 | _,_,n+1,.cons r t =>.cons r (Vals.take n t)
theorem Vals.drop:∀ {xs:List V} {us:List Value} (n:Nat),Vals xs us->Vals (xs.drop n) (us.drop n)
 | _,_,0,r=>r
 | _,_,_+1,.nil =>.nil
 | _,_,n+1,.cons _ t=>Vals.drop n t
def RelO:Option V->Option Value->Prop
 | some v,some u=>RelV v u
 | none,none=>True
 | _,_=>False
def KV{κ : Type}:List (κ × V)->List (κ × Value)->Prop:=Paired λ(p : κ × V) (q : κ × Value)=>p.1=q.1/\RelV p.2 q.2
def kV:Key->V
 | .inl i =>.int i
 | .inr x =>.str x
inductive HO where
 | lst (xs:List V)
 | tup (xs:List V)
 | dK (kvs:List (Key×V)) | dT (kvs:List (List Key×V))
 | set (S:Int->Bool) (n:Nat)
 | ins (C dx:Addr) (fs:List (Str×V))
 | own (x:Addr)
 | xd (fs:List (Str×V))
 | met (f x:Addr)
 | rng (lo hi:Int)
 | frz (o:Obj) (u:HO)
 | tbl (ps:Array Value)
 | ext (φ : Addr->Heap->Prop)
abbrev Hp:=Addr->Option HO
def upd(H:Hp)(a:Addr)(o:HO):Hp:=λb=>if b=a then some o else H b
theorem zC{H:Hp}{a:Addr}{o:HO}:upd H a o a=some o:=by unfold upd;rw [if_pos rfl]
theorem zD{H:Hp}{a b:Addr}{o:HO}(h:b≠a):upd H a o b=H b:=by unfold upd;rw [if_neg h]
theorem iy{H:Hp}{a:Addr}{o u:HO}:upd (upd H a o) a u=upd H a u:=by
 funext b;unfold upd;split <;> rfl
theorem yq{H:Hp}{a b:Addr}{o u:HO}(h:H a=some o)(h':H b=some u)(d:o≠u):a≠b:=by
 intro e;subst e;rw [h] at h';exact d (bT h')
theorem zF{H:Hp}{a b:Addr}{o:HO}(h:H a=some o)(h':H b=none):a≠b:=by
 intro e;subst e;rw [h] at h';cases h'
section
variable(P:Program)(w:World)
def ObjOk(H:Hp)(h:Heap)(a:Addr):HO->Prop
 | .lst xs=>xs.length<=sizeLine /\ ∃(its:List Value) (n:Nat),Vals xs its/\h.get? a=some { cls :=.type "list",data :=.seq its.toArray n }
 | .tup xs=>xs.length<=sizeLine /\ ∃its:List Value,Vals xs its/\IsTup h a its.toArray
 | .dK kvs=>kvs.length<=sizeLine/\(a == sysModules)=false /\ ∃vs,KV kvs vs/\h.DictOf (zY P w) a vs
 | .dT kvs=>kvs.length<=sizeLine/\(a == sysModules)=false /\ ∃xs:List (List Key×Addr×Value),
   Paired (λ(p:List Key×V) (q:List Key×Addr×Value)=>p.1=q.1/\H q.2.1=some (.tup (p.1.map kV))/\RelV p.2 q.2.2) kvs xs /\
   ∃o es ep,h.get? a=some o/\o.ExactDict/\o.data = .dict es ep/\es.toList=xs.map (entryOfKey (tupleKind (zY P w)))/\(xs.map (·.1)).Nodup
 | .set S n=>h.SetOf (intKind P w) a S n
 | .ins C dx fs=>H dx=some (.own a)/\fs.length<=1000/\dx≠a/\h.get? a=some (PySem.W.instObj C dx) /\
   ∃mA,h.Ns1 dx mA/\(∀f,RelO (fs.lookup f) (mA f))/\PySem.Within mA (fs.map (·.1))
 | .own _ => ∃o,h.get? a=some o
 | .xd fs => ∃mA,h.Ns1 a mA /\ ∀f,RelO (fs.lookup f) (mA f)
 | .rng lo hi => ∃t u v,h.get? a=some { cls :=.type "range",data :=.fields #[.int lo t,.int hi u,.int 1 v] }
 | .frz o u=>h.get? a=some o/\ObjOk H h a u
 | .tbl ps=>h.get? a=some { cls :=.none,data :=.fields ps }
 | .met f x=>h.get? a=some (PySem.W.methodObj (.ref f) (.ref x))
 | .ext φ => φ a h/\(∃o,h.get? a=some o) /\ ∀h1 h2:Heap,φ a h1->(∀o,h1.get? a=some o->h2.get? a=some o) -> φ a h2
def HOk(H:Hp)(h:Heap):Prop := ∀a o,H a=some o->ObjOk P w H h a o
end
section
variable{P:Program}{w:World}{H H':Hp}{h h':Heap}{a:Addr}{o:HO}
theorem ObjOk.lt(x:ObjOk P w H h a o):a<h.objs.size:=by
 cases o with
 | lst xs=>obtain⟨_,_,_,_,e⟩:=x;exact aX e
 | tup xs=>obtain⟨_,_,_,p⟩:=x;exact p.lt
 | dK b=>obtain⟨_,_,_,_,o,_,_,e,_⟩:=x;exact aX e
 | dT b=>obtain⟨_,_,_,_,o,_,_,e,_⟩:=x;exact aX e
 | set S n=>obtain⟨o,_,_,_,e,_⟩:=x;exact aX e
 | ins C dx fs=>obtain⟨_,_,_,e,_⟩:=x;exact aX e
 | own y=>obtain⟨_,e⟩:=x;exact aX e
 | xd fs=>obtain⟨_,⟨_,_,_,e,_⟩,_⟩:=x;exact aX e
 | rng lo c=>obtain⟨_,_,_,e⟩:=x;exact aX e
 | frz ob u=>obtain⟨e,_⟩:=x;exact aX e
 | tbl d=>exact aX (show h.get? a=some _ from x)
 | met f y=>exact aX (show h.get? a=some _ from x)
 | ext φ =>obtain⟨_,⟨_,e⟩,_⟩:=x;exact aX e
theorem Paired.mapP{α β : Type}{F G : α -> β -> Prop}{c : List α}{d : List β}(h:Paired F c d)(f:∀a b,F a b->G a b):Paired G c d :=by
 induction h with
 | nil=>exact .nil
 | cons r _ e=>exact .cons (f _ _ r) e
theorem ObjOk.stay(x:ObjOk P w H h a o)(k:∀b u,(b=a\/H b=some (.own a))->h.get? b=some u->h'.get? b=some u)(D:∀b,H b=some (.own a)->H' b=some (.own a))(E:∀b xs,H b=some (.tup xs)->H' b=some (.tup xs)):ObjOk P w H' h' a o:=by
 induction o with
 | lst xs=>obtain⟨z,l,n,r,e⟩:=x;exact⟨z,l,n,r,k _ _ (.inl rfl) e⟩
 | tup xs=>obtain⟨z,l,r,g,e,c⟩:=x;exact⟨z,l,r,g,k _ _ (.inl rfl) e,c⟩
 | dK m=>obtain⟨z,y,F,r,g,i,j,e,c⟩:=x;exact⟨z,y,F,r,g,i,j,k _ _ (.inl rfl) e,c⟩
 | dT m =>
  obtain⟨z,y,xs,r,g,i,j,e,c⟩:=x;exact⟨z,y,xs,Paired.mapP r λp q z=>⟨z.1,E _ _ z.2.1,z.2.2⟩,g,i,j,k _ _ (.inl rfl) e,c⟩
 | set S n=>obtain⟨g,i,j,t,e,c⟩:=x;exact⟨g,i,j,t,k _ _ (.inl rfl) e,c⟩
 | ins C dx fs =>
  obtain⟨d,z,ne,e,s,⟨A,i,j,G,c⟩,r⟩:=x;exact⟨D _ d,z,ne,k _ _ (.inl rfl) e,s,⟨A,i,j,k _ _ (.inr d) G,c⟩,r⟩
 | own y=>obtain⟨g,e⟩:=x;exact⟨g,k _ _ (.inl rfl) e⟩
 | xd fs=>obtain⟨s,⟨A,i,j,e,c⟩,r⟩:=x;exact⟨s,⟨A,i,j,k _ _ (.inl rfl) e,c⟩,r⟩
 | rng lo J=>obtain⟨t,u,v,e⟩:=x;exact⟨t,u,v,k _ _ (.inl rfl) e⟩
 | frz g u I=>obtain⟨e,q⟩:=x;exact⟨k _ _ (.inl rfl) e,I q⟩
 | tbl B =>
  have e:h.get? a=some { cls :=.none,data :=.fields B }:=x;show h'.get? a=some { cls :=.none,data :=.fields B };exact k a _ (.inl rfl) e
 | met f y =>
  have e:h.get? a=some (PySem.W.methodObj (.ref f) (.ref y)):=x;show h'.get? a=some (PySem.W.methodObj (.ref f) (.ref y));exact k a _ (.inl rfl) e
 | ext φ =>obtain⟨p,⟨o,e⟩,st⟩:=x;exact⟨st _ _ p λo q=>k _ _ (.inl rfl) q,⟨o,k _ _ (.inl rfl) e⟩,st⟩
theorem HOk.lt(x:HOk P w H h)(e:H a=some o):a<h.objs.size:=(x a o e).lt
theorem HOk.fresh(x:HOk P w H h)(e:h.objs.size<=a):H a=none:=by
 cases q:H a with
 | none=>rfl
 | some u=>exact absurd (bP (x.lt q) e) (fT _)
theorem HOk.kept(x:HOk P w H h)(k:∀b u,h.get? b=some u->h'.get? b=some u):HOk P w H h':=λa o e =>
 (x a o e).stay (λb u _ q=>k b u q) (λ_ q=>q) λ_ _ q=>q
theorem HOk.laid(x:HOk P w H h)(k:∀b u,h.get? b=some u->h'.get? b=some u)(g:h.objs.size<=a)(new:ObjOk P w (upd H a o) h' a o):HOk P w (upd H a o) h':=λb u e=>by
 have d:=x.fresh g;by_cases f:b=a
 ·subst f;rw [zC] at e;cases e;exact new
 ·rw [zD f] at e;exact (x b u e).stay (λc v _ q=>k c v q) (λc q=>by rw [zD (zF q d)];exact q) λc i q=>by rw [zD (zF q d)];exact q
end
def Rd(H:Hp)(a:Addr)(u:HO):Prop:=H a=some u \/ ∃o,H a=some (.frz o u)
theorem Rd.ok{P:Program}{w:World}{H:Hp}{h:Heap}{a:Addr}{u:HO}(r:Rd H a u)(x:HOk P w H h):ObjOk P w H h a u:=by
 rcases r with r | ⟨o,r⟩
 ·exact x a u r
 ·obtain⟨_,q⟩:=x a _ r;exact q
def Mut:Option HO->Prop
 | some (.lst _)=>True
 | some (.dK _)=>True
 | some (.dT _)=>True
 | some (.set _ _)=>True
 | some (.ins _ _ _)=>True
 | some (.ext _)=>True
 | _=>False
section
variable{P:Program}{w:World}{H:Hp}{h h':Heap}{x e:Addr}{o':HO}
theorem HOk.write(ok:HOk P w H h)(mu:Mut (H x))(l:e=x\/H e=some (.own x))(k:∀b u,b≠e->h.get? b=some u->h'.get? b=some u)(j:∃u,h'.get? e=some u)(new:ObjOk P w (upd H x o') h' x o'):HOk P w (upd H x o') h':=λb u q=>by
 have d:∀c y,H c=some (.own y)->c≠x:=λc y r z=>by subst z;rw [r] at mu;exact mu
 have f:∀c g,H c=some (.tup g)->c≠x:=λc g r z=>by subst z;rw [r] at mu;exact mu
 by_cases i:b=x
 ·subst i;rw [zC] at q;cases q;exact new
 ·rw [zD i] at q;by_cases a:b=e
  ·have m:H b=some (.own x):=by
    rcases l with z | z
    ·exact absurd (a.trans z) i
    ·rw [a];exact z
   rw [q] at m;cases m;obtain⟨v,n⟩:=j;exact⟨v,by rw [a];exact n⟩
  ·refine (ok b u q).stay (λc v hc r=>k c v ?_ r) (λc r=>by rw [zD (d c b r)];exact r) λc g r=>by rw [zD (f c g r)];exact r
   rcases hc with rfl | hc
   ·exact a
   ·rintro rfl;rcases l with z | z
    ·exact d c b hc z
    ·rw [hc] at z;cases z;exact i rfl
end
structure Un(fs ex:List Addr)(H H':Hp)(h h':Heap):Prop where
 keep:∀b o,h.get? b=some o->H b=none->b∉fs->b∉ex->h'.get? b=some o
 slot:∀b o,h.get? b=some o->H b=none->b∈fs->b∉ex -> ∃sl,h'.get? b=some { o with slots:=sl }
 free:∀b o,h.get? b=some o->H b=none->b∉ex->H' b=none
 there:∀b o,h.get? b=some o->b∉ex -> ∃o',h'.get? b=some o'
 tups:∀b xs,H b=some (.tup xs)->H' b=some (.tup xs)
 frzs:∀b o u,H b=some (.frz o u)->H' b=some (.frz o u)
 tbls:∀b ps,H b=some (.tbl ps) -> ∃more,H' b=some (.tbl (ps++more))
section
variable{fs fs' ex ex':List Addr}{H H1 H2:Hp}{h h1 h2 h':Heap}{a x e:Addr}{o:HO}
theorem Un.any(u:Un fs ex H H1 h h1){b:Addr}{ob:Obj}(q:h.get? b=some ob)(n:H b=none)(a:b∉ex):∃d,h1.get? b=some { ob with slots:=d }:=by
 by_cases c:b∈fs
 ·exact u.slot b ob q n c a
 ·exact⟨ob.slots,u.keep b ob q n c a⟩
theorem Un.kept(k:∀b u,h.get? b=some u->h'.get? b=some u):Un fs ex H H h h':=⟨λb a q _ _ _=>k b a q,λb a q _ _ _=>⟨a.slots,k b a q⟩,λ_ _ _ n _=>n,λb a q _=>⟨a,k b a q⟩,λ_ _ q=>q,λ_ _ _ q=>q,λ_ c q=>⟨#[],by rw [q];simp⟩⟩
theorem Un.refl:Un fs ex H H h h:=Un.kept λ_ _ q=>q
theorem Un.laid(k:∀b u,h.get? b=some u->h'.get? b=some u)(d:h.objs.size<=a)(c:H a=none):Un fs ex H (upd H a o) h h' where
 keep:=λb u q _ _ _=>k b u q
 slot:=λb u q _ _ _=>⟨u.slots,k b u q⟩
 free:=λb u q n _=>by rw [zD (bD (bP (aX q) d))];exact n
 there:=λb u q _=>⟨u,k b u q⟩
 tups:=λb e q=>by rw [zD (zF q c)];exact q
 frzs:=λb u e q=>by rw [zD (zF q c)];exact q
 tbls:=λb f q=>⟨#[],by rw [zD (zF q c),q];simp⟩
theorem Un.write(mu:Mut (H x))(i:e=x\/H e=some (.own x))(k:∀b u,b≠e->h.get? b=some u->h'.get? b=some u)(c:∃u,h'.get? e=some u):Un fs ex H (upd H x o) h h':=by
 have f:∀b,H b=none->b≠x:=λb n z=>by subst z;rw [n] at mu;exact mu
 have g:∀b,H b=none->b≠e:=λb n z=>by
  subst z;rcases i with r | r
  ·exact f b n r
  ·rw [n] at r;cases r
 have d:∀b u,H b=some u -> ¬Mut (some u)->b≠x:=λb u q j z=>by subst z;rw [q] at mu;exact j mu
 refine⟨λb u q n _ _=>k b u (g b n) q,λb u q n _ _=>⟨u.slots,k b u (g b n) q⟩,λb u q n _=>by rw [zD (f b n)];exact n,λb u q _=>?_,
  λb l q=>by rw [zD (d b _ q λz=>z)];exact q,λb u l q=>by rw [zD (d b _ q λz=>z)];exact q,λb m q=>⟨#[],by rw [zD (d b _ q λz=>z),q];simp⟩⟩
 by_cases a:b=e
 ·subst a;exact c
 ·exact⟨u,k b u a q⟩
end
def trk(h:Heap)(H:Hp):List Addr:=(List.range h.objs.size).filter λa=>(H a).isSome
def hidT(h:Heap)(H:Hp):Heap:=PySem.W.hideAll h (trk h H)
theorem qSr(h:Heap)(H:Hp):(hidT h H).objs.size=h.objs.size:=PySem.W.hideAll_size _ _
theorem qUw{h:Heap}{H:Hp}{b:Addr}{o:Obj}(e:h.get? b=some o)(n:H b=none):(hidT h H).get? b=some o :=
 PySem.W.hideAll_get _ e λa=>by
  have q:(H b).isSome=true:=(bQ.mp a).2;rw [n] at q;simp at q
theorem qXe{h:Heap}{H:Hp}{b:Addr}{o:Obj}(e:(hidT h H).get? b=some o):h.get? b=some o/\H b=none:=by
 have a:h.get? b=some o:=PySem.W.of_hideAll (trk h H) e;refine⟨a,?_⟩;cases q:H b with
 | none=>rfl
 | some x =>
  have c:b∈trk h H:=bQ.mpr ⟨bF.mpr (aX a),by simp [q]⟩;have z:(hidT h H).get? b=none:=PySem.W.hideAll_none (trk h H) c;rw [z] at e;cases e
def qXt(g h:Heap)(L:Addr):List (Addr×Obj):=(List.range h.objs.size).filterMap λa=>if a=L\/(g.get? a).isSome=true then none else (h.get? a).map λo=>(a,o)
def rest(g h:Heap)(L d:Addr):List (Addr×Obj):=(qXt g h L).filter λp=>decide (p.1≠d)
structure Mod(K:PySem.W.Frag)(mg:Str->Option Value)(base:Heap):Prop where
 kin:K.In base
 glob:base.Ns mainGlobals mg
 blt:∃mb,base.Ns builtinsNs mb /\ ∀x:Str,x ≠ "__name__" -> mb x=bootBuiltins x
 nolimit:base.NoLimit
structure Cx where
 prog:Program
 w:World
 K:PySem.W.Frag
 mg:Str->Option Value
 base:Heap
 A:Around
 N:List Str
 s₀ : Shared
 H₀ : Hp
 env:Env
 outer:List Env
 stack:List Env
 ex:List Addr
 fn:Str->Bool
 calm:Bool
 pn:List (Addr×Obj)
 xe:Value->Shared->Prop
def frs(l:List Env):List Addr:=l.filterMap (·.frame)
abbrev Cx.fs(X:Cx):List Addr:=frs X.outer
def Vis(sc:Scope)(x:Str):Prop:=sc.names.lookup x=some .local\/sc.names.lookup x=some .cell\/sc.names.lookup x=some .free
def Loc(sc:Scope)(x:Str):Prop:=sc.names.lookup x=some .local\/sc.names.lookup x=some .cell
def Look(env:Env)(h:Heap)(m:Str->Option Value)(x:Str)(u:Value):Prop:=(env.kindOf x=some .local/\m x=some u)\/((env.kindOf x=some .cell\/env.kindOf x=some .free) /\ ∃c,env.cells.lookup x=some c/\h.IsCell c (some u))
structure Cx.Ok(X:Cx):Prop where
 mod:Mod X.K X.mg X.base
 kind:X.env.scope.kind = .function
 glob:X.env.globals=mainGlobals
 blt:X.env.builtins=builtinsNs
 above:X.s₀.heap.objs.size<=X.env.locals
 inj:∀x y c,X.env.cells.lookup x=some c->X.env.cells.lookup y=some c->x=y
 has:∀x,(X.env.kindOf x=some .cell\/X.env.kindOf x=some .free) -> ∃c,X.env.cells.lookup x=some c
 cab:∀x c,X.fn x=true->X.env.cells.lookup x=some c->X.s₀.heap.objs.size<=c
 hd:X.calm=true->X.A.handled=none
 frames:X.A.frames=some X.stack
 stk:X.stack=X.outer\/(X.stack=X.env::X.outer/\X.env.frame=some X.env.locals)
 exf:∀b∈X.ex,b≠X.env.locals /\ ∀x c,X.env.cells.lookup x=some c->c≠b
 bs:∀b o,X.base.get? b=some o->X.s₀.heap.get? b=some o/\X.H₀ b=none
 bsz:X.base.objs.size<=X.s₀.heap.objs.size
 noex:∀b o,X.base.get? b=some o->b∉X.ex
 exfs:∀b∈X.ex,b∉X.fs
 funs:X.s₀.heap.FunFrames X.base X.outer
 frf:∀b∈X.fs,X.H₀ b=none
structure Inv(X:Cx)(pins:List (Addr×Obj))(σ : List (Option V))(H:Hp)(s:Shared):Prop where
 ok:X.Ok
 os:s.os=X.s₀.os
 bare:AllBare s.gens
 base:Un X.fs X.ex X.H₀ H X.s₀.heap s.heap
 loc:∃m,s.heap.Ns X.env.locals m /\ ∀(i:Nat) (x:Str) (v:V),X.N[i]? = some x -> σ[i]? = some (some v)->Vis X.env.scope x -> ∃u,RelV v u/\Look X.env s.heap m x u
 cell:∀x c,X.env.cells.lookup x=some c -> ∃v,s.heap.IsCell c v
 free:H X.env.locals=none
 freeC:∀x c,X.env.cells.lookup x=some c->H c=none
 pin:∀p∈X.pn++pins,s.heap.get? p.1=some p.2/\H p.1=none/\p.1≠X.env.locals/\p.1∉X.fs /\ ∀v,p.2.data ≠ .cell v
 hok:HOk X.prog X.w H s.heap
 len : σ.length=X.N.length
section
variable{X:Cx}{pins:List (Addr×Obj)}{σ : List (Option V)}{H H':Hp}{s:Shared}{h':Heap}
theorem Cx.Ok.nofr(ok:X.Ok){b:Addr}{o:Obj}(e:X.base.get? b=some o):b∉X.fs:=λa=>by
 have:=(ok.funs.mem a).1;rw [e] at this;cases this
theorem Inv.bs(I:Inv X pins σ H s):∀b o,X.base.get? b=some o->s.heap.get? b=some o/\H b=none:=λb o e =>
 ⟨I.base.keep b o (I.ok.bs b o e).1 (I.ok.bs b o e).2 (I.ok.nofr e) (I.ok.noex b o e),I.base.free b o (I.ok.bs b o e).1 (I.ok.bs b o e).2 (I.ok.noex b o e)⟩
theorem Inv.bk(I:Inv X pins σ H s):∀b o,X.base.get? b=some o->s.heap.get? b=some o:=λb o e=>(I.bs b o e).1
theorem Inv.mod(I:Inv X pins σ H s):Mod X.K X.mg X.base:=I.ok.mod
theorem Inv.kIn(I:Inv X pins σ H s):X.K.In s.heap:=I.ok.mod.kin.keeps I.bk
theorem Inv.lt(I:Inv X pins σ H s):X.env.locals<s.heap.objs.size:=let ⟨_,a,_⟩:=I.loc;a.lt
theorem Inv.sz(I:Inv X pins σ H s):X.s₀.heap.objs.size<=s.heap.objs.size:=bL I.ok.above (dH I.lt)
theorem Inv.nofs(I:Inv X pins σ H s){a:Addr}(h:s.heap.objs.size<=a):a∉X.fs:=λb=>by
 obtain⟨_,o,c,_⟩:=I.ok.funs.mem b;exact absurd (bP (aX c) (bL I.sz h)) (fT _)
theorem Inv.cne(I:Inv X pins σ H s):∀x c,X.env.cells.lookup x=some c->c≠X.env.locals:=λx c e z=>by
 obtain⟨v,o,d,f⟩:=I.cell x c e;obtain⟨m,⟨g,h,i,a,b,_⟩,_⟩:=I.loc;rw [z,a] at d;cases d;rw [b] at f;cases f
theorem Inv.funs(I:Inv X pins σ H s):s.heap.FunFrames X.base X.outer:=by
 have all:∀(l:List Env),(∀b∈frs l,b∈X.fs)->X.s₀.heap.FunFrames X.base l->s.heap.FunFrames X.base l:=by
  intro l
  induction l with
  | nil=>intro _ _;trivial
  | cons env r g =>
   intro f h;obtain⟨i,⟨L,o,a,j,k,m⟩,n⟩:=h;have c:L∈X.fs:=f L (by unfold frs;rw [bW,a];exact aQ);obtain⟨p,e⟩:=I.base.slot L o k (I.ok.frf L c) c λz=>I.ok.exfs L z c;exact⟨i,⟨L,_,a,j,e,m⟩,g (λb d=>f b (by unfold frs;rw [bW,a];exact aP _ d)) n⟩
 exact all X.outer (λ_ d=>d) I.ok.funs
theorem Inv.stack(I:Inv X pins σ H s):s.heap.FunFrames X.base X.stack:=by
 rcases I.ok.stk with e | ⟨e,a⟩
 ·rw [e];exact I.funs
 ·rw [e];obtain⟨m,b,_⟩:=I.loc;refine .cons (by rw [I.ok.kind];decide) a b ?_ I.funs;exact Heap.get?_none_of_le (bL I.ok.bsz I.ok.above)
theorem Inv.stkSub(I:Inv X pins σ H s):∀b∈frs X.stack,b∈X.env.locals::X.fs:=λb a=>by
 rcases I.ok.stk with e | ⟨e,c⟩
 ·rw [e] at a;exact aP _ a
 ·rw [e] at a;unfold frs at a;rw [bW,c] at a;exact a
theorem Inv.stkFree(I:Inv X pins σ H s):∀b∈frs X.stack,H b=none:=λb hb=>by
 rcases aV.mp (I.stkSub b hb) with e | hb
 ·rw [e];exact I.free
 ·obtain⟨_,o,a,_⟩:=I.ok.funs.mem hb;exact I.base.free b o a (I.ok.frf b hb) λz=>I.ok.exfs b z hb
theorem Inv.step{g':Array GenState}{t':Nat}{d':Drawn}{ch:List Addr}(I:Inv X pins σ H s)(f:∀b∈ch,(b∈X.ex\/X.s₀.heap.objs.size<=b)/\b≠X.env.locals/\(∀x c,X.env.cells.lookup x=some c->c≠b) /\ ∀p∈X.pn++pins,p.1≠b)(keep:∀b o,b≠X.env.locals->b∉X.fs->b∉ch->s.heap.get? b=some o->H b=none->h'.get? b=some o)(slot:∀b o,b≠X.env.locals->b∈X.fs->b∉ch->s.heap.get? b=some o->H b=none -> ∃M,h'.get? b=some { o with slots:=M })(free:∀b o,b∉ch->s.heap.get? b=some o->H b=none->H' b=none)(A:∀b o,b∉ch->s.heap.get? b=some o -> ∃D,h'.get? b=some D)(E:∀b y,H b=some (.tup y)->H' b=some (.tup y))(F:∀b o u,H b=some (.frz o u)->H' b=some (.frz o u))(G:∀b L,H b=some (.tbl L) -> ∃more,H' b=some (.tbl (L++more)))(S:∀m,s.heap.Ns X.env.locals m->h'.Ns X.env.locals m)(hok:HOk X.prog X.w H' h')(T:AllBare g'):Inv X pins σ H' { s with heap:=h',gens:=g',drawn:=d',toks:=t' }:=by
 have J:∀b o,X.s₀.heap.get? b=some o->b≠X.env.locals:=λb o e=>bD (bP (aX e) I.ok.above);have j:∀b o,X.s₀.heap.get? b=some o->b∉X.ex->b∉ch:=λb o e a B=>by
  rcases (f b B).1 with z | z
  ·exact a z
  ·exact absurd (bP (aX e) z) (fT _)
 have g:∀x c,X.env.cells.lookup x=some c -> ∀v,s.heap.IsCell c v->h'.IsCell c v:=λx c e v ⟨o,C,N⟩=>by
  have h:c∉ch:=λz=>(f c z).2.2.1 x c e rfl;by_cases P:c∈X.fs
  ·obtain⟨M,q⟩:=slot c o (I.cne x c e) P h C (I.freeC x c e);exact⟨_,q,N⟩
  ·exact⟨o,keep c o (I.cne x c e) P h C (I.freeC x c e),N⟩
 refine⟨I.ok,I.os,T,⟨λb o e n B a=>?_,λb o e n B a=>?_,λb o e n a=>?_,λb o e a=>?_,λb y e=>E b y (I.base.tups b y e),λb o y e=>F b o y (I.base.frzs b o y e),λb L e=>?_⟩,?_,λx c e=>?_,?_,λx c e=>?_,λp Q=>?_,hok,I.len⟩
 ·exact keep b o (J b o e) B (j b o e a) (I.base.keep b o e n B a) (I.base.free b o e n a)
 ·obtain⟨M,t⟩:=I.base.slot b o e n B a;obtain⟨O,K⟩:=slot b _ (J b o e) B (j b o e a) t (I.base.free b o e n a);exact⟨O,K⟩
 ·obtain⟨D,t⟩:=I.base.there b o e a;exact free b D (j b o e a) t (I.base.free b o e n a)
 ·obtain⟨D,t⟩:=I.base.there b o e a;exact A b D (j b o e a) t
 ·obtain⟨U,t⟩:=I.base.tbls b L e;obtain⟨m2,K⟩:=G b _ t;exact⟨U++m2,by rw [K,Array.append_assoc]⟩
 ·obtain⟨m,V,W⟩:=I.loc;refine⟨m,S m V,λi x v t K Y=>?_⟩;obtain⟨u,r,l⟩:=W i x v t K Y;refine⟨u,r,?_⟩;rcases l with l | ⟨k,c,e,z⟩
  ·exact .inl l
  ·exact .inr ⟨k,c,e,g x c e _ z⟩
 ·obtain⟨v,z⟩:=I.cell x c e;exact⟨v,g x c e v z⟩
 ·obtain⟨m,⟨o,_,_,C,_⟩,_⟩:=I.loc;exact free _ o (λz=>(f _ z).2.1 rfl) C I.free
 ·obtain⟨v,o,C,N⟩:=I.cell x c e;exact free c o (λz=>(f c z).2.2.1 x c e rfl) C (I.freeC x c e)
 ·obtain⟨e,n,ne,R,d⟩:=I.pin p Q;have h:p.1∉ch:=λz=>(f p.1 z).2.2.2 p Q rfl;exact⟨keep p.1 p.2 ne R h e n,free p.1 p.2 h e n,ne,R,d⟩
theorem Inv.un{t':Nat}(I:Inv X pins σ H s)(u:Un X.fs [] H H' s.heap h')(hok:HOk X.prog X.w H' h'):Inv X pins σ H' { s with heap:=h',toks:=t' }:=by
 obtain⟨m,⟨o,k,l,g,r⟩,_⟩:=id I.loc;obtain⟨p,h⟩:=u.any g I.free (by simp)
 exact I.step (g':=s.gens) (d':=s.drawn) (ch :=[]) (λ_ z=>nomatch z) (λb o _ c _ e n=>u.keep b o e n c (by simp)) (λb o _ c _ e n=>u.slot b o e n c (by simp)) (λb o _ e n=>u.free b o e n (by simp)) (λb o _ e=>u.there b o e (by simp)) u.tups u.frzs u.tbls (λq i=>by
  obtain⟨t,d,f,a,j⟩:=i;rw [g] at a;cases a
  exact⟨_,d,f,h,j⟩) hok I.bare
theorem Inv.call{g':Array GenState}{t':Nat}{d':Drawn}{ch:List Addr}(I:Inv X pins σ H s)(u:Un (frs X.stack) ch H H' s.heap h')(hok:HOk X.prog X.w H' h')(k:AllBare g')(d:∀b∈ch,(b∈X.ex\/X.s₀.heap.objs.size<=b)/\b≠X.env.locals/\(∀x c,X.env.cells.lookup x=some c->c≠b) /\ ∀p∈X.pn++pins,p.1≠b):Inv X pins σ H' { s with heap:=h',gens:=g',drawn:=d',toks:=t' }:=by
 obtain⟨m,⟨o,v,y,j,r⟩,_⟩:=id I.loc;obtain⟨A,g⟩:=u.any j I.free λz=>(d _ z).2.1 rfl
 exact I.step (ch:=ch) d (λb o g l a e n=>u.keep b o e n (λz=>(aV.mp (I.stkSub b z)).elim g l) a) (λb o _ _ a e n=>u.any e n a) (λb o a e n=>u.free b o e n a) (λb o a e=>u.there b o e a) u.tups u.frzs u.tbls (λB q=>by
  obtain⟨C,h,i,f,t⟩:=q;rw [j] at f;cases f
  exact⟨_,h,i,g,t⟩) hok k
theorem Inv.turned{t':Nat}{it:Addr}(I:Inv X pins σ H s)(k:∀b o,b≠it->s.heap.get? b=some o->h'.get? b=some o)(g:H it=none)(f:it≠X.env.locals)(h:it∈X.ex\/X.s₀.heap.objs.size<=it)(i:∀x c,X.env.cells.lookup x=some c->c≠it)(j:∀p∈X.pn++pins,p.1≠it):Inv X pins σ H { s with heap:=h',toks:=t' }:=by
 have d:∀b u,H b=some u->b≠it:=λb u e z=>by rw [z,g] at e;cases e
 refine I.step (g':=s.gens) (d':=s.drawn) (ch :=[it]) (λb l=>?_) (λb o _ _ a e _=>k b o (λz=>a (by simp [z])) e) (λb o _ _ a e _=>⟨o.slots,k b o (λz=>a (by simp [z])) e⟩) (λ_ _ _ _ n=>n)
  (λb o a e=>⟨o,k b o (λz=>a (by simp [z])) e⟩) (λ_ _ e=>e) (λ_ _ _ e=>e) (λb B e=>⟨#[],by rw [e];simp⟩) (λm t=>?_) (λb u e=>?_) I.bare
 ·have e:b=it:=by simpa using l
  subst e;exact⟨h,f,i,j⟩
 ·obtain⟨o,w,y,A,r⟩:=t;exact⟨o,w,y,k _ o (dF f) A,r⟩
 ·refine (I.hok b u e).stay (λc v a q=>k c v ?_ q) (λ_ q=>q) λ_ _ q=>q;rcases a with z | z
  ·rw [z];exact d b u e
  ·exact d c _ z
theorem Inv.tok(I:Inv X pins σ H s)(t:Nat):Inv X pins σ H { s with toks:=t }:=I.un (h':=s.heap) (t':=t) Un.refl I.hok
theorem Inv.kept{t':Nat}(I:Inv X pins σ H s)(k:∀b u,s.heap.get? b=some u->h'.get? b=some u):Inv X pins σ H { s with heap:=h',toks:=t' }:=I.un (Un.kept k) (I.hok.kept k)
theorem Inv.laid{a:Addr}{o:HO}{t':Nat}(I:Inv X pins σ H s)(k:∀b u,s.heap.get? b=some u->h'.get? b=some u)(c:s.heap.objs.size<=a)(new:ObjOk X.prog X.w (upd H a o) h' a o):Inv X pins σ (upd H a o) { s with heap:=h',toks:=t' }:=I.un (Un.laid k c (I.hok.fresh c)) (I.hok.laid k c new)
theorem Inv.write{x e:Addr}{o:HO}{t':Nat}(I:Inv X pins σ H s)(mu:Mut (H x))(c:e=x\/H e=some (.own x))(k:∀b u,b≠e->s.heap.get? b=some u->h'.get? b=some u)(a:∃u,h'.get? e=some u)(new:ObjOk X.prog X.w (upd H x o) h' x o):Inv X pins σ (upd H x o) { s with heap:=h',toks:=t' }:=I.un (Un.write mu c k a) (I.hok.write mu c k a new)
theorem Inv.pins_of{a:List (Addr×Obj)}(I:Inv X pins σ H s)(h:∀p∈a,s.heap.get? p.1=some p.2/\H p.1=none/\p.1≠X.env.locals/\p.1∉X.fs /\ ∀v,p.2.data ≠ .cell v):Inv X a σ H s:=⟨I.ok,I.os,I.bare,I.base,I.loc,I.cell,I.free,I.freeC,λp b=>(aK.mp b).elim (λz=>I.pin p (bA _ z)) (h p),I.hok,I.len⟩
theorem iz{N:List Str}(c:N.Nodup){i j:Nat}{x:Str}(a:N[i]? = some x)(b:N[j]? = some x):i=j:=by
 obtain⟨f,d⟩:=aE.mp a;obtain⟨g,e⟩:=aE.mp b;exact (List.getElem_inj c).mp (d.trans e.symm)
theorem oA{M:Model}{A:Around}{E:Value->Shared->Prop}{i:Nat}{x:Str}{v:V}{u:Value}{Q:Unit->Shared->Prop}(I:Inv X pins σ H s)(hN:X.N.Nodup)(hi:X.N[i]? = some x)(t:Loc X.env.scope x)(r:RelV v u)(h:∀U,Inv X pins (σ.set i (some v)) H U->(∃a,Heap.SameBut a s.heap U.heap/\(a=X.env.locals\/X.env.cells.lookup x=some a))->Q () U)(hf:X.fn x=true\/X.env.scope.names.lookup x=some .local:=by first | exact .inl rfl | exact .inr rfl | assumption):wpAny M A (storeName X.env x u) Q E s:=by
 obtain⟨m,W,hl⟩:=id I.loc;have K:(X.env.scope.kind == .class||(X.env.scope.kind == .module&&X.env.locals != X.env.globals))=false:=by rw [I.ok.kind];rfl
 have D : i < σ.length:=by rw [I.len];exact (aE.mp hi).1
 have cne:=I.cne;have g:∀ {a:Addr} {h':Heap},(∃o,s.heap.get? a=some o/\H a=none)->Heap.SameBut a s.heap h'->HOk X.prog X.w H h':=λ{a h'} ha f b ob e=>by
  obtain⟨_,_,B⟩:=ha;refine (I.hok b ob e).stay (λc S hc q=>(f.2 c ?_).trans q) (λ_ q=>q) λ_ _ q=>q;rintro rfl;rcases hc with rfl | hc
  ·rw [B] at e;cases e
  ·rw [B] at hc;cases hc
 rcases t with hk | hk
 ·refine wpAny_storeName_local hk W (λh' Y f=>?_) K;obtain⟨oL,_,_,Z,_⟩:=id W;refine h _ ⟨I.ok,I.os,I.bare,⟨λb o e n F t=>?_,λb o e n F t=>?_,I.base.free,λb o e t=>?_,I.base.tups,I.base.frzs,I.base.tbls⟩,⟨_,Y,λj y v' l C e3=>?_⟩,λy c e=>?_,I.free,I.freeC,λp hp=>?_,g ⟨oL,Z,I.free⟩ f,by simpa using I.len⟩ ⟨_,f,.inl rfl⟩
  ·exact (f.2 b (bD (bP (aX e) I.ok.above))).trans (I.base.keep b o e n F t)
  ·obtain⟨sl,l⟩:=I.base.slot b o e n F t;exact⟨sl,(f.2 b (bD (bP (aX e) I.ok.above))).trans l⟩
  ·obtain⟨o',l⟩:=I.base.there b o e t;exact⟨o',(f.2 b (bD (bP (aX e) I.ok.above))).trans l⟩
  ·by_cases G:j=i
   ·subst G;rw [hi] at l;cases l;rw [List.getElem?_set_self D] at C;cases C;exact⟨u,r,.inl ⟨hk,by simp⟩⟩
   ·rw [List.getElem?_set_ne (dF G)] at C;obtain⟨u',r',q⟩:=hl j y v' l C e3;refine⟨u',r',?_⟩;rcases q with ⟨k,e⟩ | ⟨k,c,e,z⟩
    ·refine .inl ⟨k,?_⟩;have:y≠x:=λe=>G (iz hN l (e▸hi));simp [this,e]
    ·exact .inr ⟨k,c,e,z.sameBut f (cne y c e)⟩
  ·obtain⟨S,z⟩:=I.cell y c e;exact⟨S,z.sameBut f (cne y c e)⟩
  ·obtain⟨e,n,ne,nf,d⟩:=I.pin p hp;exact⟨(f.2 p.1 ne).trans e,n,ne,nf,d⟩
 ·have J:X.fn x=true:=by
   rcases hf with z | z
   ·exact z
   ·rw [z] at hk;cases hk
  obtain⟨c,hc⟩:=I.ok.has x (.inl hk);obtain⟨S,z⟩:=I.cell x c hc;refine wpAny_storeName_cell I.ok.kind hk hc z (λh' L f=>?_);obtain⟨oc,O,P⟩:=id z;refine h { s with heap:=h' } ⟨I.ok,I.os,I.bare,⟨λb o e n F t=>?_,λb o e n F t=>?_,I.base.free,λb o e t=>?_,I.base.tups,I.base.frzs,I.base.tbls⟩,⟨m,W.sameBut f (dF (cne x c hc)),λj y v' l C e3=>?_⟩,λy T e=>?_,I.free,I.freeC,λp hp=>?_,g ⟨oc,O,I.freeC x c hc⟩ f,by simpa using I.len⟩ ⟨c,f,.inr hc⟩
  ·exact (f.2 b (bD (bP (aX e) (I.ok.cab x c J hc)))).trans (I.base.keep b o e n F t)
  ·obtain⟨sl,l⟩:=I.base.slot b o e n F t;exact⟨sl,(f.2 b (bD (bP (aX e) (I.ok.cab x c J hc)))).trans l⟩
  ·obtain⟨o',l⟩:=I.base.there b o e t;exact⟨o',(f.2 b (bD (bP (aX e) (I.ok.cab x c J hc)))).trans l⟩
  ·by_cases G:j=i
   ·subst G;rw [hi] at l;cases l;rw [List.getElem?_set_self D] at C;cases C;exact⟨u,r,.inr ⟨.inl hk,c,hc,L⟩⟩
   ·rw [List.getElem?_set_ne (dF G)] at C;obtain⟨u',r',q⟩:=hl j y v' l C e3;refine⟨u',r',?_⟩;rcases q with q | ⟨k,T,e,z'⟩
    ·exact .inl q
    ·refine .inr ⟨k,T,e,z'.sameBut f ?_⟩;rintro rfl;exact G (iz hN l (I.ok.inj _ _ _ e hc▸hi))
  ·by_cases R:T=c
   ·subst R;exact⟨_,L⟩
   ·obtain⟨w2,z2⟩:=I.cell y T e;exact⟨w2,z2.sameBut f R⟩
  ·obtain⟨e,n,ne,nf,d⟩:=I.pin p hp;refine⟨(f.2 p.1 ?_).trans e,n,ne,nf,d⟩;intro q;rw [q,O] at e;have q':oc=p.2:=bT e;exact d S (by rw [<-q'];exact P)
theorem vt{M:Model}{A:Around}{E:Value->Shared->Prop}{i:Nat}{x:Str}{v:V}{u:Value}{Q:Unit->Shared->Prop}(I:Inv X pins σ H s)(b:X.N.Nodup)(hi:X.N[i]? = some x)(c:Loc X.env.scope x)(r:RelV v u)(h:∀a,Inv X pins (σ.set i (some v)) H a->Q () a)(d:X.fn x=true\/X.env.scope.names.lookup x=some .local:=by first | exact .inl rfl | exact .inr rfl | assumption):wpAny M A (storeName X.env x u) Q E s:=oA I b hi c r (λa e _=>h a e) d
theorem Inv.call'{a:Shared}{ch:List Addr}(I:Inv X pins σ H s)(f:a.os=s.os)(u:Un (frs X.stack) ch H H' s.heap a.heap)(hok:HOk X.prog X.w H' a.heap)(g:AllBare a.gens)(d:∀b∈ch,(b∈X.ex\/X.s₀.heap.objs.size<=b)/\b≠X.env.locals/\(∀x c,X.env.cells.lookup x=some c->c≠b) /\ ∀p∈X.pn++pins,p.1≠b):Inv X pins σ H' a:=by
 obtain⟨h',g',d',t',h⟩:=a;have e:h=s.os:=f;subst e;exact I.call (g':=g') (t':=t') (d':=d') u hok g d
end
abbrev XK:=Value->Option Addr->Hp->Prop
abbrev St:=List (Option V)
abbrev VK:=V->Hp->Prop
abbrev TE:=St->Hp->VK->Prop
abbrev TT:=St->Hp->(Bool->Hp->Prop)->Prop
abbrev TA:=St->Hp->(List V->Hp->Prop)->Prop
structure Ends where
 nx:St->Hp->Prop
 rt:VK
 bk:St->Hp->Prop:=λ_ _=>False
 ct:St->Hp->Prop:=λ_ _=>False
abbrev TS:=Ends->St->Hp->Prop
def EP(X:Cx)(pins:List (Addr×Obj))(σ : St)(Q:VK)(u:Value)(s':Shared):Prop := ∃v H',Inv X pins σ H' s'/\RelV v u/\Q v H'
def TP(X:Cx)(pins:List (Addr×Obj))(σ : St)(Q:Bool->Hp->Prop)(b:Bool)(s':Shared):Prop := ∃H',Inv X pins σ H' s'/\Q b H'
def AP(X:Cx)(pins:List (Addr×Obj))(σ : St)(Q:List V->Hp->Prop)(us:List Value)(s':Shared):Prop := ∃vs H',Inv X pins σ H' s'/\Vals vs us/\Q vs H'
def SP(X:Cx)(pins:List (Addr×Obj))(D:Ends)(f:Flow)(s':Shared):Prop :=
 match f with
 | .next => ∃ σ' H',Inv X pins σ' H' s'/\D.nx σ' H'
 | .brk => ∃ σ' H',Inv X pins σ' H' s'/\D.bk σ' H'
 | .cont => ∃ σ' H',Inv X pins σ' H' s'/\D.ct σ' H'
 | .ret u => ∃v σ' H',Inv X pins σ' H' s'/\RelV v u/\D.rt v H'
def PE(X:Cx)(e:Expr)(t:TE):Prop :=
 ∀(pins:List (Addr×Obj)) (s:Shared) (σ : St) (H:Hp) (Q:VK),Inv X pins σ H s->t σ H Q->wpAny (model X.prog X.w) X.A (eval e X.env) (EP X pins σ Q) X.xe s
def PT(X:Cx)(e:Expr)(t:TT):Prop :=
 ∀(pins:List (Addr×Obj)) (s:Shared) (σ : St) (H:Hp) (Q:Bool->Hp->Prop),Inv X pins σ H s->t σ H Q->wpAny (model X.prog X.w) X.A (isTrue e X.env (eval e X.env)) (TP X pins σ Q) X.xe s
def PW(X:Cx)(e:Expr)(t:TT):Prop :=
 ∀(whole:Sem Value) (pins:List (Addr×Obj)) (s:Shared) (σ : St) (H:Hp) (Q:Bool->Hp->Prop),Inv X pins σ H s->t σ H Q->wpAny (model X.prog X.w) X.A (isTrue e X.env whole) (TP X pins σ Q) X.xe s
theorem PW.pt{X:Cx}{e:Expr}{t:TT}(h:PW X e t):PT X e t:=h _
def PA(X:Cx)(es:List Expr)(t:TA):Prop :=
 ∀(pos:Pos) (pins:List (Addr×Obj)) (s:Shared) (σ : St) (H:Hp) (Q:List V->Hp->Prop),Inv X pins σ H s->t σ H Q->wpAny (model X.prog X.w) X.A (spliced (backTo pos (starEach es X.env))) (AP X pins σ Q) X.xe s
def PS(X:Cx)(st:Stmt)(t:TS):Prop :=
 ∀(pins:List (Addr×Obj)) (s:Shared) (σ : St) (H:Hp) (D:Ends),Inv X pins σ H s->t D σ H->wpAny (model X.prog X.w) X.A (exec st X.env) (SP X pins D) X.xe s
def PSs(X:Cx)(st:List Stmt)(t:TS):Prop :=
 ∀(pins:List (Addr×Obj)) (s:Shared) (σ : St) (H:Hp) (D:Ends),Inv X pins σ H s->t D σ H->wpAny (model X.prog X.w) X.A (execs st X.env) (SP X pins D) X.xe s
theorem thn{α : Type}{t:Sem α}{Q b : α -> Shared->Prop}{M:Model}{A:Around}{E:Value->Shared->Prop}{s:Shared}(h:wpAny M A t Q E s)(c:∀a s,Q a s->b a s):wpAny M A t b E s:=eM h c λ_ _ x=>x
section
variable{X:Cx}
theorem bin{a b:Expr}{k l:TE}(m:PE X a k)(n:PE X b l){c:List (Addr×Obj)}{s:Shared}{σ : St}{H:Hp}{R:V->V->Hp->Prop}(I:Inv X c σ H s)(h:k σ H λx j=>l σ j λy d=>R x y d){α : Type}{Q : α -> Shared->Prop}{f:Value->Value->Sem α}(o:∀v u i x y d,Inv X c σ d i->RelV x v->RelV y u->R x y d->wpAny (model X.prog X.w) X.A (f v u) Q X.xe i):wpAny (model X.prog X.w) X.A (eval a X.env) (λv e =>wpAny (model X.prog X.w) X.A (eval b X.env) (λu g =>wpAny (model X.prog X.w) X.A (f v u) Q X.xe g) X.xe e) X.xe s:=by
 refine thn (m c s σ H _ I h) λv p hq_=>?_;obtain⟨x,j,q,r,t⟩:=hq_;refine thn (n c p σ j _ q t) λu i hq_=>?_;obtain⟨y,d,z,B,C⟩:=hq_;exact o v u i x y d z r B C
def tVar(i:Nat):TE:=λσ H Q => ∃v,σ[i]? = some (some v)/\Q v H
def tC(v:V):TE:=λ_ H Q=>Q v H
theorem qYs{i:Nat}{x:Str}{f:Pos}(k:X.N[i]? = some x)(n:Vis X.env.scope x)(hd:(x == ("__debug__" : Str))=false:=by decide)(g:(x == ("__classdict__" : Str))=false:=by decide):PE X (.Name x f) (tVar i):=by
 intro d s σ H Q I h;obtain⟨v,e,h⟩:=h;obtain⟨m,o,p⟩:=I.loc;obtain⟨u,r,l⟩:=p i x v k e n;have b:EP X d σ Q u s:=⟨v,H,I,r,h⟩;rcases l with ⟨hk,q⟩ | ⟨hk,c,j,a⟩
 ·exact wpAny_Name (wpAny_loadName_local I.ok.kind hk o q b) hd
 ·rcases hk with hk | hk
  ·exact wpAny_Name (wpAny_loadName_cell I.ok.kind hk j a b) hd
  ·exact wpAny_Name (wpAny_loadName_free I.ok.kind hk j a b g) hd
theorem zE{i j pos}:PE X (.Constant (.int i) j pos) (tC (.int i)):=λ_ _ _ H _ I h=>wpAny_Constant_int ⟨.int i,H,I.tok _,⟨_,rfl⟩,h⟩
theorem zk{b j pos}:PE X (.Constant (.bool b) j pos) (tC (.bl b)):=λ_ _ _ H _ I h=>Constant_bool ⟨.bl b,H,I,rfl,h⟩
theorem vy{j pos}:PE X (.Constant .none j pos) (tC .non):=λ_ _ _ H _ I h=>Constant_none ⟨.non,H,I,rfl,h⟩
theorem yB{x j pos}:PE X (.Constant (.str x) j pos) (tC (.str x)):=λ_ _ _ H _ I h=>Calls.Constant_str ⟨.str x,H,I.tok _,⟨_,rfl⟩,h⟩
def Gl(X:Cx)(x:Str):Prop:=X.env.kindOf x=some .globalImplicit
theorem oB{E:Value->Shared->Prop}{a:List (Addr×Obj)}{s:Shared}{σ : St}{H:Hp}{x:Str}{u:Value}{b:Pos}{Q:Value->Shared->Prop}(I:Inv X a σ H s)(c:Gl X x)(d:X.mg x=some u)(h:Q u s)
  (hd:(x == ("__debug__" : Str))=false:=by decide):wpAny (model X.prog X.w) X.A (eval (.Name x b) X.env) Q E s :=
 Calls.Name_function_global I.ok.kind c (Calls.loadGlobal_global (by rw [I.ok.glob];exact I.mod.glob.keeps I.bk) d h) hd
theorem vI{E:Value->Shared->Prop}{a:List (Addr×Obj)}{s:Shared}{σ : St}{H:Hp}{x:Str}{u:Value}{b:Pos}{Q:Value->Shared->Prop}(I:Inv X a σ H s)(c:Gl X x)(d:X.mg x=none)(e:bootBuiltins x=some u)(h:Q u s)
  (f:x ≠ "__name__" :=by decide) (g:(x == ("__debug__" : Str))=false:=by decide):wpAny (model X.prog X.w) X.A (eval (.Name x b) X.env) Q E s:=by
 obtain⟨k,i,j⟩:=I.mod.blt;exact Calls.Name_function_global I.ok.kind c (Calls.loadGlobal_builtin (by rw [I.ok.glob];exact I.mod.glob.keeps I.bk) d (by rw [I.ok.blt];exact i.keeps I.bk) ((j x f).trans e) h) g
theorem kG{x:Str}{v:V}{u:Value}{a:Pos}(b:Gl X x)(c:X.mg x=some u)(r:RelV v u)(hd:(x == ("__debug__" : Str))=false:=by decide):PE X (.Name x a) (tC v):=λ_ _ _ H _ I h=>oB I b c ⟨v,H,I,r,h⟩ hd
theorem xQ{x:Str}{v:V}{u:Value}{a:Pos}(b:Gl X x)(c:X.mg x=none)(d:bootBuiltins x=some u)(r:RelV v u)(e:x ≠ "__name__" :=by decide)(f:(x == ("__debug__" : Str))=false:=by decide):PE X (.Name x a) (tC v):=λ_ _ _ H _ I h=>vI I b c d ⟨v,H,I,r,h⟩ e f
variable{a b:Expr}{ta tb:TE}{pos:Pos}
def PC(X:Cx)(op:CmpOp)(a b:Expr)(t:TE):Prop :=
 ∀(pins:List (Addr×Obj)) (s:Shared) (σ : St) (H:Hp) (Q:VK),Inv X pins σ H s->t σ H Q ->
  wpAny (model X.prog X.w) X.A (eval a X.env) (λv s₁ =>wpAny (model X.prog X.w) X.A (eval b X.env) (λu s₂ =>wpAny (model X.prog X.w) X.A (compareOp op v u) (EP X pins σ Q) X.xe s₂) X.xe s₁) X.xe s
theorem qUp(b:Expr){a:CmpOp}(h:a ≠ .In)(c:a ≠ .NotIn):behindInMarks a b=false:=by
 have d:(a == CmpOp.In)=false:=by cases a <;> first | rfl | exact absurd rfl h
 have e:(a == CmpOp.NotIn)=false:=by cases a <;> first | rfl | exact absurd rfl c
 cases b <;> simp [behindInMarks,d,e]
def tB(t:TE):TT:=λσ H Q=>t σ H λx H1 => ∃c,x = .bl c/\Q c H1
theorem vJ{f:CmpOp}{t:TE}(h:PC X f a b t)(g:behindInMarks f b=false:=by first | exact qUp _ (by decide) (by decide) | rfl):PT X (.Compare a [f] [b] pos) (tB t):=by
 intro e s σ H Q I i;refine wpAny_isTrue_Compare1 (thn (h e s σ H _ I i) λv o g=>thn g λu p j=>thn j λc r hq_=>?_) g;obtain⟨x,k,l,m,n⟩:=hq_;obtain⟨d,rfl,q⟩:=n;cases m;exact dJ ⟨k,l,q⟩
variable{tA tB':TT}{rest:List Expr}
def tAnd(t u:TT):TT:=λσ H Q=>t σ H λc H1=>if c=true then u σ H1 Q else Q false H1
def tOr(t u:TT):TT:=λσ H Q=>t σ H λc H1=>if c=true then Q true H1 else u σ H1 Q
def tNot(t:TT):TT:=λσ H Q=>t σ H λc H1=>Q (!c) H1
theorem xi(d:PT X a tA):PW X (.BoolOp .And [a] pos) tA:=by
 intro f b s σ H Q I h;refine isTrue_and (thn (d b s σ H Q I h) λc g e=>?_);cases c with
 | true=>exact isTrue_and_nil e
 | false=>exact e
theorem wR(d:PT X a tA):PW X (.BoolOp .Or [a] pos) tA:=by
 intro f b s σ H Q I h;refine isTrue_or (thn (d b s σ H Q I h) λc g e=>?_);cases c with
 | false=>exact isTrue_or_nil e
 | true=>exact e
theorem xj(i:PT X a tA)(j:PW X (.BoolOp .And (b::rest) pos) tB'):PW X (.BoolOp .And (a::b::rest) pos) (tAnd tA tB'):=by
 intro k d s σ H Q I h;refine isTrue_and (thn (i d s σ H _ I h) λc l hq_=>?_);obtain⟨e,f,g⟩:=hq_;cases c with
 | true=>exact j k d l σ e Q f g
 | false=>exact⟨e,f,g⟩
theorem wS(i:PT X a tA)(j:PW X (.BoolOp .Or (b::rest) pos) tB'):PW X (.BoolOp .Or (a::b::rest) pos) (tOr tA tB'):=by
 intro k d s σ H Q I h;refine isTrue_or (thn (i d s σ H _ I h) λc l hq_=>?_);obtain⟨e,f,g⟩:=hq_;cases c with
 | true=>exact⟨e,f,g⟩
 | false=>exact j k d l σ e Q f g
theorem xM(d:PT X a tA):PT X (.UnaryOp .Not a pos) (tNot tA):=by
 intro b s σ H Q I h;exact isTrue_not (d b s σ H (λc e=>Q (!c) e) I h)
def tAndV(ta tb:TE):TE:=λσ H Q=>ta σ H λx H1 => ∃c,x = .bl c/\if c=true then tb σ H1 Q else Q (.bl false) H1
def tOrV(ta tb:TE):TE:=λσ H Q=>ta σ H λx H1 => ∃c,x = .bl c/\if c=true then Q (.bl true) H1 else tb σ H1 Q
def tNotV(ta:TE):TE:=λσ H Q=>ta σ H λx H1 => ∃c,x = .bl c/\Q (.bl (!c)) H1
theorem xN{op}{t:TE}(h:PE X a t):PE X (.BoolOp op [a] pos) t:=λb s σ H Q I c=>BoolOp_one (h b s σ H Q I c)
theorem xR(i:PE X a ta)(j:PE X (.BoolOp .And (b::rest) pos) tb):PE X (.BoolOp .And (a::b::rest) pos) (tAndV ta tb):=by
 intro d s σ H Q I h;refine BoolOp_and (thn (i d s σ H _ I h) λv k hq_=>?_);obtain⟨x,f,g,l,e⟩:=hq_;obtain⟨c,rfl,e⟩:=e;cases l;refine dJ ?_;cases c with
 | true=>exact j d k σ f Q g e
 | false=>exact⟨.bl false,f,g,rfl,e⟩
theorem qZr(i:PE X a ta)(j:PE X (.BoolOp .Or (b::rest) pos) tb):PE X (.BoolOp .Or (a::b::rest) pos) (tOrV ta tb):=by
 intro d s σ H Q I h;refine BoolOp_or (thn (i d s σ H _ I h) λv k hq_=>?_);obtain⟨x,f,g,l,e⟩:=hq_;obtain⟨c,rfl,e⟩:=e;cases l;refine dJ ?_;cases c with
 | false=>exact j d k σ f Q g e
 | true=>exact⟨.bl true,f,g,rfl,e⟩
theorem oC(e:PE X a ta):PE X (.UnaryOp .Not a pos) (tNotV ta):=by
 intro b s σ H Q I h;refine UnaryOp_ (thn (e b s σ H _ I h) λv j hq_=>?_);obtain⟨x,f,g,i,d⟩:=hq_;obtain⟨c,rfl,d⟩:=d;cases i;exact not_of (dJ ⟨.bl (!c),f,g,rfl,d⟩)
def tIf(t:TT)(ta tb:TE):TE:=λσ H Q=>t σ H λc H1=>if c=true then ta σ H1 Q else tb σ H1 Q
theorem wT{c:Expr}(k:PT X c tA)(l:PE X a ta)(m:PE X b tb):PE X (.IfExp c a b pos) (tIf tA ta tb):=by
 intro e s σ H Q I h;refine wpAny_IfExp (thn (k e s σ H _ I h) λd f hq_=>?_);obtain⟨g,i,j⟩:=hq_;cases d with
 | true=>exact l e f σ g Q i j
 | false=>exact m e f σ g Q i j
end
def SqL(K:PySem.W.Frag)(H:Hp)(a:Addr)(xs:List V):Prop :=
 Rd H a (.lst xs) \/
  ∃(o:Obj) (its:Array Value) (n:Nat),K.lookup a=some o/\o.cls = .type "list" /\ o.dict=none/\o.data = .seq its n/\its.size<=sizeLine/\Vals xs its.toList
def SqT(K:PySem.W.Frag)(H:Hp)(a:Addr)(xs:List V):Prop :=
 Rd H a (.tup xs) \/
  ∃(o:Obj) (its:Array Value) (n:Nat),K.lookup a=some o/\o.cls = .type "tuple" /\ o.data = .seq its n/\its.size<=sizeLine/\Vals xs its.toList
def absV:Value->Option V
 | .none=>some .non
 | .bool b=>some (.bl b)
 | .int i _=>some (.int i)
 | .str x _=>some (.str x)
 | .bytes b _=>some (.byt b)
 | .float b _=>some (.flt b)
 | .ref a=>some (.ref a)
 | .type n=>some (.ty n)
 | _=>none
theorem RelV.abs{x:V}{u:Value}(r:RelV x u):absV u=some x:=by
 cases x with
 | non=>cases r;rfl
 | bl _=>cases r;rfl
 | int _=>obtain⟨t,rfl⟩:=r;rfl
 | str _=>obtain⟨t,rfl⟩:=r;rfl
 | byt _=>obtain⟨t,rfl⟩:=r;rfl
 | flt _=>obtain⟨t,rfl⟩:=r;rfl
 | ref _=>cases r;rfl
 | ty _=>cases r;rfl
theorem RelV.inj{x y:V}{u:Value}(r:RelV x u)(q:RelV y u):x=y:=bT (r.abs.symm.trans q.abs)
theorem Vals.inj{xs a:List V}{us:List Value}(h:Vals xs us)(k:Vals a us):xs=a:=by
 induction h generalizing a with
 | nil=>cases k;rfl
 | cons r _ b=>cases k with | cons c d=>rw [r.inj c,b d]
section
variable{X:Cx}{pins:List (Addr×Obj)}{σ : St}{H:Hp}{s:Shared}{a:Addr}{xs ys:List V}
theorem SqL.of{K:PySem.W.Frag}(h:H a=some (.lst xs)):SqL K H a xs :=.inl (.inl h)
theorem SqT.of{K:PySem.W.Frag}(h:H a=some (.tup xs)):SqT K H a xs :=.inl (.inl h)
theorem Inv.list(I:Inv X pins σ H s)(h:SqL X.K H a xs):∃its:List Value,Vals xs its/\PlainL s.heap a its.toArray/\xs.length<=sizeLine:=by
 rcases h with h | ⟨o,its,n,b,c,d,f,g,r⟩
 ·obtain⟨z,its,n,r,e⟩:=h.ok I.hok;exact⟨its,r,⟨_,n,e,rfl,rfl,rfl⟩,z⟩
 ·refine⟨its.toList,r,⟨o,n,I.kIn a o b,c,d,by simpa using f⟩,?_⟩;have e:=r.length;simp only [aU] at e;lia
theorem Inv.tuple(I:Inv X pins σ H s)(h:SqT X.K H a xs):∃its:List Value,Vals xs its/\IsTup s.heap a its.toArray/\xs.length<=sizeLine:=by
 rcases h with h | ⟨o,its,n,b,c,d,f,r⟩
 ·obtain⟨z,its,r,p⟩:=h.ok I.hok;exact⟨its,r,p,z⟩
 ·refine⟨its.toList,r,⟨o,I.kIn a o b,c,n,by simpa using d⟩,?_⟩;have e:=r.length;simp only [aU] at e;lia
theorem Inv.list_inj(I:Inv X pins σ H s)(h:SqL X.K H a xs)(h':SqL X.K H a ys):xs=ys:=by
 obtain⟨c,r,⟨o,n,e,_,_,d⟩,_⟩:=I.list h;obtain⟨b,i,⟨k,l,f,_,_,g⟩,_⟩:=I.list h';rw [e] at f;cases f;rw [d] at g;injection g with j _
 have:c=b:=by simpa using congrArg Array.toList j
 subst this;exact r.inj i
theorem Inv.tuple_inj(I:Inv X pins σ H s)(h:SqT X.K H a xs)(h':SqT X.K H a ys):xs=ys:=by
 obtain⟨c,r,⟨o,e,_,n,d⟩,_⟩:=I.tuple h;obtain⟨b,i,⟨k,f,_,l,g⟩,_⟩:=I.tuple h';rw [e] at f;cases f;rw [d] at g;injection g with j _
 have:c=b:=by simpa using congrArg Array.toList j
 subst this;exact r.inj i
end
abbrev Cx.wish(X:Cx)(E:Value->Shared->Prop):Cx :={ X with xe:=E }
abbrev Cx.nox(X:Cx):Cx:=X.wish λ_ _=>False
theorem Cx.Ok.wish{X:Cx}(ok:X.Ok)(E:Value->Shared->Prop):(X.wish E).Ok:=⟨ok.mod,ok.kind,ok.glob,ok.blt,ok.above,ok.inj,ok.has,ok.cab,ok.hd,ok.frames,ok.stk,ok.exf,ok.bs,ok.bsz,ok.noex,ok.exfs,ok.funs,ok.frf⟩
theorem Cx.Ok.unwish{X:Cx}{E:Value->Shared->Prop}(ok:(X.wish E).Ok):X.Ok:=⟨ok.mod,ok.kind,ok.glob,ok.blt,ok.above,ok.inj,ok.has,ok.cab,ok.hd,ok.frames,ok.stk,ok.exf,ok.bs,ok.bsz,ok.noex,ok.exfs,ok.funs,ok.frf⟩
section
variable{X:Cx}{pins:List (Addr×Obj)}{σ : St}{H:Hp}{s:Shared}{E:Value->Shared->Prop}
theorem Inv.wish(I:Inv X pins σ H s)(E:Value->Shared->Prop):Inv (X.wish E) pins σ H s:=⟨I.ok.wish E,I.os,I.bare,I.base,I.loc,I.cell,I.free,I.freeC,I.pin,I.hok,I.len⟩
theorem Inv.unwish(I:Inv (X.wish E) pins σ H s):Inv X pins σ H s:=⟨I.ok.unwish,I.os,I.bare,I.base,I.loc,I.cell,I.free,I.freeC,I.pin,I.hok,I.len⟩
theorem SP.unwish{D:Ends}{f:Flow}{c:Shared}(h:SP (X.wish E) pins D f c):SP X pins D f c:=by
 cases f with
 | next=>obtain⟨a,b,I,q⟩:=h;exact⟨a,b,I.unwish,q⟩
 | brk=>obtain⟨a,b,I,q⟩:=h;exact⟨a,b,I.unwish,q⟩
 | cont=>obtain⟨a,b,I,q⟩:=h;exact⟨a,b,I.unwish,q⟩
 | ret u=>obtain⟨v,a,b,I,r,q⟩:=h;exact⟨v,a,b,I.unwish,r,q⟩
theorem PSs.nox{st:List Stmt}{t:TS}(h:PSs X.nox st t):PSs X st t:=λpins s σ H D I a =>
 eM (h pins s σ H D (I.wish _) a) (λ_ _ q=>q.unwish) λ_ _ z=>False.elim z
end
section
variable{X:Cx}{st:Stmt}{rest:List Stmt}{t u:TS}{e:Expr}{te:TE}{pos:Pos}
def tNext:TS:=λD σ H=>D.nx σ H
def tSeq(t u:TS):TS:=λD σ H=>t { D with nx:=u D } σ H
theorem zh:PSs X [] tNext:=λ_ _ σ H _ I h=>wpAny_execs_nil ⟨σ,H,I,h⟩
theorem zG(c:PS X st t)(d:PSs X rest u):PSs X (st::rest) (tSeq t u):=by
 intro a s σ H D I h;refine wpAny_execs_cons (thn (c a s σ H { D with nx:=u D } I h) λf e q=>?_);cases f with
 | next =>
  obtain⟨b,g,i,q⟩:=q;exact d a e b g D i q
 | ret v=>exact q
 | brk=>exact q
 | cont=>exact q
theorem zI(b:PS X st t):PSs X [st] t:=by
 intro a s σ H D I h;refine wpAny_execs_cons (thn (b a s σ H D I h) λf c q=>?_);cases f with
 | next=>exact wpAny_execs_nil q
 | ret v=>exact q
 | brk=>exact q
 | cont=>exact q
def tCont:TS:=λD σ H=>D.ct σ H
theorem qM4:PS X (.Continue pos) tCont:=λ_ _ σ H _ I h=>wpAny_Continue ⟨σ,H,I,h⟩
theorem Inv.quiet{a:List (Addr×Obj)}{σ : St}{H:Hp}{s:Shared}(I:Inv X a σ H s):interactive X.env=false:=by simp [interactive,I.ok.kind]
def tDrop(te:TE):TS:=λD σ H=>te σ H λ_ H1=>D.nx σ H1
theorem yZ(b:PE X e te)(c:swapsWith e none pos.line X.env=pure false:=by rfl):PS X (.Expr e pos) (tDrop te):=by
 intro a s σ H D I h;refine wpAny_Expr_any (thn (b a s σ H _ I h) λv i hq_=>?_) I.quiet c;obtain⟨x,d,f,j,g⟩:=hq_;exact⟨σ,d,f,g⟩
def tRet(te:TE):TS:=λD σ H=>te σ H D.rt
theorem zP(b:PE X e te):PS X (.Return (some e) pos) (tRet te):=by
 intro a s σ H D I h;refine wpAny_Return_some (thn (b a s σ H _ I h) λv i hq_=>?_);obtain⟨x,c,d,f,g⟩:=hq_;exact⟨x,σ,c,d,f,g⟩
def tIfS(c:TT)(t u:TS):TS:=λD σ H=>c σ H λb H1=>if b=true then t D σ H1 else u D σ H1
theorem zn{c:Expr}{a b:List Stmt}{f:TT}(l:PT X c f)(m:PSs X a t)(n:PSs X b u):PS X (.If c a b pos) (tIfS f t u):=by
 intro e s σ H D I h;refine wpAny_If (thn (l e s σ H _ I h) λd g hq_=>?_);obtain⟨i,j,k⟩:=hq_;cases d with
 | true=>exact m e g σ i D j k
 | false=>exact n e g σ i D j k
end
abbrev TG:=V->St->Hp->(St->Hp->Prop)->Prop
abbrev TGs:=List V->St->Hp->(St->Hp->Prop)->Prop
def PG(X:Cx)(target:Expr)(t:TG):Prop :=
 ∀(pins:List (Addr×Obj)) (s:Shared) (σ : St) (H:Hp) (v:V) (u:Value) (Q:St->Hp->Prop),Inv X pins σ H s->RelV v u->t v σ H Q ->
  wpAny (model X.prog X.w) X.A (assign target X.env u) (λ_ s' => ∃ σ' H',Inv X pins σ' H' s'/\Q σ' H') X.xe s
def PGs(X:Cx)(ts:List Expr)(t:TGs):Prop :=
 ∀(pins:List (Addr×Obj)) (s:Shared) (σ : St) (H:Hp) (vs:List V) (us:List Value) (Q:St->Hp->Prop),Inv X pins σ H s->Vals vs us->t vs σ H Q ->
  wpAny (model X.prog X.w) X.A (assignInOrder ((assignEach ts X.env).map (·.2)) us) (λ_ s' => ∃ σ' H',Inv X pins σ' H' s'/\Q σ' H') X.xe s
abbrev TSet:=V->V->V->Hp->(Hp->Prop)->Prop
def PSet(X:Cx)(t:TSet):Prop :=
 ∀(pins:List (Addr×Obj)) (s:Shared) (σ : St) (H:Hp) (o i v:V) (ov iv u:Value) (Q:Hp->Prop),Inv X pins σ H s->RelV o ov->RelV i iv->RelV v u->t o i v H Q ->
  wpAny (model X.prog X.w) X.A (setItem ov iv u) (λ_ s' => ∃H',Inv X pins σ H' s'/\Q H') X.xe s
section
variable{X:Cx}{pos:Pos}
def gName(i:Nat):TG:=λv σ H Q=>Q (σ.set i (some v)) H
theorem zJ{i:Nat}{x:Str}(b:X.N.Nodup)(hi:X.N[i]? = some x)(c:Loc X.env.scope x)(d:X.fn x=true\/X.env.scope.names.lookup x=some .local:=by first | exact .inl rfl | exact .inr rfl | assumption):PG X (.Name x pos) (gName i):=by
 intro a s σ H v u Q I r h;exact wpAny_assign_Name (vt I b hi c r (λf e=>⟨_,H,e,h⟩) d)
def gNil:TGs:=λvs σ H Q=>vs = []/\Q σ H
def gCons(t:TG)(u:TGs):TGs:=λvs σ H Q => ∃v r,vs=v::r/\t v σ H λσ' H'=>u r σ' H' Q
theorem yI:PGs X [] gNil:=by
 intro a s σ H b c Q I r h;obtain⟨e,h⟩:=h;subst e;cases r;exact assignInOrder_nil ⟨σ,H,I,h⟩
theorem ze{e:Expr}{es:List Expr}{t:TG}{u:TGs}(c:PG X e t)(d:PGs X es u)(f:(assignEach (e::es) X.env).map (·.2)=assign e X.env::(assignEach es X.env).map (·.2):=by rfl):PGs X (e::es) (gCons t u):=by
 intro a s σ H n o Q I r h;obtain⟨v,p,g,h⟩:=h;subst g;cases r with
 | cons r i =>
  rw [f];refine assignInOrder_cons (thn (c a s σ H _ _ _ I r h) λ_ j hq_=>?_);obtain⟨b,k,l,m⟩:=hq_;exact d a j b k _ _ Q l i m
def gTup(K:PySem.W.Frag)(n:Nat)(t:TGs):TG:=λv σ H Q => ∃a xs,v = .ref a/\SqT K H a xs/\xs.length=n/\t xs σ H Q
theorem xS{es:List Expr}{k:Nat}{t:TGs}{n:Nat}(i:X.calm=true)(h:PGs X es t)(j:(assignEach es X.env).length=n:=by rfl)(d:(assignEach es X.env).findIdx? (·.1)=none:=by rfl):PG X (.Tuple es k pos) (gTup X.K n t):=by
 intro c s σ H v u Q I r f;obtain⟨a,l,m,p,q,f⟩:=f;subst m;cases r;obtain⟨w,g,x,B⟩:=I.tuple p;refine assign_Tuple_tuple (I.ok.hd i) x (by simp [j,<-q,g.length]) d λy z=>?_;have A:Inv X c σ H { s with heap:=y }:=I.kept (t':=s.toks) λb o e=>z b o (bD (aX e)) e;exact h c _ σ H l _ Q A (by simpa using g) f
def gSub(to ti:TE)(t:TSet):TG:=λv σ H Q=>to σ H λo H1=>ti σ H1 λi H2=>t o i v H2 λH3=>Q σ H3
theorem oD{o i:Expr}{d e:TE}{t:TSet}(f:PE X o d)(hi:PE X i e)(g:PSet X t)(j:∀v,assign (.Subscript o i pos) X.env v=(do
   let b <-holding [v] (eval o X.env)
   let c <-holding [v,b] (eval i X.env)
   standAt pos
   holding [v,b,c] (setItem b c v)
   release [v,b,c] []):=by intro _;rfl):PG X (.Subscript o i pos) (gSub d e t):=by
 intro a s σ H v u Q I r h;rw [j];refine aA (bM (thn (f a s σ H _ I h) λb k hq_=>?_));obtain⟨x,l,m,n,p⟩:=hq_;refine aA (bM (thn (hi a k σ l _ m p) λc q hq_=>?_));obtain⟨y,w,z,A,B⟩:=hq_;refine aA (dP (aA (bM (thn (g a q σ w x y v b c u _ z n A r B) λ_ F hq_=>?_))));obtain⟨C,D,E⟩:=hq_;exact wpAny_release ⟨σ,C,D,E⟩
def tAsg(te:TE)(g:TG):TS:=λD σ H=>te σ H λx H1=>g x σ H1 D.nx
theorem wU{b e:Expr}{c:TE}{g:TG}(d:PE X e c)(f:PG X b g)(i:swapsWithSole [b] e pos.line X.env=pure false:=by rfl)(j:swappedStores [b] e X.env=pure none:=by rfl)(k:(assignEach [b] X.env).map (·.2) = [assign b X.env]:=by rfl):PS X (.Assign [b] e pos) (tAsg c g):=by
 intro a s σ H D I h;refine wpAny_Assign_stores (thn (d a s σ H _ I h) λv l hq_=>?_) i j;obtain⟨x,m,n,o,p⟩:=hq_;rw [k];exact thn (f a l σ m x v _ n o p) λ_ r q=>q
theorem zN{i:Nat}{x:Str}{e:Expr}{c:TE}{a:Pos}(d:X.N.Nodup)(hi:X.N[i]? = some x)(f:Loc X.env.scope x)(g:PE X e c)(j:swapsWith e (some (.Name x a)) pos.line X.env=pure false:=by rfl)(k:X.fn x=true\/X.env.scope.names.lookup x=some .local:=by first | exact .inl rfl | exact .inr rfl | assumption):PS X (.Assign [.Name x a] e pos) (tAsg c (gName i)):=by
 intro b s σ H D I h;refine wpAny_Assign_Name (thn (g b s σ H _ I h) λv q hq_=>?_) j;obtain⟨y,l,m,n,o⟩:=hq_;exact vt m d hi f n (λr p=>⟨_,l,p,o⟩) k
def tPar(i j:Nat)(ta:TA):TS:=λD σ H=>ta σ H λvs H1 => ∃v w,vs = [v,w]/\D.nx ((σ.set i (some v)).set j (some w)) H1
theorem vz{i j:Nat}{x y:Str}{a b:Expr}{B:TA}{l m pt:Pos}{kt n d}(K:X.calm=true)(C:X.N.Nodup)(hi:X.N[i]? = some x)(L:X.N[j]? = some y)(r:i≠j)(E:X.env.scope.names.lookup x=some .local)(F:X.env.scope.names.lookup y=some .local)(M:PA X [a,b] B)(hw:swappedStores [.Tuple [.Name x l,.Name y m] kt pt] (.Tuple [a,b] n d) X.env=pure (some [x,y]))(O:swapsWithSole [.Tuple [.Name x l,.Name y m] kt pt] (.Tuple [a,b] n d) pos.line X.env=pure false:=by rfl):PS X (.Assign [.Tuple [.Name x l,.Name y m] kt pt] (.Tuple [a,b] n d) pos) (tPar i j B):=by
 intro c s σ H D I h;rw [exec_Assign_arm];refine aA (dP ?_);rw [O];refine aA (aC ?_);rw [if_neg (by decide)];refine aA (Tuple_ (thn (M _ c s σ H _ I h) λP f hq_=>?_));obtain⟨vs,G,Q,R,t⟩:=hq_;obtain⟨v,w,S,t⟩:=t;subst S;obtain⟨g,k,rfl,T,u⟩:∃g k,P = [g,k]/\RelV v g/\RelV w k:=by
  cases R with
  | cons p q =>
   cases q with
   | cons U V =>
    cases V;exact⟨_,_,rfl,p,U⟩
 refine bV ?_ (by show 2<=sizeLine;decide);have W:Inv X c σ G { f with heap:=f.heap.push { cls :=.type "tuple",data :=.seq [g,k].toArray } }:=Q.kept (t':=f.toks) λb o e=>aG _ e;rw [hw];refine aA (aC ?_);show wpAny (model X.prog X.w) X.A (do rule "assign.swapped-stores";let items <-unpackItems (.ref f.heap.objs.size) 2 none;assignInOrder [λv=>bindName X.env y v,λv=>bindName X.env x v] items.reverse;pure Flow.next) _ _ _;refine aA (cV (aA (unpackItems_tuple (items := #[g,k]) (I.ok.hd K) (IsTup.new f.heap _) λh' z=>?_)));have Y:=W.kept (h':=h') (t':=f.toks) λb o e=>z b o (bD (aX e)) e
 show wpAny _ _ (assignInOrder [λv=>bindName X.env y v,λv=>bindName X.env x v] [k,g] >>= λ_=>pure Flow.next) _ _ _;refine aA (assignInOrder_cons (wpAny_bindName (vt Y C L (.inl F) u (λs2 Z=>?_) (.inr F))));refine assignInOrder_cons (wpAny_bindName (vt Z C hi (.inl E) T (λs3 J=>assignInOrder_nil (aC ?_)) (.inr E)));rw [List.set_comm _ _ (dF r)] at J;exact⟨_,G,J,t⟩
end
section
variable{X:Cx}{pos:Pos}
def qXx(c:TT)(tb:TS):TS:=λD σ H => ∃W:Nat->St->Hp->Prop,(∃m,W m σ H) /\ ∀m σ H,W m σ H ->
 c σ H λb H1=>if b=true then ∃N:St->Hp->Prop,(∀ σ' H',N σ' H' -> ∃m',m'<m/\W m' σ' H')/\tb { D with nx:=N,ct:=N,bk:=D.nx } σ H1 else D.nx σ H1
theorem uA{c:Expr}{g:List Stmt}{u:TT}{x:TS}(y:PassesOwn (model X.prog X.w) X.A X.env X.xe)(G:PT X c u)(J:PSs X g x):PS X (.While c g [] pos) (qXx u x):=by
 intro a s σ H D I h;obtain⟨W,⟨K,L⟩,i⟩:=h;refine wpAny_While (codeAny_whileLoop (λn M => ∃ j z,Inv X a j z M/\W n j z) ?_ K ⟨σ,H,I,L⟩);rintro n O ⟨e,B,P,Q⟩;refine fK y (thn (G a O e B _ P (i n e B Q)) λb R hq_=>?_);obtain⟨C,E,l⟩:=hq_;cases b with
 | true =>
  obtain⟨N,F,l⟩:=l;rw [if_pos rfl];refine fK y (thn (J a R e C _ E l) λf S m=>?_);cases f with
  | next =>
   obtain⟨d,k,o,p⟩:=m;obtain⟨q,r,t⟩:=F d k p;exact⟨q,r,d,k,o,t⟩
  | cont =>
   obtain⟨d,k,o,p⟩:=m;obtain⟨q,r,t⟩:=F d k p;exact⟨q,r,d,k,o,t⟩
  | brk=>exact m
  | ret v=>exact m
 | false =>
  rw [if_neg aL];exact wpAny_execs_nil ⟨e,C,E,l⟩
end
structure It where
 go:Nat->Hp->Prop
 yld:Nat->Hp->V->Hp->Prop
 stop:Nat->Hp->Prop
def FpOk(X:Cx)(pins:List (Addr×Obj))(H:Hp)(b:Addr):Prop:=H b=none/\b≠X.env.locals/\b∉X.fs/\(b∈X.ex\/X.s₀.heap.objs.size<=b)/\(∀x c,X.env.cells.lookup x=some c->c≠b) /\ ∀p∈X.pn++pins,p.1≠b
theorem Inv.fpOk{X:Cx}{a:List (Addr×Obj)}{σ : St}{H f:Hp}{s:Shared}{b:Addr}(I:Inv X a σ H s)(d:s.heap.objs.size<=b)(g:f b=none):FpOk X a f b:=by
 refine⟨g,eE (bP I.lt d),I.nofs d,.inr (bL I.sz d),λx c e z=>?_,λp h z=>?_⟩
 ·obtain⟨v,q⟩:=I.cell x c e;exact absurd (bP q.lt (by rw [z];exact d)) (fT _)
 ·exact absurd (bP (aX (I.pin p h).1) (by rw [z];exact d)) (fT _)
structure Turn(P:Program)(w:World)(K:PySem.W.Frag)(tg:Expr)(J:It)(fp:List Addr)(it:Addr)(tn:Nat->Heap->Prop):Prop where
 mem:it∈fp
 obj:∀i h,tn i h -> ∀b∈fp,∃o,h.get? b=some o /\ ∀v,o.data ≠ .cell v
 keep:∀i h h',tn i h->(∀b∈fp,∀o,h.get? b=some o->h'.get? b=some o)->tn i h'
 item:∀(X:Cx),X.prog=P->X.w=w->X.K=K->X.calm=true -> ∀(i:Nat) (pins:List (Addr×Obj)) (s:Shared) (σ : St) (H:Hp) (E:Value->Shared->Prop),Inv X pins σ H s->(∀b∈fp,FpOk X pins H b)->tn i s.heap->J.go i H ->
  wpAny (model P w) X.A (pyNext (.ref it)) (λr s1 => ∃u,r=some u /\
   wpAny (model P w) X.A (letOwnedTupleGo tg (.ref it) u) (λ_ s2 => ∃x H',Inv X pins σ H' s2/\RelV x u/\J.yld i H x H'/\tn (i+1) s2.heap /\ ∀b∈fp,H' b=none) E s1) E s
 done:∀(X:Cx),X.prog=P->X.w=w->X.K=K->X.calm=true -> ∀(i:Nat) (pins:List (Addr×Obj)) (s:Shared) (σ : St) (H:Hp) (E:Value->Shared->Prop),Inv X pins σ H s->(∀b∈fp,FpOk X pins H b)->tn i s.heap->J.stop i H ->
  wpAny (model P w) X.A (pyNext (.ref it)) (λr s1=>r=none/\Inv X pins σ H s1) E s
 self:∀(A:Around) (i:Nat) (s:Shared) (Q:Value->Shared->Prop) (E:Value->Shared->Prop),tn i s.heap->Q (.ref it) s->wpAny (model P w) A (pyIter (.ref it)) Q E s
abbrev TI:=St->Hp->(It->Hp->Prop)->Prop
def PIE(X:Cx)(pins:List (Addr×Obj))(σ : St)(tg:Expr)(R:It->Hp->Prop)(itv:Value)(s2:Shared):Prop :=
 ∃(it:Addr) (fp:List Addr) (tn:Nat->Heap->Prop) (J:It) (H':Hp),itv = .ref it/\Inv X pins σ H' s2/\Turn X.prog X.w X.K tg J fp it tn/\tn 0 s2.heap/\(∀b∈fp,FpOk X pins H' b)/\R J H'
def PI(X:Cx)(tg iter:Expr)(wi:TI):Prop :=
 ∀(pins:List (Addr×Obj)) (s:Shared) (σ : St) (H:Hp) (R:It->Hp->Prop),Inv X pins σ H s->wi σ H R ->
  wpAny (model X.prog X.w) X.A (eval iter X.env) (λv s1=>wpAny (model X.prog X.w) X.A (pyIter v) (PIE X pins σ tg R) X.xe s1) X.xe s
theorem vK{M:Model}{A:Around}{E:Value->Shared->Prop}{s:Shared}{b:Expr}{it:Addr}{u:Value}{o:Obj}{n:String}{vs:Array Value}{Q:Unit->Shared->Prop}(c:s.heap.get? it=some o)(d:o.cls = .type n)(hd:o.data = .fields vs)
  (e : ["enumerate","zip","dict_itemiterator","dict_reverseitemiterator","odict_iterator","itertools.zip_longest","itertools.pairwise"].contains n=false) (a:Q () s):wpAny M A (letOwnedTupleGo b (.ref it) u) Q E s:=by
 unfold letOwnedTupleGo;cases b <;> first
  | exact aC a
  | (cases u <;> first
    | exact aC a
    | (refine aA (wpAny_load c ?_)
       rw [d,hd];show wpAny M A (if (["enumerate","zip","dict_itemiterator","dict_reverseitemiterator","odict_iterator","itertools.zip_longest","itertools.pairwise"].contains n&&vs[0]? == some (rawInt _))=true then _ else _) Q E s;rw [if_neg (by intro h;rw [e,cR] at h;cases h)]
       exact aC a))
def Itl(K:PySem.W.Frag)(a:Addr):It:=⟨λi H => ∃xs x,SqL K H a xs/\xs[i]? = some x,λi H x H'=>H'=H /\ ∀xs,SqL K H a xs->xs[i]? = some x,λi H => ∃xs,SqL K H a xs/\xs.length<=i⟩
def Itt(K:PySem.W.Frag)(a:Addr):It:=⟨λi H => ∃xs x,SqT K H a xs/\xs[i]? = some x,λi H x H'=>H'=H /\ ∀xs,SqT K H a xs->xs[i]? = some x,λi H => ∃xs,SqT K H a xs/\xs.length<=i⟩
def Itr(lo:Int)(n:Nat):It:=⟨λi _=>i<n,λi H x H'=>H'=H/\x = .int (lo+i),λi _=>n<=i⟩
theorem qPq{P:Program}{w:World}{K:PySem.W.Frag}{N:Expr}(a it:Addr):Turn P w K N (Itl K a) [it] it (λi h=>h.IsListIter it a i) where
 mem:=by simp
 obj:=λi h st b g=>by
  have e:b=it:=by simpa using g
  subst e;obtain⟨o,e,c,d⟩:=st;exact⟨o,e,λv z=>by rw [d] at z;cases z⟩
 keep:=λi h l st k=>st.at λo e=>k it (by simp) o e
 item:=by
  intro X q r t M i f s σ H E I m st y;subst q r t;obtain⟨O,x,n,A⟩:=y;obtain⟨B,C,p,Q⟩:=I.list n;obtain⟨u,R,S⟩:=C.get A;obtain⟨D,F,T,G,J,L⟩:=m it (by simp);refine wpAny_pyNext_list_item st p.isList (x:=u) (by simpa using R) λl j U=>?_;have V:Inv X f σ H { s with heap:=l }:=I.turned (t':=s.toks) (λb o g e=>(U.2 b g).trans e) D F G J L;obtain⟨o,e,c,d⟩:=id j;exact⟨u,rfl,vK (s :={ s with heap:=l }) e c d (by decide) ⟨x,H,V,S,⟨rfl,λys Y=>by rw [I.list_inj Y n];exact A⟩,j,λb g=>(m b g).1⟩⟩
 done:=by
  intro X q r t M i f s σ H E I m st y;subst q r t;obtain⟨O,n,A⟩:=y;obtain⟨B,C,p,Q⟩:=I.list n;obtain⟨D,F,T,G,J,L⟩:=m it (by simp);have hl:=C.length;exact wpAny_pyNext_list_end (I.ok.hd M) st p.isList (by simp;lia) λl Z=>⟨rfl,I.turned (t':=s.toks) (λb o g e=>Z b o g e) D F G J L⟩
 self:=λ_ _ _ _ _ st h=>wpAny_pyIter_listiter st h
theorem qOh{P:Program}{w:World}{K:PySem.W.Frag}{N:Expr}(a it:Addr):Turn P w K N (Itt K a) [it] it (λi h=>h.IsTupleIter it a i) where
 mem:=by simp
 obj:=λi h st b g=>by
  have e:b=it:=by simpa using g
  subst e;obtain⟨o,e,c,d⟩:=st;exact⟨o,e,λv z=>by rw [d] at z;cases z⟩
 keep:=λi h m st k=>st.at λo e=>k it (by simp) o e
 item:=by
  intro X r t y M i f s σ H E I n st A;subst r t y;obtain⟨O,x,q,B⟩:=A;obtain⟨j,C,p,Q⟩:=I.tuple q;obtain⟨u,R,S⟩:=C.get B;obtain⟨D,F,T,G,J,L⟩:=n it (by simp);refine wpAny_pyNext_tuple_item st (show s.heap.IsTuple a j.toArray from p) (x:=u) (by simpa using R) λm l U=>?_;have V:Inv X f σ H { s with heap:=m }:=I.turned (t':=s.toks) (λb o g e=>(U.2 b g).trans e) D F G J L;obtain⟨o,e,c,d⟩:=id l;exact⟨u,rfl,vK (s :={ s with heap:=m }) e c d (by decide) ⟨x,H,V,S,⟨rfl,λys Y=>by rw [I.tuple_inj Y q];exact B⟩,l,λb g=>(n b g).1⟩⟩
 done:=by
  intro X r t y M i f s σ H E I n st A;subst r t y;obtain⟨O,q,B⟩:=A;obtain⟨j,C,p,Q⟩:=I.tuple q;obtain⟨D,F,T,G,J,L⟩:=n it (by simp);have hl:=C.length;exact wpAny_pyNext_tuple_end (I.ok.hd M) st (show s.heap.IsTuple a j.toArray from p) (by simp;lia) λm Z=>⟨rfl,I.turned (t':=s.toks) (λb o g e=>Z b o g e) D F G J L⟩
 self:=λ_ _ _ _ _ st h=>wpAny_pyIter_tupleiter st h
theorem qOi{P:Program}{w:World}{K:PySem.W.Frag}{B:Expr}(it:Addr)(lo:Int)(n:Nat):Turn P w K B (Itr lo n) [it] it (λi h=>IsRangeIter h it (lo+(i:Nat)*1) ((n:Int) - (i:Nat)) 1) where
 mem:=by simp
 obj:=λi h st b c=>by
  have e:b=it:=by simpa using c
  subst e
  exact⟨_,st,λv z=>by
   have C:Data.fields _=Data.cell v:=z
   cases C⟩
 keep:=λi h f st k=>k it (by simp) _ st
 item:=by
  intro X j l m p i a s σ H E I g st q;subst j l m;obtain⟨r,u,D,x,y,A⟩:=g it (by simp);have W:=Walks.range (prog:=X.prog) (w:=X.w) (I.ok.hd p) it lo 1 n;refine W.item i s _ _ q st λv f tk F d G=>?_;obtain⟨t,rfl⟩:=F;have J:Inv X a σ H { s with heap:=f,toks:=tk }:=I.turned (λb o c e=>G b o (by simpa using c) e) r u x y A;refine⟨_,rfl,vK (s :={ s with heap:=f,toks:=tk }) (n := "range_iterator") d rfl rfl (by decide) ⟨.int (lo+i),H,J,⟨t,?_⟩,⟨rfl,rfl⟩,d,λb c=>(g b c).1⟩⟩;rw [Int.mul_one]
 done:=by
  intro X j l m p i a s σ H E I g st q;subst j l m;obtain⟨r,u,D,x,y,A⟩:=g it (by simp);exact wpAny_pyNext_range_end (I.ok.hd p) st (by have:n<=i:=q;lia) λf L=>⟨rfl,I.turned (t':=s.toks) (λb o c e=>L b o c e) r u x y A⟩
 self:=λ_ _ _ _ _ st h=>wpAny_pyIter_rangeiter st h
section
variable{X:Cx}{tg:Expr}
def iList(K:PySem.W.Frag)(tl:TE):TI:=λσ H R=>tl σ H λx H1 => ∃a,x = .ref a/\(∃xs,SqL K H1 a xs)/\R (Itl K a) H1
def iTup(K:PySem.W.Frag)(tl:TE):TI:=λσ H R=>tl σ H λx H1 => ∃a,x = .ref a/\(∃xs,SqT K H1 a xs)/\R (Itt K a) H1
theorem zu{l:Expr}{g:TE}(i:PE X l g):PI X tg l (iList X.K g):=by
 intro c s σ H R I h;refine thn (i c s σ H _ I h) λv d hq_=>?_;obtain⟨x,j,f,k,m⟩:=hq_;obtain⟨a,e,⟨u,n⟩,q⟩:=m;subst e;cases k;obtain⟨r,w,p,y⟩:=f.list n;refine fL p.isList ?_;refine⟨d.heap.objs.size,[d.heap.objs.size],_,_,j,rfl,f.kept (t':=d.toks) λb o e=>aG _ e,qPq a _,⟨_,aT _ rfl,rfl,rfl⟩,λb t=>?_,q⟩;have e:b=d.heap.objs.size:=by simpa using t
 subst e;exact f.fpOk (aF _) (f.hok.fresh (aF _))
theorem kH{l:Expr}{i:TE}(j:PE X l i):PI X tg l (iTup X.K i):=by
 intro c s σ H R I h;refine thn (j c s σ H _ I h) λv d hq_=>?_;obtain⟨x,k,f,m,n⟩:=hq_;obtain⟨a,e,⟨u,r⟩,q⟩:=n;subst e;cases m;obtain⟨g,w,p,y⟩:=f.tuple r;refine wpAny_pyIter_tuple (show d.heap.IsTuple a g.toArray from p) ?_;refine⟨d.heap.objs.size,[d.heap.objs.size],_,_,k,rfl,f.kept (t':=d.toks) λb o e=>aG _ e,qOh a _,⟨_,aT _ rfl,rfl,rfl⟩,λb t=>?_,q⟩;have e:b=d.heap.objs.size:=by simpa using t
 subst e;exact f.fpOk (aF _) (f.hok.fresh (aF _))
theorem qU4{a:List (Addr×Obj)}{σ : St}{H:Hp}{s:Shared}{R:It->Hp->Prop}{E:Value->Shared->Prop}{lo hi:Int}{t u v:Tok}{tk:Nat}(I:Inv X a σ H s)(d : -(2^62)<=lo)(f:lo<2^62)(g : -(2^62)<=hi)(h:hi<2^62)
  (q:R (Itr lo (hi - lo).toNat) H):wpAny (model X.prog X.w) X.A (pyIter (.ref s.heap.objs.size)) (PIE X a σ tg R) E { s with heap:=s.heap.push { cls :=.type "range",data :=.fields #[.int lo t,.int hi u,.int 1 v] },toks:=tk }:=by
 refine wpAny_pyIter_range (IsRange.new ..) (small_one d f g h) ?_;have c:Inv X a σ H { s with heap:=s.heap.push { cls :=.type "range",data :=.fields #[.int lo t,.int hi u,.int 1 v] },toks:=tk }:=I.kept λb o e=>aG _ e
 refine⟨(s.heap.push { cls :=.type "range",data :=.fields #[.int lo t,.int hi u,.int 1 v] }).objs.size,[(s.heap.push { cls :=.type "range",data :=.fields #[.int lo t,.int hi u,.int 1 v] }).objs.size],_,_,H,rfl,
  c.kept (t':=tk) λb o e=>aG _ e,qOi _ lo (hi - lo).toNat,?_,λb i=>?_,q⟩
 ·have j:lo+((0:Nat):Int)*1=lo:=by simp
  have k:(((hi - lo).toNat:Nat):Int) - ((0:Nat):Int)=Builtin.Range.rangeSize lo hi 1:=by rw [rangeSize_one];split <;> lia
  show IsRangeIter _ _ (lo+((0:Nat):Int)*1) ((((hi - lo).toNat:Nat):Int) - ((0:Nat):Int)) 1;rw [j,k];exact aT _ rfl
 ·have e:b=(s.heap.push { cls :=.type "range",data :=.fields #[.int lo t,.int hi u,.int 1 v] }).objs.size:=by simpa using i
  subst e;exact c.fpOk (aF _) (c.hok.fresh (aF _))
def iRng1(ta:TA):TI:=λσ H R=>ta σ H λvs H1 => ∃j:Int,vs = [.int j] /\ -(2^62)<=j/\j<2^62/\R (Itr 0 j.toNat) H1
theorem xB{a:Expr}{f:TA}{p b:Pos}(g:Gl X "range")(i:X.mg "range" = none)(k:PA X [a] f)(l:starEach [a] X.env = [(false,eval a X.env)]:=by rfl):PI X tg (.Call (.Name "range" p) [a] [] b) (iRng1 f):=by
 intro c s σ H R I h;refine Call_ (vI I g i boot_range (fW (thn (k b c s σ H _ I h) λv w hq_=>?_) l rfl));obtain⟨x,y,m,n,d⟩:=hq_;obtain⟨j,e,d,o,q⟩:=d;subst e;cases n with
 | cons r u =>
  cases u;obtain⟨t,rfl⟩:=r;exact call_range_1 (qU4 m (by lia) (by lia) d o (by simpa using q))
def tFor(wi:TI)(g:TG)(tb:TS):TS:=λD σ H=>wi σ H λJ H1 => ∃W:Nat->Nat->St->Hp->Prop,(∃m,W 0 m σ H1) /\ ∀i m σ H,W i m σ H ->
 (J.stop i H/\D.nx σ H)\/(J.go i H /\ ∃N:St->Hp->Prop,(∀ σ' H',N σ' H' -> ∃m',m'<m/\W (i+1) m' σ' H') /\ ∀x H',J.yld i H x H'->g x σ H' λσ2 H2=>tb { D with nx:=N,ct:=N,bk:=D.nx } σ2 H2)
def vL(fp:List Addr)(h:Heap):List (Addr×Obj):=fp.filterMap λb=>(h.get? b).map λo=>(b,o)
theorem uB{a:List Addr}{h:Heap}{b:Addr}{o:Obj}(c:b∈a)(e:h.get? b=some o):(b,o)∈vL a h:=eO.mpr ⟨b,c,by rw [e];rfl⟩
theorem qS1{a:List Addr}{h:Heap}{p:Addr×Obj}(c:p∈vL a h):p.1∈a/\h.get? p.1=some p.2:=by
 obtain⟨b,d,e⟩:=eO.mp c;cases q:h.get? b with
 | none=>rw [q] at e;cases e
 | some o =>
  rw [q] at e;have f:(b,o)=p:=bT e;subst f;exact⟨d,q⟩
theorem Inv.pinned{a:List (Addr×Obj)}{σ : St}{H:Hp}{s:Shared}{c:List Addr}(I:Inv X a σ H s)(h:∀b∈c,FpOk X a H b)(i:∀b∈c,∃o,s.heap.get? b=some o /\ ∀v,o.data ≠ .cell v):Inv X (a++vL c s.heap) σ H s :=
 I.pins_of λp j=>(aK.mp j).elim (λz=>I.pin p (aZ _ z)) λz=>by
  obtain⟨f,e⟩:=qS1 z;obtain⟨k,l,m,_⟩:=h p.1 f;obtain⟨o,g,d⟩:=i p.1 f;rw [e] at g;cases g;exact⟨e,k,l,m,d⟩
theorem Inv.unpinned{a pl:List (Addr×Obj)}{σ : St}{H:Hp}{s:Shared}(I:Inv X (a++pl) σ H s):Inv X a σ H s:=I.pins_of λp b=>I.pin p (aZ _ (bA _ b))
theorem yV{j:Expr}{B:List Stmt}{wi:TI}{g:TG}{tb:TS}{Q:Pos}(F:PassesOwn (model X.prog X.w) X.A X.env X.xe)(hc:X.calm=true)(hi:PI X tg j wi)(hg:PG X tg g)(k:PSs X B tb)(hs:∀x,foldedSetIterable j X.env x=pure x:=by intro _;rfl):PS X (.For tg j B [] Q) (tFor wi g tb):=by
 intro a s σ H D I h;refine wpAny_For (thn (hi a s σ H _ I h) λv s1 h1=>thn h1 λa0 s2 h2=>?_) hs;obtain⟨it,G,tn,J,H2,e,I2,T,R,f2,W,⟨m0,w0⟩,K⟩:=h2;subst e;have l:∀ {z:Hp},(∀b∈G,z b=none) -> ∀b∈G,FpOk X a z b:=λhn b k=>⟨hn b k,(f2 b k).2⟩;refine codeAny_forLoop_any (λn s' => ∃i p z,Inv X a p z s'/\tn i s'.heap/\(∀b∈G,z b=none)/\W i n p z) ?_ m0 ⟨0,σ,H2,I2,R,λb k=>(f2 b k).1,w0⟩;rintro n s3 ⟨i,q,P,I3,L,M,w3⟩;rcases K i n q P w3 with ⟨stop,qn⟩ | ⟨go,N,hN,step⟩
 ·refine fK F (thn (T.done X rfl rfl rfl hc i a s3 q P X.xe I3 (l M) L stop) λr s4 hq_=>?_);obtain⟨S,I4⟩:=hq_;subst S;exact wpAny_execs_nil ⟨q,P,I4,qn⟩
 ·refine fK F (thn (T.item X rfl rfl rfl hc i a s3 q P X.xe I3 (l M) L go) λr s4 hq_=>?_);obtain⟨u,S,h4⟩:=hq_;subst S;refine fK F (thn h4 λ_ s5 hq_=>?_);obtain⟨x,H5,I5,r5,y5,E,U⟩:=hq_;have V:=I5.pinned (l U) (T.obj _ _ E);refine fK F (thn (hg _ s5 q H5 x u _ V r5 (step x H5 y5)) λ_ s6 hq_=>?_);obtain⟨Y,H6,I6,q6⟩:=hq_;refine fK F (thn (k _ s6 Y H6 _ I6 q6) λf Z C=>?_);have again:∀ {c:St} {t:Hp},Inv X (a++vL G s5.heap) c t Z->N c t -> ∃m,m<n /\ ∃i p z,Inv X a p z Z/\tn i Z.heap/\(∀b∈G,z b=none)/\W i m p z:=λ{c t} y O=>by
   obtain⟨m',hm,w7⟩:=hN c t O;refine⟨m',hm,i+1,c,t,y.unpinned,T.keep _ _ _ E λb k o e=>(y.pin (b,o) (aZ _ (aZ _ (uB k e)))).1,λb k=>?_,w7⟩;obtain⟨o,e,d⟩:=T.obj _ _ E b k;exact (y.pin (b,o) (aZ _ (aZ _ (uB k e)))).2.1
  cases f with
  | next=>obtain⟨c,t,y,O⟩:=C;exact again y O
  | cont=>obtain⟨c,t,y,O⟩:=C;exact again y O
  | brk=>obtain⟨c,t,y,C⟩:=C;exact⟨c,t,y.unpinned,C⟩
  | ret v=>obtain⟨x7,c,t,y,r7,C⟩:=C;exact⟨x7,c,t,y.unpinned,r7,C⟩
end
theorem qUy{K:PySem.W.Frag}{a:Addr}{xs:List V}{g:TG}{j:TS}{D:Ends}{σ : St}{H:Hp}(Pv:Nat->St->Hp->Prop)(l:Pv 0 σ H)(n:∀i σ H,i<=xs.length->Pv i σ H->SqL K H a xs)(o:∀i x σ H,xs[i]? = some x->Pv i σ H->g x σ H λb h=>j { D with nx:=Pv (i+1),ct:=Pv (i+1),bk:=D.nx } b h)(r:∀ σ H,Pv xs.length σ H->D.nx σ H):∃W:Nat->Nat->St->Hp->Prop,(∃m,W 0 m σ H) /\ ∀i m σ H,W i m σ H ->
   ((Itl K a).stop i H/\D.nx σ H)\/((Itl K a).go i H /\ ∃N:St->Hp->Prop,(∀ c d,N c d -> ∃k,k<m/\W (i+1) k c d) /\ ∀x d,(Itl K a).yld i H x d->g x σ d λb h=>j { D with nx:=N,ct:=N,bk:=D.nx } b h):=by
 refine⟨λi m σ H=>m=xs.length - i/\i<=xs.length/\Pv i σ H,⟨xs.length,by simp,bB _,l⟩,?_⟩;rintro i m σ H ⟨rfl,s,p⟩;have q:=n i σ H s p;by_cases f:i<xs.length
 ·refine .inr ⟨⟨xs,xs[i],q,by simp [f]⟩,Pv (i+1),λc d t=>⟨xs.length - (i+1),by lia,rfl,f,t⟩,λx d y=>?_⟩;obtain⟨e,y⟩:=y;subst e;exact o i x σ _ (y xs q) p
 ·have e:i=xs.length:=by lia
  subst e;exact .inl ⟨⟨xs,q,aF _⟩,r σ H p⟩
theorem qXn{K:PySem.W.Frag}{a:Addr}{xs:List V}{g:TG}{j:TS}{D:Ends}{σ : St}{H:Hp}(Pv:Nat->St->Hp->Prop)(l:Pv 0 σ H)(n:∀i σ H,i<=xs.length->Pv i σ H->SqT K H a xs)(o:∀i x σ H,xs[i]? = some x->Pv i σ H->g x σ H λb h=>j { D with nx:=Pv (i+1),ct:=Pv (i+1),bk:=D.nx } b h)(r:∀ σ H,Pv xs.length σ H->D.nx σ H):∃W:Nat->Nat->St->Hp->Prop,(∃m,W 0 m σ H) /\ ∀i m σ H,W i m σ H ->
   ((Itt K a).stop i H/\D.nx σ H)\/((Itt K a).go i H /\ ∃N:St->Hp->Prop,(∀ c d,N c d -> ∃k,k<m/\W (i+1) k c d) /\ ∀x d,(Itt K a).yld i H x d->g x σ d λb h=>j { D with nx:=N,ct:=N,bk:=D.nx } b h):=by
 refine⟨λi m σ H=>m=xs.length - i/\i<=xs.length/\Pv i σ H,⟨xs.length,by simp,bB _,l⟩,?_⟩;rintro i m σ H ⟨rfl,s,p⟩;have q:=n i σ H s p;by_cases f:i<xs.length
 ·refine .inr ⟨⟨xs,xs[i],q,by simp [f]⟩,Pv (i+1),λc d t=>⟨xs.length - (i+1),by lia,rfl,f,t⟩,λx d y=>?_⟩;obtain⟨e,y⟩:=y;subst e;exact o i x σ _ (y xs q) p
 ·have e:i=xs.length:=by lia
  subst e;exact .inl ⟨⟨xs,q,aF _⟩,r σ H p⟩
theorem qSw{lo:Int}{n:Nat}{g:TG}{h:TS}{D:Ends}{σ : St}{H:Hp}(Pv:Nat->St->Hp->Prop)(k:Pv 0 σ H)(l:∀i σ H,i<n->Pv i σ H->g (.int (lo+i)) σ H λa f=>h { D with nx:=Pv (i+1),ct:=Pv (i+1),bk:=D.nx } a f)(o:∀ σ H,Pv n σ H->D.nx σ H):∃W:Nat->Nat->St->Hp->Prop,(∃m,W 0 m σ H) /\ ∀i m σ H,W i m σ H ->
   ((Itr lo n).stop i H/\D.nx σ H)\/((Itr lo n).go i H /\ ∃N:St->Hp->Prop,(∀ b c,N b c -> ∃j,j<m/\W (i+1) j b c) /\ ∀x c,(Itr lo n).yld i H x c->g x σ c λa f=>h { D with nx:=N,ct:=N,bk:=D.nx } a f):=by
 refine⟨λi m σ H=>m=n - i/\i<=n/\Pv i σ H,⟨n,by simp,bB _,k⟩,?_⟩;rintro i m σ H ⟨rfl,r,p⟩;by_cases d:i<n
 ·refine .inr ⟨d,Pv (i+1),λb c q=>⟨n - (i+1),by lia,rfl,d,q⟩,λx c y=>?_⟩;obtain⟨e,y⟩:=y;subst e y;exact l i σ _ d p
 ·have e:i=n:=by lia
  subst e;exact .inl ⟨aF _,o σ H p⟩
abbrev R2:=V->V->Hp->VK->Prop
def OpR(X:Cx)(f:Value->Value->Sem Value)(r:R2):Prop :=
 ∀(pins:List (Addr×Obj)) (s:Shared) (σ : St) (H:Hp) (x y:V) (v u:Value) (Q:VK),Inv X pins σ H s->RelV x v->RelV y u->r x y H Q ->
  wpAny (model X.prog X.w) X.A (f v u) (EP X pins σ Q) X.xe s
def UnR(X:Cx)(f:Value->Sem Value)(r:V->Hp->VK->Prop):Prop :=
 ∀(pins:List (Addr×Obj)) (s:Shared) (σ : St) (H:Hp) (x:V) (v:Value) (Q:VK),Inv X pins σ H s->RelV x v->r x H Q ->
  wpAny (model X.prog X.w) X.A (f v) (EP X pins σ Q) X.xe s
def CallR(X:Cx)(f:Value)(r:List V->Hp->VK->Prop):Prop :=
 ∀(pins:List (Addr×Obj)) (s:Shared) (σ : St) (H:Hp) (xs:List V) (us:List Value) (Q:VK),Inv X pins σ H s->Vals xs us->r xs H Q ->
  wpAny (model X.prog X.w) X.A (call f us) (EP X pins σ Q) X.xe s
def TruR(X:Cx)(r:V->Hp->(Bool->Hp->Prop)->Prop):Prop :=
 ∀(pins:List (Addr×Obj)) (s:Shared) (σ : St) (H:Hp) (x:V) (v:Value) (Q:Bool->Hp->Prop),Inv X pins σ H s->RelV x v->r x H Q ->
  wpAny (model X.prog X.w) X.A (truthy v) (TP X pins σ Q) X.xe s
def tOp(r:R2)(ta tb:TE):TE:=λσ H Q=>ta σ H λx H1=>tb σ H1 λy H2=>r x y H2 Q
def tUn(r:V->Hp->VK->Prop)(ta:TE):TE:=λσ H Q=>ta σ H λx H1=>r x H1 Q
def rI(C:Int->Int->Prop)(g:Int->Int->V):R2:=λx y H Q => ∃i j,x = .int i/\y = .int j/\C i j/\Q (g i j) H
def rI0(g:Int->Int->V):R2:=λx y H Q => ∃i j,x = .int i/\y = .int j/\Q (g i j) H
def rU(g:Int->V):V->Hp->VK->Prop:=λx H Q => ∃i,x = .int i/\Q (g i) H
section
variable{X:Cx}{a b c:Expr}{ta tb tc:TE}{pos:Pos}
theorem binT(k:PE X a ta)(l:PE X b tb){c:List (Addr×Obj)}{s:Shared}{σ : St}{H:Hp}{R:V->V->Hp->Prop}(I:Inv X c σ H s)(h:ta σ H λx j=>tb σ j λy d=>R x y d){Q:Value->Shared->Prop}{f:Value->Value->Sem Value}(m:∀v u i x y d,Inv X c σ d i->RelV x v->RelV y u->R x y d->wpAny (model X.prog X.w) X.A (f v u) Q X.xe i):wpAny (model X.prog X.w) X.A (eval a X.env) (λv e =>wpAny (model X.prog X.w) X.A (eval b X.env) (λu g =>wpAny (model X.prog X.w) X.A (f v u) Q X.xe g) X.xe e) X.xe s:=by
 refine thn (k c s σ H _ I h) λv n hq_=>?_;obtain⟨x,j,o,p,q⟩:=hq_;refine thn (l c n σ j _ o q) λu i hq_=>?_;obtain⟨y,d,r,t,z⟩:=hq_;exact m v u i x y d r p t z
theorem zL{d:Operator}{r:R2}(e:OpR X (binaryOp d) r)(f:PE X a ta)(g:PE X b tb):PE X (.BinOp a d b pos) (tOp r ta tb):=by
 intro c s σ H Q I h;exact wpAny_BinOp (binT f g I h λv u i x y j k l m q=>e c i σ j x y v u Q k l m q)
theorem uC{c:UnaryOp}{r:V->Hp->VK->Prop}(d:UnR X (unaryOp c) r)(e:PE X a ta):PE X (.UnaryOp c a pos) (tUn r ta):=by
 intro b s σ H Q I h;refine UnaryOp_ (thn (e b s σ H _ I h) λv f hq_=>?_);obtain⟨x,g,i,j,k⟩:=hq_;exact d b f σ g x v Q i j k
theorem opI{f:Value->Value->Sem Value}{C:Int->Int->Prop}{g:Int->Int->Int}(rule:∀(i j:Int) (t u:Tok) (s:Shared) (Q:Value->Shared->Prop) (E:Value->Shared->Prop),C i j->Q (.int (g i j) s.toks) { s with toks:=s.toks+1 }->wpAny (model X.prog X.w) X.A (f (.int i t) (.int j u)) Q E s):OpR X f (rI C λi j =>.int (g i j)):=by
 intro a s σ H x y v u Q I b c h;obtain⟨i,j,rfl,rfl,d,q⟩:=h;obtain⟨t,rfl⟩:=b;obtain⟨e,rfl⟩:=c;exact rule i j t e s _ _ d ⟨.int (g i j),H,I.tok _,⟨_,rfl⟩,q⟩
theorem opI0{f:Value->Value->Sem Value}{g:Int->Int->Int}(rule:∀(i j:Int) (t u:Tok) (s:Shared) (Q:Value->Shared->Prop) (E:Value->Shared->Prop),Q (.int (g i j) s.toks) { s with toks:=s.toks+1 }->wpAny (model X.prog X.w) X.A (f (.int i t) (.int j u)) Q E s):OpR X f (rI0 λi j =>.int (g i j)):=by
 intro a s σ H x y v u Q I b c h;obtain⟨i,j,rfl,rfl,q⟩:=h;obtain⟨t,rfl⟩:=b;obtain⟨d,rfl⟩:=c;exact rule i j t d s _ _ ⟨.int (g i j),H,I.tok _,⟨_,rfl⟩,q⟩
theorem opB0{f:Value->Value->Sem Value}{g:Int->Int->Bool}(rule:∀(i j:Int) (t u:Tok) (s:Shared) (Q:Value->Shared->Prop) (E:Value->Shared->Prop),Q (.bool (g i j)) s->wpAny (model X.prog X.w) X.A (f (.int i t) (.int j u)) Q E s):OpR X f (rI0 λi j =>.bl (g i j)):=by
 intro a s σ H x y v u Q I b c h;obtain⟨i,j,rfl,rfl,q⟩:=h;obtain⟨t,rfl⟩:=b;obtain⟨d,rfl⟩:=c;exact rule i j t d s _ _ ⟨.bl (g i j),H,I,rfl,q⟩
def CDiv(i j:Int):Prop:=0<j/\j<1073741824
def CPow(i j:Int):Prop:=0<=j/\j<=1000000/\i.natAbs<2^64
def CMul(i j:Int):Prop:=(-(2^64)<i/\i<2^64)\/(-(2^64)<j/\j<2^64)
theorem CMul.ok{i j:Int}(h:CMul i j):IntMulOk i j:=by
 rcases h with ⟨a,b⟩ | ⟨a,b⟩
 ·exact .of_left (intBits_le_64 a b)
 ·exact .of_right (intBits_le_64 a b)
theorem zl:OpR X (binaryOp .Add) (rI0 λi j =>.int (i+j)):=opI0 λ_ _ _ _ _ _ _ q=>add_int q
theorem uD:OpR X (binaryOp .Sub) (rI0 λi j =>.int (i - j)):=opI0 λ_ _ _ _ _ _ _ q=>sub_int q
theorem vM:OpR X (binaryOp .Mult) (rI CMul λi j =>.int (i*j)):=opI λ_ _ _ _ _ _ _ a q=>mul_int q a.ok
theorem oE:OpR X (binaryOp .FloorDiv) (rI CDiv λi j =>.int (i / j)):=opI λi j _ _ _ _ _ a q=>by
 have b:(0:Int)<j:=a.1;have c:j<1073741824:=a.2;exact floordiv_int (by lia) (by rw [Int.fdiv_eq_ediv_of_nonneg i (by lia)];exact q) (.inl (PyProof.noPylong_small (by lia)))
theorem xT:OpR X (binaryOp .Mod) (rI (λ_ j=>0<j) λi j =>.int (i%j)):=opI λi j _ _ _ _ _ a q=>by
 have b:(0:Int)<j:=a;exact mod_int' (by lia) (by rw [Int.fmod_eq_emod_of_nonneg i (by lia)];exact q)
theorem vN:OpR X (binaryOp .Pow) (rI CPow λi j =>.int (i^j.toNat)):=opI λ_ _ _ _ _ _ _ a q=>pow_int_small a.1 a.2.1 a.2.2 q
theorem unI{f:Value->Sem Value}{g:Int->Int}(rule:∀(i:Int) (t:Tok) (s:Shared) (Q:Value->Shared->Prop) (E:Value->Shared->Prop),Q (.int (g i) s.toks) { s with toks:=s.toks+1 }->wpAny (model X.prog X.w) X.A (f (.int i t)) Q E s):UnR X f (rU λi =>.int (g i)):=by
 intro a s σ H x v Q I b h;obtain⟨i,rfl,q⟩:=h;obtain⟨t,rfl⟩:=b;exact rule i t s _ _ ⟨.int (g i),H,I.tok _,⟨_,rfl⟩,q⟩
theorem uE:UnR X (unaryOp .USub) (rU λi =>.int (-i)):=unI λ_ _ _ _ _ q=>neg_int q
end
def scal:V->V->Bool
 | .non,.non=>true | .non,.int _=>true | .int _,.non=>true | .non,.bl _=>true | .bl _,.non=>true | .non,.str _=>true | .str _,.non=>true
 | .int _,.int _=>true | .bl _,.bl _=>true | .str _,.str _=>true | .byt _,.byt _=>true
 | .int _,.str _=>true | .str _,.int _=>true | .bl _,.str _=>true | .str _,.bl _=>true
 | _,_=>false
def rEq:R2:=λx y H Q=>scal x y=true/\Q (.bl (decide (x=y))) H
def rNe:R2:=λx y H Q=>scal x y=true/\Q (.bl (!decide (x=y))) H
theorem oF{i j:Int}:decide (V.int i=V.int j)=(i == j):=by
 rw [cM];simp
theorem oG{i j:Bool}:decide (V.bl i=V.bl j)=(i == j):=by
 rw [cM];simp
theorem oH{i j:Str}:decide (V.str i=V.str j)=(i == j):=by
 rw [cM];simp
theorem oI{i j:Array UInt8}:decide (V.byt i=V.byt j)=(i.toList == j.toList):=by
 rw [cM];cases i;cases j;simp
section
variable{X:Cx}{a b c:Expr}{ta tb tc:TE}{pos:Pos}
theorem zi{a:List (Addr×Obj)}{σ : St}{H:Hp}{s:Shared}{Q:VK}{k b:Bool}(I:Inv X a σ H s)(q:Q (.bl k) H)(e:k=b):EP X a σ Q (.bool b) s:=by
 subst e;exact⟨.bl k,H,I,rfl,q⟩
theorem zq:OpR X (compareOp .Eq) rEq:=by
 intro e s σ H x y v u Q I d a h;obtain⟨c,q⟩:=h;cases x with
 | non =>
  cases d;cases y with
  | non=>cases a;exact PySem.EqNone.eq_none_none (zi I q (by simp))
  | bl j=>cases a;exact PySem.EqNone.eq_none_bool (zi I q (by simp))
  | int j=>obtain⟨b,rfl⟩:=a;exact PySem.EqNone.eq_none_int (zi I q (by simp))
  | str j=>obtain⟨b,rfl⟩:=a;exact PySem.EqNone.eq_none_str (zi I q (by simp))
  | _=>exact absurd (show false=true from c) aL
 | bl i =>
  cases d;cases y with
  | non=>cases a;exact PySem.EqNone.eq_bool_none (zi I q (by simp))
  | bl j=>cases a;exact eq_bool (zi I q oG)
  | str j=>obtain⟨b,rfl⟩:=a;exact PySem.EqMixed.eq_bool_str (zi I q (by simp))
  | _=>exact absurd (show false=true from c) aL
 | int i =>
  obtain⟨t,rfl⟩:=d;cases y with
  | non=>cases a;exact PySem.EqNone.eq_int_none (zi I q (by simp))
  | int j=>obtain⟨b,rfl⟩:=a;exact eq_int (zi I q oF)
  | str j=>obtain⟨b,rfl⟩:=a;exact PySem.EqMixed.eq_int_str (zi I q (by simp))
  | _=>exact absurd (show false=true from c) aL
 | str i =>
  obtain⟨t,rfl⟩:=d;cases y with
  | non=>cases a;exact PySem.EqNone.eq_str_none (zi I q (by simp))
  | bl j=>cases a;exact PySem.EqMixed.eq_str_bool (zi I q (by simp))
  | int j=>obtain⟨b,rfl⟩:=a;exact PySem.EqMixed.eq_str_int (zi I q (by simp))
  | str j=>obtain⟨b,rfl⟩:=a;exact eq_str (zi I q oH)
  | _=>exact absurd (show false=true from c) aL
 | byt i =>
  obtain⟨t,rfl⟩:=d;cases y with
  | byt j=>obtain⟨b,rfl⟩:=a;exact PySem.W.eq_bytes (zi I q oI)
  | _=>exact absurd (show false=true from c) aL
 | _=>cases y <;> exact absurd (show false=true from c) aL
theorem oJ:OpR X (compareOp .NotEq) rNe:=by
 intro e s σ H x y v u Q I d a h;obtain⟨c,q⟩:=h;cases x with
 | non =>
  cases d;cases y with
  | non=>cases a;exact PySem.EqNone.ne_none_none (zi I q (by simp))
  | bl j=>cases a;exact PySem.EqNone.ne_none_bool (zi I q (by simp))
  | int j=>obtain⟨b,rfl⟩:=a;exact PySem.EqNone.ne_none_int (zi I q (by simp))
  | str j=>obtain⟨b,rfl⟩:=a;exact PySem.EqNone.ne_none_str (zi I q (by simp))
  | _=>exact absurd (show false=true from c) aL
 | bl i =>
  cases d;cases y with
  | non=>cases a;exact PySem.EqNone.ne_bool_none (zi I q (by simp))
  | bl j=>cases a;exact ne_bool (zi I q (congrArg not oG))
  | str j=>obtain⟨b,rfl⟩:=a;exact PySem.EqMixed.ne_bool_str (zi I q (by simp))
  | _=>exact absurd (show false=true from c) aL
 | int i =>
  obtain⟨t,rfl⟩:=d;cases y with
  | non=>cases a;exact PySem.EqNone.ne_int_none (zi I q (by simp))
  | int j=>obtain⟨b,rfl⟩:=a;exact ne_int (zi I q (congrArg not oF))
  | str j=>obtain⟨b,rfl⟩:=a;exact PySem.EqMixed.ne_int_str (zi I q (by simp))
  | _=>exact absurd (show false=true from c) aL
 | str i =>
  obtain⟨t,rfl⟩:=d;cases y with
  | non=>cases a;exact PySem.EqNone.ne_str_none (zi I q (by simp))
  | bl j=>cases a;exact PySem.EqMixed.ne_str_bool (zi I q (by simp))
  | int j=>obtain⟨b,rfl⟩:=a;exact PySem.EqMixed.ne_str_int (zi I q (by simp))
  | str j=>obtain⟨b,rfl⟩:=a;exact ne_str (zi I q (congrArg not oH))
  | _=>exact absurd (show false=true from c) aL
 | byt i =>
  obtain⟨t,rfl⟩:=d;cases y with
  | byt j=>obtain⟨b,rfl⟩:=a;exact PySem.W.ne_bytes (zi I q (congrArg not oI))
  | _=>exact absurd (show false=true from c) aL
 | _=>cases y <;> exact absurd (show false=true from c) aL
theorem xU:OpR X (compareOp .Lt) (rI0 λi j =>.bl (decide (i<j))):=opB0 λ_ _ _ _ _ _ _ q=>lt_int q
theorem kI:OpR X (compareOp .LtE) (rI0 λi j =>.bl (decide (i<=j))):=opB0 λ_ _ _ _ _ _ _ q=>le_int q
theorem wV:OpR X (compareOp .Gt) (rI0 λi j =>.bl (decide (j<i))):=opB0 λ_ _ _ _ _ _ _ q=>gt_int q
theorem qZt:OpR X (compareOp .GtE) (rI0 λi j =>.bl (decide (j<=i))):=opB0 λ_ _ _ _ _ _ _ q=>ge_int q
theorem zQ(b:Expr){a:CmpOp}(h:a ≠ .In:=by decide)(c:a ≠ .NotIn:=by decide):behindInMarks a b=false:=by
 have d:(a == CmpOp.In)=false:=by cases a <;> first | rfl | exact absurd rfl h
 have e:(a == CmpOp.NotIn)=false:=by cases a <;> first | rfl | exact absurd rfl c
 cases b <;> simp [behindInMarks,d,e]
theorem yJ{d:CmpOp}{r:R2}(e:OpR X (compareOp d) r)(f:PE X a ta)(g:PE X b tb)(i:behindInMarks d b=false):PE X (.Compare a [d] [b] pos) (tOp r ta tb):=by
 intro c s σ H Q I h;exact wpAny_Compare1 (binT f g I h λv u j x y k l m n q=>e c j σ k x y v u Q l m n q) i
def tTest(t:TE):TT:=λσ H Q=>t σ H λx H' => ∃k,x = .bl k/\Q k H'
theorem zV{f:CmpOp}{r:R2}(g:OpR X (compareOp f) r)(i:PE X a ta)(j:PE X b tb)(l:behindInMarks f b=false):PT X (.Compare a [f] [b] pos) (tTest (tOp r ta tb)):=by
 intro d s σ H Q I h;refine wpAny_isTrue_Compare1 (thn (i d s σ H _ I h) λv m hq_=>?_) l;obtain⟨x,n,o,p,q⟩:=hq_;refine thn (j d m σ n _ o q) λu t hq_=>?_;obtain⟨y,w,A,B,C⟩:=hq_;refine thn (g d t σ w x y v u _ A p B C) λc J hq_=>?_;obtain⟨z,D,E,F,k,e,G⟩:=hq_;subst e;cases F;exact dJ ⟨D,E,G⟩
def oK(r r':R2)(ta tb tc:TE):TE:=λσ H Q=>ta σ H λx H1=>tb σ H1 λy H2=>r x y H2 λz H3 => ∃k,z = .bl k /\
 (if k=true then tc σ H3 λw' H4=>r' y w' H4 Q else Q (.bl false) H3)
theorem oM{i g:CmpOp}{r l:R2}(q:OpR X (compareOp i) r)(j:OpR X (compareOp g) l)(t:PE X a ta)(w:PE X b tb)(A:PE X c tc)(B:lastMarks [i,g] [b,c]=false:=by with_unfolding_all rfl):PE X (.Compare a [i,g] [b,c] pos) (oK r l ta tb tc):=by
 intro f s σ H Q I h;refine Compare_chain (thn (t f s σ H _ I h) λv C hq_=>?_) B;obtain⟨x,D,E,F,G⟩:=hq_;refine chain_link (thn (w f C σ D _ E G) λu J hq_=>?_);obtain⟨y,K,L,m,M⟩:=hq_;refine thn (q f J σ K x y v u _ L F m M) λd N hq_=>?_;obtain⟨z,n,o,O,k,e,p⟩:=hq_;subst e;cases O;refine dJ ?_;cases k with
 | false=>exact ite_ff ⟨.bl false,n,o,rfl,p⟩
 | true=>exact ite_tt (chain_last (thn (A f N σ n _ o p) λP R ⟨S,T,U,V,W⟩=>j f R σ T y S u P Q U m V W))
def TruV(K:PySem.W.Frag)(x:V)(H:Hp)(k:Bool):Prop :=
 match x with
 | .non=>k=false
 | .bl b=>k=b
 | .int i=>k=(i != 0)
 | .str y=>y.length<=sizeLine/\k=((y.length:Int) != 0)
 | .byt y=>y.size<=sizeLine/\k=((y.size:Int) != 0)
 | .ref p=>(∃xs,SqL K H p xs/\k = !xs.isEmpty)\/(∃xs,SqT K H p xs/\k = !xs.isEmpty) \/ ∃kvs,H p=some (.dK kvs)/\k = !kvs.isEmpty
 | _=>False
theorem qP6{κ : Type}{kvs:List (κ × V)}{vs:List (κ × Value)}(r:KV kvs vs):(!vs.isEmpty) = !kvs.isEmpty:=by
 cases r <;> rfl
theorem oN{xs:List V}{its:List Value}(r:Vals xs its):(!its.toArray.isEmpty) = !xs.isEmpty:=by
 cases r <;> simp
theorem vO:(sizeLine:Nat)<2^63:=by rw [dX];decide
theorem qXw:TruR X (λx H Q => ∃k,TruV X.K x H k/\Q k H):=by
 intro u s σ H x v Q I g h;obtain⟨k,e,q⟩:=h;have C:=vO;have D:sizeLine=16777216:=dX;cases x with
 | non =>
  cases g;have a:k=false:=e;subst a;exact truthy_none ⟨H,I,q⟩
 | bl b =>
  cases g;have a:k=b:=e;subst a;exact dJ ⟨H,I,q⟩
 | int i =>
  obtain⟨t,rfl⟩:=g;have a:k=(i != 0):=e;subst a;exact PySem.P.truthy_int ⟨H,I,q⟩
 | str y =>
  obtain⟨t,rfl⟩:=g;obtain⟨A,a⟩:y.length<=sizeLine/\k=((y.length:Int) != 0):=e;subst a;exact PySem.P.truthy_str (by lia) ⟨H,I.tok _,q⟩
 | byt y =>
  obtain⟨t,rfl⟩:=g;obtain⟨A,a⟩:y.size<=sizeLine/\k=((y.size:Int) != 0):=e;subst a;exact PySem.W.truthy_bytes (by lia) ⟨H,I.tok _,q⟩
 | ref p =>
  cases g;have a:(∃f,SqL X.K H p f/\k = !f.isEmpty)\/(∃f,SqT X.K H p f/\k = !f.isEmpty) \/ ∃c,H p=some (.dK c)/\k = !c.isEmpty:=e;rcases a with ⟨f,j,a⟩ | ⟨f,j,a⟩ | ⟨c,j,a⟩
  ·subst a;obtain⟨n,r,o,z⟩:=I.list j;have d:=r.length;exact wpAny_truthy_list o.isList (by simp only [aR];lia) ⟨H,I.tok _,by rw [oN r];exact q⟩
  ·subst a;obtain⟨n,r,o,z⟩:=I.tuple j;have d:=r.length;exact truthy_tuple o (by simp only [aR];lia) ⟨H,I.tok _,by rw [oN r];exact q⟩
  ·subst a;obtain⟨z,B,l,r,m⟩:c.length<=sizeLine/\(p == sysModules)=false /\ ∃l,KV c l/\s.heap.DictOf (zY X.prog X.w) p l:=I.hok p _ j;have d:c.length=l.length:=cZ r;exact wpAny_truthy_dict B m (by lia) ⟨H,I.tok _,by rw [qP6 r];exact q⟩
 | _=>exact (show False from e).elim
theorem kJ(e:PE X a ta)(f:∀b,isTrue a X.env b=(do let v <-b;standAt a.pos;holding [v] (truthy v))):PT X a (λσ H Q=>ta σ H λx d => ∃k,TruV X.K x d k/\Q k d):=by
 intro c s σ H Q I h;refine isTrue_plain (thn (e c s σ H _ I h) λv g hq_=>?_) (f _);obtain⟨x,i,j,l,m⟩:=hq_;exact qXw c g σ i x v Q j l m
theorem vals1{x:V}{us:List Value}(r:Vals [x] us):∃u,us = [u]/\RelV x u:=by
 cases r with
 | cons a b=>cases b;exact⟨_,rfl,a⟩
theorem vals2{x y:V}{us:List Value}(r:Vals [x,y] us):∃u a,us = [u,a]/\RelV x u/\RelV y a:=by
 cases r with
 | cons b c =>
  cases c with
  | cons d e=>cases e;exact⟨_,_,rfl,b,d⟩
theorem oO:CallR X (.builtin "abs") (λxs H Q => ∃i,xs = [.int i]/\Q (.int (if i<0 then -i else i)) H):=by
 intro a s σ H xs b Q I r h;obtain⟨i,rfl,q⟩:=h;obtain⟨u,rfl,t,rfl⟩:=vals1 r;exact call_abs_int λu tk=>⟨.int (if i<0 then -i else i),H,I.tok _,⟨_,rfl⟩,q⟩
theorem oP(c:X.calm=true):CallR X (.builtin "max") (λxs H Q => ∃i j,xs = [.int i,.int j]/\Q (.int (if j>i then j else i)) H):=by
 intro b s σ H xs d Q I r h;obtain⟨i,j,rfl,q⟩:=h;obtain⟨u,e,rfl,⟨t,rfl⟩,⟨f,rfl⟩⟩:=vals2 r;refine max_two_ints (I.ok.hd c) λg tk k=>⟨_,H,I.kept k,?_,q⟩;by_cases a:j>i
 ·rw [if_pos a,if_pos a];exact⟨_,rfl⟩
 ·rw [if_neg a,if_neg a];exact⟨_,rfl⟩
theorem qTc(c:X.calm=true):CallR X (.builtin "min") (λxs H Q => ∃i j,xs = [.int i,.int j]/\Q (.int (if j<i then j else i)) H):=by
 intro b s σ H xs d Q I r h;obtain⟨i,j,rfl,q⟩:=h;obtain⟨u,e,rfl,⟨t,rfl⟩,⟨f,rfl⟩⟩:=vals2 r;refine min_two_ints (I.ok.hd c) λg tk k=>⟨_,H,I.kept k,?_,q⟩;by_cases a:j<i
 ·rw [if_pos a,if_pos a];exact⟨_,rfl⟩
 ·rw [if_neg a,if_neg a];exact⟨_,rfl⟩
theorem wW:CallR X (.type "int") (λxs H Q=>(∃i,xs = [.int i]/\Q (.int i) H) \/ ∃k,xs = [.bl k]/\Q (.int (if k then 1 else 0)) H):=by
 intro a s σ H xs c Q I r h;rcases h with ⟨i,rfl,q⟩ | ⟨k,rfl,q⟩
 ·obtain⟨u,rfl,t,rfl⟩:=vals1 r;exact call_int_int ⟨.int i,H,I,⟨_,rfl⟩,q⟩
 ·obtain⟨u,rfl,b⟩:=vals1 r;cases b;exact call_int_bool ⟨.int (if k then 1 else 0),H,I.tok _,⟨_,rfl⟩,q⟩
end
theorem RelO.some_of{v:V}{o:Option Value}(r:RelO (some v) o):∃u,o=some u/\RelV v u:=by
 cases o with
 | none=>exact (show False from r).elim
 | some u=>exact⟨u,rfl,r⟩
structure Room(k:Nat)(A:Around):Prop where
 hd:A.handled=none
 dp:A.depth+3*k+5<recursionLimit
 un:A.units+16*k+200<cLine
 gd:A.guards=some []:=by rfl
theorem Room.mono{j k:Nat}{A:Around}(r:Room k A)(h:j<=k):Room j A:=⟨r.hd,by have:=r.dp;lia,by have:=r.un;lia,r.gd⟩
theorem Room.deeper{k:Nat}{A:Around}(r:Room (k+1) A)(env:Env):Room k (A.deeper env):=⟨r.hd,by have:=r.dp;show A.depth+1+3*k+5<_;lia,by have:=r.un;show A.units+3+16*k+200<_;lia,r.gd⟩
theorem Room.depth{k:Nat}{A:Around}(r:Room k A):A.depth<recursionLimit:=by have:=r.dp;lia
theorem Room.units{k:Nat}{A:Around}(r:Room k A):A.units+64<cLine:=by have:=r.un;lia
def tNil:TA:=λ_ H Q=>Q [] H
def tCons(ta:TE)(tr:TA):TA:=λσ H Q=>ta σ H λx H1=>tr σ H1 λxs H2=>Q (x::xs) H2
section
variable{X:Cx}{e:Expr}{es:List Expr}{te:TE}{t:TA}{pos:Pos}
theorem zB:PA X [] tNil:=λ_ _ _ _ H Q I h=>Calls.spliced_nil ⟨[],H,I,.nil,h⟩
theorem zA(b:PE X e te)(c:PA X es t)(d:starEach (e::es) X.env=(false,eval e X.env)::starEach es X.env:=by rfl):PA X (e::es) (tCons te t):=by
 intro pos a s σ H Q I h;rw [d];show wpAny _ _ (spliced ((false,eval e X.env)::backTo pos (starEach es X.env))) _ _ s;refine fE (thn (b a s σ H _ I h) λu f hq_=>?_);obtain⟨x,g,i,j,k⟩:=hq_;refine thn (c pos a f σ g _ i k) λq r hq_=>?_;obtain⟨l,m,n,o,p⟩:=hq_;exact⟨x::l,m,n,.cons j o,p⟩
def tTup(t:TA):TE:=λσ H Q=>t σ H λxs H1=>xs.length<=sizeLine /\ ∀p,H1 p=none->Q (.ref p) (upd H1 p (.tup xs))
def tLst(t:TA):TE:=λσ H Q=>t σ H λxs H1=>xs.length<=sizeLine /\ ∀p,H1 p=none->Q (.ref p) (upd H1 p (.lst xs))
theorem zm{x1}(h:PA X es t):PE X (.Tuple es x1 pos) (tTup t):=by
 intro a s σ H Q I g;refine wpAny_Tuple_spliced (thn (h pos a s σ H _ I g) λi c hq_=>?_);obtain⟨j,d,f,r,z,q⟩:=hq_;refine⟨by rw [<-r.length];exact z,?_⟩;have k:d c.heap.objs.size=none:=f.hok.fresh (aF _);refine⟨.ref c.heap.objs.size,upd d c.heap.objs.size (.tup j),f.laid (t':=c.toks) (λb u e=>aG _ e) (aF _) ?_,rfl,q _ k⟩;exact⟨z,i,r,⟨_,aT _ rfl,rfl,_,rfl⟩⟩
theorem zW(h:PA X es t):PE X (.List es pos) (tLst t):=by
 intro a s σ H Q I g;refine wpAny_List_spliced (thn (h pos a s σ H _ I g) λi c hq_=>?_);obtain⟨j,d,f,r,z,q⟩:=hq_;refine⟨by rw [<-r.length];exact z,?_⟩;have k:d c.heap.objs.size=none:=f.hok.fresh (aF _);refine⟨.ref c.heap.objs.size,upd d c.heap.objs.size (.lst j),f.laid (t':=c.toks) (λb u e=>aG _ e) (aF _) ?_,rfl,q _ k⟩;exact⟨z,i,0,r,aT _ rfl⟩
end
abbrev Sp:=List V->Hp->VK->XK->Prop
abbrev CXT:=List Env->Hp->Shared->XK->Value->Shared->Prop
structure Env0(P:Program)(w:World)(K:PySem.W.Frag)(mg:Str->Option Value)(base:Heap)(A:Around)(outer:List Env)(s:Shared)(H:Hp):Prop where
 frames:A.frames=some outer
 mod:Mod K mg base
 bs:∀b o,base.get? b=some o->s.heap.get? b=some o/\H b=none
 bsz:base.objs.size<=s.heap.objs.size
 funs:s.heap.FunFrames base outer
 frf:∀b∈frs outer,H b=none
 hok:HOk P w H s.heap
 bare:AllBare s.gens
def CE(outer:List Env)(P:Program)(w:World)(H:Hp)(s:Shared)(Q:VK)(u:Value)(s':Shared):Prop :=
 ∃v H',s'.os=s.os/\AllBare s'.gens/\Un (frs outer) [] H H' s.heap s'.heap/\HOk P w H' s'.heap/\RelV v u/\Q v H'
def CR(CX:CXT)(outer:List Env)(P:Program)(w:World)(H:Hp)(s:Shared)(Q:VK)(E:XK)(r:Result)(s':Shared):Prop :=
 match r with
 | .ok (.ret u)=>CE outer P w H s Q u s'
 | .ok _=>False
 | .error e=>CX outer H s E e s'
structure FnOk(P:Program)(w:World)(K:PySem.W.Frag)(mg:Str->Option Value)(base:Heap)(CX:CXT)(k:Nat)(f:Addr)(fd:FuncData)(ps:List Str)(sp:Sp):Prop where
 len:∀vs H Q E,sp vs H Q E->vs.length=ps.length
 run:∀(A:Around) (outer:List Env) (s:Shared) (H:Hp) (args:Args) (us:List Value) (vs:List V) (Q:VK) (E:XK),Room k A->Env0 P w K mg base A outer s H->BindsTo s fd args (ps.zip us)->Vals vs us->sp vs H Q E ->
  codeAny (model P w) A (.call (.ref f) args) (CR CX outer P w H s Q E) s
section
variable{X:Cx}{pins:List (Addr×Obj)}{σ : St}{H:Hp}{s s':Shared}
theorem Inv.env0(I:Inv X pins σ H s):Env0 X.prog X.w X.K X.mg X.base X.A X.stack s H:=⟨I.ok.frames,I.ok.mod,I.bs,bL I.ok.bsz I.sz,I.stack,I.stkFree,I.hok,I.bare⟩
theorem Inv.after{Q:VK}{u:Value}(I:Inv X pins σ H s)(h:CE X.stack X.prog X.w H s Q u s'):EP X pins σ Q u s':=by
 obtain⟨v,c,os,bare,un,hok,r,q⟩:=h;obtain⟨e,g,d,t,a⟩:=s';obtain rfl:a=s.os:=os;exact⟨v,c,I.call (h':=e) (g':=g) (d':=d) (t':=t) (ch :=[]) un hok bare (λb z=>absurd z (by simp)),r,q⟩
end
def tCall(sp:Sp)(dvs:List V)(E:XK)(t:TA):TE:=λσ H Q=>t σ H λvs H1=>sp (vs++dvs) H1 Q E
def Binds(K:PySem.W.Frag)(fd:FuncData)(ps:List Str)(ds:List Value):Prop :=
 ∀(s:Shared) (us:List Value),K.In s.heap->(us++ds).length=ps.length->BindsTo s fd ⟨us,[]⟩ (ps.zip (us++ds))
theorem Binds.all{K:PySem.W.Frag}{fd:FuncData}{ps:List Str}(h:∀us:List Value,us.length=ps.length->bindArgs fd ⟨us,[]⟩=pure (ps.zip us)):Binds K fd ps []:=λs us _ a=>by
 rw [cH] at a ⊢;exact .of_eq (h us a)
def kK(CX:CXT)(X:Cx)(E:XK):Prop := ∀(pins:List (Addr×Obj)) (σ : St) (H:Hp) (s:Shared) (e:Value) (s':Shared),Inv X pins σ H s->CX X.stack H s E e s'->X.xe e s'
section
variable{X:Cx}{CX:CXT}{k:Nat}{f C:Addr}{fd:FuncData}{ps:List Str}{sp:Sp}{dvs:List V}{ds:List Value}{E:XK}{x m:Str}{p pos apos:Pos}{e o:Expr}{es:List Expr}{ta:TE}{t:TA}
theorem qY4{a:List (Addr×Obj)}{σ : St}{H:Hp}{s:Shared}{Q:VK}{us:List Value}{vs:List V}(F:FnOk X.prog X.w X.K X.mg X.base CX k f fd ps sp)(d:Room k X.A)(g:Binds X.K fd ps ds)(hd:Vals dvs ds)(i:kK CX X E)(I:Inv X a σ H s)(r:Vals vs us)(h:sp (vs++dvs) H Q E):wpAny (model X.prog X.w) X.A (call (.ref f) us) (EP X a σ Q) X.xe s:=by
 have c:Vals (vs++dvs) (us++ds):=r.append hd;have j:(us++ds).length=ps.length:=by rw [<-c.length];exact F.len _ _ _ _ h
 refine wpAny_call (gX (F.run X.A X.stack s H ⟨us,[]⟩ (us++ds) (vs++dvs) Q E d I.env0 (g s us I.kIn j) c h) λr l b=>?_);cases r with
 | error e=>exact i a σ H s e l I b
 | ok fl =>
  cases fl with
  | ret u=>exact I.after b
  | next=>exact False.elim b
  | brk=>exact False.elim b
  | cont=>exact False.elim b
theorem qX0(F:FnOk X.prog X.w X.K X.mg X.base CX k f fd ps sp)(g:Room k X.A)(i:Gl X x)(j:X.mg x=some (.ref f))(l:PySem.W.keepIn X.K (.ref f)=true)(m:Binds X.K fd ps ds)(hd:Vals dvs ds)(n:kK CX X E)
  (o:PA X (e::es) t) (b:(x == ("__debug__" : Str))=false:=by decide) (u:starEach (e::es) X.env=(false,eval e X.env)::starEach es X.env:=by rfl) (c:(backTo pos (starEach es X.env)).any (·.1)=false:=by rfl) :
  PE X (.Call (.Name x p) (e::es) [] pos) (tCall sp dvs E t):=by
 intro a s σ H Q I h;refine wpAny_Call_Name_kw (oB I i j ?_ b);refine PySem.W.callWith_K (h₀ :=X.base) I.ok.mod.kin l (thn (o pos a s σ H _ I h) λv y hq_=>?_) u c;obtain⟨z,B,d,r,q⟩:=hq_;refine⟨d.kIn,?_⟩;exact qY4 F g m hd n d r q
end
section
variable{X:Cx}{CX:CXT}{k:Nat}{f C:Addr}{fd:FuncData}{ps ks:List Str}{sp:Sp}{E:XK}{x m:Str}{p pos apos kpos:Pos}{e o:Expr}{es:List Expr}{kws:List Keyword}{te ta:TE}{t tk:TA}{nm:Option Str}
variable{g:List Value->List Value->List Value}{gV:List V->List V->List V}
end
structure FnScope(N P:List Str)(sc:Scope):Prop where
 kind:sc.kind = .function
 co:sc.isCoroutine=false
 gen:sc.isGenerator=false
 nd:N.Nodup
 pre:N.take P.length=P
 par:∀x∈P,sc.names.lookup x=some .local\/sc.names.lookup x=some .cell
 nofree:∀y∈sc.names,y.2 ≠ .free
theorem oQ{kindOf:Str->Option NameKind}{x:Str}:∀ {binds:List (Str×Value)} {m:Str->Option Value},(∀v,(x,v)∉binds)->bindL kindOf binds m x=m x
 | [],_,_=>rfl
 | (n,v)::r,m,h=>by
  unfold bindL;rw [oQ λw a=>h w (aP _ a)];split
  ·have:x≠n:=by rintro rfl;exact h v aQ
   simp [this]
  ·rfl
theorem oR{kindOf:Str->Option NameKind}{x:Str}:∀ {binds:List (Str×Value)} {m:Str->Option Value},(∀v,(x,v)∉binds)->bindC kindOf binds m x=m x
 | [],_,_=>rfl
 | (n,v)::r,m,h=>by
  unfold bindC;rw [oR λw a=>h w (aP _ a)];split
  ·rfl
  ·have:x≠n:=by rintro rfl;exact h v aQ
   simp [this]
theorem oS{kindOf:Str->Option NameKind}{x:Str}{v:Value}:∀ {P:List Str} {vs:List Value} {i:Nat} {m:Str->Option Value},P.Nodup->P[i]? = some x->vs[i]? = some v->kindOf x=some .local ->
  bindL kindOf (P.zip vs) m x=some v
 | [],_,_,_,_,h,_,_=>by simp at h
 | _::_,[],_,_,_,_,h,_=>by simp at h
 | p::P,w::vs,0,m,nd,a,b,c=>by
  simp at a b;subst a;subst b;show bindL kindOf ((p,w)::P.zip vs) m p=_;unfold bindL;rw [oQ λv d=>(dA.mp nd).1 (List.of_mem_zip d).1,if_pos c];simp
 | p::P,w::vs,i+1,m,nd,a,b,c=>by
  show bindL kindOf ((p,w)::P.zip vs) m x=_;unfold bindL;exact oS (i:=i) (dA.mp nd).2 (by simpa using a) (by simpa using b) c
theorem oT{kindOf:Str->Option NameKind}{x:Str}{v:Value}:∀ {P:List Str} {vs:List Value} {i:Nat} {m:Str->Option Value},P.Nodup->P[i]? = some x->vs[i]? = some v->kindOf x≠some .local ->
  bindC kindOf (P.zip vs) m x=some v
 | [],_,_,_,_,h,_,_=>by simp at h
 | _::_,[],_,_,_,_,h,_=>by simp at h
 | p::P,w::vs,0,m,nd,a,b,c=>by
  simp at a b;subst a;subst b;show bindC kindOf ((p,w)::P.zip vs) m p=_;unfold bindC;rw [oR λv d=>(dA.mp nd).1 (List.of_mem_zip d).1,if_neg c];simp
 | p::P,w::vs,i+1,m,nd,a,b,c=>by
  show bindC kindOf ((p,w)::P.zip vs) m x=_;unfold bindC;exact oT (i:=i) (dA.mp nd).2 (by simpa using a) (by simpa using b) c
def start(N:List Str)(vs:List V):St:=vs.map some++List.replicate (N.length - vs.length) none
def cxOf(CX:CXT)(P:Program)(w:World)(K:PySem.W.Frag)(mg:Str->Option Value)(base:Heap)(N:List Str)(qual:Str)(scope:Scope)(f:Addr)(cd:Value)(A:Around)(outer:List Env)(s:Shared)(H:Hp)(E:XK):Cx where
 prog:=P
 w:=w
 K:=K
 mg:=mg
 base:=base
 A:=A.deeper (envOfC qual scope s.heap.objs.size f cd)
 N:=N
 s₀ :=s
 H₀ :=H
 env:=envOfC qual scope s.heap.objs.size f cd
 outer:=outer
 stack:=envOfC qual scope s.heap.objs.size f cd::outer
 ex :=[]
 calm:=true
 fn:=λ_=>true
 pn :=[]
 xe:=λe s'=>wpAny (model P w) (A.deeper (envOfC qual scope s.heap.objs.size f cd)) (leaving (envOfC qual scope s.heap.objs.size f cd) e) (λ_ s''=>CX outer H s E e s'') (λe' s''=>CX outer H s E e' s'') s'
theorem oU{a:Scope}{n:Nat}{x:Str}(h:a.names.lookup x=some .cell):∃c,(cellsFrom n a.names []).lookup x=some c:=by
 have q:=PySem.W.cellsFrom_some a.names n [] (.inl h);exact Option.isSome_iff_exists.mp q
theorem qSq{CX:CXT}{P:Program}{w:World}{K:PySem.W.Frag}{mg:Str->Option Value}{base:Heap}{N ps:List Str}{d:Str}{scope:Scope}{f:Addr}{t:Value}{A:Around}{outer:List Env}{s D:Shared}{H:Hp}{E:XK}{us:List Value}{vs:List V}(S:FnScope N ps scope)(hd:A.handled=none)(j:Env0 P w K mg base A outer s H)(M:vs.length=ps.length)(r:Vals vs us)(x:InCallC s s.heap.objs.size (bindL (envOfC d scope s.heap.objs.size f t).kindOf (ps.zip us) λ_=>none) (cellsFrom (s.heap.objs.size+1) scope.names []) (bindC (envOfC d scope s.heap.objs.size f t).kindOf (ps.zip us) λ_=>none) D):Inv (cxOf CX P w K mg base N d scope f t A outer s H E) [] (start N vs) H D:=by
 have I:ps.length<=N.length:=by have:=congrArg List.length S.pre;rw [aN] at this;lia
 obtain⟨B,tk,rfl,F⟩:=x.done;have l:∀b:Addr,b∉(cxOf CX P w K mg base N d scope f t A outer s H E).ex:=λb z=>absurd (show b∈([]:List Addr) from z) (by simp)
 refine⟨⟨j.mod,S.kind,rfl,rfl,aF _,λy z c B g=>?_,λy hy=>?_,λy c _ h=>?_,λ_=>hd,Around.frames_deeper j.frames,.inr ⟨rfl,rfl⟩,λb z=>absurd z (l b),j.bs,j.bsz,λb _ _=>l b,λb z=>absurd z (l b),j.funs,j.frf⟩,
  rfl,j.bare,Un.kept F,⟨_,x.toInCall.ns,λi y v B g O=>?_⟩,λy c h=>⟨_,x.cell y c h⟩,j.hok.fresh (aF _),λy c h=>?_,λp m=>absurd (show p∈([]:List (Addr×Obj)) from m) (by simp),j.hok.kept F,?_⟩
 ·exact name_of_addr x.apart (dY B) (dY g)
 ·have hy:scope.names.lookup y=some .cell\/scope.names.lookup y=some .free:=hy;rcases hy with hy | hy
  ·exact oU hy
  ·exact absurd rfl (S.nofree _ (dY hy))
 ·exact dH (x.above y c (dY h))
 ·have C:i<vs.length:=by
   unfold start at g;by_cases C:i<vs.length
   ·exact C
   ·rw [gH (by simpa using C)] at g;rw [List.getElem?_replicate] at g;split at g <;> cases g
  have J:vs[i]? = some v:=by
   unfold start at g;rw [List.getElem?_append_left (by simpa using C),aS] at g;cases e:vs[i]? with
   | none=>rw [e] at g;cases g
   | some a=>rw [e] at g;cases g;rfl
  obtain⟨u,G,L⟩:=r.get J;have m:ps[i]? = some y:=by
   rw [<-S.pre,List.getElem?_take_of_lt (by lia)];exact B
  have o:ps.Nodup:=by rw [<-S.pre];exact S.nd.sublist (List.take_sublist _ _)
  refine⟨u,L,?_⟩;rcases S.par y (aM m) with k | k
  ·exact .inl ⟨k,oS o m G k⟩
  ·obtain⟨c,e⟩:=oU (n:=s.heap.objs.size+1) k;refine .inr ⟨.inl k,c,e,?_⟩;have q:=x.cell y c e;rw [oT o m G (by show scope.names.lookup y≠_;rw [k];decide)] at q;exact q
 ·exact j.hok.fresh (dH (x.above y c (dY h)))
 ·unfold start;show _=N.length;rw [aI,aB,List.length_replicate];lia
theorem qZx{CX:CXT}{P:Program}{w:World}{K:PySem.W.Frag}{mg:Str->Option Value}{base:Heap}{k:Nat}{f:Addr}{name a:Str}{d:Arguments}{g:List Stmt}{scope:Scope}{M kV doc O c ct Y:Value}{R Z:Option Addr}{C:Array (Option Value)}{N ps:List Str}{sp:Sp}(lk:K.lookup f=some ⟨Y,Z,.func (PySem.W.fnOf name a d g scope M kV doc O R c ct),C⟩)(D:PySem.W.codeIn K c a=true)(S:FnScope N ps scope)(len:∀vs H Q E,sp vs H Q E->vs.length=ps.length)(j:∀(A:Around) (outer:List Env) (s:Shared) (H:Hp) (vs:List V) (Q:VK) (E:XK),Room k (A.deeper (envOfC a scope s.heap.objs.size f c))->sp vs H Q E ->
   ∃t,PSs (cxOf CX P w K mg base N a scope f c A outer s H E) g t/\t { nx:=λ_ i=>Q .non i,rt:=Q } (start N vs) H) :
  FnOk P w K mg base CX (k+1) f (PySem.W.fnOf name a d g scope M kV doc O R c ct) ps sp:=by
 refine⟨len,λA outer s H T us vs Q E F p hb r z=>?_⟩;have hl:=len _ _ _ _ z;have U:K.In s.heap:=p.mod.kin.keeps λb o e=>(p.bs b o e).1;have lim:s.heap.NoLimit:=p.mod.nolimit.keeps λb o e=>(p.bs b o e).1;have l:∀y∈ps.zip us,scope.names.lookup y.1=some .local\/(scope.names.lookup y.1=some .cell/\((cellsFrom (s.heap.objs.size+1) scope.names []).lookup y.1).isSome=true):=λ⟨n,v⟩ hy=>by
  rcases S.par n (List.of_mem_zip hy).1 with q | q
  ·exact .inl q
  ·exact .inr ⟨q,PySem.W.cellsFrom_some _ _ _ (.inl q)⟩
 refine codeAny_call_function F.depth (U _ _ lk) rfl S.co S.gen rfl (PySem.W.codeRec_of U D) (hb _ _ _ _ ?_);refine wpAny_newFunctionEnv_cells S.kind l λa0 he X x=>?_;subst he;refine⟨lim.keeps x.toInCall.keep,codeAny_func ?_⟩;obtain⟨t,ht,hq⟩:=j A outer s H vs Q E (F.deeper _) z;have I:Inv (cxOf CX P w K mg base N a scope f c A outer s H E) [] (start N vs) H X:=qSq S F.hd p hl r x;refine eM (ht [] X (start N vs) H _ I hq) (λfl G m=>?_) λe G m=>m;have B:∀ {h:St} {i:Hp} {v:V} {u:Value},Inv (cxOf CX P w K mg base N a scope f c A outer s H E) [] h i G->RelV v u->Q v i->CE outer P w H s Q u G :=
  λ{h i v u} J L q=>⟨v,i,J.os,J.bare,J.base,J.hok,L,q⟩
 cases fl with
 | ret u =>
  obtain⟨v,h,i,J,L,q⟩:=m;exact B J L q
 | next =>
  obtain⟨h,i,J,q⟩:=m;exact B (v:=V.non) (u:=Value.none) J rfl q
 | brk =>
  obtain⟨_,_,_,q⟩:=m;exact False.elim q
 | cont =>
  obtain⟨_,_,_,q⟩:=m;exact False.elim q
section
variable{X:Cx}{x:Str}{p pos:Pos}{e:Expr}{es:List Expr}{t:TA}{id T:String}{r:List V->Hp->VK->Prop}
def tCB(r:List V->Hp->VK->Prop)(t:TA):TE:=λσ H Q=>t σ H λvs H1=>r vs H1 Q
theorem zO(d:CallR X (.builtin id) r)(f:Gl X x)(g:X.mg x=none)(i:bootBuiltins x=some (.builtin id))(j:PA X (e::es) t)(k:x ≠ "__name__" :=by decide)(b:(x == ("__debug__" : Str))=false:=by decide)
  (l:starEach (e::es) X.env=(false,eval e X.env)::starEach es X.env:=by rfl) (c:(backTo pos (starEach es X.env)).any (·.1)=false:=by rfl):PE X (.Call (.Name x p) (e::es) [] pos) (tCB r t):=by
 intro a s σ H Q I h;refine wpAny_Call_Name_kw (vI I f g i ?_ k b);refine PyProof.Rows.callWith_builtin1 (thn (j pos a s σ H _ I h) λm n hq_=>?_) l c;obtain⟨o,q,u,v,w⟩:=hq_;exact d a n σ q o m Q u v w
theorem zr(d:CallR X (.type T) r)(f:Gl X x)(g:X.mg x=none)(i:bootBuiltins x=some (.type T))(j:PA X (e::es) t)(k:x ≠ "__name__" :=by decide)(b:(x == ("__debug__" : Str))=false:=by decide)
  (l:starEach (e::es) X.env=(false,eval e X.env)::starEach es X.env:=by rfl) (c:(backTo pos (starEach es X.env)).any (·.1)=false:=by rfl):PE X (.Call (.Name x p) (e::es) [] pos) (tCB r t):=by
 intro a s σ H Q I h;refine wpAny_Call_Name_kw (vI I f g i ?_ k b);refine fW (thn (j pos a s σ H _ I h) λm n hq_=>?_) l c;obtain⟨o,q,u,v,w⟩:=hq_;exact d a n σ q o m Q u v w
end
end L2
namespace HT
open PySem PyProof.Rows
section
open PySem.SeqAt
open PySem.AutoSeq1 (wpAny_loadPart')
open PySem.MeetsSeq PySem.MeetsSeq2 PySem.MeetsSeq3
end
section
variable{prog:Program}{w:World}{A:Around}{E:Value->Shared->Prop}{s:Shared}
def sIx(n d:Nat):Option Int->Nat
 | none=>d
 | some v=>if v<0 then (v+(n:Int)).toNat else min v.toNat n
theorem sIx_none(n d:Nat):sIx n d none=d:=rfl
theorem sIx_nat(n d k:Nat):sIx n d (some (k:Int))=min k n:=by
 show (if (k:Int)<0 then ((k:Int)+(n:Int)).toNat else min (k:Int).toNat n)=min k n;rw [if_neg (by lia),cE]
theorem qY3(n d:Nat)(hd:d<=n)(o:Option Int):sIx n d o<=n:=by
 cases o with
 | none=>exact hd
 | some v =>
  show (if v<0 then (v+(n:Int)).toNat else min v.toNat n)<=n;by_cases a:v<0
  ·rw [if_pos a];lia
  ·rw [if_neg a];exact Nat.min_le_right _ _
theorem oV(v:Int)(n d:Nat):(if v<0 then max (v+(n:Int)) 0 else min v (n:Int))=((sIx n d (some v):Nat):Int):=by
 show (if v<0 then max (v+(n:Int)) 0 else min v (n:Int))=(((if v<0 then (v+(n:Int)).toNat else min v.toNat n):Nat):Int);by_cases a:v<0
 ·simp only [if_pos a];lia
 ·simp only [if_neg a];lia
theorem qPi(lo hi:Option Int)(n:Nat):Builtin.Slice.sliceAdjust lo hi 1 (n:Int)=(((sIx n 0 lo:Nat):Int),((sIx n n hi:Nat):Int)):=by
 have a : ¬((1:Int)<0):=by lia
 unfold Builtin.Slice.sliceAdjust;simp only [a,if_false];refine Prod.ext ?_ ?_
 ·cases lo with
  | none=>rfl
  | some v=>exact oV v n 0
 ·cases hi with
  | none=>rfl
  | some v=>exact oV v n n
theorem qOq(i j:Nat):Builtin.Slice.slicePlaces (i:Int) (j:Int) 1=j - i:=by
 unfold Builtin.Slice.slicePlaces;have a:(1:Int)>0:=by lia
 simp only [a,if_true,Int.ediv_one];split <;> lia
theorem slicePart_{v:Value}{o:Option Int}{Q:Option Int->Shared->Prop}(p:IsPart v o)(h:Q o s):wpAny (model prog w) A (Builtin.Slice.slicePartIndex v) Q E s:=by
 cases p with
 | none=>exact slicePart_none h
 | int i t=>exact slicePart_int h
theorem qG1{e:Addr}{c d:Value}{lo hi:Option Int}{n:Nat}{Q:Int×Int×Nat->Shared->Prop}(f:s.heap.IsSliceOf e c d .none)(g:IsPart c lo)(i:IsPart d hi)(h:Q (((sIx n 0 lo:Nat):Int),1,sIx n n hi - sIx n 0 lo) s):wpAny (model prog w) A (Builtin.Slice.sliceApplied (.ref e) (pure (n:Int))) Q E s:=by
 obtain⟨os,a,j,b⟩:=id f;unfold Builtin.Slice.sliceApplied Builtin.Slice.sliceFields;refine aA (aA (wpAny_field a b (x:=c) rfl (aA (wpAny_field a b (x:=d) rfl (aA (wpAny_field a b (x :=.none) rfl (aC ?_)))))));refine aA (slicePart_none ?_);show wpAny _ _ (if ((1:Int) == 0)=true then _ else _) _ _ s;rw [if_neg (by decide)];refine aA (slicePart_ g (aA (slicePart_ i (aA (aC ?_)))));show wpAny _ _ (match Builtin.Slice.sliceAdjust lo hi 1 (n:Int) with | (lo,hi)=>pure (lo,(1:Int),Builtin.Slice.slicePlaces lo hi 1)) _ _ s;rw [qPi lo hi n];show wpAny _ _ (pure (((sIx n 0 lo:Nat):Int),(1:Int),Builtin.Slice.slicePlaces ((sIx n 0 lo:Nat):Int) ((sIx n n hi:Nat):Int) 1)) _ _ s
 rw [qOq];exact aC h
theorem qUa(xs:Array Value)(i k:Nat):((List.range k).filterMap λ(m:Nat)=>xs[((i:Int)+(m:Int)*1).toNat]?).toArray=((xs.toList.drop i).take k).toArray:=by
 have e:(λ(m:Nat)=>xs[((i:Int)+(m:Int)*1).toNat]?)=λm=>xs[i+m]? :=by
  funext m
  have:((i:Int)+(m:Int)*1).toNat=i+m:=by lia
  rw [this]
 rw [e];have:=pick_run xs i k;rw [List.filterMap_map] at this;have a:((λx=>xs[x]?)∘λx=>i+x)=λm=>xs[i+m]? :=rfl;rw [a] at this;rw [this]
theorem getItem_tuple_cut{t c:Addr}{items:Array Value}{i j:Value}{lo hi:Option Int}{Q:Value->Shared->Prop}(b:IsTup s.heap t items)(k:s.heap.IsSliceOf c i j .none)(l:IsPart i lo)(n:IsPart j hi)(hw : ¬(sIx items.size 0 lo=0/\sIx items.size items.size hi=items.size))
  (h:Q (.ref s.heap.objs.size) { s with heap:=s.heap.push { cls :=.type "tuple",data :=.seq ((items.toList.drop (sIx items.size 0 lo)).take (sIx items.size items.size hi - sIx items.size 0 lo)).toArray } })
  (o:items.size<=sizeLine):wpAny (model prog w) A (getItem (.ref t) (.ref c)) Q E s:=by
 have a:sizeOk (.seq ((items.toList.drop (sIx items.size 0 lo)).take (sIx items.size items.size hi - sIx items.size 0 lo)).toArray):=by
  show ((items.toList.drop (sIx items.size 0 lo)).take (sIx items.size items.size hi - sIx items.size 0 lo)).toArray.size<=sizeLine;rw [aR,aN,cC,aU];lia
 have r:sIx items.size items.size hi<=items.size:=qY3 _ _ (aF _) hi;obtain⟨os,d,e,p⟩:=id k;have f:s.TypeIs (.ref c) "slice" :=⟨os,d,e⟩;unfold getItem
 try with_reducible refine bM ?_
 first | refine aA (aC ?_) | skip
 refine aA (wpAny_sequenceKey b.typeIs (by decide) ?_)
 refine aA (cS (name:=Str.ofString "__getitem__") b.typeIs cN
  (bX cN b.typeIs entry_tuple_getitem ?_ (args_tuple_getitem _ _)))
 show wpAny _ _ (Builtin.Tuple.tupleItemsOf (.ref t) >>= _) _ _ s;refine aA (tupleItemsOf_ b ?_);refine aA (fS f ?_);rw [if_pos (by decide)];refine aA (qG1 k l n ?_);have g : ¬((((sIx items.size 0 lo:Nat):Int) == 0&&(1:Int) == 1&&(sIx items.size items.size hi - sIx items.size 0 lo) == items.size)=true):=by
  intro q;rw [aO,aO] at q;have u:((sIx items.size 0 lo:Nat):Int)=0:=eq_of_beq q.1.1;have v:sIx items.size items.size hi - sIx items.size 0 lo=items.size:=eq_of_beq q.2;exact hw ⟨by lia,by lia⟩
 show wpAny _ _ (if (((sIx items.size 0 lo:Nat):Int) == 0&&(1:Int) == 1&&(sIx items.size items.size hi - sIx items.size 0 lo) == items.size)=true then _ else _) _ _ s;rw [if_neg g,qUa]
 first
  | exact aA (m:=Builtin.Tuple.tupleExact _) (bV (aC ⟨_,rfl,aC h⟩) a)
  | exact aA (m:=Builtin.Tuple.tupleExact _) (bV (aA (aC (aC ⟨_,rfl,aC h⟩))) a)
  | exact aA (aA (m:=Builtin.Tuple.tupleExact _) (bV (aC (aC ⟨_,rfl,aC h⟩)) a))
  | exact aA (aA (m:=Builtin.Tuple.tupleExact _) (bV (aC ⟨_,rfl,aC h⟩) a))
end
end HT
namespace L2
open PySem PySem.Spec PyProof.Rows
abbrev TO:=St->Hp->(Option Int->Hp->Prop)->Prop
def PO(X:Cx)(e:Option Expr)(t:TO):Prop :=
 ∀(pins:List (Addr×Obj)) (s:Shared) (σ : St) (H:Hp) (Q:Option Int->Hp->Prop),Inv X pins σ H s->t σ H Q ->
  wpAny (model X.prog X.w) X.A (evalPart e X.env) (λu s' => ∃o H',Inv X pins σ H' s'/\IsPart u o/\Q o H') X.xe s
def oW:TO:=λ_ H Q=>Q none H
def tPart(t:TE):TO:=λσ H Q=>t σ H λx H1 => ∃i,x = .int i/\Q (some i) H1
theorem kL{ns:List Int}:∀ {us:List Value},Vals (ns.map V.int) us->IntsAre us ns:=by
 induction ns with
 | nil=>intro us r;rw [List.map_nil] at r;cases r;exact .nil
 | cons n ns a =>
  intro us r;rw [bG] at r;cases r with
  | cons b c =>
   obtain⟨t,e⟩:=b;subst e;exact .cons n t (a c)
section
variable{X:Cx}{e:Expr}{te:TE}{lo hi:Option Expr}{tl th:TO}{pos p2:Pos}
theorem yK:PO X none oW:=by
 intro a s σ H Q I h;rw [evalPart_none];exact aC ⟨none,H,I,.none,h⟩
theorem yL(h:PE X e te):PO X (some e) (tPart te):=by
 intro a s σ H Q I b;rw [evalPart_some];refine thn (h a s σ H _ I b) λu j hq_=>?_;obtain⟨x,c,d,f,g⟩:=hq_;obtain⟨i,rfl,q⟩:=g;obtain⟨t,rfl⟩:=f;exact⟨some i,c,d,.int i t,q⟩
def SlR(X:Cx)(r:V->Option Int->Option Int->Hp->VK->Prop):Prop :=
 ∀(pins:List (Addr×Obj)) (s:Shared) (σ : St) (H:Hp) (x:V) (v vl vu:Value) (lo hi:Option Int) (sl:Addr) (Q:VK),Inv X pins σ H s->RelV x v->s.heap.IsSliceOf sl vl vu .none->IsPart vl lo->IsPart vu hi->r x lo hi H Q ->
  ∃T id,typeLookup (.type T) "__getitem__" = pure (some (.builtin id))/\s.TypeIs v T/\wpAny (model X.prog X.w) X.A (getItem v (.ref sl)) (EP X pins σ Q) X.xe s
def tSl(r:V->Option Int->Option Int->Hp->VK->Prop)(te:TE)(tl th:TO):TE:=λσ H Q=>te σ H λx H1=>tl σ H1 λl H2=>th σ H2 λu H3=>r x l u H3 Q
theorem yM{r:V->Option Int->Option Int->Hp->VK->Prop}(i:SlR X r)(j:PE X e te)(k:PO X lo tl)(m:PO X hi th):PE X (.Subscript e (.Slice lo hi none p2) pos) (tSl r te tl th):=by
 intro a s σ H Q I h;refine Subscript_ (thn (j a s σ H _ I h) λv n hq_=>?_);obtain⟨x,o,p,t,y⟩:=hq_;refine wpAny_Slice (thn (k a n σ o _ p y) λd z hq_=>?_);obtain⟨l,B,C,D,E⟩:=hq_;refine thn (m a z σ B _ C E) λf c hq_=>?_;obtain⟨u,g,F,G,J⟩:=hq_;rw [evalPart_none];refine aC ?_;have K:Inv X a σ g { c with heap:=c.heap.push { cls :=.type "slice",data :=.fields #[d,f,.none] } }:=F.kept (t':=c.toks) λb O q=>aG _ q;obtain⟨T,id,L,M,N⟩:=i a { c with heap:=c.heap.push { cls :=.type "slice",data :=.fields #[d,f,.none] } } σ g x v d f l u c.heap.objs.size Q K t (Heap.IsSliceOf.new ..) D G J;show wpAny (model X.prog X.w) X.A (subscriptTail e (.Slice lo hi none p2) v (.ref c.heap.objs.size)) (EP X a σ Q) X.xe { c with heap:=c.heap.push { cls :=.type "slice",data :=.fields #[d,f,.none] } }
 exact tail_any (ops :=[.ref c.heap.objs.size,v]) M L N (by with_unfolding_all rfl)
def cutV(xs:List V)(lo hi:Option Int):List V:=(xs.drop (HT.sIx xs.length 0 lo)).take (HT.sIx xs.length xs.length hi - HT.sIx xs.length 0 lo)
theorem oX(xs:List V)(lo hi:Option Int):(cutV xs lo hi).length<=xs.length:=by
 unfold cutV;rw [aN,cC];lia
def rSlT(K:PySem.W.Frag):V->Option Int->Option Int->Hp->VK->Prop:=λx lo hi H Q => ∃a xs,x = .ref a/\SqT K H a xs /\
 ¬(HT.sIx xs.length 0 lo=0/\HT.sIx xs.length xs.length hi=xs.length) /\ ∀p,H p=none->Q (.ref p) (upd H p (.tup (cutV xs lo hi)))
theorem vP:SlR X (rSlT X.K):=by
 intro f s σ H x v t u lo hi w Q I j k l m h;obtain⟨a,d,rfl,n,p,q⟩:=h;cases j;obtain⟨e,r,g,i⟩:=I.tuple n;have c:e.toArray.size=d.length:=by rw [aR];exact r.length.symm
 refine⟨"tuple",_,cN.lookup,g.typeIs,?_⟩;refine HT.getItem_tuple_cut g k l m (by rw [c];exact p) ?_ (by rw [c];exact i);rw [c];refine⟨.ref s.heap.objs.size,_,I.laid (t':=s.toks) (o :=.tup (cutV d lo hi)) (λb y q=>aG _ q) (aF _) ?_,rfl,q _ (I.hok.fresh (aF _))⟩;exact⟨bL (oX d lo hi) i,_,(r.drop (HT.sIx d.length 0 lo)).take (HT.sIx d.length d.length hi - HT.sIx d.length 0 lo),IsTup.new _ _⟩
theorem qMm:CallR X (.type "tuple") (λxs H Q => ∃a c,xs = [.ref a]/\SqT X.K H a c/\Q (.ref a) H):=by
 intro d s σ H xs i Q I r h;obtain⟨a,c,rfl,e,q⟩:=h;obtain⟨u,rfl,f⟩:=vals1 r;cases f;obtain⟨b,_,g,_⟩:=I.tuple e;exact call_tuple_same (items:=b.toArray) g ⟨.ref a,H,I,rfl,q⟩
end
def ixN(n:Nat)(i:Int):Option Nat:=if 0<=i then (if i<n then some i.toNat else none) else if -(n:Int)<=i then some (i+n).toNat else none
def atI{α : Type}(xs:List α)(i:Int):Option α :=(ixN xs.length i).bind λj=>xs[j]?
theorem oY{n:Nat}{i:Int}{j:Nat}(h:ixN n i=some j):seqIndex? i n=some j/\j<n /\ -(n:Int)<=i/\i<n:=by
 unfold ixN at h;by_cases b:0<=i
 ·rw [if_pos b] at h;by_cases a:i<n
  ·rw [if_pos a] at h;have e:i.toNat=j:=bT h;exact⟨by rw [seqIndex_of b a,e],by lia,by lia,a⟩
  ·rw [if_neg a] at h;cases h
 ·rw [if_neg b] at h;by_cases a : -(n:Int)<=i
  ·rw [if_pos a] at h;have e:(i+n).toNat=j:=bT h;exact⟨by rw [seqIndex_neg (by lia) a,e],by lia,a,by lia⟩
  ·rw [if_neg a] at h;cases h
theorem oZ{α : Type}{xs:List α}{i:Int}{v : α}(h:atI xs i=some v):∃j,seqIndex? i xs.length=some j/\xs[j]? = some v/\j<xs.length /\ -(xs.length:Int)<=i/\i<xs.length:=by
 unfold atI at h;cases e:ixN xs.length i with
 | none=>rw [e] at h;cases h
 | some j =>
  rw [e] at h;obtain⟨a,b,c,d⟩:=oY e;exact⟨j,a,h,b,c,d⟩
theorem zK{α : Type}{xs:List α}{j:Nat}{v : α}(h:xs[j]? = some v):atI xs (j:Int)=some v:=by
 have a:j<xs.length:=(aE.mp h).1;have e:ixN xs.length (j:Int)=some j:=by
  unfold ixN;rw [if_pos (by lia),if_pos (by lia)];simp
 unfold atI;rw [e];exact h
def qXv(b:Expr):Prop := ∀o i,subscripted b false o i=operate [o,i] (getItem o i)
def IxR(X:Cx)(r:R2):Prop :=
 ∀(value slice:Expr) (pins:List (Addr×Obj)) (s:Shared) (σ : St) (H:Hp) (x y:V) (v u:Value) (Q:VK),Inv X pins σ H s->RelV x v->RelV y u->r x y H Q ->
  subscripted slice false v u=operate [v,u] (getItem v u)->wpAny (model X.prog X.w) X.A (subscriptTail value slice v u) (EP X pins σ Q) X.xe s
def MtR(X:Cx)(id:String)(r:V->List V->Hp->VK->Prop):Prop :=
 ∀(pins:List (Addr×Obj)) (s:Shared) (σ : St) (H:Hp) (x:V) (xs:List V) (v:Value) (us:List Value) (Q:VK),Inv X pins σ H s->RelV x v->Vals xs us->r x xs H Q ->
  wpAny (model X.prog X.w) X.A (call (.builtin id) (v::us)) (EP X pins σ Q) X.xe s
section
variable{X:Cx}{a b:Expr}{ta tb:TE}{pos:Pos}
theorem zM{r:R2}(d:IxR X r)(e:PE X a ta)(f:PE X b tb)(g:qXv b):PE X (.Subscript a b pos) (tOp r ta tb):=by
 intro c s σ H Q I h;exact Subscript_ (binT e f I h λv u i x y j k l m q=>d a b c i σ j x y v u Q k l m q (g _ _))
def rIxL(K:PySem.W.Frag):R2:=λx y H Q => ∃p xs i v,x = .ref p/\y = .int i/\SqL K H p xs/\atI xs i=some v/\Q v H
def rIxT(K:PySem.W.Frag):R2:=λx y H Q => ∃p xs i v,x = .ref p/\y = .int i/\SqT K H p xs/\atI xs i=some v/\Q v H
theorem zX:IxR X (rIxL X.K):=by
 intro d slice a s σ H x y v u Q I o A h l;obtain⟨p,L,i,z,rfl,rfl,B,C,q⟩:=h;cases o;obtain⟨t,rfl⟩:=A;obtain⟨e,r,f,M⟩:=I.list B;obtain⟨j,c,D,N,E,F⟩:=oZ C;obtain⟨w,m,g⟩:=r.get D;have G:=r.length;have O:=vO;have b:EP X a σ Q w s:=⟨z,H,I,g,q⟩;by_cases n:0<=i
 ·have k:i.toNat=j:=by
   rw [seqIndex_of n F] at c;exact bT c
  exact item_listR f.isList n (by lia) (by rw [k];simpa using m) b l
 ·have k:(i+(e.toArray.size:Int)).toNat=j:=by
   rw [seqIndex_neg (by lia) E] at c;rw [aR,<-G];exact bT c
  exact subscriptTail_builtinR (x:=w) f.isList.typeIs slot_list_getitem.lookup
   (wpAny_getItem_list_neg (Q:=λr J=>r=w/\EP X a σ Q r J) f.isList (by lia) (by rw [aR] <;> lia) (by lia) (by rw [k];simpa using m) ⟨rfl,b⟩) l
theorem yg:IxR X (rIxT X.K):=by
 intro b slice a s σ H x y v u Q I f g h k;obtain⟨p,E,i,z,rfl,rfl,l,m,q⟩:=h;cases f;obtain⟨t,rfl⟩:=g;obtain⟨n,r,e,F⟩:=I.tuple l;obtain⟨j,o,A,G,J,L⟩:=oZ m;obtain⟨w,B,c⟩:=r.get A;have C:=r.length;have M:=vO;have d:EP X a σ Q w s:=⟨z,H,I,c,q⟩;exact subscriptTail_builtinR (x:=w) e.typeIs slot_tuple_getitem.lookup
  (getItem_tuple (j:=j) (Q:=λr D=>r=w/\EP X a σ Q r D) e (by lia) (by lia) (by rw [aR,<-C];exact o) (by simpa using B) ⟨rfl,d⟩) k
theorem qP1(its:List Value)(n j:Nat)(u:Value):Obj.mapSeq (·.setIfInBounds j u) { cls :=.type "list",data :=.seq its.toArray n } = { cls :=.type "list",data :=.seq (its.set j u).toArray n }:=by
 simp [Obj.mapSeq]
theorem Inv.lst{a:List (Addr×Obj)}{σ : St}{H:Hp}{s:Shared}{p:Addr}{xs:List V}(I:Inv X a σ H s)(h:H p=some (.lst xs)):∃(its:List Value) (n:Nat),Vals xs its/\s.heap.get? p=some { cls :=.type "list",data :=.seq its.toArray n }/\xs.length<=sizeLine:=by
 obtain⟨z,its,n,r,e⟩:=I.hok p _ h;exact⟨its,n,r,e,z⟩
theorem Inv.lstUpd{a:List (Addr×Obj)}{σ : St}{H:Hp}{s:Shared}{p:Addr}{xs c:List V}{its its':List Value}{n d:Nat}{f:Obj->Obj}(I:Inv X a σ H s)(h:H p=some (.lst xs))
  (i:s.heap.get? p=some { cls :=.type "list",data :=.seq its.toArray n }) (g:f { cls :=.type "list",data :=.seq its.toArray n } = { cls :=.type "list",data :=.seq its'.toArray d }) (r:Vals c its') (j:c.length<=sizeLine) (t:Nat) :
  Inv X a σ (upd H p (.lst c)) { s with heap:=s.heap.update p f,toks:=t }:=by
 have e:(s.heap.update p f).get? p=some { cls :=.type "list",data :=.seq its'.toArray d }:=by
  rw [bZ f i (by rw [g] <;> rfl),g]
 refine I.write (x:=p) (e:=p) (by rw [h];trivial) (.inl rfl) (λb u k q=>(cY _ _ (dF k)).trans q) ⟨_,e⟩ ?_;exact⟨j,its',d,r,e⟩
def rSetL:V->V->V->Hp->(Hp->Prop)->Prop:=λo i v H Q => ∃p xs k j,o = .ref p/\i = .int k/\H p=some (.lst xs)/\ixN xs.length k=some j/\Q (upd H p (.lst (xs.set j v)))
theorem oh:PSet X rSetL:=by
 intro a s σ H o i v E F u Q I y z A h;obtain⟨p,B,k,j,rfl,rfl,g,C,q⟩:=h;cases y;obtain⟨t,rfl⟩:=z;obtain⟨b,n,r,d,D⟩:=I.lst g;obtain⟨c,G,l,m⟩:=oY C;have e:=r.length;have J:=vO;have w:Inv X a σ (upd H p (.lst (B.set j v))) { s with heap:=s.heap.update p (Obj.mapSeq (·.setIfInBounds j u)) } :=
  I.lstUpd g d (qP1 b n j u) (r.set A j) (by rw [List.length_set];exact D) s.toks
 by_cases x:0<=k
 ·have f:k.toNat=j:=by
   rw [seqIndex_of x m] at c;exact bT c
  exact PySem.W.ki_setAt d x (by lia) (by rw [aR,<-e];exact m) (by rw [f];exact⟨_,w,q⟩)
 ·have f:(k+(b.toArray.size:Int)).toNat=j:=by
   rw [seqIndex_neg (by lia) l] at c;rw [aR,<-e];exact bT c
  exact PySem.W.ki_setBack d (by lia) (by rw [aR,<-e];exact l) (by lia) (by rw [f];exact⟨_,w,q⟩)
theorem qJz(lo hi:Option Int)(n:Nat):(sliceBounds lo hi none n).1=((HT.sIx n 0 lo:Nat):Int)/\(sliceBounds lo hi none n).2.1=((HT.sIx n n hi:Nat):Int)/\(sliceBounds lo hi none n).2.2=1:=by
 refine⟨?_,?_,rfl⟩
 ·cases lo with
  | none=>simp [sliceBounds,HT.sIx]
  | some i =>
   simp only [sliceBounds,HT.sIx,Option.getD_none,show (1:Int)>0 by decide,if_true];by_cases h:i<0
   ·simp only [h,if_true] <;> lia
   ·simp only [h,if_false] <;> lia
 ·cases hi with
  | none=>simp [sliceBounds,HT.sIx]
  | some i =>
   simp only [sliceBounds,HT.sIx,Option.getD_none,show (1:Int)>0 by decide,if_true];by_cases h:i<0
   ·simp only [h,if_true] <;> lia
   ·simp only [h,if_false] <;> lia
theorem qIb(its:List Value)(lo hi:Option Int):slicePick its.toArray lo hi none=((its.drop (HT.sIx its.length 0 lo)).take (HT.sIx its.length its.length hi - HT.sIx its.length 0 lo)).toArray:=by
 obtain⟨a,b,c⟩:=qJz lo hi its.toArray.size;unfold slicePick;rw [a,b,c];simp only [sliceRange_one,pick_run,aR] <;> rfl
def rSlL(K:PySem.W.Frag):V->Option Int->Option Int->Hp->VK->Prop:=λx lo hi H Q => ∃a xs,x = .ref a/\SqL K H a xs /\ ∀p,H p=none->Q (.ref p) (upd H p (.lst (cutV xs lo hi)))
theorem xC:SlR X (rSlL X.K):=by
 intro f s σ H x v t u lo e w Q I i j k l h;obtain⟨a,c,rfl,m,q⟩:=h;cases i;obtain⟨n,r,g,p⟩:=I.list m;have d:=r.length;refine⟨"list",_,slot_list_getitem.lookup,g.isList.typeIs,?_⟩;refine wpAny_getItem_list_slice g.isList j k l .none (by simp) ?_ (by rw [aR] <;> lia);rw [qIb,<-d];refine⟨.ref s.heap.objs.size,_,I.laid (t':=s.toks) (o :=.lst (cutV c lo e)) (λb y q=>aG _ q) (aF _) ?_,rfl,q _ (I.hok.fresh (aF _))⟩;exact⟨bL (oX c lo e) p,_,0,(r.drop (HT.sIx c.length 0 lo)).take (HT.sIx c.length c.length e - HT.sIx c.length 0 lo),aT _ rfl⟩
def flatV:V->Bool
 | .non=>true
 | .bl _=>true
 | .int _=>true
 | .str _=>true
 | _=>false
def eqV:V->V->Bool
 | .non,.non=>true
 | .bl a,.bl b=>a == b
 | .bl a,.int b=>(if a then 1 else 0) == b
 | .int a,.bl b=>a == (if b then 1 else 0)
 | .int a,.int b=>a == b
 | .str a,.str b=>a == b
 | _,_=>false
theorem qZ4{A:Around}{s:Shared}{y x:V}{u v:Value}(e:RelV y u)(c:RelV x v)(g:flatV y=true)(f:flatV x=true):SeqAt.EqAt A s u v (eqV y x):=by
 cases y with
 | non =>
  cases e;cases x with
  | non=>cases c;exact SeqAt.EqAt.same _
  | bl b=>cases c;exact SeqAt.EqAt.none_bool b
  | int b=>obtain⟨t,rfl⟩:=c;exact SeqAt.EqAt.none_int b t
  | str b=>obtain⟨t,rfl⟩:=c;exact SeqAt.EqAt.none_str b t
  | _=>exact absurd (show false=true from f) aL
 | bl a =>
  cases e;cases x with
  | non=>cases c;exact SeqAt.EqAt.bool_none a
  | bl b=>cases c;exact SeqAt.EqAt.bool_bool a b
  | int b=>obtain⟨t,rfl⟩:=c;exact SeqAt.EqAt.bool_int a b t
  | str b=>obtain⟨t,rfl⟩:=c;exact SeqAt.EqAt.bool_str a b t
  | _=>exact absurd (show false=true from f) aL
 | int a =>
  obtain⟨d,rfl⟩:=e;cases x with
  | non=>cases c;exact SeqAt.EqAt.int_none a d
  | bl b=>cases c;exact SeqAt.EqAt.int_bool a d b
  | int b=>obtain⟨t,rfl⟩:=c;exact SeqAt.EqAt.int_int a d b t
  | str b=>obtain⟨t,rfl⟩:=c;exact SeqAt.EqAt.int_str a d b t
  | _=>exact absurd (show false=true from f) aL
 | str a =>
  obtain⟨d,rfl⟩:=e;cases x with
  | non=>cases c;exact SeqAt.EqAt.str_none a d
  | bl b=>cases c;exact SeqAt.EqAt.str_bool a d b
  | int b=>obtain⟨t,rfl⟩:=c;exact SeqAt.EqAt.str_int a d b t
  | str b=>obtain⟨t,rfl⟩:=c;exact SeqAt.EqAt.str_str a d b t
  | _=>exact absurd (show false=true from f) aL
 | _=>exact absurd (show false=true from g) aL
def eqU(x:V)(u:Value):Bool:=match u with
 | .none=>eqV .non x
 | .bool b=>eqV (.bl b) x
 | .int i _=>eqV (.int i) x
 | .str z _=>eqV (.str z) x
 | _=>false
theorem oj{x y:V}{u:Value}(r:RelV y u)(f:flatV y=true):eqU x u=eqV y x:=by
 cases y with
 | non=>cases r;rfl
 | bl b=>cases r;rfl
 | int i=>obtain⟨t,rfl⟩:=r;rfl
 | str z=>obtain⟨t,rfl⟩:=r;rfl
 | _=>exact absurd (show false=true from f) aL
theorem uF{x:V}{xs:List V}{us:List Value}(h:Vals xs us)(f:xs.all flatV=true):us.any (eqU x)=xs.any λy=>eqV y x:=by
 induction h with
 | nil=>rfl
 | cons r t a =>
  rw [List.all_cons,aO] at f;rw [List.any_cons,List.any_cons,oj r f.1,a f.2]
theorem uG{A:Around}{s:Shared}{x:V}{v:Value}(a:RelV x v)(b:flatV x=true){xs:List V}{us:List Value}(h:Vals xs us)(f:xs.all flatV=true):∀u∈us,SeqAt.EqAt A s u v (eqU x u):=by
 induction h with
 | nil=>intro u hu;cases hu
 | cons r t c =>
  intro d hu;rw [List.all_cons,aO] at f;rcases aV.mp hu with rfl | hu
  ·rw [oj r f.1];exact qZ4 r a f.1 b
  ·exact c f.2 d hu
def inV(x:V)(xs:List V):Bool:=xs.any λy=>eqV y x
def rIn(K:PySem.W.Frag)(neg:Bool):R2:=λx y H Q => ∃p xs,y = .ref p/\(SqL K H p xs\/SqT K H p xs)/\flatV x=true/\xs.all flatV=true/\Q (.bl (if neg then !inV x xs else inV x xs)) H
theorem xt:OpR X (compareOp .In) (rIn X.K false):=by
 intro d s σ H x y v u Q I e g h;obtain⟨p,j,rfl,hq,f,fs,q⟩:=h;cases g;rcases hq with hq | hq
 ·obtain⟨a,r,b,i⟩:=I.list hq;refine SeqAt.in_listAt (eqU x) b.isList (λw c=>uG e f r fs w (by simpa using c)) ⟨.bl _,H,I,rfl,?_⟩;rw [show a.toArray.any (eqU x)=a.any (eqU x) by simp,uF r fs];exact q
 ·obtain⟨a,r,b,i⟩:=I.tuple hq;refine SeqAt.in_tupleAt (eqU x) b (λw c=>uG e f r fs w (by simpa using c)) ⟨.bl _,H,I,rfl,?_⟩;rw [show a.toArray.any (eqU x)=a.any (eqU x) by simp,uF r fs];exact q
theorem qKf:OpR X (compareOp .NotIn) (rIn X.K true):=by
 intro d s σ H x y v u Q I e g h;obtain⟨p,j,rfl,hq,f,fs,q⟩:=h;cases g;rcases hq with hq | hq
 ·obtain⟨a,r,b,i⟩:=I.list hq;refine SeqAt.notIn_listAt (eqU x) b.isList (λw c=>uG e f r fs w (by simpa using c)) ⟨.bl _,H,I,rfl,?_⟩;rw [show a.toArray.any (eqU x)=a.any (eqU x) by simp,uF r fs];exact q
 ·obtain⟨a,r,b,i⟩:=I.tuple hq;refine SeqAt.notIn_tupleAt (eqU x) b (λw c=>uG e f r fs w (by simpa using c)) ⟨.bl _,H,I,rfl,?_⟩;rw [show a.toArray.any (eqU x)=a.any (eqU x) by simp,uF r fs];exact q
theorem yb:CallR X (.builtin "len") (λxs H Q => ∃p b,xs = [.ref p]/\(SqL X.K H p b\/SqT X.K H p b)/\Q (.int b.length) H):=by
 intro f s σ H xs j Q I r h;obtain⟨p,b,rfl,hq,q⟩:=h;obtain⟨u,rfl,g⟩:=vals1 r;cases g;have k:=vO;rcases hq with hq | hq
 ·obtain⟨c,d,e,i⟩:=I.list hq;have a:=d.length;exact Calls.call_len_list e.isList (by simp only [aR] <;> lia) ⟨.int b.length,H,I.tok _,⟨s.toks+1,by rw [aR,a]⟩,q⟩
 ·obtain⟨c,d,e,i⟩:=I.tuple hq;have a:=d.length;exact len_tuple e (by simp only [aR] <;> lia) ⟨.int b.length,H,I.tok _,⟨s.toks+1,by rw [aR,a]⟩,q⟩
theorem vQ:CallR X (.type "list") (λxs H Q => ∃p d,xs = [.ref p]/\(SqL X.K H p d\/SqT X.K H p d) /\ ∀l,H l=none->Q (.ref l) (upd H l (.lst d))):=by
 intro i s σ H xs C Q I r h;obtain⟨p,d,rfl,hq,q⟩:=h;obtain⟨u,rfl,B⟩:=vals1 r;cases B;have j:∀(a:List Value),Vals d a->d.length<=sizeLine -> ∀(c:Heap) (f:Nat),(∀b A,s.heap.get? b=some A->c.get? b=some A) ->
   c.get? s.heap.objs.size=some { cls :=.type "list",dict:=none,data :=.seq a.toArray f,slots := #[] }->EP X i σ Q (.ref s.heap.objs.size) { s with heap:=c }:=λa g k c f m e =>
  ⟨.ref s.heap.objs.size,_,I.laid (t':=s.toks) m (aF _) (show ObjOk X.prog X.w _ c _ (.lst d) from⟨k,a,f,g,e⟩),rfl,q _ (I.hok.fresh (aF _))⟩
 rcases hq with hq | hq
 ·obtain⟨a,g,v,k⟩:=I.list hq;have t:=g.length;obtain⟨o,x,y,n,z⟩:=v.isList;exact call_list_seq p (.inl rfl) x y z (λc f m e=>j a g k c f m e) (by simp only [aR] <;> lia)
 ·obtain⟨a,g,v,k⟩:=I.tuple hq;have t:=g.length;obtain⟨o,x,y,n,z⟩:=v;exact call_list_seq p (.inr rfl) x y z (λc f m e=>j a g k c f m e) (by simp only [aR] <;> lia)
def tyV(K:PySem.W.Frag)(T:String)(x:V)(H:Hp):Prop:=match x with
 | .str _=>T = "str"
 | .int _=>T = "int"
 | .ref p=>(T = "list" /\ ∃xs,SqL K H p xs)\/(T = "tuple" /\ ∃o,K.lookup p=some o/\o.cls = .type "tuple" /\ o.dict=none) \/
   (T = "dict" /\ ((∃kvs,H p=some (.dK kvs)) \/ ∃kvs,H p=some (.dT kvs)))\/(T = "set" /\ ∃S n,H p=some (.set S n))
 | _=>False
theorem om{f:List (Addr×Obj)}{σ : St}{H:Hp}{s:Shared}{T:String}{x:V}{v:Value}(I:Inv X f σ H s)(r:RelV x v)(ty:tyV X.K T x H):s.TypeIs v T /\ ∀a,v = .ref a -> ∃ob,s.heap.get? a=some ob/\ob.dict=none:=by
 cases x with
 | str z =>
  obtain⟨t,rfl⟩:=r;cases (show T = "str" from ty);exact⟨typeIs_str s z t,λ_ e=>nomatch e⟩
 | int i =>
  obtain⟨t,rfl⟩:=r;cases (show T = "int" from ty);exact⟨typeIs_int s i t,λ_ e=>nomatch e⟩
 | ref p =>
  cases r;rcases ty with ⟨rfl,u,l⟩ | ⟨rfl,o,b,m,g⟩ | ⟨rfl,b⟩ | ⟨rfl,S,n,b⟩
  ·obtain⟨q,_,k,_⟩:=I.list l;refine⟨k.isList.typeIs,λa e=>?_⟩;cases e;obtain⟨o,n,e,c,g,_⟩:=k;exact⟨o,e,g⟩
  ·refine⟨⟨o,I.kIn p o b,m⟩,λa e=>?_⟩;cases e;exact⟨o,I.kIn _ o b,g⟩
  ·have z:∃o,s.heap.get? p=some o/\o.ExactDict:=by
    rcases b with ⟨h,b⟩ | ⟨h,b⟩
    ·obtain⟨_,_,_,_,o,_,_,e,d,_⟩:=I.hok p _ b;exact⟨o,e,d⟩
    ·obtain⟨_,_,_,_,o,_,_,e,d,_⟩:=I.hok p _ b;exact⟨o,e,d⟩
   obtain⟨o,e,d⟩:=z;refine⟨⟨o,e,d.1⟩,λa j=>?_⟩;cases j;exact⟨o,e,d.2.1⟩
  ·obtain⟨o,_,_,_,e,d,_⟩:=I.hok p _ b;refine⟨⟨o,e,d.1⟩,λa j=>?_⟩;cases j;exact⟨o,e,d.2.1⟩
 | _=>exact False.elim ty
def tBM0(K:PySem.W.Frag)(T:String)(r:V->List V->Hp->VK->Prop)(to:TE):TE:=λσ H Q=>to σ H λx H1=>tyV K T x H1/\r x [] H1 Q
def tBM(K:PySem.W.Frag)(T:String)(r:V->List V->Hp->VK->Prop)(to:TE)(t:TA):TE:=λσ H Q=>to σ H λx H1=>tyV K T x H1/\t σ H1 λxs H2=>r x xs H2 Q
variable{o e:Expr}{es:List Expr}{to:TE}{t:TA}{name:Str}{apos cpos:Pos}{T id:String}{r:V->List V->Hp->VK->Prop}
theorem uH(g:PlainAttrs T)(slot:Slot T name id)(d:typeOf (.builtin id)=pure (.type "method_descriptor"))(i:MtR X id r)(j:PE X o to)
  (b:attributeBase o name X.env (eval o X.env)=eval o X.env:=by rfl) (c:(apos.endLine == cpos.line)=true:=by rfl):PE X (.Call (.Attribute o name apos) [] [] cpos) (tBM0 X.K T r to):=by
 intro a s σ H Q I h;refine wpAny_Call_method0_late b c (thn (j a s σ H _ I h) λv k hq_=>?_);obtain⟨x,l,e,f,ty,m⟩:=hq_;obtain⟨n,p⟩:=om e f ty;exact⟨T,id,g,slot,d,n,p,fB rfl (PySem.evalArgs_none (i a k σ l x [] v [] Q e f .nil m))⟩
theorem yc(l:PlainAttrs T)(slot:Slot T name id)(g:typeOf (.builtin id)=pure (.type "method_descriptor"))(m:MtR X id r)(n:PE X o to)(p:PA X (e::es) t)
  (c:attributeBase o name X.env (eval o X.env)=eval o X.env:=by rfl)
  (f:((backTo cpos (starEach (e::es) X.env)).all (λx => !x.1)&&(backToKw cpos (keywordEach [] X.env)).all (λx=>x.1.isSome)
   && decide ((e::es).length+([]:List Keyword).length+(if ([]:List Keyword).isEmpty then 0 else 1)<30))=true:=by rfl)
  (d:(apos.endLine == cpos.line)=true:=by rfl) (q:starEach (e::es) X.env=(false,eval e X.env)::starEach es X.env:=by rfl) (b:(backTo cpos (starEach es X.env)).any (·.1)=false:=by rfl) :
  PE X (.Call (.Attribute o name apos) (e::es) [] cpos) (tBM X.K T r to t):=by
 intro a s σ H Q I h;refine wpAny_Call_method_late c f d rfl (thn (n a s σ H _ I h) λv u hq_=>?_);obtain⟨x,w,i,j,ty,y⟩:=hq_;obtain⟨z,A⟩:=om i j ty;refine⟨T,id,l,slot,g,z,A,?_⟩;have k:=p cpos a u σ w _ i y;rw [q] at k ⊢;refine fB (by show (false||(backTo cpos (starEach es X.env)).any (·.1))=false;rw [b] <;> rfl) (gI ?_);refine thn k λB C hq_=>?_;obtain⟨D,E,F,G,J⟩:=hq_;exact m a C σ E x D v B Q F j G J
end
def MtM(X:Cx)(id:String)(r:V->List V->Hp->VK->Prop):Prop :=
 ∀(pins:List (Addr×Obj)) (s:Shared) (σ : St) (H:Hp) (x:V) (xs:List V) (v:Value) (us:List Value) (Q:VK),Inv X pins σ H s->RelV x v->Vals xs us->r x xs H Q ->
  wpAny (model X.prog X.w) X.A (call (.builtin id) (v::us)) (EP X pins σ Q) X.xe s
theorem Vals.one{x:V}{us:List Value}(h:Vals [x] us):∃u,us = [u]/\RelV x u:=by
 cases h with | cons r t=>cases t;exact⟨_,rfl,r⟩
theorem Vals.zero:∀ {us:List Value},Vals [] us->us = []
 | _,.nil=>rfl
theorem Vals.dropLast{xs:List V}{us:List Value}(h:Vals xs us):Vals xs.dropLast us.dropLast:=by
 induction h with
 | nil=>exact .nil
 | cons r t a =>
  cases t with
  | nil=>exact .nil
  | cons q b=>exact .cons r a
theorem Vals.eraseIdx:∀ {xs:List V} {us:List Value} (i:Nat),Vals xs us->Vals (xs.eraseIdx i) (us.eraseIdx i)
 | _,_,_,.nil =>.nil
 | _,_,0,.cons _ t=>t
 | _,_,i+1,.cons r t =>.cons r (Vals.eraseIdx i t)
theorem Vals.reverse{xs:List V}{us:List Value}(h:Vals xs us):Vals xs.reverse us.reverse:=by
 induction h with
 | nil=>exact .nil
 | cons r t a=>rw [List.reverse_cons,List.reverse_cons];exact Vals.append a (.cons r .nil)
theorem qP9{α : Type}(l:List α):l.eraseIdx (l.length - 1)=l.dropLast:=by
 induction l with
 | nil=>rfl
 | cons a r c =>
  cases r with
  | nil=>rfl
  | cons b r =>
   have e:(a::b::r).length - 1=((b::r).length - 1)+1:=by
    have d:(a::b::r).length=r.length+2:=rfl;have f:(b::r).length=r.length+1:=rfl;lia
   rw [e,List.eraseIdx_cons_succ,c]
   all_goals rfl
theorem on{α : Type}:∀(l:List α) (i:Nat),(l.eraseIdx i).length<=l.length
 | [],_=>aF _
 | _::_,0=>gR _
 | _::r,i+1=>Nat.succ_le_succ (on r i)
section
variable{X:Cx}{pins:List (Addr×Obj)}{σ : St}{H:Hp}{s:Shared}{l b:Addr}{xs ys zs:List V}
theorem Inv.lset{its its':List Value}{n:Nat}{f:Array Value->Array Value}{t':Nat}(I:Inv X pins σ H s)(a:H l=some (.lst xs))
  (e:s.heap.get? l=some { cls :=.type "list",data :=.seq its.toArray n }) (b:f its.toArray=its'.toArray) (c:Vals ys its') (d:ys.length<=sizeLine) :
  Inv X pins σ (upd H l (.lst ys)) { s with heap:=s.heap.update l (Obj.mapSeq f),toks:=t' }:=by
 have q:=PySem.IsL.update e f;rw [b] at q;refine I.write (x:=l) (e:=l) (by rw [a];exact trivial) (.inl rfl) (λi u g h=>(cY s.heap (Obj.mapSeq f) (dF g)).trans h) ⟨_,q⟩ ?_;exact⟨d,its',_,c,q⟩
theorem Inv.lnew{its:List Value}{t':Nat}(I:Inv X pins σ H s)(a:Vals ys its)(hz:ys.length<=sizeLine):Inv X pins σ (upd H s.heap.objs.size (.lst ys)) { s with heap:=s.heap.push { cls :=.type "list",data :=.seq its.toArray },toks:=t' } :=
 I.laid (λ_ _ q=>aG _ q) (aF _) ⟨hz,its,0,a,aT _ rfl⟩
theorem Inv.fresh(I:Inv X pins σ H s):H s.heap.objs.size=none:=I.hok.fresh (aF _)
theorem Inv.lstM(I:Inv X pins σ H s)(a:H l=some (.lst xs)):xs.length<=sizeLine /\ ∃(its:List Value) (n:Nat),Vals xs its/\xs.length=its.length/\s.heap.get? l=some { cls :=.type "list",data :=.seq its.toArray n }:=by
 obtain⟨z,its,n,r,e⟩:=I.hok l _ a;exact⟨z,its,n,r,r.length,e⟩
theorem qUo{n:Nat}(h:n<=sizeLine):Builtin.List.listTooLong n=false:=by
 unfold Builtin.List.listTooLong;exact decide_eq_false (by lia)
end
section
variable{X:Cx}
def uI:V->List V->Hp->VK->Prop:=λx vs H Q => ∃l xs y,x = .ref l/\vs = [y]/\H l=some (.lst xs)/\xs.length<sizeLine/\Q .non (upd H l (.lst (xs ++ [y])))
theorem xV:MtM X "list.append" uI:=by
 intro b s σ H x i v j Q I d f h;obtain⟨l,k,y,rfl,rfl,c,m,q⟩:=h;cases d;obtain⟨u,rfl,g⟩:=f.one;obtain⟨z,a,n,r,o,e⟩:=I.lstM c;refine call_meets F.slot_list_append ⟨_,e,rfl⟩ F.entry_list_append (F.args_list_append_2 _ _) (PySem.list_append l a.toArray n u (by rw [aR];lia)) ⟨e,?_⟩;refine⟨.non,_,I.lset (its':=a ++ [u]) c e (by simp) (r.append (.cons g .nil)) ?_,rfl,q⟩;rw [aI,bN];lia
def oq:V->List V->Hp->VK->Prop:=λx vs H Q => ∃l b xs zs,x = .ref l/\vs = [.ref b]/\H l=some (.lst xs)/\H b=some (.lst zs)/\xs.length+zs.length<=sizeLine/\Q .non (upd H l (.lst (xs++zs)))
theorem uJ:MtM X "list.extend" oq:=by
 intro f s σ H x y v A Q I i j h;obtain⟨l,b,B,C,rfl,rfl,g,k,D,q⟩:=h;cases i;obtain⟨u,rfl,m⟩:=j.one;cases m;obtain⟨z,a,n,r,E,e⟩:=I.lstM g;obtain⟨G,its2,o,p,t,w⟩:=I.lstM k;have d:a.toArray.size+its2.toArray.size<=sizeLine:=by rw [aR,aR];lia
 have c : ¬(!a.toArray.isEmpty&&Builtin.List.listTooLong (a.toArray.size+its2.toArray.size))=true:=by
  rw [qUo d,Bool.and_false];exact aL
 refine call_meets F.slot_list_extend ⟨_,e,rfl⟩ F.entry_list_extend (F.args_list_extend_2 _ _)
  (AutoSeq1.list_extend_list_list_0 l a.toArray n b its2.toArray o c (by rw [aR];lia) (by lia)) ⟨e,w,?_⟩
 refine⟨.non,_,I.lset (its':=a++its2) g e (by simp) (r.append p) ?_,rfl,q⟩;rw [aI];lia
def rPop:V->List V->Hp->VK->Prop:=λx vs H Q => ∃l xs y,x = .ref l/\vs = []/\H l=some (.lst xs)/\xs[xs.length - 1]? = some y/\Q y (upd H l (.lst xs.dropLast))
theorem kM:MtM X "list.pop" rPop:=by
 intro d s σ H x p v t Q I g i h;obtain⟨l,w,y,rfl,rfl,f,j,q⟩:=h;cases g;have b:=i.zero;subst b;obtain⟨z,a,n,r,k,e⟩:=I.lstM f;obtain⟨u,m,o⟩:=r.get j;have c:a.toArray[a.toArray.size - 1]? = some u:=by
  show a.toArray[a.length - 1]? = some u;rw [<-bE,<-k];exact m
 refine call_meets F.slot_list_pop ⟨_,e,rfl⟩ F.entry_list_pop (F.args_list_pop_1 _) (MeetsSeq.list_pop_last l a.toArray n u c (by rw [aR];lia)) ⟨e,?_⟩;refine⟨y,_,I.lset (its':=a.dropLast) f e ?_ r.dropLast ?_,o,q⟩
 ·show a.toArray.eraseIdxIfInBounds (a.toArray.size - 1)=a.dropLast.toArray;rw [aR,List.eraseIdxIfInBounds_toArray,qP9]
 ·rw [List.length_dropLast];lia
def qYn:V->List V->Hp->VK->Prop:=λx vs H Q => ∃l xs i k y,x = .ref l/\vs = [.int i]/\H l=some (.lst xs) /\ -(2^63)<=i/\i<2^63/\seqIndex? i xs.length=some k/\xs[k]? = some y/\Q y (upd H l (.lst (xs.eraseIdx k)))
theorem ot:MtM X "list.pop" qYn:=by
 intro c s σ H x E v G Q I f g h;obtain⟨l,j,i,k,y,rfl,rfl,d,m,o,p,A,q⟩:=h;cases f;obtain⟨u,rfl,B⟩:=g.one;obtain⟨t,rfl⟩:=B;obtain⟨z,a,n,r,C,e⟩:=I.lstM d;obtain⟨w,D,b⟩:=r.get A;refine call_meets F.slot_list_pop ⟨_,e,rfl⟩ F.entry_list_pop (F.args_list_pop_2 _ _)
  (MeetsSeq.list_pop_at l a.toArray n i t k w (fitsIndex_both m o) (by rw [aR,<-C];exact p) (by rw [<-bE];exact D) (by rw [aR];lia)) ⟨e,?_⟩
 refine⟨y,_,I.lset (its':=a.eraseIdx k) d e ?_ (r.eraseIdx k) ?_,b,q⟩
 ·show a.toArray.eraseIdxIfInBounds k=(a.eraseIdx k).toArray;rw [List.eraseIdxIfInBounds_toArray]
 ·have:=on j k;lia
def rCat:R2:=λx y H Q => ∃l b xs zs,x = .ref l/\y = .ref b/\H l=some (.lst xs)/\H b=some (.lst zs)/\xs.length+zs.length<=sizeLine /\ ∀p,H p=none->Q (.ref p) (upd H p (.lst (xs++zs)))
theorem xD:OpR X (binaryOp .Add) rCat:=by
 intro c s σ H x y v u Q I d f h;obtain⟨l,b,p,t,rfl,rfl,g,i,w,q⟩:=h;cases d;cases f;obtain⟨z,a,n,r,A,e⟩:=I.lstM g;obtain⟨B,its2,C,j,k,m⟩:=I.lstM i;refine PySem.P.add_list e m ?_ (by rw [aR,aR];lia);have o:a.toArray++its2.toArray=(a++its2).toArray:=by simp
 rw [o];exact⟨.ref _,_,I.lnew (t':=s.toks) (r.append j) (by rw [aI];lia),rfl,q _ I.fresh⟩
end
section
variable{κ : Type} [DecidableEq κ]
def valV(kvs:List (κ × V))(k : κ):Option V:=(kvs.find? λkv=>decide (kv.1=k)).map (·.2)
def putK(kvs:List (κ × V))(k : κ)(v:V):List (κ × V):=if (kvs.any λkv=>decide (kv.1=k))=true then kvs.map (λkv=>if kv.1=k then (kv.1,v) else kv) else kvs ++ [(k,v)]
def dropK(kvs:List (κ × V))(k : κ):List (κ × V):=kvs.filter λkv=>decide (kv.1≠k)
theorem yh{p : κ × V}{r:List (κ × V)}{k : κ}(e:p.1=k):valV (p::r) k=some p.2:=by simp [valV,fM,e]
theorem yi{p : κ × V}{r:List (κ × V)}{k : κ}(e : ¬p.1=k):valV (p::r) k=valV r k:=by simp [valV,fM,e]
theorem xu(k : κ):∀kvs:List (κ × V),(kvs.any λa=>decide (a.1=k))=(valV kvs k).isSome
 | []=>rfl
 | p::r=>by
  rw [List.any_cons];by_cases e:p.1=k
  ·simp only [yh e,decide_eq_true e,Bool.true_or,Option.isSome_some]
  ·rw [yi e,decide_eq_false e,Bool.false_or];exact xu k r
theorem ou(k j : κ)(y:V):∀kvs:List (κ × V),valV (kvs.map λa=>if a.1=k then (a.1,y) else a) j=(valV kvs j).map λx=>if j=k then y else x
 | []=>rfl
 | p::r=>by
  have b:=ou k j y r;rw [bG];by_cases h:p.1=k
  ·rw [if_pos h];by_cases e:p.1=j
   ·rw [yh (p:=(p.1,y)) e,yh e,Option.map_some,if_pos (e.symm.trans h)]
   ·rw [yi (p:=(p.1,y)) e,yi e,b]
  ·rw [if_neg h];by_cases e:p.1=j
   ·rw [yh (p:=p) e,yh e,Option.map_some,if_neg (λz=>h (e.trans z))]
   ·rw [yi (p:=p) e,yi e,b]
theorem oy(k j : κ)(y:V):∀kvs:List (κ × V),valV kvs k=none->valV (kvs ++ [(k,y)]) j=if j=k then some y else valV kvs j
 | [],_=>by
  by_cases e:k=j
  ·rw [if_pos e.symm];exact yh (p:=(k,y)) e
  ·rw [if_neg (λz=>e z.symm)];exact yi (p:=(k,y)) e
 | p::r,a=>by
  rw [List.cons_append];have b : ¬p.1=k:=λz=>by rw [yh z] at a;cases a
  rw [yi b] at a;have c:=oy k j y r a;by_cases e:p.1=j
  ·rw [yh e,yh e,if_neg (λz=>b (e.trans z))]
  ·rw [yi e,yi e,c]
theorem vR(kvs:List (κ × V))(k j : κ)(y:V):valV (putK kvs k y) j=if j=k then some y else valV kvs j:=by
 unfold putK;by_cases a:(kvs.any λb=>decide (b.1=k))=true
 ·rw [if_pos a,ou];rw [xu] at a;by_cases e:j=k
  ·obtain⟨x,c⟩:=Option.isSome_iff_exists.mp a;rw [if_pos e,e,c,Option.map_some,if_pos rfl]
  ·rw [if_neg e];cases valV kvs j with
   | none=>rfl
   | some x=>rw [Option.map_some,if_neg e]
 ·rw [if_neg a];refine oy k j y kvs ?_;rw [xu] at a;cases q:valV kvs k with
  | none=>rfl
  | some x=>rw [q] at a;exact (a rfl).elim
theorem xW(kvs:List (κ × V))(k : κ)(v:V):(putK kvs k v).length<=kvs.length+1:=by
 unfold putK;split
 ·rw [aB];lia
 ·rw [aI,bY,List.length_nil];lia
theorem uK{kvs:List (κ × V)}{k : κ}(v:V)(h:valV kvs k=none):putK kvs k v=kvs ++ [(k,v)]:=by
 unfold putK;rw [xu,h];exact if_neg (by decide)
theorem RelO.isSome_eq{o:Option V}{u:Option Value}(r:RelO o u):o.isSome=u.isSome:=by
 cases o with
 | none=>cases u with
  | none=>rfl
  | some _=>exact (show False from r).elim
 | some _=>cases u with
  | none=>exact (show False from r).elim
  | some _=>rfl
theorem RelO.getD{o:Option V}{u:Option Value}{d:V}{d':Value}(r:RelO o u)(rd:RelV d d'):RelV (o.getD d) (u.getD d'):=by
 cases o with
 | none=>cases u with
  | none=>exact rd
  | some _=>exact (show False from r).elim
 | some _=>cases u with
  | none=>exact (show False from r).elim
  | some _=>exact r
theorem KV.val{kvs:List (κ × V)}{vs:List (κ × Value)}(r:KV kvs vs)(k : κ):RelO (valV kvs k) (valueAt vs k):=by
 unfold KV at r
 induction r with
 | nil=>exact True.intro
 | @cons p q i a h t f =>
  obtain⟨d,g⟩:=h;by_cases e:p.1=k
  ·have c:q.1=k:=d.symm.trans e;have b:valueAt (q::a) k=some q.2:=by simp [valueAt,fM,c]
   rw [yh e,b];exact g
  ·have c : ¬q.1=k:=λz=>e (d.trans z);have b:valueAt (q::a) k=valueAt a k:=by simp [valueAt,fM,c]
   rw [yi e,b];exact f
theorem KV.any{kvs:List (κ × V)}{vs:List (κ × Value)}(r:KV kvs vs)(k : κ):(kvs.any λa=>decide (a.1=k))=vs.any λa=>decide (a.1=k):=by
 unfold KV at r
 induction r with
 | nil=>rfl
 | cons h t b=>rw [List.any_cons,List.any_cons,b,h.1]
theorem KV.repl{kvs:List (κ × V)}{vs:List (κ × Value)}(r:KV kvs vs)(k : κ){y:V}{u:Value}(c:RelV y u):KV (kvs.map λa=>if a.1=k then (a.1,y) else a) (vs.map λa=>if a.1=k then (a.1,u) else a):=by
 unfold KV at r ⊢
 induction r with
 | nil=>exact .nil
 | @cons p q g i h t d =>
  rw [bG,bG];refine .cons ?_ d;obtain⟨b,f⟩:=h;by_cases e:p.1=k
  ·rw [if_pos e,if_pos (b.symm.trans e)];exact⟨b,c⟩
  ·rw [if_neg e,if_neg (λz=>e (b.trans z))];exact⟨b,f⟩
theorem KV.put{kvs:List (κ × V)}{vs:List (κ × Value)}(r:KV kvs vs)(k : κ){y:V}{u:Value}(a:RelV y u):KV (putK kvs k y) (stored vs k u):=by
 unfold putK stored;rw [r.any k];by_cases e:(vs.any λb=>decide (b.1=k))=true
 ·rw [if_pos e,if_pos e];exact r.repl k a
 ·rw [if_neg e,if_neg e];exact Paired.snoc r ⟨rfl,a⟩
theorem KV.drop{kvs:List (κ × V)}{vs:List (κ × Value)}(r:KV kvs vs)(k : κ):KV (dropK kvs k) (without vs k):=by
 unfold KV at r ⊢;unfold dropK without
 induction r with
 | nil=>exact .nil
 | @cons p q i j h t d =>
  obtain⟨c,f⟩:=h;rw [cT,cT];by_cases e:p.1=k
  ·have a : ¬decide (p.1≠k)=true:=by simp [e]
   have b : ¬decide (q.1≠k)=true:=by simp [c.symm.trans e]
   rw [if_neg a,if_neg b];exact d
  ·have g : ¬q.1=k:=λz=>e (c.trans z);have a:decide (p.1≠k)=true:=by simp [e]
   have b:decide (q.1≠k)=true:=by simp [g]
   rw [if_pos a,if_pos b];exact .cons ⟨c,f⟩ d
theorem KV.keys{kvs:List (κ × V)}{vs:List (κ × Value)}(r:KV kvs vs):kvs.map (·.1)=vs.map (·.1):=by
 unfold KV at r
 induction r with
 | nil=>rfl
 | cons h t a=>rw [bG,bG,a,h.1]
theorem KV.length{kvs:List (κ × V)}{vs:List (κ × Value)}(r:KV kvs vs):kvs.length=vs.length:=cZ r
theorem oz(kvs:List (κ × V))(k : κ):(dropK kvs k).length<=kvs.length:=bC _ _
end
theorem xE{P:Program}{w:World}{k:Key}{u:Value}(r:RelV (kV k) u):(zY P w).is k u=true:=by
 cases k with
 | inl i=>obtain⟨t,e⟩:=(show ∃t,u=Value.int i t from r);subst e;exact qMa P w i t
 | inr x=>obtain⟨t,e⟩:=(show ∃t,u=Value.str x t from r);subst e;exact qM9 P w x t
theorem kN{P:Program}{w:World}:∀ {a:List Key} {us:List Value},Vals (a.map kV) us->ItemsAre (zY P w) a us
 | [],_,r=>by rw [List.map_nil] at r;cases r;exact .nil
 | k::a,_,r=>by
  rw [bG] at r;cases r with
  | cons h t=>exact .cons (xE h) (kN t)
abbrev KT(H:Hp):List (List Key×V)->List (List Key×Addr×Value)->Prop:=Paired λp q=>p.1=q.1/\H q.2.1=some (.tup (p.1.map kV))/\RelV p.2 q.2.2
theorem KT.val{H:Hp}{kvs:List (List Key×V)}{xs:List (List Key×Addr×Value)}(r:KT H kvs xs)(k:List Key):RelO (valV kvs k) ((atKey xs k).map (·.2)):=by
 induction r with
 | nil=>exact True.intro
 | @cons p q i a h t f =>
  obtain⟨d,_,g⟩:=h;by_cases e:p.1=k
  ·have c:q.1=k:=d.symm.trans e;have b:atKey (q::a) k=some q.2:=by simp [atKey,fM,c]
   rw [yh e,b];exact g
  ·have c : ¬q.1=k:=λz=>e (d.trans z);have b:atKey (q::a) k=atKey a k:=by simp [atKey,fM,c]
   rw [yi e,b];exact f
theorem KT.repl{H:Hp}{kvs:List (List Key×V)}{xs:List (List Key×Addr×Value)}(r:KT H kvs xs)(k:List Key){y:V}{u:Value}(d:RelV y u):KT H (kvs.map λb=>if b.1=k then (b.1,y) else b) (xs.map (putAt k u)):=by
 induction r with
 | nil=>exact .nil
 | @cons p q i j h t f =>
  rw [bG,bG];refine .cons ?_ f;obtain⟨a,c,g⟩:=h;unfold putAt;by_cases e:p.1=k
  ·rw [if_pos e,if_pos (a.symm.trans e)];exact⟨a,c,d⟩
  ·rw [if_neg e,if_neg (λz=>e (a.trans z))];exact⟨a,c,g⟩
theorem KT.put{H:Hp}{kvs:List (List Key×V)}{xs:List (List Key×Addr×Value)}(r:KT H kvs xs)(k:List Key){b:Addr}{y:V}{u:Value}(c:H b=some (.tup (k.map kV)))(a:RelV y u):KT H (putK kvs k y) (storedH xs k b u):=by
 have e:(kvs.any λd=>decide (d.1=k))=(atKey xs k).isSome:=by
  rw [xu,(r.val k).isSome_eq,Option.isSome_map]
 unfold putK storedH;rw [e];by_cases q:(atKey xs k).isSome=true
 ·rw [if_pos q,if_pos q];exact r.repl k a
 ·rw [if_neg q,if_neg q];exact Paired.snoc r ⟨rfl,c,a⟩
theorem KT.keeps{H a:Hp}{kvs:List (List Key×V)}{xs:List (List Key×Addr×Value)}(r:KT H kvs xs)(d:∀b c,H b=some (.tup c)->a b=some (.tup c)):KT a kvs xs:=Paired.mapP r λ_ _ z=>⟨z.1,d _ _ z.2.1,z.2.2⟩
section
variable{P:Program}{w:World}{H:Hp}{h:Heap}{a:Addr}
theorem QA{u:HO}(ok:HOk P w H h)(e:Rd H a u):ObjOk P w H h a u:=e.ok ok
theorem xF{kvs:List (Key×V)}(ok:HOk P w H h)(e:Rd H a (.dK kvs)):kvs.length<=sizeLine/\(a == sysModules)=false /\ ∃vs,KV kvs vs/\h.DictOf (zY P w) a vs:=show ObjOk P w H h a (.dK kvs) from QA ok e
theorem ye{kvs:List (Key×V)}(ok:HOk P w H h)(e:H a=some (.dK kvs)):kvs.length<=sizeLine/\(a == sysModules)=false /\ ∃vs,KV kvs vs/\h.DictOf (zY P w) a vs:=xF ok (.inl e)
theorem xv{b:List Key}(ok:HOk P w H h)(e:H a=some (.tup (b.map kV))):(tupleKind (zY P w)).is h b a:=by
 obtain⟨_,c,r,o,d,f,n,g⟩:=(show ObjOk P w H h a (.tup (b.map kV)) from ok a _ e);exact⟨o,c.toArray,n,d,f,g,by simpa using kN r⟩
theorem xw{kvs:List (List Key×V)}(ok:HOk P w H h)(e:Rd H a (.dT kvs)):kvs.length<=sizeLine/\(a == sysModules)=false /\
  ∃xs,KT H kvs xs/\h.DictOfH (tupleKind (zY P w)) a xs:=by
 obtain⟨z,y,xs,r,o,c,d,f,g,i,j,k⟩:=(show ObjOk P w H h a (.dT kvs) from QA ok e);refine⟨z,y,xs,r,o,c,d,f,g,i,j,λx hx=>?_,k⟩;have all:∀ {l:List (List Key×V)} {m:List (List Key×Addr×Value)},KT H l m -> ∀x∈m,(tupleKind (zY P w)).is h x.1 x.2.1:=by
  intro l m q
  induction q with
  | nil=>intro x hx;exact nomatch hx
  | @cons p q s u b t n =>
   intro x hx;rcases aV.mp hx with e | hx
   ·subst e;exact xv ok (by rw [<-b.1];exact b.2.1)
   ·exact n x hx
 exact all r x hx
theorem QB{kvs:List (List Key×V)}(ok:HOk P w H h)(e:H a=some (.dT kvs)):kvs.length<=sizeLine/\(a == sysModules)=false /\
  ∃xs,KT H kvs xs/\h.DictOfH (tupleKind (zY P w)) a xs:=xw ok (.inl e)
end
def DGet(H:Hp)(a:Addr)(y:V)(r:Option V):Prop:=(∃kvs k,Rd H a (.dK kvs)/\y=kV k/\r=valV kvs k) \/ ∃kvs k b,Rd H a (.dT kvs)/\y = .ref b/\H b=some (.tup (k.map kV))/\r=valV kvs k
def DPut(H:Hp)(a:Addr)(y v:V)(H':Hp):Prop :=
 (∃kvs k,H a=some (.dK kvs)/\y=kV k/\kvs.length<sizeLine/\H'=upd H a (.dK (putK kvs k v))) \/
 ∃kvs k b,H a=some (.dT kvs)/\y = .ref b/\H b=some (.tup (k.map kV))/\kvs.length<sizeLine/\H'=upd H a (.dT (putK kvs k v))
theorem DGet.k{H:Hp}{a:Addr}{kvs:List (Key×V)}{k:Key}(e:H a=some (.dK kvs)):DGet H a (kV k) (valV kvs k) :=.inl ⟨kvs,k,.inl e,rfl,rfl⟩
theorem DGet.t{H:Hp}{a b:Addr}{kvs:List (List Key×V)}{k:List Key}(e:H a=some (.dT kvs))(c:H b=some (.tup (k.map kV))):DGet H a (.ref b) (valV kvs k) :=.inr ⟨kvs,k,b,.inl e,rfl,c,rfl⟩
theorem DPut.k{H:Hp}{a:Addr}{kvs:List (Key×V)}{k:Key}{v:V}(e:H a=some (.dK kvs))(b:kvs.length<sizeLine):DPut H a (kV k) v (upd H a (.dK (putK kvs k v))) :=.inl ⟨kvs,k,e,rfl,b,rfl⟩
theorem DPut.t{H:Hp}{a b:Addr}{kvs:List (List Key×V)}{k:List Key}{v:V}(e:H a=some (.dT kvs))(c:H b=some (.tup (k.map kV)))(d:kvs.length<sizeLine):DPut H a (.ref b) v (upd H a (.dT (putK kvs k v))) :=.inr ⟨kvs,k,b,e,rfl,c,d,rfl⟩
section
variable{X:Cx}{pins:List (Addr×Obj)}{σ : St}{H:Hp}{s:Shared}{a:Addr}{y v:V}{u r:Value}{o:Option V}{A:Around}{E:Value->Shared->Prop}
theorem Inv.big(I:Inv X pins σ H s):sysModules<s.heap.objs.size:=by
 have h:mainGlobals<s.heap.objs.size:=(I.mod.glob.keeps I.bk).lt;exact Nat.lt_trans (by decide) h
theorem qT6{Q:Value->Shared->Prop}(x:A.units+1<cLine)(I:Inv X pins σ H s)(g:DGet H a y (some v))(r:RelV y u)(h:∀f t,Inv X pins σ H t->RelV v f->Q f t):wpAny (model X.prog X.w) A (getItem (.ref a) u) Q E s:=by
 rcases g with ⟨i,k,e,j,l⟩ | ⟨i,k,b,e,j,B,l⟩
 ·subst j;obtain⟨z,C,D,c,m⟩:=xF I.hok e;obtain⟨f,n,d⟩:=RelO.some_of (v:=v) (o:=valueAt D k) (by rw [l];exact c.val k);exact wpAny_getItem_of (xE r) m.mapOf n (h f _ (I.tok _) d)
 ·subst j;cases (show u=Value.ref b from r);obtain⟨z,C,F,c,m⟩:=xw I.hok e;obtain⟨f,n,d⟩:=RelO.some_of (v:=v) (o:=(atKey F k).map (·.2)) (by rw [l];exact c.val k);obtain⟨p,G,q⟩:=Option.map_eq_some_iff.mp n;refine wpAny_getItem_heap (eQ x) (xv I.hok B) m G ?_;rw [q];exact h f _ (I.tok _) d
theorem d_in{Q:Value->Shared->Prop}(p:A.units+1<cLine)(I:Inv X pins σ H s)(g:DGet H a y o)(m:RelV y u)(h:∀n,Inv X pins σ H n->Q (.bool o.isSome) n):wpAny (model X.prog X.w) A (compareOp .In u (.ref a)) Q E s:=by
 rcases g with ⟨d,k,e,f,l⟩ | ⟨d,k,b,e,f,r,l⟩
 ·subst f;obtain⟨z,i,t,c,j⟩:=xF I.hok e;refine wpAny_in_of (xE m) i j.mapOf ?_;rw [<-(c.val k).isSome_eq,<-l];exact h _ (I.tok _)
 ·subst f;cases (show u=Value.ref b from m);obtain⟨z,i,v,c,j⟩:=xw I.hok e;refine wpAny_in_heap (eQ p) (xv I.hok r) i j ?_;have q:=(c.val k).isSome_eq;rw [Option.isSome_map] at q;rw [<-q,<-l];exact h _ (I.tok _)
theorem qXp{Q:Value->Shared->Prop}(p:A.units+1<cLine)(I:Inv X pins σ H s)(g:DGet H a y o)(m:RelV y u)(h:∀n,Inv X pins σ H n->Q (.bool (!o.isSome)) n):wpAny (model X.prog X.w) A (compareOp .NotIn u (.ref a)) Q E s:=by
 rcases g with ⟨d,k,e,f,l⟩ | ⟨d,k,b,e,f,r,l⟩
 ·subst f;obtain⟨z,i,t,c,j⟩:=xF I.hok e;refine wpAny_notIn_of (xE m) i j.mapOf ?_;rw [<-(c.val k).isSome_eq,<-l];exact h _ (I.tok _)
 ·subst f;cases (show u=Value.ref b from m);obtain⟨z,i,v,c,j⟩:=xw I.hok e;refine wpAny_notIn_heap (eQ p) (xv I.hok r) i j ?_;have q:=(c.val k).isSome_eq;rw [Option.isSome_map] at q;rw [<-q,<-l];exact h _ (I.tok _)
theorem xG{h':Heap}{t':Nat}{ob:HO}(I:Inv X pins σ H s)(mu:Mut (H a))(c:Heap.SameBut a s.heap h')(d:∃q,h'.get? a=some q)(new:ObjOk X.prog X.w (upd H a ob) h' a ob):Inv X pins σ (upd H a ob) { s with heap:=h',toks:=t' } :=
 I.write (x:=a) (e:=a) mu (.inl rfl) (λb q f z=>(c.2 b f).trans z) d new
theorem xx{P:Program}{w:World}{c:Hp}{h':Heap}{kvs:List (Key×V)}{vs:List (Key×Value)}(z:kvs.length<=sizeLine)(hd:(a == sysModules)=false)(b:KV kvs vs)(d:h'.DictOf (zY P w) a vs):ObjOk P w c h' a (.dK kvs):=⟨z,hd,vs,b,d⟩
theorem QC{C:Hp}{Q:Unit->Shared->Prop}(M:A.units+1<cLine)(I:Inv X pins σ H s)(g:DPut H a y v C)(D:RelV y u)(F:RelV v r)(h:∀G,Inv X pins σ C G->Q () G):wpAny (model X.prog X.w) A (setItem (.ref a) u r) Q E s:=by
 rcases g with ⟨d,k,e,m,l,n⟩ | ⟨d,k,b,e,m,J,l,n⟩
 ·subst m n;obtain⟨z,o,N,f,p⟩:=ye I.hok e;have t:N.length<=sizeLine:=by rw [<-f.length];exact z
  have x:(putK d k v).length<=sizeLine:=by have:=xW d k v;lia
  refine wpAny_setItem_pairs (hsz:=t) (xE D) p λK i B=>h _ ?_;have O:∃q,K.get? a=some q:=let ⟨q,_,_,j,_⟩:=i;⟨q,j⟩
  exact xG I (by rw [e];exact True.intro) B O (xx x o (f.put k F) i)
 ·subst m n;cases (show u=Value.ref b from D);obtain⟨z,o,P,f,p⟩:=QB I.hok e;have t:P.length<=sizeLine:=by rw [<-cZ f];exact z
  have x:(putK d k v).length<=sizeLine:=by have:=xW d k v;lia
  refine wpAny_setItem_heap (hsz:=t) (eQ M) (xv I.hok J) p λK i B=>h _ ?_;obtain⟨q,R,S,j,T,U,V,_,W⟩:=i;refine xG I (by rw [e];exact True.intro) B ⟨q,j⟩ ⟨x,o,_,(f.put k J F).keeps λc Y L=>?_,q,R,S,j,T,U,V,W⟩;rw [zD (yq L e (λz=>nomatch z))];exact L
end
section
variable{X:Cx}{pins:List (Addr×Obj)}{σ : St}{H:Hp}{s:Shared}{a:Addr}{kvs:List (Key×V)}{k:Key}{u:Value}{A:Around}{E:Value->Shared->Prop}
theorem qZ8{Q:Unit->Shared->Prop}(I:Inv X pins σ H s)(e:H a=some (.dK kvs))(g:RelV (kV k) u)(l:(valV kvs k).isSome=true)(h:∀f,Inv X pins σ (upd H a (.dK (dropK kvs k))) f->Q () f):wpAny (model X.prog X.w) A (delItem (.ref a) u) Q E s:=by
 obtain⟨z,i,j,b,d⟩:=ye I.hok e;refine wpAny_delItem_slot d.typeIs (by decide) PySem.F.slot_dict_delitem
  (call_meetsIn PySem.F.slot_dict_delitem d.typeIs PySem.F.entry_dict_delitem (PySem.F.args_dict_delitem_2 _ _) (meets_dict_delitem_pairs (zY X.prog X.w) a (xE g)) ⟨j,d,by rw [<-b.length];exact z,by rw [<-(b.val k).isSome_eq];exact l,λm c n=>h _ ?_⟩)
 have o:∃q,m.get? a=some q:=let ⟨q,_,_,p,_⟩:=c;⟨q,p⟩
 exact xG I (by rw [e];exact True.intro) n o (xx (bL (oz kvs k) z) i (b.drop k) c)
theorem qZy{v:V}{more:List Value}{Q:Value->Shared->Prop}(I:Inv X pins σ H s)(e:H a=some (.dK kvs))(f:RelV (kV k) u)(l:valV kvs k=some v)(j:more = [] \/ ∃x,more = [x])
  (h:∀c m,Inv X pins σ (upd H a (.dK (dropK kvs k))) m->RelV v c->Q c m):wpAny (model X.prog X.w) A (call (.builtin "dict.pop") (.ref a::u::more)) Q E s:=by
 obtain⟨z,r,n,b,p⟩:=ye I.hok e;obtain⟨c,y,g⟩:=RelO.some_of (v:=v) (o:=valueAt n k) (by rw [<-l];exact b.val k);have B:(keyPart u).isSome=true:=by
  cases k with
  | inl i=>obtain⟨t,q⟩:=(show ∃t,u=Value.int i t from f);subst q;rfl
  | inr x=>obtain⟨t,q⟩:=(show ∃t,u=Value.str x t from f);subst q;rfl
 have C:argsOk "dict.pop" ⟨.ref a::u::more,[]⟩:=by
  rcases j with q | ⟨x,q⟩
  ·subst q;exact PySem.F.args_dict_pop_2 _ _
  ·subst q;exact PySem.F.args_dict_pop_3 _ _ _
 refine call_meetsIn PySem.F.slot_dict_pop p.typeIs PySem.F.entry_dict_pop C (meets_dict_pop_there (zY X.prog X.w) a (xE f) more j B)
  ⟨n,c,p,by rw [<-b.length];exact z,y,λD d G=>h c _ ?_ g⟩
 have J:∃q,D.get? a=some q:=let ⟨q,_,_,K,_⟩:=d;⟨q,K⟩
 exact xG I (by rw [e];exact True.intro) G J (xx (bL (oz kvs k) z) r (b.drop k) d)
end
def NoSl(i:Expr):Prop := ∀ov iv,subscripted i false ov iv=operate [ov,iv] (getItem ov iv)
theorem qWb{prog:Program}{w:World}{A:Around}{E:Value->Shared->Prop}{s:Shared}{env:Env}{a slice:Expr}{k:Pos}{T id:String}{Q:Value->Shared->Prop}
  (m:typeLookup (.type T) "__getitem__" = pure (some (.builtin id))) (n:NoSl slice)
  (h:wpAny (model prog w) A (eval a env) (λo d =>wpAny (model prog w) A (eval slice env) (λi b =>b.TypeIs o T/\wpAny (model prog w) A (getItem o i) Q E b) E d) E s) :
  wpAny (model prog w) A (eval (.Subscript a slice k) env) Q E s:=by
 refine Subscript_ (eM h (λo d g =>eM g (λi b c=>?_) λ_ _ x=>x) λ_ _ x=>x);obtain⟨l,c⟩:=c;unfold subscriptTail;refine aA ?_;rw [getitemInPython_of_ne l.not_modules];refine aA (wpAny_specialOf l m ?_);have f:wpAny (model prog w) A (subscripted slice false o i) (λr e =>wpAny (model prog w) A (letTemporaryGo a o r >>= λ_=>pure r) Q E e) E b :=by
  rw [n o i];exact wpAny_operating (eM c (λr e j =>aA (wpAny_letTemporaryGo (aC j))) λ_ _ x=>x)
 first
  | exact aC (aA f)
  | exact aA (aC (aA f))
  | exact aA f
theorem qMk{X:Cx}{c:List (Addr×Obj)}{σ : St}{H:Hp}{s:Shared}{a:Addr}{y:V}{o:Option V}(I:Inv X c σ H s)(g:DGet H a y o):s.TypeIs (.ref a) "dict" :=by
 rcases g with ⟨d,k,e,_,_⟩ | ⟨d,k,b,e,_,_,_⟩
 ·obtain⟨_,_,h,_,f⟩:=xF I.hok e;exact f.typeIs
 ·obtain⟨_,_,i,_,f⟩:=xw I.hok e;exact f.typeIs
def tDGet(td ty:TE):TE:=λσ H Q=>td σ H λx H1=>ty σ H1 λy H2 => ∃a v,x = .ref a/\DGet H2 a y (some v)/\Q v H2
def tDIn(ty td:TE):TE:=λσ H Q=>ty σ H λy H1=>td σ H1 λx H2 => ∃a o,x = .ref a/\DGet H2 a y o/\Q (.bl o.isSome) H2
def QD(ty td:TE):TE:=λσ H Q=>ty σ H λy H1=>td σ H1 λx H2 => ∃a o,x = .ref a/\DGet H2 a y o/\Q (.bl (!o.isSome)) H2
def sDPut(td ty tv:TE):TS:=λD σ H=>tv σ H λv H1=>td σ H1 λx H2=>ty σ H2 λy H3 => ∃a H4,x = .ref a/\DPut H3 a y v H4/\D.nx σ H4
section
variable{X:Cx}{o i e value:Expr}{pos pos' tpos:Pos}{td ty tv:TE}
theorem xy(e:X.A.units+1<cLine)(f:PE X o td)(hi:PE X i ty)(j:NoSl i):PE X (.Subscript o i pos) (tDGet td ty):=by
 intro b s σ H Q I h;refine qWb PySem.F.slot_dict_getitem.lookup j (thn (f b s σ H _ I h) λu k hq_=>?_);obtain⟨x,l,m,n,p⟩:=hq_;refine thn (hi b k σ l _ m p) λB C hq_=>?_;obtain⟨y,q,d,r,a,v,t,g,w⟩:=hq_;subst t;obtain rfl:u=Value.ref a:=n;exact⟨qMk d g,qT6 e d g r λD E z c=>⟨v,q,z,c,w⟩⟩
theorem QE(c:X.A.units+1<cLine)(hi:PE X i ty)(d:PE X o td):PC X .In i o (tDIn ty td):=by
 intro b s σ H Q I h;refine thn (hi b s σ H _ I h) λw e hq_=>?_;obtain⟨y,f,j,k,l⟩:=hq_;refine thn (d b e σ f _ j l) λu z hq_=>?_;obtain⟨x,m,n,p,a,q,r,g,t⟩:=hq_;subst r;obtain rfl:u=Value.ref a:=p;exact d_in c n g k λB v=>⟨.bl q.isSome,m,v,rfl,t⟩
theorem kO(c:X.A.units+1<cLine)(hi:PE X i ty)(d:PE X o td):PC X .NotIn i o (QD ty td):=by
 intro b s σ H Q I h;refine thn (hi b s σ H _ I h) λw e hq_=>?_;obtain⟨y,f,j,k,l⟩:=hq_;refine thn (d b e σ f _ j l) λu z hq_=>?_;obtain⟨x,m,n,p,a,q,r,g,t⟩:=hq_;subst r;obtain rfl:u=Value.ref a:=p;exact qXp c n g k λB v=>⟨.bl (!q.isSome),m,v,rfl,t⟩
theorem xX(c:X.A.units+1<cLine)(d:PE X o td)(hi:PE X i ty)(e:PE X value tv)(f:swapsWith value (some (.Subscript o i pos')) pos.line X.env=pure false):PS X (.Assign [.Subscript o i pos'] value pos) (sDPut td ty tv):=by
 intro b s σ H D I h;refine wpAny_Assign_Subscript (thn (e b s σ H _ I h) λr j hq_=>?_) f;obtain⟨v,k,l,m,n⟩:=hq_;refine thn (d b j σ k _ l n) λu p hq_=>?_;obtain⟨x,q,t,w,z⟩:=hq_;refine thn (hi b p σ q _ t z) λK L hq_=>?_;obtain⟨y,M,B,C,a,E,F,g,G⟩:=hq_;subst F;obtain rfl:u=Value.ref a:=w;exact QC c B g C m λN J=>⟨σ,E,J,G⟩
end
theorem uL{P:Program}{w:World}{H:Hp}(h:Heap)(a:sysModules<h.objs.size):ObjOk P w H (h.push { cls :=.type "dict",data :=.dict #[] }) h.objs.size (.dK []):=⟨bB _,beq_eq_false_iff_ne.mpr (dF (bD a)),[],.nil,Heap.DictOf.new h⟩
theorem qV1{P:Program}{w:World}{H:Hp}(h:Heap)(a:sysModules<h.objs.size):ObjOk P w H (h.push { cls :=.type "dict",data :=.dict #[] }) h.objs.size (.dT []):=⟨bB _,beq_eq_false_iff_ne.mpr (dF (bD a)),[],.nil,_,#[],0,aT _ rfl,⟨rfl,rfl,rfl⟩,rfl,rfl,List.nodup_nil⟩
def kP:TE:=λ_ H Q => ∀p,H p=none->Q (.ref p) (upd H p (.dK []))
def qXy:TE:=λ_ H Q => ∀p,H p=none->Q (.ref p) (upd H p (.dT []))
section
variable{X:Cx}{pos:Pos}
theorem wX:PE X (.Dict [] [] pos) kP:=λb s σ H Q I h =>
 wpAny_Dict_empty ⟨.ref s.heap.objs.size,_,I.laid (a:=s.heap.objs.size) (o :=.dK []) (t':=s.toks) (λ_ _ q=>aG _ q) (aF _) (uL s.heap I.big),rfl,h _ (I.hok.fresh (aF _))⟩
theorem kQ:PE X (.Dict [] [] pos) qXy:=λb s σ H Q I h =>
 wpAny_Dict_empty ⟨.ref s.heap.objs.size,_,I.laid (a:=s.heap.objs.size) (o :=.dT []) (t':=s.toks) (λ_ _ q=>aG _ q) (aF _) (qV1 s.heap I.big),rfl,h _ (I.hok.fresh (aF _))⟩
end
def xz:List (TE×TE)->St->Hp->(List (V×V)->Hp->Prop)->Prop
 | [],_,H,Q=>Q [] H
 | (tk,tv)::r,σ,H,Q=>tk σ H λx H1=>tv σ H1 λy H2=>xz r σ H2 λps H3=>Q ((x,y)::ps) H3
abbrev VV:List (V×V)->List (Value×Value)->Prop:=Paired λp q=>RelV p.1 q.1/\RelV p.2 q.2
def PPs(X:Cx)(pos:Pos)(keys:List (Option Expr))(values:List Expr)(trs:List (TE×TE)):Prop :=
 ∀(pins:List (Addr×Obj)) (s:Shared) (σ : St) (H:Hp) (Q:List (V×V)->Hp->Prop),Inv X pins σ H s->xz trs σ H Q ->
  wpAny (model X.prog X.w) X.A (evalPairs (pairTrees keys values X.env pos)) (λvs s' => ∃ps H',Inv X pins σ H' s'/\VV ps vs/\Q ps H') X.xe s
theorem qWx{X:Cx}{a:Pos}:PPs X a [] [] []:=λb s σ H Q I h=>pairTrees_nil_walk ⟨[],H,I,.nil,h⟩
theorem qU9{X:Cx}{b:Pos}{k v:Expr}{e:List (Option Expr)}{vs:List Expr}{tk f:TE}{c:List (TE×TE)}(g:PE X k tk)(i:PE X v f)(j:PPs X b e vs c):PPs X b (some k::e) (v::vs) ((tk,f)::c):=λa s σ H Q I h =>
 pairTrees_cons_walk (thn (g a s σ H _ I h) λu l ⟨x,m,n,o,p⟩=>thn (i a l σ m _ n p) λE q ⟨y,r,t,w,z⟩ =>
  thn (j a q σ r _ t z) λF G ⟨A,B,C,d,D⟩=>⟨(x,y)::A,B,C,.cons ⟨o,w⟩ d,D⟩)
def yj(kvs more:List (Key×V)):List (Key×V):=more.foldl (λacc kv=>putK acc kv.1 kv.2) kvs
theorem KV.merge:∀ {more:List (Key×V)} {a:List (Key×Value)} {kvs:List (Key×V)} {vs:List (Key×Value)},KV more a->KV kvs vs->KV (yj kvs more) (merged vs a):=by
 intro more a kvs vs r;unfold KV at r
 induction r generalizing kvs vs with
 | nil=>intro q;exact q
 | @cons p q d f h t b =>
  intro c;have e:KV (putK kvs p.1 p.2) (stored vs q.1 q.2):=by
   have:=c.put p.1 h.2;rw [<-h.1];exact this
  exact b e
theorem kR:∀(more kvs:List (Key×V)),(yj kvs more).length<=kvs.length+more.length
 | [],kvs=>by show kvs.length<=kvs.length+0;lia
 | p::r,kvs=>by
  have a:=kR r (putK kvs p.1 p.2);have b:=xW kvs p.1 p.2;show (yj (putK kvs p.1 p.2) r).length<=_;rw [bY];lia
theorem QF{P:Program}{w:World}:∀ {kvs:List (Key×V)} {e:List (Value×Value)},VV (kvs.map λf=>(kV f.1,f.2)) e -> ∃d,Carries (zY P w) e d/\KV kvs d
 | [],_,r=>by rw [List.map_nil] at r;cases r;exact⟨[],True.intro,.nil⟩
 | p::kvs,_,r=>by
  rw [bG] at r;cases r with
  | @cons a b as bs h t =>
   obtain⟨d,c,q⟩:=QF (P:=P) (w:=w) t;obtain⟨i,g⟩:=b;exact⟨(p.1,g)::d,⟨xE h.1,rfl,c⟩,.cons ⟨rfl,h.2⟩ q⟩
def tDisp(trs:List (TE×TE)):TE:=λσ H Q => ∀p,H p=none->xz trs σ (upd H p (.dK [])) λps H2=>H2 p=some (.dK []) /\ ∃kvs:List (Key×V),ps=kvs.map (λkv=>(kV kv.1,kv.2))/\kvs.length<=15/\Q (.ref p) (upd H2 p (.dK (yj [] kvs)))
theorem qWz{X:Cx}{d:Pos}{keys:List (Option Expr)}{b:List Expr}{f:List (TE×TE)}(h:PPs X d keys b f)(g:keys.all (·.isSome)=true)(p:keys.length=b.length)(r:keys ≠ [])(l:keys.length<=15):PE X (.Dict keys b d) (tDisp f):=by
 intro i s σ H Q I q;have t:=I.hok.fresh (aF s.heap.objs.size);have u:=I.laid (a:=s.heap.objs.size) (o :=.dK []) (h':=s.heap.push { cls :=.type "dict",data :=.dict #[] }) (t':=s.toks) (λ_ _ q=>aG _ q) (aF _) (uL s.heap I.big);refine wpAny_Dict_walk (knd:=zY X.prog X.w) g p r l (thn (h i _ σ _ _ u (q _ t)) λM N hq_=>?_);obtain⟨O,R,n,m,e,j,v,S,x⟩:=hq_;subst v;obtain⟨y,c,A⟩:=QF (P:=X.prog) (w:=X.w) m;obtain⟨z,B,C,D,E⟩:=ye n.hok e;cases D;refine⟨y,c,E,λh' k F=>⟨.ref s.heap.objs.size,_,?_,rfl,x⟩⟩;have G:(yj [] j).length<=sizeLine:=by
  have J:=kR j [];rw [List.length_nil] at J;rw [dX];lia
 have K:∃q,h'.get? s.heap.objs.size=some q:=let ⟨q,_,_,L,_⟩:=k;⟨q,L⟩
 exact xG n (by rw [e];exact True.intro) F K (xx G B (A.merge .nil) k)
structure M1(X:Cx)(o:Expr)(m:Str)(apos:Pos)(e:Expr)(cpos:Pos):Prop where
 base:attributeBase o m X.env (eval o X.env)=eval o X.env
 few:((backTo cpos (starEach [e] X.env)).all (λx => !x.1)&&(backToKw cpos (keywordEach [] X.env)).all (λx=>x.1.isSome)
  && decide (([e]:List Expr).length+([]:List Keyword).length+(if ([]:List Keyword).isEmpty then 0 else 1)<30))=true
 line:(apos.endLine == cpos.line)=true
 trees:backTo cpos (starEach [e] X.env) = [(false,eval e X.env)]
structure M2(X:Cx)(o:Expr)(m:Str)(apos:Pos)(e f:Expr)(cpos:Pos):Prop where
 base:attributeBase o m X.env (eval o X.env)=eval o X.env
 few:((backTo cpos (starEach [e,f] X.env)).all (λx => !x.1)&&(backToKw cpos (keywordEach [] X.env)).all (λx=>x.1.isSome)
  && decide (([e,f]:List Expr).length+([]:List Keyword).length+(if ([]:List Keyword).isEmpty then 0 else 1)<30))=true
 line:(apos.endLine == cpos.line)=true
 trees:backTo cpos (starEach [e,f] X.env) = [(false,eval e X.env),(false,eval f X.env)]
def IsD(H:Hp)(a:Addr):Prop:=(∃kvs,Rd H a (.dK kvs)) \/ ∃kvs,Rd H a (.dT kvs)
theorem kS{X:Cx}{c:List (Addr×Obj)}{σ : St}{H:Hp}{s:Shared}{a:Addr}(I:Inv X c σ H s)(d:IsD H a):s.TypeIs (.ref a) "dict" /\ (∀b,Value.ref a = .ref b -> ∃ob,s.heap.get? b=some ob/\ob.dict=none)/\(a == sysModules)=false:=by
 rcases d with ⟨g,e⟩ | ⟨g,e⟩
 ·obtain⟨_,h,k,_,f⟩:=xF I.hok e;refine⟨f.typeIs,λb q=>?_,h⟩;cases q;obtain⟨ob,_,_,i,j,_⟩:=f;exact⟨ob,i,j.2.1⟩
 ·obtain⟨_,h,l,_,f⟩:=xw I.hok e;refine⟨f.typeIs,λb q=>?_,h⟩;cases q;obtain⟨ob,_,_,i,j,_⟩:=f;exact⟨ob,i,j.2.1⟩
section
variable{X:Cx}{pins:List (Addr×Obj)}{σ : St}{H:Hp}{s:Shared}{a:Addr}{y d:V}{u r:Value}{o:Option V}{A:Around}{E:Value->Shared->Prop}
theorem qZ7{Q:Value->Shared->Prop}(t:A.units+1<cLine)(I:Inv X pins σ H s)(g:DGet H a y o)(n:RelV y u)(rd:RelV d r)(h:∀p q,Inv X pins σ H q->RelV (o.getD d) p->Q p q):wpAny (model X.prog X.w) A (call (.builtin "dict.get") [.ref a,u,r]) Q E s:=by
 rcases g with ⟨i,k,e,j,l⟩ | ⟨i,k,b,e,j,v,l⟩
 ·subst j;obtain⟨z,m,B,c,f⟩:=xF I.hok e;refine call_meetsIn PySem.F.slot_dict_get f.typeIs PySem.F.entry_dict_get (PySem.F.args_dict_get_3 _ _ _) (meets_dict_get_default (zY X.prog X.w) a (xE n) m r) ⟨_,f.mapOf,h _ _ (I.tok _) ?_⟩;rw [l];exact (c.val k).getD rd
 ·subst j;cases (show u=Value.ref b from n);obtain⟨z,m,x,c,f⟩:=xw I.hok e;refine call_meetsIn PySem.F.slot_dict_get f.typeIs PySem.F.entry_dict_get (PySem.F.args_dict_get_3 _ _ _) (meetsH_dict_get_default (tupleKind (zY X.prog X.w)) a b m r) ⟨eQ t,k,x,xv I.hok v,f,h _ _ (I.tok _) ?_⟩;rw [l];exact (c.val k).getD rd
end
def QG(td ty tx:TE):TE:=λσ H Q=>td σ H λx H1 => ∃a,x = .ref a/\IsD H1 a/\ty σ H1 λy H2=>tx σ H2 λz H3 => ∃o,DGet H3 a y o/\Q (o.getD z) H3
def QH(td ty:TE):TE:=λσ H Q=>td σ H λx H1 => ∃a,x = .ref a/\IsD H1 a/\ty σ H1 λy H2 => ∃kvs k v,H2 a=some (.dK kvs)/\y=kV k/\valV kvs k=some v/\Q v (upd H2 a (.dK (dropK kvs k)))
section
variable{X:Cx}{o e f:Expr}{apos cpos:Pos}{td ty tx:TE}
theorem QI(j:X.A.units+1<cLine)(k:PE X o td)(l:PE X e ty)(n:PE X f tx)(m:M2 X o "get" apos e f cpos):PE X (.Call (.Attribute o "get" apos) [e,f] [] cpos) (QG td ty tx):=by
 intro b s σ H Q I h;refine wpAny_Call_method m.base m.few m.line eV PySem.F.slot_dict_get PySem.F.type_dict_get (thn (k b s σ H _ I h) λu p hq_=>?_);obtain⟨x,q,i,r,a,t,d,v⟩:=hq_;subst t;obtain rfl:u=Value.ref a:=r;obtain⟨w,B,_⟩:=kS i d;refine⟨w,B,?_⟩;rw [m.trees];refine fB rfl (gI (fE (thn (l b p σ q _ i v) λP C hq_=>?_)));obtain⟨y,D,E,G,J⟩:=hq_;refine fE (thn (n b C σ D _ E J) λR S hq_=>?_);obtain⟨z,K,L,M,T,g,N⟩:=hq_;refine Calls.spliced_nil ?_;exact qZ7 j L g G M λU V O c=>⟨_,K,O,c,N⟩
theorem QJ(g:PE X o td)(i:PE X e ty)(m:M1 X o "pop" apos e cpos):PE X (.Call (.Attribute o "pop" apos) [e] [] cpos) (QH td ty):=by
 intro b s σ H Q I h;refine wpAny_Call_method m.base m.few m.line eV PySem.F.slot_dict_pop PySem.F.type_dict_pop (thn (g b s σ H _ I h) λu j hq_=>?_);obtain⟨x,n,f,p,a,q,d,r⟩:=hq_;subst q;obtain rfl:u=Value.ref a:=p;obtain⟨t,w,_⟩:=kS f d;refine⟨t,w,?_⟩;rw [m.trees];refine fB rfl (gI (fE (thn (i b j σ n _ f r) λJ K hq_=>?_)));obtain⟨y,L,z,A,B,k,v,C,D,l,E⟩:=hq_;refine Calls.spliced_nil ?_;subst D;exact qZy z C A l (.inl rfl) λM N G c=>⟨v,_,G,c,E⟩
end
end L2
namespace Att
open PySem PySem.W PySem.Calls PyProof.Rows
theorem qH2{P:Params}{h:Heap}:∀(ns:List Int) (vs:List Value),WellAll P h vs (ns.map WData.int)->IntsAre vs ns:=by
 intro ns
 induction ns with
 | nil =>
  intro vs w;rw [List.map_nil] at w;cases w;exact .nil
 | cons n ns c =>
  intro vs w;rw [bG] at w;cases w with
  | cons a b =>
   cases a;exact .cons _ _ (c _ b)
theorem qQc{l:OpenLaw}{n:Nat}(m:l.most=some n){P:Params}{h:Heap}{args:List WData}{vals:List Value}(b:l.row.toRowW.claim.pre args=true)(i:WellAll P h vals args):∃a vs ns,vals = [Value.ref a]/\args = [WData.list (ns.map WData.int)]/\h.get? a=some { cls :=.type "list",data :=.seq vs.toArray }/\IntsAre vs ns/\ns.length<=n:=by
 have j:WShape.hasAll [] args [.list .int]=true:=(pre_splitW b).1;have k:l.pre.holds [] { args:=args }=true:=(pre_splitW b).2;obtain⟨d,r,rfl,o,p⟩:=hasAllW_cons j;obtain rfl:=hasAllW_nil p;obtain⟨w,rfl,s⟩:=hasW_list o;obtain⟨ns,rfl⟩:=items_int s;have c:ns.length<=n:=by
  unfold OpenLaw.pre at k;have f:(WTm.not (.lt (.lit (.int (n:Int))) (.len (.arg 0)))).holds [] { args :=[.list (ns.map .int)] }=true:=by
   have f:=(holds_andW k).1;rw [m] at f;exact f
  have g:=condW_of f (w_not (w_lt w_lit (w_len_list (w_arg rfl))));rw [aB] at g;refine Nat.le_of_not_lt λq=>?_;have t:(n:Int)<((ns.length:Nat):Int):=by lia
  first
   | (rw [decide_eq_true t] at g;exact absurd g (by decide))
   | (simp at g;lia)
 cases i with
 | cons w1 u =>
  cases u;cases w1 with
  | list v e=>exact⟨_,_,ns,rfl,rfl,v,qH2 ns _ e,c⟩
theorem qRe(l:OpenLaw)(args:List WData):l.row.toRowW.claim.post args (.bool true) args=true :=
 postW_of (r:=l.row.toRowW) (X:=(true == true))
  (show WShape.has [] (.bool true) .bool=true by first | rfl | decide | simp [WShape.has,WShape.arms,WShape.armsAll])
  (show (WTm.eq .res (.lit (.bool true))).value [] { args:=args,res:=some (.bool true),after:=args }=some (.bool (true == true)) from w_eq_bool (w_res rfl) w_lit) rfl
theorem attach_call{l:OpenLaw}{n:Nat}{q:Program}{c:List Str}{y:(Str->Option Value)->Heap->Prop}{z:World->Heap->Prop}{d:DefRec}(D:l.most=some n)(p:d.params.defaults = [])(call:∀(w:World) (s₀ b : Shared) (mg s:Str->Option Value) (g:Addr) (o:Obj) (t k doc:Value) (a:Addr) (vs:List Value) (ns:List Int),
   Ground q c [] y w s₀ mg s b.heap->z w b.heap ->
   b.heap.get? g=some o->o.data = .func (docDef d.name d.params d.body d.scope t k doc)->b.heap.CodeRec k d.name->mg d.name=some (.ref g) ->
   b.heap.get? a=some { cls :=.type "list",data :=.seq vs.toArray }->IntsAre vs ns->ns.length<=n->b.gens = #[] ->
   codeAny (model l.prog w) callerA (.call (.ref g) ⟨[.ref a],[]⟩) (λr m=>r = .ok (.ret (.bool true))/\OldK b.heap m.heap/\m.os=b.os/\AllBare m.gens) b) :
  WalkO q c y z l.row.toRowW d [] (λf vs=>PySem.call f vs):=by
 intro w s₀ b mg s G Y g o t k doc E kV F H u A v I B vals Q h C J x K;obtain rfl:E = .none:=Dflts.none A p;obtain rfl:kV = .none:=Dflts.noKw A;obtain⟨a,vs,ns,rfl,rfl,i,e,j⟩:=qQc D h x;refine enter_call (gX (call w s₀ b mg s g o t k doc a vs ns G Y F (fd_plain H) u v i e j I) λr m L=>?_);obtain⟨rfl,M,N,O⟩:=L;exact⟨.inl ⟨.bool true,.bool true,[],rfl,λ_=>rfl,.bool true,qRe l _,λ_=>⟨List.Pairwise.nil,λ_ P=>(nomatch P)⟩⟩,M,N,O⟩
end Att
namespace L2
open PySem PySem.Spec PyProof.Rows
theorem uM{vs:List Value}{ns:List Int}(h:IntsAre vs ns):Vals (ns.map V.int) vs:=by
 induction h with
 | nil=>exact .nil
 | cons n t _ a=>exact .cons ⟨t,rfl⟩ a
def Only(H:Hp):Prop := ∀b,H b=none \/ ∃o xs,H b=some (.frz o (.lst xs))
theorem qUu{P:Program}{w:World}{K:PySem.W.Frag}{mg L:Str->Option Value}{CX:CXT}{k:Nat}{M a:Addr}{fd:FuncData}{x:Str}{sp:Sp}{c : Shared}{vs:List Value}{ns:List Int}
  (U:K.In c.heap) (t:c.heap.Ns mainGlobals mg) (f:c.heap.Ns builtinsNs L) (N:∀x:Str,x ≠ "__name__" -> L x=bootBuiltins x) (y:c.heap.NoLimit) (hg:c.gens = #[])
  (J:c.heap.get? a=some { cls :=.type "list",data :=.seq vs.toArray }) (X:IntsAre vs ns) (Y:ns.length<=sizeLine) (hr:Room k callerA)
  (F:∀g:Heap,K.In g->g.Ns mainGlobals mg->FnOk P w K mg g CX k M fd [x] sp) (p:∀(s:Shared) (u:Value),BindsTo s fd ⟨[u],[]⟩ [(x,u)])
  (O:∀H:Hp,Only H->SqL K H a (ns.map V.int)->sp [.ref a] H (λv _=>v = .bl true) λ_ _ _=>False)
  (Q:∀H e i,CX [] H c (λ_ _ _=>False) e i->False) :
  codeAny (model P w) callerA (.call (.ref M) ⟨[.ref a],[]⟩) (λr i=>r = .ok (.ret (.bool true))/\OldK c.heap i.heap/\i.os=c.os/\AllBare i.gens) c :=by
 have Z:=uM X;have A:=X.length;have l:∀H:Hp,Only H->SqL K H a (ns.map V.int)->HOk P w H c.heap->(∀b,H b≠none->b=a)->(H a≠none->K.lookup a=none) ->
   codeAny (model P w) callerA (.call (.ref M) ⟨[.ref a],[]⟩) (λr i=>r = .ok (.ret (.bool true))/\OldK c.heap i.heap/\i.os=c.os/\AllBare i.gens) c :=by
  intro H hO hS B hA hK;have base_of:∀ {b:Addr} {o:Obj},c.heap.get? b=some o->H b=none->(hidT c.heap H).get? b=some o:=λe n=>qUw e n;have R:∀ {b:Addr} {o:Obj} {C:Array DictEntry} {D:Nat},c.heap.get? b=some o->o.data = .dict C D->H b=none:=λ{b o C D} e d=>by
   cases q:H b with
   | none=>rfl
   | some u =>
    have S:b=a:=hA b (by rw [q];simp);subst S;rw [J] at e;cases e;have d':Data.seq vs.toArray _=Data.dict C D:=d;cases d'
  have j:∀ {b:Addr} {m:Str->Option Value},c.heap.Ns b m->(hidT c.heap H).Ns b m:=λ{b m} ⟨o,C,D,e,d,r⟩=>⟨o,C,D,base_of e (R e d),d,r⟩
  have E:K.In (hidT c.heap H):=λb o e=>base_of (U b o e) (by
   cases q:H b with
   | none=>rfl
   | some u =>
    have S:b=a:=hA b (by rw [q];simp);subst S
    rw [hK (by rw [q];simp)] at e;cases e)
  have hM:Mod K mg (hidT c.heap H):=⟨E,j t,⟨L,j f,N⟩,let ⟨mc,h1,h2⟩:=y;⟨mc,j h1,h2⟩⟩;have e0:Env0 P w K mg (hidT c.heap H) callerA [] c H:=⟨rfl,hM,λb o e=>qXe e,Nat.le_of_eq (qSr _ _),trivial,λb f=>absurd (show b∈([]:List Addr) from f) (by simp),B,.of_eq hg⟩;refine gX ((F _ E (j t)).run callerA [] c H ⟨[.ref a],[]⟩ [.ref a] [.ref a] _ _ hr e0 (p c (.ref a)) (.cons rfl .nil) (O H hO hS)) λr i h=>?_;cases r with
  | error e=>exact (Q H e i h).elim
  | ok fl =>
   cases fl with
   | next=>exact False.elim h
   | brk=>exact False.elim h
   | cont=>exact False.elim h
   | ret u =>
    obtain⟨v,H',os,bare,un,G,r',q⟩:=h;have q':v = .bl true:=q;subst q';obtain rfl:u=Value.bool true:=r';refine⟨rfl,OldK.of_keep λb o e=>?_,os,bare⟩;cases q:H b with
    | none=>exact un.keep b o e q (by intro z;exact absurd (show b∈([]:List Addr) from z) (by simp)) (by simp)
    | some u =>
     rcases hO b with z | ⟨ob,xs,z⟩
     ·rw [q] at z;cases z
     ·have z2:=un.frzs b ob _ z;obtain⟨e1,_⟩:=B b _ z;obtain⟨e2,_⟩:=G b _ z2;rw [e] at e1;cases e1;exact e2
 cases T:K.lookup a with
 | some o =>
  have e:=U a o T;rw [J] at e;cases e;refine l (λ_=>none) (λ_ =>.inl rfl) (.inr ⟨_,vs.toArray,_,T,rfl,rfl,rfl,by rw [aR,A];exact Y,by simpa using Z⟩) (λb u z=>by have I:(none:Option HO)=some u:=z;cases I) (λb z=>absurd rfl z) λz=>absurd rfl z
 | none =>
  refine l (λb=>if b=a then some (.frz { cls :=.type "list",data :=.seq vs.toArray } (.lst (ns.map V.int))) else none) (λb=>?_) (.inl (.inr ⟨{ cls :=.type "list",data :=.seq vs.toArray },if_pos rfl⟩)) (λb u z=>?_) (λb z=>?_) λ_=>T
  ·by_cases f:b=a
   ·exact .inr ⟨_,_,if_pos f⟩
   ·exact .inl (if_neg f)
  ·by_cases f:b=a
   ·have I:=(if_pos f).symm.trans z;cases I;subst f;exact⟨J,by rw [aB];exact Y,vs,_,Z,J⟩
   ·have I:=(if_neg f).symm.trans z;cases I
  ·by_cases f:b=a
   ·exact f
   ·exact absurd (if_neg f) z
theorem qW6{l:PySem.W.OpenLaw}{n k:Nat}{q:Program}{i:List Str}{J:(Str->Option Value)->Heap->Prop}{D:World->Heap->Prop}{d:DefRec}{K:Params->PySem.W.Frag}{CX:World->CXT}{sp:World->Sp}{x:Str}(L:l.most=some n)(t:n<=sizeLine)(y:d.params.defaults = [])(M:Room k callerA)(N:∀(w:World) (h:Heap),D w h->(K w.params).In h)(F:∀(w:World) (mg:Str->Option Value) (r:Addr) (h:Heap),(K w.params).In h->h.Ns mainGlobals mg->mg d.name=some (.ref r) ->
   ∃fd:FuncData,(∀(s:Shared) (u:Value),BindsTo s fd ⟨[u],[]⟩ [(x,u)]) /\
    ∀base:Heap,(K w.params).In base->base.Ns mainGlobals mg->FnOk l.prog w (K w.params) mg base (CX w) k r fd [x] (sp w))
  (z:∀(w:World) (H:Hp) (a:Addr) (ns:List Int),ns.length<=n->Only H->SqL (K w.params) H a (ns.map V.int)->sp w [.ref a] H (λv _=>v = .bl true) λ_ _ _=>False)
  (A:∀(w:World) (H:Hp) (s:Shared) (e:Value) (B:Shared),CX w [] H s (λ_ _ _=>False) e B->False) :
  PySem.W.WalkO q i J D l.row.toRowW d [] (λf vs=>PySem.call f vs):=by
 refine Att.attach_call L y λw E m mg X r o Z cd doc a vs ns G Y ho hd O C p j c P=>?_;have I:=N w _ Y;obtain⟨fd,Q,R⟩:=F w mg r _ I G.T.g C;exact qUu I G.T.g G.T.b G.T.builtins G.T.nolimit P p j (bL c t) M R Q (λH S U=>z w H a ns c S U) λH e B=>A w H m e B
def xO(s:Stmt):Arguments:=match s with
 | .FunctionDef _ a _ _ _ _ _ _ _ _=>a
 | _ =>{ posonlyargs :=[],args :=[],vararg:=none,kwonlyargs :=[],kw_defaults :=[],kwarg:=none,defaults :=[] }
def xH(s:Stmt):List Stmt:=match s with
 | .FunctionDef _ _ b _ _ _ _ _ _ _=>b
 | _ =>[]
def zU(s:Stmt):Scope:=match s with
 | .FunctionDef _ _ _ _ _ _ sc _ _ _=>sc
 | _ =>{ kind :=.function,names :=[],isGenerator:=false,isCoroutine:=false }
abbrev CX0:CXT:=λ_ _ _ _ _ _=>False
abbrev E0:XK:=λ_ _ _=>False
theorem pass0{X:Cx}:kK CX0 X E0:=λ_ _ _ _ _ _ _ h=>h.elim
structure Fun(K:PySem.W.Frag)(x qual:Str)(st:Stmt)(f:Addr)(fd:FuncData):Prop where
 ex:∃(oc:Value) (od:Option Addr) (kV doc pm:Value) (an:Option Addr) (cdv ct:Value) (osl:Array (Option Value)),
  fd=PySem.W.fnOf x qual (xO st) (xH st) (zU st) .none kV doc pm an cdv ct/\K.lookup f=some ⟨oc,od,.func fd,osl⟩/\PySem.W.codeIn K cdv qual=true
 kp:PySem.W.keepIn K (.ref f)=true
section
variable{P:Program}{w:World}{K:PySem.W.Frag}{mg:Str->Option Value}{base:Heap}
theorem Fun.ok{x a:Str}{st:Stmt}{f:Addr}{fd:FuncData}{N ps:List Str}{k:Nat}{sp:Sp}(F:Fun K x a st f fd)(S:FnScope N ps (zU st))(len:∀vs H Q E,sp vs H Q E->vs.length=ps.length)(c:∀(b:Value) (A:Around) (outer:List Env) (s:Shared) (H:Hp) (vs:List V) (Q:VK) (E:XK),Room k (A.deeper (envOfC a (zU st) s.heap.objs.size f b))->sp vs H Q E ->
   ∃t,PSs (cxOf CX0 P w K mg base N a (zU st) f b A outer s H E).nox (xH st) t/\t { nx:=λ_ g=>Q .non g,rt:=Q } (start N vs) H):FnOk P w K mg base CX0 (k+1) f fd ps sp:=by
 obtain⟨m,n,kV,doc,o,p,b,r,i,rfl,j,d⟩:=F.ex;refine qZx j d S len λA outer s H vs Q E l e=>?_;obtain⟨t,h,q⟩:=c b A outer s H vs Q E l e;exact⟨t,h.nox,q⟩
theorem Fun.binds{x a:Str}{st:Stmt}{f:Addr}{fd:FuncData}{ps:List Str}(F:Fun K x a st f fd)(h:∀(kV doc c:Value) (d:Option Addr) (b ct:Value) (us:List Value),us.length=ps.length->bindArgs (PySem.W.fnOf x a (xO st) (xH st) (zU st) .none kV doc c d b ct) ⟨us,[]⟩=pure (ps.zip us)):Binds K fd ps []:=by
 obtain⟨i,j,kV,doc,c,d,b,ct,e,rfl,k,g⟩:=F.ex;exact .all (h kV doc c d b ct)
theorem QK{x a:Str}{st:Stmt}{f:Addr}{h:Value}{i e:Option Addr}{d:Array (Option Value)}{kV doc g b ct:Value}(l:K.lookup f=some ⟨h,i,.func (PySem.W.fnOf x a (xO st) (xH st) (zU st) .none kV doc g e b ct),d⟩)(c:PySem.W.codeIn K b a=true)(k:PySem.W.keepIn K (.ref f)=true):Fun K x a st f (PySem.W.fnOf x a (xO st) (xH st) (zU st) .none kV doc g e b ct):=⟨⟨h,i,kV,doc,g,e,b,ct,d,rfl,l,c⟩,k⟩
end
theorem yW{A:Around}{k:Nat}(a:Room k A):A.units+1<cLine:=Nat.lt_of_le_of_lt (Nat.add_le_add_left (by decide:1<=64) _) a.units
theorem zZ{n:Nat}(h:n<=1000):n<sizeLine:=Nat.lt_of_le_of_lt h (by decide)
section
variable{X:Cx}
theorem pv(i:Nat){x:Str}{a:Pos}(c:X.N[i]? = some x:=by rfl)(d:Vis X.env.scope x:=by first | exact Or.inl rfl | exact Or.inr (Or.inl rfl) | exact Or.inr (Or.inr rfl))(e:(x == ("__debug__" : Str))=false:=by decide)
  (b:(x == ("__classdict__" : Str))=false:=by decide):PE X (.Name x a) (tVar i):=qYs c d e b
end
theorem iteF{A B:Prop}(h:B):if false=true then A else B:=by
 rw [if_neg aL];exact h
theorem iteT{A B:Prop}(h:A):if true=true then A else B:=by
 rw [if_pos rfl];exact h
theorem ite2{c A B:Prop} [Decidable c] (a:c->A)(b : ¬c->B):if c then A else B:=by
 by_cases h:c
 ·rw [if_pos h];exact a h
 ·rw [if_neg h];exact b h
def Same(H H':Hp):Prop := ∀b o,H b=some o->H' b=some o
theorem Same.seq{K:PySem.W.Frag}{H b:Hp}{a:Addr}{xs:List V}(e:Same H b)(h:SqL K H a xs):SqL K b a xs:=by
 rcases h with (h | ⟨o,h⟩) | h
 ·exact .inl (.inl (e _ _ h))
 ·exact .inl (.inr ⟨o,e _ _ h⟩)
 ·exact .inr h
end L2
set_option maxHeartbeats 4000000
namespace L2
open PySem PySem.Spec PyProof.Rows
abbrev TB:=St->Hp->(St->Hp->Prop)->Prop
def PB(X:Cx)(m:Sem Unit)(B:TB):Prop :=
 ∀(pins:List (Addr×Obj)) (s:Shared) (σ : St) (H:Hp) (Q:St->Hp->Prop),Inv X pins σ H s->B σ H Q ->
  wpAny (model X.prog X.w) X.A m (λ_ s' => ∃ σ' H',Inv X pins σ' H' s'/\Q σ' H') X.xe s
def tAll:List TT->TT
 | []=>λ_ H Q=>Q true H
 | t::r=>λσ H Q=>t σ H λb H1=>if b=true then tAll r σ H1 Q else Q false H1
inductive PTs(X:Cx):List Expr->List TT->Prop
 | nil:PTs X [] []
 | cons {e es t ts}:PT X e t->PTs X es ts->PTs X (e::es) (t::ts)
def wA(ifs:List Expr)(env:Env)(b:Bool):Sem Bool:=forIn ifs b λc r=>if r=true then do let ok <-isTrue c env (eval c env);pure (ForInStep.yield ok) else pure (ForInStep.yield r)
theorem QL{M:Model}{A:Around}{E:Value->Shared->Prop}{env:Env}{Q:Bool->Shared->Prop}{s:Shared}(h:Q false s):∀a:List Expr,wpAny M A (wA a env false) Q E s
 | []=>aC h
 | c::r=>by
  unfold wA;simp only [List.forIn_cons,dQ,if_false];exact aA (aC (QL h r))
theorem QM{X:Cx}:∀ {c:List Expr} {ts:List TT},PTs X c ts -> ∀(a:List (Addr×Obj)) (s:Shared) (σ : St) (H:Hp) (Q:Bool->Hp->Prop),Inv X a σ H s->tAll ts σ H Q ->
  wpAny (model X.prog X.w) X.A (wA c X.env true) (TP X a σ Q) X.xe s
 | _,_,.nil,a,s,σ,H,Q,I,h=>aC ⟨H,I,h⟩
 | _,_,.cons (es:=es) i j,a,s,σ,H,Q,I,h=>by
  unfold wA;simp only [List.forIn_cons,if_true];refine aA (aA (thn (i a s σ H _ I h) λb d hq_=>?_));obtain⟨e,f,g⟩:=hq_;refine aC ?_;cases b with
  | true=>exact QM j a d σ e Q f g
  | false=>exact QL (show TP X a σ Q false d from⟨e,f,g⟩) es
def LoopT(J:It)(g:TG)(tt:TT)(B:TB):TB:=λσ H Q => ∃W:Nat->Nat->St->Hp->Prop,(∃m,W 0 m σ H) /\ ∀i m σ H,W i m σ H ->
 (J.stop i H/\Q σ H)\/(J.go i H /\ ∀x H',J.yld i H x H'->g x σ H' λσ2 H2=>tt σ2 H2 λb H3 =>
  if b=true then B σ2 H3 (λσ3 H4 => ∃m',m'<m/\W (i+1) m' σ3 H4) else ∃m',m'<m/\W (i+1) m' σ2 H3)
def CompR(X:Cx)(pins:List (Addr×Obj))(Q:St->Hp->Prop):Result->Shared->Prop
 | .ok _,s' => ∃ σ' H',Inv X pins σ' H' s'/\Q σ' H'
 | .error _,_=>False
structure ClauseAt(X:Cx)(e:Expr)(d:Nat)(acc:Value)(tg iter:Expr)(ifs:List Expr)(beh:Sem Unit):Prop where
 quiet:∀it,(Code.compLoop e d it acc X.env).quiet=true
 under:∀it,X.A.under (Code.compLoop e d it acc X.env)=X.A
 den:∀it,(model X.prog X.w).den (.compLoop e d it acc X.env)=(compTurn e d it acc X.env).onRaise (λx=>do noteFrame x X.env;theTreesLotGoes x)
 turn:∀it,compTurn e d it acc X.env=(do
   standAt iter.pos
   match <-pyNext it with
   | none=>pure (.done .next)
   | some v =>
    letOwnedTupleGo tg it v
    assign tg X.env v
    let ok <-wA ifs X.env true
    if ok then beh
    again (.compLoop e d it acc X.env))
 start:∀(it:Value) (R:Result->Shared->Prop) (s:Shared),codeAny (model X.prog X.w) X.A (.compLoop e d it acc X.env) R s ->
  wpAny (model X.prog X.w) X.A (pyIter it) (λit' s'=>codeAny (model X.prog X.w) X.A (.compLoop e d it' acc X.env) R s') (λ_ _=>False) s->codeAny (model X.prog X.w) X.A (.compStart e d it acc X.env) R s
theorem QN{X:Cx}{e:Expr}{d:Nat}{acc:Value}{tg L:Expr}{M:List Expr}{N:Sem Unit}{J:It}{y:List Addr}{it:Addr}{Y:Nat->Heap->Prop}{g:TG}{O:List TT}{B:TB}(a0:X.xe=λ_ _=>False)(hc:X.calm=true)(C:ClauseAt X e d acc tg L M N)(T:Turn X.prog X.w X.K tg J y it Y)(hg:PG X tg g)(ht:PTs X M O)(c:PB X N B){a:List (Addr×Obj)}{σ : St}{H:Hp}{s:Shared}{Q:St->Hp->Prop}(I:Inv X a σ H s)(st:Y 0 s.heap)(f:∀b∈y,FpOk X a H b)(q:LoopT J g (tAll O) B σ H Q):codeAny (model X.prog X.w) X.A (.compLoop e d (.ref it) acc X.env) (CompR X a Q) s:=by
 obtain⟨W,⟨m0,w0⟩,P⟩:=q;have j:∀ {p:Hp},(∀b∈y,p b=none) -> ∀b∈y,FpOk X a p b:=λhn b c=>⟨hn b c,(f b c).2⟩;refine codeAny_loop (C.quiet _) (λn Z => ∃i k p,Inv X a k p Z/\Y i Z.heap/\(∀b∈y,p b=none)/\W i n k p) ?_ m0 ⟨0,σ,H,I,st,λb c=>(f b c).1,w0⟩;rintro n s3 ⟨i,l,H3,I3,S,U,w3⟩;rw [C.under,C.den];refine wpAny_noted ?_;rw [C.turn];refine aA (dP ?_);have lift:∀ {α : Type} {t:Sem α} {R : α -> Shared->Prop} {s:Shared},wpAny (model X.prog X.w) X.A t R X.xe s->wpAny (model X.prog X.w) X.A t R (notedBy (model X.prog X.w) X.A X.env λx Z=>CompR X a Q (.error x) Z) s:=by
  intro α t R s h;rw [a0] at h;exact eM h (λ_ _ z=>z) λ_ _ z=>z.elim
 rcases P i n l H3 w3 with ⟨stop,qn⟩ | ⟨go,step⟩
 ·refine aA (lift (thn (T.done X rfl rfl rfl hc i a s3 l H3 X.xe I3 (j U) S stop) λr s4 hq_=>?_));obtain⟨hr,I4⟩:=hq_;subst hr;exact aC ⟨l,H3,I4,qn⟩
 ·refine aA (lift (thn (T.item X rfl rfl rfl hc i a s3 l H3 X.xe I3 (j U) S go) λr s4 hq_=>?_));obtain⟨u,hr,h4⟩:=hq_;subst hr;refine aA (lift (thn h4 λ_ s5 hq_=>?_));obtain⟨x,H5,I5,r5,y5,D,a1⟩:=hq_;have a2:=I5.pinned (j a1) (T.obj _ _ D);refine aA (lift (thn (hg _ s5 l H5 x u _ a2 r5 (step x H5 y5)) λ_ s6 hq_=>?_));obtain⟨V,H6,I6,q6⟩:=hq_;have again:∀ {v:St} {E:Hp} {F:Shared},Inv X (a++vL y s5.heap) v E F->(∃m',m'<n/\W (i+1) m' v E) -> ∃m,m<n /\ ∃i k p,Inv X a k p F/\Y i F.heap/\(∀b∈y,p b=none)/\W i m k p:=λ{v E F} G ⟨m',hm,w7⟩=>by
   refine⟨m',hm,i+1,v,E,G.unpinned,T.keep _ _ _ D λb c o e=>(G.pin (b,o) (aZ _ (aZ _ (uB c e)))).1,λb c=>?_,w7⟩;obtain⟨o,e,_⟩:=T.obj _ _ D b c;exact (G.pin (b,o) (aZ _ (aZ _ (uB c e)))).2.1
  refine aA (lift (thn (QM ht _ s6 V H6 _ I6 q6) λok F hq_=>?_));obtain⟨E,G,q7⟩:=hq_;cases ok with
  | false =>
   exact aC ⟨rfl,again G q7⟩
  | true =>
   refine aA (lift (thn (c _ F V E _ G q7) λ_ s8 hq_=>?_));obtain⟨a3,H8,I8,q8⟩:=hq_;exact aC ⟨rfl,again I8 q8⟩
theorem kT(env:Env):∀(names:List (Str×NameKind)) (g:List (Str×Addr)),(∀x∈names,x.2 = .free -> ∃c,env.cells.lookup x.1=some c) ->
  (∀x c,g.lookup x=some c->env.cells.lookup x=some c) ->
  ∃i,(forIn names g λ(x:Str×NameKind) (r:List (Str×Addr))=>(if (x.2 == NameKind.free)=true then do let c <-cellOf env x.1;pure (ForInStep.yield ((x.1,c)::r)) else pure (ForInStep.yield r):Sem (ForInStep (List (Str×Addr)))))=pure i /\
   (∀x c,i.lookup x=some c->env.cells.lookup x=some c)/\(∀x,(x,NameKind.free)∈names\/(∃c,g.lookup x=some c) -> ∃c,i.lookup x=some c)
 | [],g,_,l=>⟨g,rfl,l,λx h=>h.elim (λz=>nomatch z) id⟩
 | (n,k)::r,g,o,l=>by
  rw [List.forIn_cons];have p:∀x∈r,x.2 = .free -> ∃c,env.cells.lookup x.1=some c:=λx hx=>o x (aP _ hx);by_cases m:k = .free
  ·subst m;obtain⟨c,q⟩:=o (n,.free) aQ rfl;have j:cellOf env n=pure c:=by unfold cellOf;rw [q]
   obtain⟨i,e,a,b⟩:=kT env r ((n,c)::g) p (λx d hx=>by
    rw [gO] at hx;cases f:x == n with
    | true =>
     rw [f] at hx;have:x=n:=eq_of_beq f;cases hx;rw [this];exact q
    | false=>rw [f] at hx;exact l x d hx)
   refine⟨i,?_,a,λx hx=>b x ?_⟩
   ·rw [j];exact e
   ·by_cases f:x=n
    ·exact .inr ⟨c,by rw [gO,f,beq_self_eq_true]⟩
    ·rcases hx with hx | ⟨d,hx⟩
     ·rcases aV.mp hx with z | z
      ·exact absurd (congrArg Prod.fst z) f
      ·exact .inl z
     ·refine .inr ⟨d,?_⟩;have:(x == n)=false:=by simpa using f
      rw [gO,this];exact hx
  ·have s:(k == NameKind.free)=false:=by simpa using m
   obtain⟨i,e,a,b⟩:=kT env r g p l;refine⟨i,?_,a,λx hx=>b x ?_⟩
   ·show (if (k == NameKind.free)=true then _ else _) >>= _=_;rw [s];exact e
   ·rcases hx with hx | hx
    ·rcases aV.mp hx with z | z
     ·exact absurd (congrArg Prod.snd z).symm m
     ·exact .inl z
    ·exact .inr hx
theorem QO{scope:Scope}{env:Env}(h:∀x∈scope.names,x.2 = .free -> ∃c,env.cells.lookup x.1=some c):∃d,closureFor scope env=pure d/\(∀x c,d.lookup x=some c->env.cells.lookup x=some c) /\ ∀x,(x,NameKind.free)∈scope.names -> ∃c,d.lookup x=some c:=by
 obtain⟨d,e,a,b⟩:=kT env scope.names [] h (λx c f=>nomatch f);refine⟨d,?_,a,λx f=>b x (.inl f)⟩;unfold closureFor;show (forIn scope.names ([]:List (Str×Addr)) _) >>= _=_;have g:(forIn scope.names ([]:List (Str×Addr)) λ(x:Str×NameKind) (r:List (Str×Addr))=>(match x with | (name,kind)=>if (kind == NameKind.free)=true then do let c <-cellOf env name;pure (ForInStep.yield ((name,c)::r)) else pure (ForInStep.yield r):Sem (ForInStep (List (Str×Addr)))))=pure d:=e;rw [g];rfl
def relK(env:Env)(x:Str)(k:NameKind):NameKind:=if (k == .free&&env.scope.kind == .function&&env.kindOf x == some .cell)=true then .cell else k
theorem QP(env:Env)(x:Str):∀names:List (Str×NameKind),
  (names.map λ(n,k)=>if (k == NameKind.free&&env.scope.kind == .function&&env.kindOf n == some .cell) then (n,NameKind.cell) else (n,k)).lookup x=(names.lookup x).map (relK env x)
 | []=>rfl
 | (n,k)::r=>by
  have a:=QP env x r;show List.lookup x ((if (k == NameKind.free&&env.scope.kind == .function&&env.kindOf n == some .cell)=true then (n,NameKind.cell) else (n,k))::_)=_;have e:(if (k == NameKind.free&&env.scope.kind == .function&&env.kindOf n == some .cell)=true then (n,NameKind.cell) else (n,k))=(n,relK env n k):=by
   unfold relK;split <;> rfl
  rw [e,gO,gO];cases b:x == n with
  | true=>have:=eq_of_beq b;subst this;rfl
  | false=>exact a
theorem QQ(scope:Scope)(env:Env)(x:Str):(relabel scope env).names.lookup x=(scope.names.lookup x).map (relK env x):=QP env x scope.names
def zT(X:Cx)(own:List Str)(cap:List Nat)(scope:Scope)(cl:List (Str×Addr))(s:Shared)(H:Hp)(ex:List Addr):Cx :=
 { X with N:=own++cap.map (λj=>X.N.getD j ""),env:=compEnvC scope cl s.heap.objs.size X.env,s₀ :=s,H₀ :=H,outer:=X.stack,ex:=ex,fn:=λ_=>false,pn :=[],xe:=λ_ _=>False }
def vS(own:List Str)(cap:List Nat)(σ : St):St:=own.map (λ_=>none)++cap.map (λj=>(σ[j]?).join)
structure CompScope(X:Cx)(own:List Str)(cap:List Nat)(scope:Scope):Prop where
 kind:scope.kind = .function
 nocell:∀x∈scope.names,x.2 ≠ .cell
 names:∀x∈scope.names,x.2 = .local->scope.names.lookup x.1=some .local
 free:∀x∈scope.names,x.2 = .free->X.env.kindOf x.1=some .cell\/X.env.kindOf x.1=some .free
 own:∀x∈own,scope.names.lookup x=some .local
 caps:∀j∈cap,scope.names.lookup (X.N.getD j "")=some .free/\j<X.N.length
theorem qV6{X:Cx}{a:List Str}{cap:List Nat}{scope:Scope}{J:List (Str×Addr)}{t:List (Addr×Obj)}{σ : St}{H:Hp}{s:Shared}{K:List Addr}{h':Heap}{tk:Nat}(S:CompScope X a cap scope)(I:Inv X t σ H s)(f:∀x c,J.lookup x=some c->X.env.cells.lookup x=some c)(A:∀x,(x,NameKind.free)∈scope.names -> ∃c,J.lookup x=some c)(L:∀b∈K,FpOk X t H b)(P:∀b∈K,b<s.heap.objs.size)(Q:h'.Ns s.heap.objs.size (λx=>([]:List (Str×Value)).reverse.lookup x))(C:∀b u,s.heap.get? b=some u->h'.get? b=some u):Inv (zT X a cap scope J s H K) [] (vS a cap σ) H { s with heap:=h',toks:=tk }:=by
 have kc:∀x k,(relabel scope X.env).names.lookup x=some k->(k = .cell\/k = .free)->(x,NameKind.free)∈scope.names:=by
  intro x k e C;rw [QQ] at e;cases q:scope.names.lookup x with
  | none=>rw [q] at e;cases e
  | some M =>
   rw [q] at e;have O:relK X.env x M=k:=bT e;have w:=dY q;have h0:M ≠ .cell:=S.nocell _ w;have:M = .free:=by
    unfold relK at O;by_cases g:(M == NameKind.free&&X.env.scope.kind == .function&&X.env.kindOf x == some .cell)=true
    ·simp only [aO,beq_iff_eq] at g;exact g.1.1
    ·rw [if_neg g] at O;rcases C with z | z
     ·exact absurd (O.trans z) h0
     ·exact O.trans z
   rw [this] at w;exact w
 have ok:(zT X a cap scope J s H K).Ok :={
  mod:=I.ok.mod
  kind:=S.kind
  glob:=I.ok.glob
  blt:=I.ok.blt
  above:=aF _
  inj:=λx y c B d=>I.ok.inj x y c (f x c B) (f y c d)
  has:=λx hx=>by
   rcases hx with hx | hx
   ·exact A x (kc x _ hx (.inl rfl))
   ·exact A x (kc x _ hx (.inr rfl))
  cab:=λx c h=>absurd h (show ¬(false=true) from aL)
  hd:=I.ok.hd
  frames:=I.ok.frames
  stk :=.inl rfl
  exf:=λb g=>⟨bD (P b g),λx c e=>(L b g).2.2.2.2.1 x c (f x c e)⟩
  bs:=I.bs
  bsz:=bL I.ok.bsz I.sz
  noex:=λb o e g=>by
   rcases (L b g).2.2.2.1 with z | z
   ·exact I.ok.noex b o e z
   ·exact absurd (bP (aX e) (bL I.ok.bsz z)) (fT _)
  exfs:=λb g w=>by
   rcases aV.mp (I.stkSub b w) with z | z
   ·exact (L b g).2.1 z
   ·exact (L b g).2.2.1 z
  funs:=I.stack
  frf:=I.stkFree }
 refine⟨ok,rfl,I.bare,Un.kept C,⟨_,Q,λi x v B d e3=>?_⟩,λx c e=>?_,I.hok.fresh (aF _),λx c e=>I.freeC x c (f x c e),λp hp=>absurd (show p∈([]:List (Addr×Obj)) from hp) (by simp),I.hok.kept C,?_⟩
 ·have B:(a++cap.map (λj=>X.N.getD j ""))[i]? = some x:=B;have d:(a.map (λ_=>(none:Option V))++cap.map (λj=>(σ[j]?).join))[i]? = some (some v):=d;by_cases R:i<a.length
  ·rw [List.getElem?_append_left (by simpa using R),aS] at d;cases q:a[i]? with
   | none=>rw [q] at d;cases d
   | some y=>rw [q] at d;cases d
  ·rw [gH (by simpa using R),aS] at B;rw [gH (by simpa using R),aS,aB] at d;cases q:cap[i - a.length]? with
   | none=>rw [q] at d;cases d
   | some j =>
    rw [q] at B d;have D:X.N.getD j "" = x:=bT B;have n:(σ[j]?).join=some v:=bT d;obtain⟨T,E⟩:=S.caps j (aM q);rw [D] at T;have U:X.N[j]? = some x:=by
     rw [aD E,<-D,cJ,aD E];rfl
    have W : σ[j]? = some (some v):=by
     cases z : σ[j]? with
     | none=>rw [z] at n;cases n
     | some o=>rw [z] at n;rw [show o=some v from n]
    obtain⟨m,hn,hl⟩:=I.loc;have w:=dY T;have F:=S.free _ w rfl;have Y:Vis X.env.scope x:=by
     rcases F with z | z
     ·exact .inr (.inl z)
     ·exact .inr (.inr z)
    obtain⟨u,r,l⟩:=hl j x v U W Y;refine⟨u,r,.inr ?_⟩;rcases l with ⟨kl,_⟩ | ⟨_,c,hc,z⟩
    ·rcases F with z | z
     ·rw [kl] at z;cases z
     ·rw [kl] at z;cases z
    ·obtain⟨c',G⟩:=A x w;have:=f x c' G;rw [hc] at this;cases this;refine⟨?_,c,G,?_⟩
     ·have q:(relabel scope X.env).names.lookup x=some (relK X.env x .free):=by rw [QQ,T];rfl
      show (relabel scope X.env).names.lookup x=some .cell\/(relabel scope X.env).names.lookup x=some .free;rw [q];unfold relK;split
      ·exact .inl rfl
      ·exact .inr rfl
     ·obtain⟨o,Z,hd⟩:=z;exact⟨o,C c o Z,hd⟩
 ·obtain⟨v,o,Z,hd⟩:=I.cell x c (f x c e);exact⟨v,o,C c o Z,hd⟩
 ·show (a.map (λ_=>(none:Option V))++cap.map (λj=>(σ[j]?).join)).length=(a++cap.map (λj=>X.N.getD j "")).length;simp only [aI,aB]
def wY(X:Cx)(m:Sem Value)(o:HO):Prop :=
 ∀(pins:List (Addr×Obj)) (s:Shared) (σ : St) (H:Hp) (E:Value->Shared->Prop) (Q:Value->Shared->Prop),Inv X pins σ H s ->
  (∀l s',s.heap.objs.size<=l->H l=none->Inv X pins σ (upd H l o) s'->(∀b u,s.heap.get? b=some u->s'.heap.get? b=some u)->Q (.ref l) s')->wpAny (model X.prog X.w) X.A m Q E s
theorem kU{X:Cx}:wY X (newList []) (.lst []):=by
 intro a s σ H E Q I h;exact wpAny_newList (h _ _ (aF _) I.fresh (I.lnew (its :=[]) (t':=s.toks) .nil (bB _)) λb u e=>aG _ e)
theorem QR{X:Cx}{e:Expr}{tg M:Expr}{N:List Expr}{scope:Scope}{a:List Str}{d:List Nat}{v:Sem Value}{o:HO}{k:List (Str×Addr)}{behOf:Value->Env->Sem Unit}{g:TG}{O:List TT}{P:Addr->TB}(hc:X.calm=true)(S:CompScope X a d scope)(U:∀x c,k.lookup x=some c->X.env.cells.lookup x=some c)(a8:∀x,(x,NameKind.free)∈scope.names -> ∃c,k.lookup x=some c)(V:wY X v o)(hC:∀s H ex l,ClauseAt (zT X a d scope k s H ex) e 0 (.ref l) tg M N (behOf (.ref l) (zT X a d scope k s H ex).env))(hg:∀s H ex,PG (zT X a d scope k s H ex) tg g)(ht:∀s H ex,PTs (zT X a d scope k s H ex) N O)(j:∀s H ex l,PB (zT X a d scope k s H ex) (behOf (.ref l) (zT X a d scope k s H ex).env) (P l)){i:List (Addr×Obj)}{σ : St}{s2:Shared}{W:Value}{Q:Addr->Hp->Prop}{E:Value->Shared->Prop}{R:Value->Addr->Result->Shared->Prop}(h:PIE X i σ tg (λJ H1 => ∀l,H1 l=none->LoopT J g (tAll O) (P l) (vS a d σ) (upd H1 l o) λ_ n=>Q l n) W s2)(hR:∀l C B K,Inv X i σ K B->FpOk X i K C->(∃m,B.heap.Ns C m)->Q l K->R (.ref l) C (.ok .next) B)(a9:∀acc C f B,R acc C (.ok .next) B->R acc C (.ok f) B):wpAny (model X.prog X.w) X.A v (λacc Y =>wpAny (model X.prog X.w) X.A (newFunctionEnv scope X.env.globals k [] X.env.qual none .none (some X.env)) (λF Z =>
   codeAny (model X.prog X.w) X.A (.compStart e 0 W acc { F with scope:=relabel scope X.env }) (R acc F.locals) Z) E Y) E s2:=by
 obtain⟨it,D,tn,J,n,rfl,I2,T,I,f2,q⟩:=h;have b0:∀b∈D,b<s2.heap.objs.size:=λb j=>by
  obtain⟨ob,e,_⟩:=T.obj _ _ I b j;exact aX e
 refine V i s2 σ n E _ I2 λl t hl hn I3 k3=>?_;have q':=q l hn;have f3:∀b∈D,FpOk X i (upd n l o) b:=λb j=>by
  obtain⟨a1,a2⟩:=f2 b j;refine⟨?_,a2⟩;rw [zD (bD (bP (b0 b j) hl))];exact a1
 have a6:∀b∈D,b<t.heap.objs.size:=λb j=>by
  obtain⟨ob,e,_⟩:=T.obj _ _ I b j;exact aX (k3 b ob e)
 refine wpAny_newFunctionEnv S.nocell (by intro y hy;simp at hy) (λh1 b1 b2=>?_) S.kind;have k4:∀b u,t.heap.get? b=some u->h1.get? b=some u:=λb u e=>by
  exact b2.extBut b u (bD (aX e)) (aG _ e)
 have I4:Inv (zT X a d scope k t (upd n l o) D) [] (vS a d σ) (upd n l o) { t with heap:=h1,toks:=t.toks+([]:List (Str×Value)).length }:=qV6 S I3 U a8 f3 a6 b1 k4;have a7:tn 0 h1:=T.keep _ _ _ I λb j ob e=>k4 b ob (k3 b ob e);have f4:∀b∈D,FpOk (zT X a d scope k t (upd n l o) D) [] (upd n l o) b:=λb j=>by
  obtain⟨a0,a1,a2,a3,a4,a5⟩:=f3 b j;refine⟨a0,bD (a6 b j),λhm=>?_,.inl j,λx c ex=>a4 x c (U x c ex),λp hp=>absurd (show p∈([]:List (Addr×Obj)) from hp) (by simp)⟩;rcases aV.mp (I3.stkSub b hm) with z | z
  ·exact a1 z
  ·exact a2 z
 have b3:∀(r:Result) (B:Shared),CompR (zT X a d scope k t (upd n l o) D) [] (λ_ n=>Q l n) r B->R (.ref l) t.heap.objs.size r B:=by
  intro r B hr;cases r with
  | error x=>exact (show False from hr).elim
  | ok f =>
   obtain⟨b5,H5,L,q5⟩:=(show ∃ b4 K,Inv (zT X a d scope k t (upd n l o) D) [] b4 K B/\Q l K from hr);have I6:Inv X i σ H5 B:=I3.call' (ch:=D) L.os L.base L.hok L.bare λb j=>(f3 b j).2.2.2 |> λ⟨z1,z2,z3⟩=>⟨z1,(f3 b j).2.1,z2,z3⟩
   refine a9 _ _ _ _ (hR l _ B H5 I6 (I3.fpOk (aF _) L.free) ?_ q5);obtain⟨m,hm,_⟩:=L.loc;exact⟨m,hm⟩
 have G:∀s4:Shared,s4 = { t with heap:=h1,toks:=t.toks+([]:List (Str×Value)).length } ->
   codeAny (model X.prog X.w) X.A (.compLoop e 0 (.ref it) (.ref l) (zT X a d scope k t (upd n l o) D).env) (R (.ref l) t.heap.objs.size) s4:=by
  rintro s4 rfl;exact gX (QN (X:=zT X a d scope k t (upd n l o) D) rfl hc (hC _ _ _ _) T (hg _ _ _) (ht _ _ _) (j _ _ _ l) I4 a7 f4 q') b3
 exact (hC t (upd n l o) D l).start (.ref it) _ _ (G _ rfl) (T.self _ 0 _ _ _ a7 (G _ rfl))
section
variable{X:Cx}{e:Expr}{tg iter:Expr}{ifs:List Expr}{gs:List Comprehension}{scope:Scope}{own:List Str}{cap:List Nat}{newAcc:Sem Value}{o:HO}{behOf:Value->Env->Sem Unit}{wi:TI}{g:TG}{tts:List TT}{Bof:Addr->TB}{cpos:Pos}
def tComp(own:List Str)(cap:List Nat)(o:HO)(wi:TI)(g:TG)(tts:List TT)(Bof:Addr->TB):TE:=λσ H Q=>wi σ H λJ H1 => ∀l,H1 l=none->LoopT J g (tAll tts) (Bof l) (vS own cap σ) (upd H1 l o) λ_ H2=>Q (.ref l) H2
theorem kW(u:X.calm=true)(S:CompScope X own cap scope)(n:clausesOf e=⟨tg,iter,ifs,0⟩::gs)(hi:PI X tg iter wi)(i:wY X newAcc o)(y:∀c s H ex l,ClauseAt (zT X own cap scope c s H ex) e 0 (.ref l) tg iter ifs (behOf (.ref l) (zT X own cap scope c s H ex).env))(B:∀c s H ex,PG (zT X own cap scope c s H ex) tg g)(D:∀c s H ex,PTs (zT X own cap scope c s H ex) ifs tts)(p:∀c s H ex l,PB (zT X own cap scope c s H ex) (behOf (.ref l) (zT X own cap scope c s H ex).env) (Bof l))(E:∀x,foldedSetIterable iter X.env x=pure x):∀(a:List (Addr×Obj)) (s:Shared) (σ : St) (H:Hp) (Q:VK),Inv X a σ H s->tComp own cap o wi g tts Bof σ H Q ->
   wpAny (model X.prog X.w) X.A (comprehension e scope X.env cpos newAcc false (eval iter X.env)) (EP X a σ Q) X.xe s:=by
 intro a s σ H Q I h;obtain⟨c,d,F,G⟩:=QO (scope:=scope) (env:=X.env) λx J K=>I.ok.has x.1 (S.free x J K);refine wpAny_comprehension_free (use:=none) n E d S.kind S.names (thn (hi a s σ H _ I h) λv U L=>thn L λM V N=>?_);refine QR (R:=λj C=>compPost (model X.prog X.w) X.A X.xe none (EP X a σ Q) j C) u S F G i (y c) (B c) (D c) (p c) N (λl C t O P k r q=>?_) (λj C f t z=>z);obtain⟨m,r⟩:=r;refine⟨m,r,λW T=>⟨.ref l,O,P.turned (t':=t.toks) (λb o p e=>(T.2 b p).trans e) k.1 k.2.1 k.2.2.2.1 k.2.2.2.2.1 k.2.2.2.2.2,rfl,q⟩⟩
theorem QS{i:Nat}{x:Str}{t:Pos}(M:X.calm=true)(S:CompScope X own cap scope)(u:clausesOf e=⟨tg,iter,ifs,0⟩::gs)(hi:PI X tg iter wi)(p:wY X newAcc o)(O:∀d s H ex l,ClauseAt (zT X own cap scope d s H ex) e 0 (.ref l) tg iter ifs (behOf (.ref l) (zT X own cap scope d s H ex).env))(P:∀d s H ex,PG (zT X own cap scope d s H ex) tg g)(Q:∀d s H ex,PTs (zT X own cap scope d s H ex) ifs tts)(y:∀d s H ex l,PB (zT X own cap scope d s H ex) (behOf (.ref l) (zT X own cap scope d s H ex).env) (Bof l))(T:∀x,foldedSetIterable iter X.env x=pure x)(U:X.N.Nodup)(B:X.N[i]? = some x)(E:Loc X.env.scope x)(F:X.fn x=true\/X.env.scope.names.lookup x=some .local):∀(c:List (Addr×Obj)) (s:Shared) (σ : St) (H:Hp) (D:Ends),Inv X c σ H s->tComp own cap o wi g tts Bof σ H (λv V=>D.nx (σ.set i (some v)) V) ->
   wpAny (model X.prog X.w) X.A (comprehension e scope X.env cpos newAcc false (eval iter X.env) (some (assign (.Name x t) X.env))) (λ_ n=>SP X c D .next n) X.xe s:=by
 intro c s σ H D I h;obtain⟨d,j,W,Y⟩:=QO (scope:=scope) (env:=X.env) λx E F=>I.ok.has x.1 (S.free x E F);refine wpAny_comprehension_free (use:=some (assign (.Name x t) X.env)) u T j S.kind S.names (thn (hi c s σ H _ I h) λv s1 Z=>thn Z λa0 s2 q2=>?_);refine QR (R:=λr C=>compPost (model X.prog X.w) X.A X.xe (some (assign (.Name x t) X.env)) (λ_ n=>SP X c D .next n) r C) M S W Y p (O d) (P d) (Q d) (y d) q2 (λl C n H' I' k G q=>?_) (λr C f n z=>z);obtain⟨m,G⟩:=G;show wpAny (model X.prog X.w) X.A (assign (.Name x t) X.env (.ref l)) _ X.xe n;refine wpAny_assign_Name (oA (v :=.ref l) I' U B E rfl (λJ K hq_=>?_) F);obtain⟨a,sa,ha⟩:=hq_
 have L:C≠a:=by
  rcases ha with z | z
  ·rw [z];exact k.2.1
  ·exact dF (k.2.2.2.2.1 x a z)
 refine⟨m,G.sameBut sa L,λh' sb=>⟨_,H',K.turned (t':=J.toks) (λb o y e=>(sb.2 b y).trans e) k.1 k.2.1 k.2.2.2.1 k.2.2.2.2.1 k.2.2.2.2.2,q⟩⟩
end
def eApp(te:TE)(l:Addr):TB:=λσ H Q=>te σ H λv H1 => ∃vs,H1 l=some (.lst vs)/\vs.length<sizeLine/\Q σ (upd H1 l (.lst (vs ++ [v])))
def vT(elt:Expr)(acc:Value)(env:Env):Sem Unit:=do let _ <-call (.builtin "list.append") [acc,<-eval elt env]
theorem kX{X:Cx}{b:Expr}{d:TE}{l:Addr}(f:PE X b d):PB X (vT b (.ref l) X.env) (eApp d l):=by
 intro a s σ H Q I h;refine aA (thn (f a s σ H _ I h) λv g hq_=>?_);obtain⟨x,i,j,k,m,e,n,q⟩:=hq_;refine aA (thn (xV a g σ i (.ref l) [x] (.ref l) [v] (λ_ c=>Q σ c) j rfl (.cons k .nil) ⟨l,m,x,rfl,rfl,e,n,q⟩) λu r hq_=>?_);obtain⟨z,c,o,_,p⟩:=hq_;exact aC ⟨σ,c,o,p⟩
theorem QT{X:Cx}{b e a:Expr}{c:List Expr}{scope:Scope}{d:Pos}{acc:Value}:ClauseAt X (.ListComp b [⟨e,a,c,0⟩] scope d) 0 acc e a c (vT b acc X.env) where
 quiet:=λ_=>rfl
 under:=λ_=>rfl
 den:=λ_=>rfl
 turn:=λ_=>rfl
 start:=λg R s f h=>codeAny_compStart_list f (eM h (λ_ _ z=>z) λ_ _ z=>z.elim)
theorem Inv.turnLaid{X:Cx}{a:List (Addr×Obj)}{σ : St}{H:Hp}{s:Shared}{h':Heap}{t':Nat}{ch:List Addr}{p:Addr}{o:HO}(I:Inv X a σ H s)(k:∀b u,b∉ch->s.heap.get? b=some u->h'.get? b=some u)(x:∀b∈ch,∃u,h'.get? b=some u)(i:∀b∈ch,FpOk X a H b)(l:s.heap.objs.size<=p)(new:ObjOk X.prog X.w (upd H p o) h' p o):Inv X a σ (upd H p o) { s with heap:=h',toks:=t' }:=by
 have g:H p=none:=I.hok.fresh l;have h:∀b u,H b=some u->b∉ch:=λb u e d=>by rw [(i b d).1] at e;cases e
 refine I.step (g':=s.gens) (d':=s.drawn) (ch:=ch) (λb d=>?_) (λb u _ _ f e _=>k b u f e) (λb u _ _ f e _=>⟨u.slots,k b u f e⟩) (λb u _ e n=>?_)
  (λb u f e=>⟨u,k b u f e⟩) (λb t e=>?_) (λb j t e=>?_) (λb J e=>?_) (λm y=>?_) (λb u e=>?_) I.bare
 ·obtain⟨_,A,_,B,C,D⟩:=i b d;exact⟨B,A,C,D⟩
 ·rw [zD (bD (bP (aX e) l))];exact n
 ·rw [zD (zF e g)];exact e
 ·rw [zD (zF e g)];exact e
 ·exact⟨#[],by rw [zD (zF e g),e];simp⟩
 ·obtain⟨j,E,F,G,r⟩:=y;exact⟨j,E,F,k _ j (λd=>(i _ d).2.1 rfl) G,r⟩
 ·by_cases d:b=p
  ·subst d;rw [zC] at e;cases e;exact new
  ·rw [zD d] at e;refine (I.hok b u e).stay (λc v f q=>k c v ?_ q) (λc q=>by rw [zD (zF q g)];exact q) λc t q=>by rw [zD (zF q g)];exact q
   rcases f with z | z
   ·rw [z];exact h b u e
   ·exact h c _ z
def Ite(K:PySem.W.Frag)(a:Addr):It:=⟨λi H => ∃xs x,SqL K H a xs/\xs[i]? = some x,λi H x H' => ∃p y,x = .ref p/\H p=none/\(∀ys,SqL K H a ys->ys[i]? = some y)/\H'=upd H p (.tup [.int (i:Int),y]),λi H => ∃xs,SqL K H a xs/\xs.length<=i⟩
theorem qPr{P:Program}{w:World}{K:PySem.W.Frag}{r:List Expr}{k:Nat}{D:Pos}(a e it:Addr)(m:e≠it):Turn P w K (.Tuple r k D) (Ite K a) [e,it] e (λi h=>(∃c,IsEnum h e it (i:Nat) c)/\h.IsListIter it a i) where
 mem:=by simp
 obj:=λi h st b f=>by
  obtain⟨⟨c,g⟩,⟨o,F,G,h3⟩⟩:=st;rcases aV.mp f with z | z
  ·subst z
   exact⟨_,g,λv z=>by
    have z':Data.fields _=Data.cell v:=z
    cases z'⟩
  ·have z:b=it:=by simpa using z
   subst z;exact⟨o,F,λv z=>by rw [h3] at z;cases z⟩
 keep:=λi h h' st Y=>by
  obtain⟨⟨c,g⟩,n⟩:=st;exact⟨⟨c,Y e (by simp) _ g⟩,n.at λo q=>Y it (by simp) o q⟩
 item:=by
  intro X J L M Z i j s σ H E I B st N;subst J L M;obtain⟨xs,x,C,O⟩:=N;obtain⟨⟨c,g⟩,n⟩:=st;obtain⟨Q,R,p,hz⟩:=I.list C;obtain⟨u,hu,ru⟩:=R.get O;refine wpAny_pyNext_enum_item g n p.isList (x:=u) (by simpa using hu) m λF S t ht a0 hk=>?_;refine⟨_,rfl,wpAny_letOwnedTupleGo_enum S λG y T=>?_⟩;have l:e<s.heap.objs.size:=aX g;have d:Heap.SameBut e F G:=T;have I1:Inv X j σ (upd H s.heap.objs.size (.tup [.int (i:Int),x])) { s with heap:=G,toks:=s.toks+1 }:=by
   refine I.turnLaid (ch :=[e,it]) (λb o f q=>?_) (λb f=>?_) B (aF _) ?_
   ·have A:b≠e:=λz=>f (by simp [z]);have U:b≠it:=λz=>f (by simp [z]);exact (d.2 b A).trans (hk b o A U q)
   ·rcases aV.mp f with z | z
    ·subst z;exact⟨_,y⟩
    ·have z:b=it:=by simpa using z
     subst z;obtain⟨o,q,_⟩:=t;exact⟨o,(d.2 _ (dF m)).trans q⟩
   ·refine⟨by show 2<=sizeLine;decide,[.int (i:Int) s.toks,u],.cons ⟨_,rfl⟩ (.cons ru .nil),⟨_,(d.2 _ (eE l)).trans ht,rfl,_,rfl⟩⟩
  refine⟨.ref s.heap.objs.size,_,I1,rfl,⟨s.heap.objs.size,x,rfl,I.fresh,λys hy=>by rw [I.list_inj hy C];exact O,rfl⟩,⟨⟨_,by
   have:((i+1:Nat):Int)=(i:Int)+1:=by lia
   rw [this];exact y⟩,t.extBut d.extBut (dF m)⟩,λb f=>?_⟩
  have V:b<s.heap.objs.size:=by
   rcases aV.mp f with z | z
   ·rw [z];exact l
   ·have z:b=it:=by simpa using z
    rw [z];obtain⟨o,q,_⟩:=n;exact aX q
  rw [zD (bD V)];exact (B b f).1
 done:=by
  intro X J L M Z i j s σ H E I B st N;subst J L M;obtain⟨xs,C,O⟩:=N;obtain⟨⟨c,g⟩,n⟩:=st;obtain⟨Q,R,p,hz⟩:=I.list C;obtain⟨f0,f1,f2,f3,f4,f5⟩:=B it (by simp);have hl:=R.length;exact wpAny_pyNext_enum_end (I.ok.hd Z) g n p.isList (by simp;lia) λh' eb=>⟨rfl,I.turned (t':=s.toks) (λb o f q=>eb b o f q) f0 f1 f3 f4 f5⟩
 self:=λ_ _ _ _ _ st h=>by
  obtain⟨⟨c,g⟩,_⟩:=st;exact wpAny_pyIter_enum g h
section
variable{X:Cx}{elts:List Expr}{k:Nat}{tpos:Pos}
def iEnum(K:PySem.W.Frag)(ta:TA):TI:=λσ H R=>ta σ H λvs H1 => ∃a,vs = [.ref a]/\(∃xs,SqL K H1 a xs)/\R (Ite K a) H1
theorem vU{a:Expr}{j:TA}{p f:Pos}(o:Gl X "enumerate")(r:X.mg "enumerate" = none)(t:PA X [a] j)(v:starEach [a] X.env = [(false,eval a X.env)]:=by rfl):PI X (.Tuple elts k tpos) (.Call (.Name "enumerate" p) [a] [] f) (iEnum X.K j):=by
 intro d s σ H R I h;refine Call_ (vI I o r boot_enumerate (fW (thn (t f d s σ H _ I h) λM c hq_=>?_) v rfl));obtain⟨N,m,i,w,x⟩:=hq_;obtain⟨l,e,⟨O,y⟩,q⟩:=x;subst e;obtain⟨u,rfl,A⟩:=vals1 w;cases A;obtain⟨B,P,C,Q⟩:=i.list y;refine call_enumerate_list C.isList λD n E F G=>?_;refine wpAny_pyIter_enum n ?_;have J:Inv X d σ m { c with heap:=D }:=i.kept (t':=c.toks) G;refine⟨c.heap.objs.size+1,[c.heap.objs.size+1,c.heap.objs.size],_,_,m,rfl,J,qPr l (c.heap.objs.size+1) c.heap.objs.size (eE (eS _)),⟨⟨_,n⟩,E⟩,λb L=>?_,q⟩;have g:c.heap.objs.size<=b:=by
  rcases aV.mp L with z | z
  ·rw [z];exact gR _
  ·have z:b=c.heap.objs.size:=by simpa using z
   rw [z];exact aF _
 exact i.fpOk g (i.hok.fresh g)
end
section
variable{X:Cx}{elt tg iter tg2 iter2:Expr}{ifs ifs2:List Expr}{scope:Scope}{own:List Str}{cap:List Nat}{wi wi2:TI}{g g2:TG}{tts tts2:List TT}{te:TE}{pos:Pos}
theorem zp(own:List Str)(cap:List Nat)(c:X.calm=true)(S:CompScope X own cap scope)(hi:PI X tg iter wi)(d:∀a s H ex,PG (zT X own cap scope a s H ex) tg g)(e:∀a s H ex,PTs (zT X own cap scope a s H ex) ifs tts)(f:∀a s H ex,PE (zT X own cap scope a s H ex) elt te)(i:∀x,foldedSetIterable iter X.env x=pure x:=by intro _;rfl):PE X (.ListComp elt [⟨tg,iter,ifs,0⟩] scope pos) (tComp own cap (.lst []) wi g tts (eApp te)):=by
 intro b s σ H Q I h;exact kW (behOf:=vT elt) c S rfl hi kU (λ_ _ _ _ _=>QT) d e (λa s H ex l=>kX (f a s H ex)) i b s σ H Q I h
theorem vV{i:Nat}{x:Str}{d a:Pos}(own:List Str)(cap:List Nat)(j:X.calm=true)(S:CompScope X own cap scope)(k:X.N.Nodup)(e:X.N[i]? = some x)(m:Loc X.env.scope x)(hi:PI X tg iter wi)(n:∀b s H ex,PG (zT X own cap scope b s H ex) tg g)(o:∀b s H ex,PTs (zT X own cap scope b s H ex) ifs tts)(p:∀b s H ex,PE (zT X own cap scope b s H ex) elt te)(f:swapsWith (.ListComp elt [⟨tg,iter,ifs,0⟩] scope pos) (some (.Name x d)) a.line X.env=pure true:=by rfl)(q:∀x,foldedSetIterable iter X.env x=pure x:=by intro _;rfl)(r:X.fn x=true\/X.env.scope.names.lookup x=some .local:=by first | exact .inl rfl | exact .inr rfl | assumption):PS X (.Assign [.Name x d] (.ListComp elt [⟨tg,iter,ifs,0⟩] scope pos) a) (tAsg (tComp own cap (.lst []) wi g tts (eApp te)) (gName i)):=by
 intro c s σ H D I h;rw [exec_Assign_Name_used _ _ _ _ f];refine aA (dP (aA ?_));show wpAny _ X.A (do let _ <-comprehension (.ListComp elt [⟨tg,iter,ifs,0⟩] scope pos) scope X.env _ (newList []) false (eval iter X.env) (some (assign (.Name x d) X.env))) _ _ s;refine aA (thn (QS (behOf:=vT elt) j S rfl hi kU (λ_ _ _ _ _=>QT) n o (λb s H ex l=>kX (p b s H ex)) q k e m r c s σ H D I h) λ_ u t=>?_);exact aC (aC t)
def wB(e iter2:Expr)(d:Nat)(acc:Value)(env:Env):Sem Unit:=do
 let x <-eval iter2 env
 standAt iter2.pos
 let x <-foldedSetIterable iter2 env x
 let _ <-runOwn (.compStart e d (<-holding [x] (pyIter x)) acc env) env
def bNext(wi2:TI)(g2:TG)(tts2:List TT)(B:TB):TB:=λσ H Q=>wi2 σ H λJ H1=>LoopT J g2 (tAll tts2) B σ H1 Q
theorem QU{e:Expr}{d:Nat}{acc:Value}{b:Sem Unit}{B:TB}(g:X.xe=λ_ _=>False)(j:X.calm=true)(C:ClauseAt X e d acc tg2 iter2 ifs2 b)(hi:PI X tg2 iter2 wi2)(k:PG X tg2 g2)(l:PTs X ifs2 tts2)(m:PB X b B)(n:∀x,foldedSetIterable iter2 X.env x=pure x):PB X (wB e iter2 d acc X.env) (bNext wi2 g2 tts2 B):=by
 intro a s σ H Q I h;refine aA (thn (hi a s σ H _ I h) λv A o=>aA (dP (aA (wpAny_of_eq (n v) (aA (bM (thn o λp t u=>?_)))))));obtain⟨w,D,E,J,F,rfl,y,T,c,z,q⟩:=u;have L:=QN g j C T k l m y c z q;refine aA (wpAny_runOwn ?_);refine gX (C.start (.ref w) (CompR X a Q) t L (T.self _ 0 _ _ _ c L)) λr G i=>?_;cases r with
 | error x=>exact (show False from i).elim
 | ok f=>exact aC i
theorem QV{elt:Expr}{gens:List Comprehension}{scope:Scope}{pos:Pos}{acc:Value}{d:Nat}{tg iter:Expr}{ifs:List Expr}(hd:gens[d]? = some ⟨tg,iter,ifs,0⟩)(it:Value)(R:Result->Shared->Prop)(s:Shared)(e:codeAny (model X.prog X.w) X.A (.compLoop (.ListComp elt gens scope pos) d it acc X.env) R s)(h:wpAny (model X.prog X.w) X.A (pyIter it) (λa b=>codeAny (model X.prog X.w) X.A (.compLoop (.ListComp elt gens scope pos) d a acc X.env) R b) (λ_ _=>False) s):codeAny (model X.prog X.w) X.A (.compStart (.ListComp elt gens scope pos) d it acc X.env) R s:=by
 refine codeAny_of_tree ?_;show wpAny _ X.A ((compStart (.ListComp elt gens scope pos) d it acc X.env).onRaise (λx=>do noteFrame x X.env;standAt theWindowsPlace)) _ _ s;refine wpAny_notedAt ?_;unfold compStart;have f:(clausesOf (.ListComp elt gens scope pos))[d]? = some ⟨tg,iter,ifs,0⟩:=hd;rw [f];show wpAny _ _ (ask >>= _) _ _ s;refine aA (cU (wpAny_ite ?_));have c:wpAny (model X.prog X.w) X.A (pyIter it) (λa b=>codeAny (model X.prog X.w) X.A (.compLoop (.ListComp elt gens scope pos) d a acc X.env) R b) (notedBy (model X.prog X.w) X.A X.env λx b=>R (.error x) b) s:=eM h (λ_ _ z=>z) λ_ _ z=>z.elim;split
 ·first
   | exact aA (aC (aC (And.intro rfl e)))
   | exact aC (And.intro rfl e)
 ·first
   | exact aA (cV (aA (dP (aA (eM c (λa b c=>aC (And.intro rfl c)) λ_ _ x=>x)))))
   | (refine aA (cV ?_);show wpAny _ _ (standAt iter.pos >>= _) _ _ s;exact aA (dP (aA (eM c (λa b c=>aC (And.intro rfl c)) λ_ _ x=>x))))
theorem qJ5{acc:Value}:ClauseAt X (.ListComp elt [⟨tg,iter,ifs,0⟩,⟨tg2,iter2,ifs2,0⟩] scope pos) 0 acc tg iter ifs (wB (.ListComp elt [⟨tg,iter,ifs,0⟩,⟨tg2,iter2,ifs2,0⟩] scope pos) iter2 1 acc X.env) where
 quiet:=λ_=>rfl
 under:=λ_=>rfl
 den:=λ_=>rfl
 turn:=λa=>by
  have e:compTurn (.ListComp elt [⟨tg,iter,ifs,0⟩,⟨tg2,iter2,ifs2,0⟩] scope pos) 0 a acc X.env=(do
   standAt iter.pos
   match <-pyNext a with
   | none=>pure (.done .next)
   | some v =>
    letOwnedTupleGo tg a v
    assign tg X.env v
    let ok <-wA ifs X.env true
    if ok then
     let x <-eval iter2 X.env
     standAt iter2.pos
     let x <-foldedSetIterable iter2 X.env x
     let _ <-runOwn (.compStart (.ListComp elt [⟨tg,iter,ifs,0⟩,⟨tg2,iter2,ifs2,0⟩] scope pos) 1 (<-holding [x] (pyIter x)) acc X.env) X.env
    again (.compLoop (.ListComp elt [⟨tg,iter,ifs,0⟩,⟨tg2,iter2,ifs2,0⟩] scope pos) 0 a acc X.env)):=rfl
  rw [e];unfold wB;simp only [bind_assoc,pure_bind]
  first
   | done
   | rfl
   | (congr 1;funext _;congr 1;funext r;cases r <;> rfl)
 start:=λa R s=>QV rfl a R s
theorem qJ4{acc:Value}:ClauseAt X (.ListComp elt [⟨tg,iter,ifs,0⟩,⟨tg2,iter2,ifs2,0⟩] scope pos) 1 acc tg2 iter2 ifs2 (vT elt acc X.env) where
 quiet:=λ_=>rfl
 under:=λ_=>rfl
 den:=λ_=>rfl
 turn:=λ_=>rfl
 start:=λa R s=>QV rfl a R s
end
end L2
namespace Srt
open PySem PySem.W PyProof.Rows
variable{lt:Nat->Nat->Bool}
end Srt
namespace L2
open PySem PySem.Spec PyProof.Rows
theorem HOk.gone{P:Program}{w:World}{H:Hp}{h:Heap}{D:Addr}(x:HOk P w H h)(c:h.get? D=none):H D=none:=by
 cases q:H D with
 | none=>rfl
 | some u =>
  have z:∃a,h.get? D=some a:=by
   have:=x D u q;cases u with
   | lst xs=>obtain⟨_,_,_,_,e⟩:=this;exact⟨_,e⟩
   | tup xs=>obtain⟨_,_,_,a,e,_⟩:=this;exact⟨_,e⟩
   | dK b=>obtain⟨_,_,_,_,o,_,_,e,_⟩:=this;exact⟨_,e⟩
   | dT b=>obtain⟨_,_,_,_,o,_,_,e,_⟩:=this;exact⟨_,e⟩
   | set S n=>obtain⟨o,_,_,_,e,_⟩:=this;exact⟨_,e⟩
   | ins C dx fs=>obtain⟨_,_,_,e,_⟩:=this;exact⟨_,e⟩
   | own y=>obtain⟨_,e⟩:=this;exact⟨_,e⟩
   | xd fs=>obtain⟨_,⟨_,_,_,e,_⟩,_⟩:=this;exact⟨_,e⟩
   | rng lo d=>obtain⟨_,_,_,e⟩:=this;exact⟨_,e⟩
   | frz a u=>obtain⟨e,_⟩:=this;exact⟨_,e⟩
   | tbl g=>exact⟨_,this⟩
   | met f y=>exact⟨_,this⟩
   | ext φ =>obtain⟨_,⟨_,e⟩,_⟩:=this;exact⟨_,e⟩
  obtain⟨a,z⟩:=z;rw [c] at z;cases z
section
variable{X:Cx}
def qYg(K:PySem.W.Frag):List V->Hp->VK->Prop:=λxs H Q => ∃(a:Addr) (ns:List Int),xs = [.ref a]/\SqL K H a (ns.map V.int)/\ns.length<64 /\ ∀(l:Addr) (ns':List Int),H l=none->ns'.Perm ns->ns'.Pairwise (· <= ·)->Q (.ref l) (upd H l (.lst (ns'.map V.int)))
theorem qPc:CallR X (.builtin "sorted") (qYg X.K):=by
 intro i s σ H z A Q I r h;obtain⟨a,B,rfl,m,C,q⟩:=h;obtain⟨u,rfl,n⟩:=vals1 r;cases n;obtain⟨f,j,p,_⟩:=I.list m;have t:=j.length;rw [aB] at t;refine sorted_ints p.isList (kL j) (by lia) λc d v k w=>?_;obtain⟨e,x⟩:=sortedAll_at s.heap f c;have l:=k.length_eq;have y:H (s.heap.objs.size+1)=none:=I.hok.fresh (gR _);have g:Vals (d.map V.int) c.toList:=uM v;refine⟨.ref (s.heap.objs.size+1),_,I.laid (t':=s.toks) (o :=.lst (d.map V.int)) (λb u e=>sortedAll_old e) (gR _) ⟨?_,c.toList,e,g,by simpa using x⟩,rfl,q _ d y k w⟩;rw [aB,dX];lia
end
end L2
namespace Srt
open PySem PySem.W PyProof.Rows
end Srt
namespace L2
open PySem PySem.Spec PyProof.Rows
theorem Same.seqT{K:PySem.W.Frag}{H b:Hp}{a:Addr}{xs:List V}(e:Same H b)(h:SqT K H a xs):SqT K b a xs:=by
 rcases h with (h | ⟨o,h⟩) | h
 ·exact .inl (.inl (e _ _ h))
 ·exact .inl (.inr ⟨o,e _ _ h⟩)
 ·exact .inr h
mutual
def Den(K:PySem.W.Frag)(G:Hp):PyData->V->Prop
 | .none,v=>v = .non
 | .bool b,v=>v = .bl b
 | .int i,v=>v = .int i
 | .str x,v=>v = .str x
 | .list ds,v => ∃a vs,v = .ref a/\SqL K G a vs/\DenL K G ds vs
 | .tuple ds,v => ∃a vs,v = .ref a/\SqT K G a vs/\DenL K G ds vs
 | .dict _,_=>False
def DenL(K:PySem.W.Frag)(G:Hp):List PyData->List V->Prop
 | [],vs=>vs = []
 | d::ds,vs => ∃v r,vs=v::r/\Den K G d v/\DenL K G ds r
end
section
variable{K:PySem.W.Frag}{G G':Hp}
mutual
theorem Den.mono(h:Same G G'):∀ {d:PyData} {v:V},Den K G d v->Den K G' d v
 | .none,_,e=>by simp only [Den] at e ⊢;exact e
 | .bool _,_,e=>by simp only [Den] at e ⊢;exact e
 | .int _,_,e=>by simp only [Den] at e ⊢;exact e
 | .str _,_,e=>by simp only [Den] at e ⊢;exact e
 | .list ds,_,e=>by
  simp only [Den] at e ⊢;obtain⟨a,b,c,f,g⟩:=e;exact⟨a,b,c,h.seq f,DenL.mono h g⟩
 | .tuple ds,_,e=>by
  simp only [Den] at e ⊢;obtain⟨a,b,c,f,g⟩:=e;exact⟨a,b,c,h.seqT f,DenL.mono h g⟩
 | .dict _,_,e=>by simp only [Den] at e
theorem DenL.mono(h:Same G G'):∀ {ds:List PyData} {vs:List V},DenL K G ds vs->DenL K G' ds vs
 | [],_,e=>by simp only [DenL] at e ⊢;exact e
 | d::ds,_,e=>by
  simp only [DenL] at e ⊢;obtain⟨v,r,a,b,c⟩:=e;exact⟨v,r,a,Den.mono h b,DenL.mono h c⟩
end
theorem DenL.len:∀ {ds:List PyData} {vs:List V},DenL K G ds vs->vs.length=ds.length
 | [],_,e=>by simp only [DenL] at e;rw [e];rfl
 | d::ds,_,e=>by
  simp only [DenL] at e;obtain⟨v,r,rfl,_,a⟩:=e;simp [DenL.len a]
theorem DenL.nil:DenL K G [] []:=by simp only [DenL]
theorem DenL.cons{d:PyData}{ds:List PyData}{v:V}{vs:List V}(a:Den K G d v)(b:DenL K G ds vs):DenL K G (d::ds) (v::vs):=by
 simp only [DenL];exact⟨v,vs,rfl,a,b⟩
theorem DenL.append:∀ {ds es:List PyData} {vs ws:List V},DenL K G ds vs->DenL K G es ws->DenL K G (ds++es) (vs++ws)
 | [],_,_,_,e,f=>by simp only [DenL] at e;subst e;exact f
 | d::ds,_,_,_,e,f=>by
  simp only [DenL] at e;obtain⟨v,r,rfl,a,b⟩:=e;exact .cons a (DenL.append b f)
theorem DenL.get:∀ {ds:List PyData} {vs:List V} {i:Nat} {v:V},DenL K G ds vs->vs[i]? = some v -> ∃d,ds[i]? = some d/\Den K G d v
 | [],_,_,_,e,h=>by simp only [DenL] at e;subst e;simp at h
 | d::ds,_,0,_,e,h=>by
  simp only [DenL] at e;obtain⟨v,r,rfl,a,b⟩:=e;simp at h;subst h;exact⟨d,rfl,a⟩
 | d::ds,_,i+1,_,e,h=>by
  simp only [DenL] at e;obtain⟨v,r,rfl,a,b⟩:=e;exact DenL.get (i:=i) b (by simpa using h)
theorem DenL.get':∀ {ds:List PyData} {vs:List V} {i:Nat} {d:PyData},DenL K G ds vs->ds[i]? = some d -> ∃v,vs[i]? = some v/\Den K G d v
 | [],_,_,_,e,h=>by simp at h
 | d::ds,_,0,_,e,h=>by
  simp only [DenL] at e;obtain⟨v,r,rfl,a,b⟩:=e;simp at h;subst h;exact⟨v,rfl,a⟩
 | d::ds,_,i+1,_,e,h=>by
  simp only [DenL] at e;obtain⟨v,r,rfl,a,b⟩:=e;exact DenL.get' (i:=i) b (by simpa using h)
theorem Den.int{i:Int}:Den K G (.int i) (.int i):=by simp only [Den]
theorem Den.list{ds:List PyData}{a:Addr}{vs:List V}(h:SqL K G a vs)(e:DenL K G ds vs):Den K G (.list ds) (.ref a):=by simp only [Den];exact⟨a,vs,rfl,h,e⟩
theorem Den.tuple{ds:List PyData}{a:Addr}{vs:List V}(h:SqT K G a vs)(e:DenL K G ds vs):Den K G (.tuple ds) (.ref a):=by simp only [Den];exact⟨a,vs,rfl,h,e⟩
theorem Den.ofInt{i:Int}{v:V}(h:Den K G (.int i) v):v = .int i:=by simpa only [Den] using h
theorem Den.ofStr{i:Str}{v:V}(h:Den K G (.str i) v):v = .str i:=by simpa only [Den] using h
theorem Den.ofList{ds:List PyData}{v:V}(h:Den K G (.list ds) v):∃a vs,v = .ref a/\SqL K G a vs/\DenL K G ds vs:=by simpa only [Den] using h
theorem Den.ofTuple{ds:List PyData}{v:V}(h:Den K G (.tuple ds) v):∃a vs,v = .ref a/\SqT K G a vs/\DenL K G ds vs:=by simpa only [Den] using h
theorem DenL.ofCons{d:PyData}{ds:List PyData}{vs:List V}(h:DenL K G (d::ds) vs):∃v r,vs=v::r/\Den K G d v/\DenL K G ds r:=by simpa only [DenL] using h
theorem DenL.ofNil{vs:List V}(h:DenL K G [] vs):vs = []:=by simpa only [DenL] using h
theorem DenL.ints:∀ {ns:List Int} {vs:List V},DenL K G (ns.map PyData.int) vs->vs=ns.map V.int
 | [],_,e=>e.ofNil
 | n::ns,_,e=>by
  obtain⟨v,r,rfl,a,b⟩:=DenL.ofCons e;rw [a.ofInt,DenL.ints b];rfl
theorem DenL.ofInts:∀ns:List Int,DenL K G (ns.map PyData.int) (ns.map V.int)
 | [] =>.nil
 | n::ns =>.cons .int (DenL.ofInts ns)
end
section
variable{X:Cx}{pins:List (Addr×Obj)}{σ : St}{H:Hp}{s:Shared}
mutual
theorem Den.reads(I:Inv X pins σ H s):∀ {d:PyData} {v:V} {u:Value},Den X.K H d v->RelV v u -> ∃as,Reads s.heap u d as
 | .none,_,_,e,r=>by simp only [Den] at e;subst e;cases r;exact⟨_,.none⟩
 | .bool b,_,_,e,r=>by simp only [Den] at e;subst e;cases r;exact⟨_,.bool b⟩
 | .int i,_,_,e,r=>by simp only [Den] at e;subst e;obtain⟨t,rfl⟩:=r;exact⟨_,.int i t⟩
 | .str x,_,_,e,r=>by simp only [Den] at e;subst e;obtain⟨t,rfl⟩:=r;exact⟨_,.str x t⟩
 | .list ds,_,_,e,r=>by
  simp only [Den] at e;obtain⟨a,p,rfl,c,f⟩:=e;cases r;obtain⟨g,h,⟨o,n,j,k,q,l⟩,_⟩:=I.list c;obtain⟨as,m⟩:=DenL.reads I f h;exact⟨_,.list j k l (by simpa using m)⟩
 | .tuple ds,_,_,e,r=>by
  simp only [Den] at e;obtain⟨a,p,rfl,c,f⟩:=e;cases r;obtain⟨g,h,⟨o,j,k,n,l⟩,_⟩:=I.tuple c;obtain⟨as,m⟩:=DenL.reads I f h;exact⟨_,.tuple j k l (by simpa using m)⟩
 | .dict _,_,_,e,_=>by simp only [Den] at e
theorem DenL.reads(I:Inv X pins σ H s):∀ {ds:List PyData} {vs:List V} {us:List Value},DenL X.K H ds vs->Vals vs us -> ∃as,ReadsAll s.heap us ds as
 | [],_,_,e,r=>by simp only [DenL] at e;subst e;cases r;exact⟨_,.nil⟩
 | d::ds,_,_,e,r=>by
  simp only [DenL] at e;obtain⟨v,i,rfl,a,b⟩:=e;cases r with
  | cons c f =>
   obtain⟨as,g⟩:=Den.reads I a c;obtain⟨bs,h⟩:=DenL.reads I b f;exact⟨_,.cons g h⟩
end
end
section
variable{X:Cx}{k:Nat}
def rEqD(K:PySem.W.Frag)(neg:Bool):R2:=λx y H Q => ∃da db,Den K H da x/\Den K H db y/\SeqAt.shaped da=true/\SeqAt.shaped db=true/\Q (.bl (if neg then !PyData.eqv da db else PyData.eqv da db)) H
theorem QW(b:Room k X.A):OpR X (compareOp .Eq) (rEqD X.K false):=by
 intro a s σ H x y v u Q I c d h;obtain⟨m,n,e,f,g,i,q⟩:=h;obtain⟨o,j⟩:=Den.reads I e c;obtain⟨bs,l⟩:=Den.reads I f d;exact SeqAt.compareEq_shaped j l g i b.units ⟨.bl _,H,I,rfl,q⟩
theorem xk(b:Room k X.A):OpR X (compareOp .NotEq) (rEqD X.K true):=by
 intro a s σ H x y v u Q I c d h;obtain⟨m,n,e,f,g,i,q⟩:=h;obtain⟨o,j⟩:=Den.reads I e c;obtain⟨bs,l⟩:=Den.reads I f d;exact SeqAt.compareNe_shaped j l g i b.units ⟨.bl _,H,I,rfl,q⟩
end
end L2
namespace Miss
open PySem PySem.Spec PyProof.Rows
theorem qXi:typeLookup (.type "list") "keys" = pure none:=am_miss_of_fast (by decide +kernel)
theorem qZv:typeLookup (.type "list") "__getattr__" = pure none:=am_miss_of_fast (by decide +kernel)
section
variable{prog:Program}{w:World}{A:Around}{E:Value->Shared->Prop}{a:Addr}{its:Array Value}{n:Nat}
theorem entry{u:Tok}:Meets (Builtin.«object.__getattribute__» ⟨[.ref a,.str "keys" u],[]⟩) (λA R s=>s.heap.get? a=some { cls :=.type "list",dict:=none,data :=.seq its n,slots := #[] }/\raisesAttr (.ref a) "keys" A R s) :=
 Meets.of_wp λprog w A R s b=>by
  obtain⟨c,g,d,tk,os⟩:=s;obtain⟨e,b⟩:=b;have f:(⟨c,g,d,tk,os⟩:Shared).TypeIs (.ref a) "list" :=⟨_,e,rfl⟩;have h:=qXi;unfold Builtin.«object.__getattribute__»
  repeat (any_goals (first | assumption | wp_step))
  exact wpAny_raiseAttrError b.1 b.2 (attrMsg_fits (by decide +kernel) (by rw [dX];decide +kernel))
theorem no_keys{s:Shared}{Q:Option Value->Shared->Prop}(i:A.handled=none)(f:s.heap.get? a=some { cls :=.type "list",dict:=none,data :=.seq its n,slots := #[] })
  (h:∀c tk,(∀b o,s.heap.get? b=some o->c.get? b=some o)->Q none { s with heap:=c,toks:=tk }):wpAny (model prog w) A (getAttr? (.ref a) "keys") Q E s:=by
 obtain⟨j,g,d,tk,os⟩:=s;have k:∀tk,(⟨j,g,d,tk,os⟩:Shared).TypeIs (.ref a) "list" :=λ_=>⟨_,f,rfl⟩;have m:=sub_AttributeError;have p:=gY.lookup;have q:=gY.bind (.ref a);have r:=qZv;unfold getAttr? getAttrBy? getAttrBy
 repeat (any_goals (first | assumption | ((with_reducible show wpAny _ _ (call (Value.builtin "list.__getattribute__") _ _) _ _ _);refine call_meets gY (k _) F.entry_list_ga (F.args_list_getattribute_2 _ _) (entry (its:=its) (n:=n)) ⟨f,i,λc l e x=>?_⟩) | wp_step))
 obtain⟨t,u,v⟩:=x.there;show wpAny _ _ (getattributeRaised _ _ (Value.type "list") _ _ _ _) _ _ _;unfold getattributeRaised
 repeat (any_goals (first | assumption | wp_step))
 exact h _ _ x.keeps
theorem entry_loop:entryFor table "dict.update.loop" = some Builtin.«dict.update.loop» :=entryFor_of_tree (by kernel_rfl)
theorem plain_loop:plainId "dict.update.loop" = true:=by decide +kernel
end
end Miss
namespace L2
open PySem PySem.Spec PyProof.Rows
theorem qV8{X:Cx}:wY X newDict (.dK []):=by
 intro a s σ H E Q I h;refine bV (h _ _ (aF _) I.fresh (I.laid (t':=s.toks) (λ_ _ q=>aG _ q) (aF _) (uL s.heap I.big)) λb u e=>aG _ e) ?_
 first | trivial | size_fits | decide
def ePut(tk tv:TE)(l:Addr):TB:=λσ H Q=>tk σ H λx H1=>tv σ H1 λy H2 => ∃kvs k,x=kV k/\H2 l=some (.dK kvs)/\kvs.length<sizeLine/\Q σ (upd H2 l (.dK (putK kvs k y)))
def kY(k v:Expr)(acc:Value)(env:Env):Sem Unit:=do
 let kv <-eval k env
 let vv <-holding [kv] (eval v env)
 match acc with
 | .ref d=>do
  standAt { k.pos with endLine:=v.pos.endLine,endCol:=v.pos.endCol }
  holding [kv,vv] (dictSet d kv vv)
 | _=>unsupported "internal:dictcomp"
theorem qX1{X:Cx}{k v:Expr}{tk g:TE}{l:Addr}(m:PE X k tk)(n:PE X v g):PB X (kY k v (.ref l) X.env) (ePut tk g l):=by
 intro a s σ H Q I h;refine aA (thn (m a s σ H _ I h) λu o hq_=>?_);obtain⟨x,p,r,t,w⟩:=hq_;refine aA (bM (thn (n a o σ p _ r w) λK L hq_=>?_));obtain⟨y,M,i,A,b,f,e,j,N,q⟩:=hq_;subst e;obtain⟨z,B,O,c,C⟩:=ye i.hok j;have D:(putK b f y).length<=sizeLine:=by have:=xW b f y;lia
 refine aA (dP (bM (wpAny_dictSet_pairs (xE t) C (λE d F=>?_) (by rw [<-c.length];exact z))));have G:∃q,E.get? l=some q:=let ⟨q,_,_,J,_⟩:=d;⟨q,J⟩
 exact⟨σ,_,xG i (by rw [j];exact True.intro) F G (xx D B (c.put f A) d),q⟩
theorem qMl{X:Cx}{k v d a:Expr}{b:List Expr}{scope:Scope}{c:Pos}{acc:Value}:ClauseAt X (.DictComp k v [⟨d,a,b,0⟩] scope c) 0 acc d a b (kY k v acc X.env) where
 quiet:=λ_=>rfl
 under:=λ_=>rfl
 den:=λ_=>rfl
 turn:=λ_=>rfl
 start:=λf R s e h=>codeAny_compStart_dict e (eM h (λ_ _ z=>z) λ_ _ z=>z.elim)
section
variable{X:Cx}{ke ve tg iter:Expr}{ifs:List Expr}{scope:Scope}{own:List Str}{cap:List Nat}{wi:TI}{g:TG}{tts:List TT}{tk tv:TE}{pos:Pos}
theorem qZs(own:List Str)(cap:List Nat)(c:X.calm=true)(S:CompScope X own cap scope)(hi:PI X tg iter wi)(d:∀a s H ex,PG (zT X own cap scope a s H ex) tg g)(e:∀a s H ex,PTs (zT X own cap scope a s H ex) ifs tts)(f:∀a s H ex,PE (zT X own cap scope a s H ex) ke tk)(i:∀a s H ex,PE (zT X own cap scope a s H ex) ve tv)(j:∀x,foldedSetIterable iter X.env x=pure x:=by intro _;rfl):PE X (.DictComp ke ve [⟨tg,iter,ifs,0⟩] scope pos) (tComp own cap (.dK []) wi g tts (ePut tk tv)):=by
 intro b s σ H Q I h;exact kW (behOf:=kY ke ve) c S rfl hi qV8 (λ_ _ _ _ _=>qMl) d e (λa s H ex l=>qX1 (f a s H ex) (i a s H ex)) j b s σ H Q I h
end
def Itd(d:Addr)(o:Obj)(kvs:List (Key×V)):It:=⟨λi H=>H d=some (.frz o (.dK kvs))/\i<kvs.length,λi H x H'=>H'=H /\ ∃k v,kvs[i]? = some (k,v)/\x=kV k,λi H=>H d=some (.frz o (.dK kvs))/\kvs.length<=i⟩
theorem QX{P:Program}{w:World}{k:Key}{u:Value}(h:(zY P w).is k u=true):RelV (kV k) u:=by
 rcases yU h with ⟨i,t,rfl,rfl⟩ | ⟨x,t,rfl,rfl⟩
 ·exact⟨t,rfl⟩
 ·exact⟨t,rfl⟩
theorem KV.keyAt{κ : Type}:∀ {kvs:List (κ × V)} {vs:List (κ × Value)} {i:Nat} {k : κ} {v:V},KV kvs vs->kvs[i]? = some (k,v) -> ∃x,vs[i]? = some (k,x)
 | _,_,_,_,_,.nil,e=>by simp at e
 | _,_,0,_,_,.cons (b:=b) r _,e=>by
  simp at e;subst e;obtain⟨a,c⟩:=b;have:_=a:=r.1;exact⟨c,by simp [<-this]⟩
 | _,_,i+1,k,v,.cons _ t,e=>KV.keyAt (i:=i) (v:=v) t (by simpa using e)
section
variable{P:Program}{w:World}{K:PySem.W.Frag}{tg:Expr}
theorem uN{H:Hp}{h:Heap}{d:Addr}{o:Obj}{kvs:List (Key×V)}{es:Array DictEntry}{ep:Nat}(ok:HOk P w H h)(e:H d=some (.frz o (.dK kvs)))(hd:o.data = .dict es ep):kvs.length<=sizeLine/\(d == sysModules)=false /\ ∃vs,KV kvs vs/\h.DictAt (zY P w) d vs ep:=by
 obtain⟨b,z,g,vs,a,m,i,j,c,k,f,l⟩:=ok d _ e;rw [b] at c;cases c;rw [hd] at f;cases f;exact⟨z,g,vs,a,o,es,b,k,hd,l⟩
theorem qPs(d it:Addr)(o:Obj)(kvs:List (Key×V)){es:Array DictEntry}{ep:Nat}(hd:o.data = .dict es ep):Turn P w K tg (Itd d o kvs) [it] it (λi h=>h.IsKeyIter it d i kvs.length ep) where
 mem:=by simp
 obj:=λi h st b g=>by
  have e:b=it:=by simpa using g
  subst e;obtain⟨j,e,c,m⟩:=st;exact⟨j,e,λv z=>by rw [m] at z;cases z⟩
 keep:=λi h q st k=>st.at λj e=>k it (by simp) j e
 item:=by
  intro X u y A N i f s σ H E I r st B;subst u y A;obtain⟨C,O⟩:=B;obtain⟨z,R,S,a,m⟩:=uN I.hok C hd;obtain⟨⟨k,v⟩,Q⟩:∃p,kvs[i]? = some p:=⟨kvs[i],by simp [O]⟩;obtain⟨x,D⟩:=a.keyAt Q;obtain⟨F,G,T,J,L,M⟩:=r it (by simp);have t:=a.length;refine wpAny_pyNext_dict_item (by rw [<-t];exact st) m D λkey q n l U=>?_;have W:Inv X f σ H { s with heap:=q }:=I.turned (t':=s.toks) (λb j g e=>(U.2 b g).trans e) F G J L M;obtain⟨j,e,c,Y⟩:=id l;exact⟨key,rfl,vK (s :={ s with heap:=q }) e c Y (by decide) ⟨kV k,H,W,QX n,⟨rfl,k,v,Q,rfl⟩,by rw [<-t] at l;exact l,λb g=>(r b g).1⟩⟩
 done:=by
  intro X u y A N i f s σ H E I r st B;subst u y A;obtain⟨C,O⟩:=B;obtain⟨z,R,S,a,m⟩:=uN I.hok C hd;obtain⟨F,G,T,J,L,M⟩:=r it (by simp);have t:=a.length;exact wpAny_pyNext_dict_end (I.ok.hd N) (by rw [<-t];exact st) m (by simp;lia) λq Z=>⟨rfl,I.turned (t':=s.toks) (λb j g e=>Z b j g e) F G J L M⟩
 self:=λ_ _ _ _ _ st h=>wpAny_pyIter_keyiter st h
end
theorem Inv.freeze{X:Cx}{a:List (Addr×Obj)}{σ : St}{H:Hp}{s:Shared}{d:Addr}{o:Obj}{u:HO}(I:Inv X a σ H s)(e:H d=some u)(mu:Mut (some u))(c:s.heap.get? d=some o)(f:∀g:Hp,ObjOk X.prog X.w g s.heap d u):Inv X a σ (upd H d (.frz o u)) s:=by
 have:=I.write (x:=d) (e:=d) (o :=.frz o u) (h':=s.heap) (t':=s.toks) (by rw [e];exact mu) (.inl rfl) (λb v _ q=>q) ⟨o,c⟩ ⟨c,f _⟩;exact this
section
variable{X:Cx}{tg:Expr}
def iDict(td:TE):TI:=λσ H R=>td σ H λx H1 => ∃d kvs,x = .ref d/\H1 d=some (.dK kvs) /\ ∀o,R (Itd d o kvs) (upd H1 d (.frz o (.dK kvs)))
theorem QY{l:Expr}{m:TE}(C:PE X l m):PI X tg l (iDict m):=by
 intro a s σ H R I h;refine thn (C a s σ H _ I h) λv c hq_=>?_;obtain⟨x,D,n,E,F⟩:=hq_;obtain⟨d,f,e,p,q⟩:=F;subst e;cases E;obtain⟨z,r,t,g,o,u,y,i,A,j,B⟩:=ye n.hok p;have G:c.heap.DictAt (zY X.prog X.w) d t y:=⟨o,u,i,A,j,B⟩;have k:Inv X a σ (upd D d (.frz o (.dK f))) c:=n.freeze p True.intro i λK=>⟨z,r,t,g,o,u,y,i,A,j,B⟩;refine wpAny_pyIter_dict r G ?_;refine⟨c.heap.objs.size,[c.heap.objs.size],_,_,_,rfl,k.kept (t':=c.toks) λb L e=>aG _ e,qPs d _ o f j,⟨_,aT _ rfl,rfl,by rw [g.length];rfl⟩,λb J=>?_,q o⟩;have e:b=c.heap.objs.size:=by simpa using J
 subst e;exact k.fpOk (aF _) (k.hok.fresh (aF _))
end
def PairsAt(H:Hp):List V->List (Key×V)->Prop:=Paired λv kv => ∃a,v = .ref a/\H a=some (.tup [kV kv.1,kv.2])
theorem PairsAt.mono{H c:Hp}(h:∀b xs,H b=some (.tup xs)->c b=some (.tup xs)){vs:List V}{kvs:List (Key×V)}(p:PairsAt H vs kvs):PairsAt c vs kvs:=Paired.mapP p λ_ _ ⟨a,e,q⟩=>⟨a,e,h _ _ q⟩
theorem kZ{X:Cx}{c:List (Addr×Obj)}{σ : St}{l d it:Addr}(hh:X.A.handled=none):∀ {more:List (Key×V)} {items:List V} {i:Nat} {A:Around} {H:Hp} {s:Shared} {kvs:List (Key×V)} {R:Result->Shared->Prop},A.handled=none->Inv X c σ H s->s.heap.IsListIter it l i->FpOk X c H it ->
  H l=some (.lst items)->H d=some (.dK kvs)->l≠d->PairsAt H (items.drop i) more->kvs.length+more.length<=sizeLine->(∀F,Inv X c σ (upd H d (.dK (yj kvs more))) F->R (.ok (.ret .none)) F) ->
  codeAny (model X.prog X.w) A (.builtin "dict.update.loop" ⟨[.ref d,.ref it,rawInt i,.none],[]⟩) R s
 | [],items,i,A,H,s,kvs,R,P,I,st,hf,G,hd,g,m,hz,h=>by
  refine dR Miss.entry_loop ?_;rw [cW Miss.plain_loop _];obtain⟨j,n,r,Q,_⟩:=I.lst G;have a0:items.length<=i:=by
   have:=cZ m;rw [cC] at this;have e:([]:List (Key×V)).length=0:=rfl;lia
  have S:=r.length;show wpAny _ _ (pyNext (.ref it) >>= _) _ _ s;obtain⟨o,J,f2,K,L,M⟩:=hf;refine aA (wpAny_pyNext_list_end (show A.in1.handled=none from P) st (l:=l) (items:=j.toArray) ⟨_,Q,rfl,n,rfl⟩ (by simp;lia) λt eb=>?_);have y:Inv X c σ H { s with heap:=t }:=I.turned (t':=s.toks) (λb N p e=>eb b N p e) o J K L M;have e1:upd H d (.dK (yj kvs []))=H:=by
   funext b
   by_cases p:b=d
   ·subst p;rw [zC,hd];rfl
   ·rw [zD p]
  rw [e1] at h;show wpAny _ _ (Builtin.Dict.addKeywords d [] >>= _) _ _ _;exact aA (aC (aC (h _ y)))
 | (k,w)::more,items,i,A,H,s,kvs,R,P,I,st,hf,G,hd,g,m,hz,h=>by
  refine dR Miss.entry_loop ?_;rw [cW Miss.plain_loop _];obtain⟨j,n,r,Q,_⟩:=I.lst G;have S:=r.length;cases O:items.drop i with
  | nil=>rw [O] at m;cases m
  | cons v rest =>
   rw [O] at m;cases m with
   | cons hv hr =>
    obtain⟨a,rfl,ha⟩:=hv;have hi:items[i]? = some (.ref a):=by rw [<-List.head?_drop,O];rfl
    obtain⟨u,hu,ru⟩:=r.get hi;cases ru;obtain⟨o,J,f2,K,L,M⟩:=id hf;show wpAny _ _ (pyNext (.ref it) >>= _) _ _ s;refine aA (wpAny_pyNext_list_item st (l:=l) (items:=j.toArray) ⟨_,Q,rfl,n,rfl⟩ (x :=.ref a) (by simpa using hu) λt U sb=>?_);have y:Inv X c σ H { s with heap:=t }:=I.turned (t':=s.toks) (λb N p e=>(sb.2 b p).trans e) o J K L M;obtain⟨_,a1,rt,N,B,W,n2,Y⟩:=(show ObjOk X.prog X.w H t a (.tup [kV k,w]) from y.hok a _ ha);obtain⟨uk,uw,rfl,rk,Z⟩:=vals2 rt;refine aA (bM (aA (wpAny_tryCatch ?_)));unfold Builtin.Dict.pairItems;refine aA (fS (T := "tuple") ⟨N,B,W⟩ ?_);rw [if_pos (by decide)];refine aA (wpAny_seqItems B Y (aC ?_))
    show wpAny _ _ (holding [uk,uw] (dictSet d uk uw)) _ _ _;obtain⟨z,hs,vs,C,dd⟩:=ye y.hok hd;have a2:kvs.length+(more.length+1)<=sizeLine:=hz;have a3:(putK kvs k w).length<=kvs.length+1:=xW kvs k w;refine bM (wpAny_dictSet_pairs (xE rk) dd (λh2 D E=>aC ?_) (by rw [<-C.length];exact z));have he:∃q,h2.get? d=some q:=let ⟨q,_,_,hq,_⟩:=D;⟨q,hq⟩
    have I2:Inv X c σ (upd H d (.dK (putK kvs k w))) { s with heap:=h2,toks:=s.toks+1 }:=xG (s :={ s with heap:=t }) (t':=s.toks+1) y (by rw [hd];exact True.intro) E he (xx (by lia) hs (C.put k Z) D);have f:it≠d:=λz=>by rw [z,hd] at o;cases o
    have tk:∀b xs,H b=some (.tup xs)->upd H d (.dK (putK kvs k w)) b=some (.tup xs):=λb xs q=>by
     rw [zD (yq q hd (by intro z;cases z))];exact q
    refine⟨fF Miss.plain_loop _,?_⟩;have e3:(i:Int)+1=((i+1:Nat):Int):=by lia
    rw [e3];refine kZ hh (more:=more) (items:=items) (i:=i+1) (kvs:=putK kvs k w) P I2 (U.extBut E.extBut f) ⟨by rw [zD f];exact o,J,f2,K,L,M⟩ (by rw [zD g];exact G) zC g ?_ (by lia) λF I'=>h F ?_
    ·have e4:items.drop (i+1)=rest:=by rw [<-List.tail_drop,O];rfl
     rw [e4];exact PairsAt.mono tk hr
    ·rw [iy] at I';exact I'
def QZ:V->List V->Hp->VK->Prop:=λx vs H Q => ∃d l kvs items more,x = .ref d/\vs = [.ref l]/\H d=some (.dK kvs)/\H l=some (.lst items)/\PairsAt H items more/\kvs.length+more.length<=sizeLine/\Q .non (upd H d (.dK (yj kvs more)))
theorem qS6{X:Cx}(A:X.calm=true):MtM X "dict.update" QZ:=by
 intro a s σ H x N v O Q I B C h;obtain⟨d,l,D,items,p,rfl,rfl,c,f,E,G,q⟩:=h;cases B;obtain⟨u,rfl,J⟩:=C.one;cases J;have g:l≠d:=yq f c (by intro z;cases z);obtain⟨z,P,R,K,t⟩:=ye I.hok c;obtain⟨j,n,r,k,_⟩:=I.lst f;have m:=I.ok.hd A;refine wpAny_call (codeAny_call_builtin gZ.plain PySem.F.entry_dict_update (gZ.check _ _ _ _ _ _ _ _ t.typeIs (PySem.F.args_dict_update_2 _ _) ?_));unfold Builtin.«dict.update»;refine aA ?_;unfold Builtin.Dict.selfAndRest;refine aA (eI t.typeIs ?_);show wpAny _ _ (pure (d,[Value.ref l])) _ _ s;refine aC ?_;show wpAny _ _ (Builtin.Dict.updateFrom "dict.update" d (.ref l) [] .none) _ _ s
 unfold Builtin.Dict.updateFrom;refine aA (fS (T := "list") ⟨_,k,rfl⟩ ?_);rw [if_pos (by decide)];refine aA (Miss.no_keys m k λw tk y=>?_);have o:Inv X a σ H { s with heap:=w,toks:=tk }:=I.kept y;show wpAny _ _ (if true=true then _ else _) _ _ _;rw [if_pos rfl];refine aA (cV ?_);refine aA (fL (l:=l) (items:=j.toArray) ⟨_,y _ _ k,rfl,n,rfl⟩ ?_);have L:Inv X a σ H { s with heap:=w.push { cls :=.type "list_iterator",data :=.fields #[.ref l,.int 0 0] },toks:=tk }:=o.kept (t':=tk) λb S e=>aG _ e;refine aC ⟨fF Miss.plain_loop _,?_⟩;exact kZ (i:=0) m m L ⟨_,aT _ rfl,rfl,rfl⟩ (o.fpOk (aF _) (o.hok.fresh (aF _))) f c g E G λU M=>⟨.non,_,M,rfl,q⟩
def wo(ts:List Addr)(H:Hp):Hp:=λb=>if b∈ts then none else H b
theorem uO{ts:List Addr}{H:Hp}{b:Addr}(h:b∈ts):wo ts H b=none:=if_pos h
theorem zc{ts:List Addr}{H:Hp}{b:Addr}(h:b∉ts):wo ts H b=H b:=if_neg h
theorem xY(ts:List Addr)(H:Hp):Same (wo ts H) H:=λb o e=>by
 by_cases h:b∈ts
 ·rw [uO h] at e;cases e
 ·rw [zc h] at e;exact e
def Ext(ts:List Addr)(H H':Hp):Prop := ∀b o,b∉ts->H b=some o->H' b=some o
theorem Ext.refl(ts:List Addr)(H:Hp):Ext ts H H:=λ_ _ _ h=>h
theorem Ext.trans{ts:List Addr}{H d f:Hp}(a:Ext ts H d)(b:Ext ts d f):Ext ts H f:=λc o h e=>b c o h (a c o h e)
theorem Ext.same{ts:List Addr}{H c:Hp}(a:Ext ts H c):Same (wo ts H) (wo ts c):=λb o e=>by
 by_cases h:b∈ts
 ·rw [uO h] at e;cases e
 ·rw [zc h] at e ⊢;exact a b o h e
theorem Ext.put{ts:List Addr}{H:Hp}{t:Addr}{o:HO}(h:t∈ts):Ext ts H (upd H t o):=λb u a e=>by
 have ne:b≠t:=λz=>a (by rw [z];exact h);rw [zD ne];exact e
theorem Ext.laid{ts:List Addr}{H:Hp}{l:Addr}{o:HO}(h:H l=none):Ext ts H (upd H l o):=λb u _ e=>by
 rw [zD (zF e h)];exact e
theorem layQq{H G:Hp}{p:Addr}{o:HO}(z:upd H p o=G)(h:H p=none):Ext [] H G/\G p=some o:=by subst z;exact⟨.laid h,zC⟩
theorem Ext.mono{ts us:List Addr}{H c:Hp}(a:Ext ts H c)(h:∀b∈ts,b∈us):Ext us H c:=λb o d e=>a b o (λz=>d (h b z)) e
theorem Ext.drop{ts:List Addr}{l:Addr}{H c:Hp}(a:Ext (l::ts) H c)(h:H l=none):Ext ts H c:=λb o d e=>a b o (λz=>by
 rcases aV.mp z with y | y
 ·rw [y,h] at e;cases e
 ·exact d y) e
theorem qWk{ts us:List Addr}{H:Hp}(h:∀b∈ts,b∈us):Same (wo us H) (wo ts H):=λb o e=>by
 by_cases a:b∈us
 ·rw [uO a] at e;cases e
 ·rw [zc a] at e;rw [zc (λz=>a (h b z))];exact e
def yo(H0:Hp)(ts:List Addr)(H:Hp):Hp:=λb=>match H0 b with
 | some _=>none
 | none=>wo ts H b
theorem yC{H0:Hp}{ts:List Addr}{H:Hp}{b:Addr}(a:H0 b=none)(h:b∉ts):yo H0 ts H b=H b:=by
 unfold yo;rw [a];exact zc h
theorem wC{H0:Hp}{ts:List Addr}{H:Hp}{b:Addr}{o:HO}(h:yo H0 ts H b=some o):H0 b=none/\b∉ts/\H b=some o:=by
 unfold yo at h;cases z:H0 b with
 | some _=>rw [z] at h;cases h
 | none =>
  rw [z] at h;have h:wo ts H b=some o:=h;by_cases a:b∈ts
  ·rw [uO a] at h;cases h
  ·rw [zc a] at h;exact⟨rfl,a,h⟩
theorem Ext.none{ts:List Addr}{H c:Hp}{b:Addr}(a:Ext ts H c)(h:b∉ts)(e:c b=none):H b=none:=by
 cases z:H b with
 | none=>rfl
 | some o=>rw [a _ _ h z] at e;cases e
theorem Ext.young{H0:Hp}{ts:List Addr}{H c:Hp}(a:Ext ts H c):Same (yo H0 ts H) (yo H0 ts c):=λb o e=>by
 obtain⟨f,d,g⟩:=wC e;rw [yC f d];exact a b o d g
theorem Qa{H0:Hp}{ts us:List Addr}{H:Hp}(h:∀b∈ts,b∈us):Same (yo H0 us H) (yo H0 ts H):=λb o e=>by
 obtain⟨a,c,d⟩:=wC e;rw [yC a (λz=>c (h b z))];exact d
theorem yo_same{H0:Hp}{ts:List Addr}{H:Hp}:Same (yo H0 ts H) H:=λb o e=>(wC e).2.2
theorem qTm{H0 c:Hp}{ts us:List Addr}{H:Hp}(a:Ext ts H0 c)(h:∀b∈ts,b∈us):Same (yo c us H) (yo H0 us H):=λb o e=>by
 obtain⟨f,d,g⟩:=wC e;rw [yC (a.none (λz=>d (h b z)) f) d];exact g
theorem Qb{H0 a:Hp}{ts us:List Addr}{H:Hp}(h:∀b∈us,b∈ts\/a b≠none):Same (yo a ts H) (yo a us H):=λb o e=>by
 obtain⟨c,d,f⟩:=wC e;rw [yC c (λz=>(h b z).elim d (λy=>y c))];exact f
def Tape(H:Hp)(t:Addr)(k:Nat):Prop := ∃(a b c:Int),H t=some (.lst [.int a,.int b,.int c])/\0<=a/\0<=b/\b<2^62/\0<=c/\c<=k
theorem Tape.mono{H:Hp}{t:Addr}{k j:Nat}(h:Tape H t k)(l:k<=j):Tape H t j:=by
 obtain⟨a,b,c,d,e,f,g,i,m⟩:=h;exact⟨a,b,c,d,e,f,g,i,by lia⟩
theorem Tape.ext{H d:Hp}{t:Addr}{k:Nat}{ts:List Addr}(h:Tape H t k)(e:Ext ts H d)(f:t∉ts):Tape d t k:=by
 obtain⟨a,b,c,g,r⟩:=h;exact⟨a,b,c,e _ _ f g,r⟩
theorem Tape.ne{H:Hp}{t l:Addr}{k:Nat}(h:Tape H t k)(d:H l=none):l≠t:=by
 obtain⟨a,b,c,e,_⟩:=h;exact (zF e d).symm
def xI:Sp:=λvs H Q _ => ∃(t:Addr) (k:Nat) (n:Int),vs = [.ref t,.int n]/\Tape H t k/\k<=2^40/\0<n/\n<2^24 /\ ∀(r:Int) (H':Hp),0<=r->r<n->Tape H' t (k+1)->Ext [t] H H'->(∀b,b≠t->H' b=H b)->Q (.int r) H'
section
variable{K:PySem.W.Frag}{σ : St}{H:Hp}{Q:VK}{p:Addr}{xs:List V}{i j:Int}{v:V}{ta tb te to ti:TE}{r:R2}{t u:TS}{D:Ends}{n m:Nat}{tt t2:TT}{tl tr:TA}
theorem r_op(h:ta σ H λx a=>tb σ a λy b=>r x y b Q):tOp r ta tb σ H Q:=h
theorem xZ(h : σ[n]? = some (some v))(q:Q v H):tVar n σ H Q:=⟨v,h,q⟩
theorem r_c(q:Q v H):tC v σ H Q:=q
theorem ka{g:Int->Int->V}(q:Q (g i j) H):rI0 g (.int i) (.int j) H Q:=⟨i,j,rfl,rfl,q⟩
theorem wD(c:(-(2^64)<i/\i<2^64)\/(-(2^64)<j/\j<2^64))(q:Q (.int (i*j)) H):rI CMul (λi j =>.int (i*j)) (.int i) (.int j) H Q:=⟨i,j,rfl,rfl,c,q⟩
theorem wZ(a:0<=j)(b:j<=1000000)(c:i.natAbs<2^64)(q:Q (.int (i^j.toNat)) H):rI CPow (λi j =>.int (i^j.toNat)) (.int i) (.int j) H Q:=⟨i,j,rfl,rfl,⟨a,b,c⟩,q⟩
theorem Qc(a:0<j)(b:j<1073741824)(q:Q (.int (i / j)) H):rI CDiv (λi j =>.int (i / j)) (.int i) (.int j) H Q:=⟨i,j,rfl,rfl,⟨a,b⟩,q⟩
theorem xJ(c:0<j)(q:Q (.int (i%j)) H):rI (λ_ j=>0<j) (λi j =>.int (i%j)) (.int i) (.int j) H Q:=⟨i,j,rfl,rfl,c,q⟩
theorem kb{g:Int->V}(h:ta σ H λx a=>rU g x a Q):tUn (rU g) ta σ H Q:=h
theorem r_u{g:Int->V}(q:Q (g i) H):rU g (.int i) H Q:=⟨i,rfl,q⟩
theorem zR(h:SqL K H p xs)(e:atI xs i=some v)(q:Q v H):rIxL K (.ref p) (.int i) H Q:=⟨p,xs,i,v,rfl,rfl,h,e,q⟩
theorem zw(h:SqT K H p xs)(e:atI xs i=some v)(q:Q v H):rIxT K (.ref p) (.int i) H Q:=⟨p,xs,i,v,rfl,rfl,h,e,q⟩
theorem Qd(h:t { D with nx:=u D } σ H):tSeq t u D σ H:=h
theorem qZq{g:TG}(h:te σ H λx a=>g x σ a D.nx):tAsg te g D σ H:=h
theorem yN{R:St->Hp->Prop}(q:R (σ.set n (some v)) H):gName n v σ H R:=q
theorem qZg(h:te σ H D.rt):tRet te D σ H:=h
theorem kf(h:te σ H λ_ a=>D.nx σ a):tDrop te D σ H:=h
theorem xa(h:D.nx σ H):tNext D σ H:=h
theorem wA0(h:tt σ H λb a=>if b=true then t D σ a else u D σ a):tIfS tt t u D σ H:=h
theorem kg{R:Bool->Hp->Prop}(h:te σ H λx a => ∃k,x = .bl k/\R k a):tTest te σ H R:=h
theorem kh{R:Bool->Hp->Prop}(h:te σ H λx a => ∃k,x = .bl k/\R k a):tB te σ H R:=h
theorem yr{b:Bool}{R:Bool->Prop}(q:R b):∃k,V.bl b = .bl k/\R k:=⟨b,rfl,q⟩
theorem ki{ts:TSet}{R:St->Hp->Prop}(h:to σ H λo a=>ti σ a λi b=>ts o i v b λc=>R σ c):gSub to ti ts v σ H R:=h
theorem Qe{R:Hp->Prop}(h:H p=some (.lst xs))(e:ixN xs.length i=some n)(q:R (upd H p (.lst (xs.set n v)))):rSetL (.ref p) (.int i) v H R:=⟨p,xs,i,n,rfl,rfl,h,e,q⟩
theorem wE{R:List V->Hp->Prop}(q:R [] H):tNil σ H R:=q
theorem vW{R:List V->Hp->Prop}(h:ta σ H λx a=>tr σ a λxs b=>R (x::xs) b):tCons ta tr σ H R:=h
theorem kj(h:tl σ H λxs a=>xs.length<=sizeLine /\ ∀p,a p=none->Q (.ref p) (upd a p (.tup xs))):tTup tl σ H Q:=h
theorem km(h:tl σ H λxs a=>xs.length<=sizeLine /\ ∀p,a p=none->Q (.ref p) (upd a p (.lst xs))):tLst tl σ H Q:=h
theorem kn{sp:Sp}{dvs:List V}{E:XK}(h:tl σ H λvs a=>sp (vs++dvs) a Q E):tCall sp dvs E tl σ H Q:=h
theorem ko{a:List V->Hp->VK->Prop}(h:tl σ H λvs b=>a vs b Q):tCB a tl σ H Q:=h
theorem kq(h:tt σ H λb a=>if b=true then ta σ a Q else tb σ a Q):tIf tt ta tb σ H Q:=h
theorem uP{R:Bool->Hp->Prop}(h:tt σ H λc a=>if c=true then t2 σ a R else R false a):tAnd tt t2 σ H R:=h
theorem kr{R:Bool->Hp->Prop}(h:tt σ H λc a=>if c=true then R true a else t2 σ a R):tOr tt t2 σ H R:=h
theorem ku{R:Bool->Hp->Prop}(h:tt σ H λc a=>R (!c) a):tNot tt σ H R:=h
theorem kw(h:tl σ H λvs a => ∃v w,vs = [v,w]/\D.nx ((σ.set n (some v)).set m (some w)) a):tPar n m tl D σ H:=h
end
section
variable{K:PySem.W.Frag}{σ : St}{H:Hp}{Q:VK}{l t:Addr}{xs:List V}{i j n:Int}{v y:V}{k:Nat}{E:XK}
theorem za(c:Tape H t k)(d:k<=2^40)(e:0<n)(f:n<2^24)(q:∀r a,0<=r->r<n->Tape a t (k+1)->Ext [t] H a->(∀b,b≠t->a b=H b)->Q (.int r) a):xI ([.ref t,.int n] ++ []) H Q E:=⟨t,k,n,rfl,c,d,e,f,q⟩
theorem zv(q:Q (.bl (decide (i=j))) H):rEq (.int i) (.int j) H Q:=⟨rfl,by
 have e:decide (V.int i=V.int j)=decide (i=j):=by rw [cM];simp
 rw [e];exact q⟩
theorem uQ{a b:Str}(q:Q (.bl (decide (a=b))) H):rEq (.str a) (.str b) H Q:=⟨rfl,by
 have e:decide (V.str a=V.str b)=decide (a=b):=by rw [cM];simp
 rw [e];exact q⟩
theorem qZl{a b:Str}(q:Q (.bl (!decide (a=b))) H):rNe (.str a) (.str b) H Q:=⟨rfl,by
 have e:decide (V.str a=V.str b)=decide (a=b):=by rw [cM];simp
 rw [e];exact q⟩
theorem yD{R:Prop}(h:H l=some (.lst xs))(q:R):tyV K "list" (.ref l) H/\R:=⟨.inl ⟨rfl,_,SqL.of h⟩,q⟩
theorem yd(h:H l=some (.lst xs))(hz:xs.length<sizeLine)(q:Q .non (upd H l (.lst (xs ++ [y])))):uI (.ref l) [y] H Q:=⟨l,xs,y,rfl,rfl,h,hz,q⟩
theorem bit01(b:Bool):0<=(if b=true then (1:Int) else 0)/\(if b=true then (1:Int) else 0)<=1:=by cases b <;> decide
end
theorem len2{n:Nat}(h:n<=1000):n<=sizeLine:=bL h (by decide)
theorem zb{CX:CXT}{P:Program}{w:World}{K:PySem.W.Frag}{mg:Str->Option Value}{base:Heap}{N:List Str}{a:Str}{scope:Scope}{f:Addr}{b:Value}{A:Around}{outer:List Env}{s:Shared}{H:Hp}{E:XK}:(cxOf CX P w K mg base N a scope f b A outer s H E).nox.K=K:=rfl
theorem zg{X:Cx}{a:List Str}{b:List Nat}{scope:Scope}{c:List (Str×Addr)}{s:Shared}{H:Hp}{ex:List Addr}:(zT X a b scope c s H ex).K=X.K:=rfl
def Has(P:Program)(w:World)(K:PySem.W.Frag)(mg:Str->Option Value)(base:Heap)(x:Str)(k:Nat)(ps:List Str)(sp:Sp):Prop :=
 ∃f fd,FnOk P w K mg base CX0 k f fd ps sp/\mg x=some (.ref f)/\PySem.W.keepIn K (.ref f)=true/\Binds K fd ps []
theorem zH{X:Cx}{x:Str}{k j:Nat}{ps:List Str}{sp:Sp}{e:Expr}{es:List Expr}{t:TA}{p a:Pos}(h:Has X.prog X.w X.K X.mg X.base x k ps sp)(d:Room j X.A)(g:k<=j)(i:PA X (e::es) t)(l:Gl X x:=by rfl)
  (b:(x == ("__debug__" : Str))=false:=by decide) (m:starEach (e::es) X.env=(false,eval e X.env)::starEach es X.env:=by rfl) (c:(backTo a (starEach es X.env)).any (·.1)=false:=by rfl) :
  PE X (.Call (.Name x p) (e::es) [] a) (tCall sp [] E0 t):=by
 obtain⟨f,r,G,n,o,q⟩:=h;exact qX0 G (d.mono g) l n o q .nil pass0 i b m c
def Qf(K:PySem.W.Frag):Sp:=λvs H Q _ => ∃(a:Addr) (ns:List Int) (k:Nat),vs = [.ref a,.int k]/\SqL K H a (ns.map V.int)/\k<=100 /\ ∀(t:Addr) (H':Hp),H t=none->Tape H' t 0->Same H H'->Q (.ref t) H'
def kx(c:Nat)(lo hi:Int):Sp:=λvs H Q _ => ∃(t:Addr) (k:Nat),vs = [.ref t]/\Tape H t k/\k+c<=2^40 /\ ∀(r:Int) (H':Hp),lo<=r->r<=hi->Tape H' t (k+c)->Ext [t] H H'->Q (.int r) H'
abbrev Qg:Sp:=kx 3 1 12
abbrev Qh:Sp:=kx 3 (-(10^12)) (10^12)
def chk(X:Cx)(own:List Str)(cap:List Nat)(scope:Scope):Bool :=
 decide (scope.kind = .function)&&(scope.names.all λx=>decide (x.2 ≠ .cell))&&(scope.names.all λx => !decide (x.2 = .local)||decide (scope.names.lookup x.1=some .local)) &&
 (scope.names.all λx => !decide (x.2 = .free)||(decide (X.env.scope.names.lookup x.1=some .cell)||decide (X.env.scope.names.lookup x.1=some .free)))&&(own.all λx=>decide (scope.names.lookup x=some .local)) &&
 (cap.all λj=>decide (scope.names.lookup (X.N.getD j "")=some .free)&&decide (j<X.N.length))
theorem CompScope.of{X:Cx}{own:List Str}{a:List Nat}{scope:Scope}(h:chk X own a scope=true):CompScope X own a scope:=by
 unfold chk at h;simp only [aO,bO,decide_eq_true_eq,Bool.or_eq_true,Bool.not_eq_true',decide_eq_false_iff_not] at h;obtain⟨⟨⟨⟨⟨c,d⟩,f⟩,g⟩,i⟩,k⟩:=h;exact⟨c,λx b=>d x b,λx b e=>(f x b).resolve_left (λz=>z e),λx b e=>(g x b).resolve_left (λz=>z e),i,λj l=>k j l⟩
section
variable{K:PySem.W.Frag}{a:Addr}{xs:List V}{g:TG}{tt:TT}{B:TB}{σ : St}{H:Hp}{Q:St->Hp->Prop}
theorem wF{J:It}{n:Nat}(Pv:Nat->St->Hp->Prop)(l:Pv 0 σ H)(h:∀i σ H,i<n->Pv i σ H->J.go i H)(j:∀ σ H,Pv n σ H->J.stop n H)(o:∀i σ H (R:St->Hp->Prop),i<n->Pv i σ H->(∀ c a,Pv (i+1) c a->R c a) -> ∀x a,J.yld i H x a->g x σ a λd q=>tt d q λb k=>if b=true then B d k R else R d k)(hd:∀ σ H,Pv n σ H->Q σ H):LoopT J g tt B σ H Q:=by
 refine⟨λi m σ H=>m=n - i/\i<=n/\Pv i σ H,⟨n,by simp,bB _,l⟩,?_⟩;rintro i m σ H ⟨rfl,s,p⟩;by_cases f:i<n
 ·refine .inr ⟨h i σ H f p,λx a y=>?_⟩;exact o i σ H _ f p (λc a r=>⟨n - (i+1),by lia,rfl,f,r⟩) x a y
 ·have e:i=n:=by lia
  subst e;exact .inl ⟨j σ H p,hd σ H p⟩
theorem zx(Pv:Nat->St->Hp->Prop)(l:Pv 0 σ H)(h:∀i σ H,i<=xs.length->Pv i σ H->SqL K H a xs)(m:∀i x σ H (R:St->Hp->Prop),xs[i]? = some x->Pv i σ H->(∀ d j,Pv (i+1) d j->R d j)->g x σ H λc o=>tt c o λb k=>if b=true then B c k R else R c k)(hd:∀ σ H,Pv xs.length σ H->Q σ H):LoopT (Itl K a) g tt B σ H Q:=by
 refine wF (n:=xs.length) Pv l (λi σ H f p=>⟨xs,xs[i],h i σ H (dH f) p,by simp [f]⟩) (λσ H p=>⟨xs,h _ σ H (aF _) p,aF _⟩) (λi σ H R f p q x j y=>?_) hd;obtain⟨e,y⟩:=y;subst e;exact m i x σ _ R (y xs (h i σ _ (dH f) p)) p q
theorem vX{lo:Int}{n:Nat}(Pv:Nat->St->Hp->Prop)(j:Pv 0 σ H)(k:∀i σ H (R:St->Hp->Prop),i<n->Pv i σ H->(∀ c d,Pv (i+1) c d->R c d)->g (.int (lo+i)) σ H λa l=>tt a l λb h=>if b=true then B a h R else R a h)(hd:∀ σ H,Pv n σ H->Q σ H):LoopT (Itr lo n) g tt B σ H Q:=by
 refine wF (n:=n) Pv j (λi σ H f p=>f) (λσ H p=>aF _) (λi σ H R f p m x d y=>?_) hd;obtain⟨e,y⟩:=y;subst e y;exact k i σ _ R f p m
theorem Qi(Pv:Nat->St->Hp->Prop)(l:Pv 0 σ H)(h:∀i σ H,i<=xs.length->Pv i σ H->SqL K H a xs)(m:∀i x σ H p (R:St->Hp->Prop),xs[i]? = some x->Pv i σ H->H p=none->(∀ d j,Pv (i+1) d j->R d j)->g (.ref p) σ (upd H p (.tup [.int i,x])) λc o=>tt c o λb k=>if b=true then B c k R else R c k)(hd:∀ σ H,Pv xs.length σ H->Q σ H):LoopT (Ite K a) g tt B σ H Q:=by
 refine wF (n:=xs.length) Pv l (λi σ H f p=>⟨xs,xs[i],h i σ H (dH f) p,by simp [f]⟩) (λσ H p=>⟨xs,h _ σ H (aF _) p,aF _⟩) (λi σ H R f p r x j y=>?_) hd;obtain⟨q,y,e,s,t,u⟩:=y;subst e u;exact m i y σ H q R (t xs (h i σ H (dH f) p)) p s r
theorem Qj{o:Obj}{kvs:List (Key×V)}(Pv:Nat->St->Hp->Prop)(m:Pv 0 σ H)(j:∀i σ H,i<=kvs.length->Pv i σ H->H a=some (.frz o (.dK kvs)))(q:∀i k v σ H (R:St->Hp->Prop),kvs[i]? = some (k,v)->Pv i σ H->(∀ d f,Pv (i+1) d f->R d f)->g (kV k) σ H λc r=>tt c r λb l=>if b=true then B c l R else R c l)(hd:∀ σ H,Pv kvs.length σ H->Q σ H):LoopT (Itd a o kvs) g tt B σ H Q:=by
 refine wF (n:=kvs.length) Pv m (λi σ H h p=>⟨j i σ H (dH h) p,h⟩) (λσ H p=>⟨j _ σ H (aF _) p,aF _⟩) (λi σ H R h p s x f y=>?_) hd;obtain⟨e,k,v,t,u⟩:=y;subst e u;exact q i k v σ _ R t p s
end
theorem Qk{K:PySem.W.Frag}{a:Addr}{xs:List V}{g:TG}{j:TS}{D:Ends}{σ : St}{H:Hp}(Pv:Nat->St->Hp->Prop)(l:Pv 0 σ H)(n:∀i σ H,i<=xs.length->Pv i σ H->SqL K H a xs)(o:∀i x σ H p,xs[i]? = some x->Pv i σ H->H p=none->g (.ref p) σ (upd H p (.tup [.int i,x])) λb h=>j { D with nx:=Pv (i+1),ct:=Pv (i+1),bk:=D.nx } b h)(s:∀ σ H,Pv xs.length σ H->D.nx σ H):∃W:Nat->Nat->St->Hp->Prop,(∃m,W 0 m σ H) /\ ∀i m σ H,W i m σ H ->
   ((Ite K a).stop i H/\D.nx σ H)\/((Ite K a).go i H /\ ∃N:St->Hp->Prop,(∀ c d,N c d -> ∃k,k<m/\W (i+1) k c d) /\ ∀x d,(Ite K a).yld i H x d->g x σ d λb h=>j { D with nx:=N,ct:=N,bk:=D.nx } b h):=by
 refine⟨λi m σ H=>m=xs.length - i/\i<=xs.length/\Pv i σ H,⟨xs.length,by simp,bB _,l⟩,?_⟩;rintro i m σ H ⟨rfl,t,p⟩;have q:=n i σ H t p;by_cases f:i<xs.length
 ·refine .inr ⟨⟨xs,xs[i],q,by simp [f]⟩,Pv (i+1),λc d u=>⟨xs.length - (i+1),by lia,rfl,f,u⟩,λx d y=>?_⟩;obtain⟨r,y,e,v,w,z⟩:=y;subst e z;exact o i y σ H r (w xs q) p v
 ·have e:i=xs.length:=by lia
  subst e;exact .inl ⟨⟨xs,q,aF _⟩,s σ H p⟩
abbrev intsD(ns:List Int):PyData :=.list (ns.map .int)
def NxOk(m:Int)(nx:List (List Int)):Prop:=(nx.length:Int)=m /\ ∀ns∈nx,ns = []\/(∃x,ns = [x]/\1<=x/\x<m) \/ ∃x y,ns = [x,y]/\x≠y/\1<=x/\x<m/\1<=y/\y<m
def Ql(K:PySem.W.Frag):Sp:=λvs H Q _ => ∃(t:Addr) (k:Nat) (m:Int),vs = [.ref t,.int m]/\Tape H t k/\k+30<=2^40/\1<=m/\m<=12 /\
 ∀(l:Addr) (nx:List (List Int)) (H':Hp),H l=none->Tape H' t (k+30)->Ext [t] H H'->NxOk m nx->Den K (yo H [t] H') (.list (nx.map intsD)) (.ref l)->Q (.ref l) H'
section
variable{K:PySem.W.Frag}{σ : St}{H:Hp}{Q:VK}{l d:Addr}{xs:List V}{i j:Int}{v y:V}{to ta tb te td ty tk tv tx:TE}{tl:TA}{wi:TI}{g:TG}{tts:List TT}{D:Ends}{tb2:TS}
theorem vY{T:String}{r:V->List V->Hp->VK->Prop}(h:to σ H λx a=>tyV K T x a/\tl σ a λxs b=>r x xs b Q):tBM K T r to tl σ H Q:=h
theorem ky{T:String}{r:V->List V->Hp->VK->Prop}(h:to σ H λx a=>tyV K T x a/\r x [] a Q):tBM0 K T r to σ H Q:=h
theorem Qm{R:Prop}{kvs:List (Key×V)}(h:H d=some (.dK kvs))(q:R):tyV K "dict" (.ref d) H/\R:=⟨.inr (.inr (.inl ⟨rfl,.inl ⟨_,h⟩⟩)),q⟩
theorem uR{a:List Str}{b:List Nat}{o:HO}{c:Addr->TB}(h:wi σ H λJ d => ∀l,d l=none->LoopT J g (tAll tts) (c l) (vS a b σ) (upd d l o) λ_ e=>Q (.ref l) e):tComp a b o wi g tts c σ H Q:=h
theorem uS{R:It->Hp->Prop}(h:te σ H λx b => ∃a,x = .ref a/\(∃xs,SqL K b a xs)/\R (Itl K a) b):iList K te σ H R:=h
theorem kz{R:It->Hp->Prop}(h:tl σ H λvs b => ∃a,vs = [.ref a]/\(∃xs,SqL K b a xs)/\R (Ite K a) b):iEnum K tl σ H R:=h
theorem jA{R:It->Hp->Prop}(h:te σ H λx a => ∃d kvs,x = .ref d/\a d=some (.dK kvs) /\ ∀o,R (Itd d o kvs) (upd a d (.frz o (.dK kvs)))):iDict te σ H R:=h
theorem jB{R:It->Hp->Prop}(h:te σ H λx b => ∃a,x = .ref a/\(∃xs,SqT K b a xs)/\R (Itt K a) b):iTup K te σ H R:=h
theorem jC{R:It->Hp->Prop}(h:tl σ H λvs a => ∃j:Int,vs = [.int j] /\ -(2^62)<=j/\j<2^62/\R (Itr 0 j.toNat) a):iRng1 tl σ H R:=h
theorem jD(h:wi σ H λJ e => ∃W:Nat->Nat->St->Hp->Prop,(∃m,W 0 m σ e) /\ ∀i m σ H,W i m σ H ->
 (J.stop i H/\D.nx σ H)\/(J.go i H /\ ∃N:St->Hp->Prop,(∀ a b,N a b -> ∃d,d<m/\W (i+1) d a b) /\ ∀x b,J.yld i H x b->g x σ b λc f=>tb2 { D with nx:=N,ct:=N,bk:=D.nx } c f)):tFor wi g tb2 D σ H:=h
theorem Qn(h:∀p,H p=none->Q (.ref p) (upd H p (.dK []))):kP σ H Q:=h
theorem jE(h:ty σ H λy c=>td σ c λx b => ∃a o,x = .ref a/\DGet b a y o/\Q (.bl o.isSome) b):tDIn ty td σ H Q:=h
theorem jF(h:ty σ H λy c=>td σ c λx b => ∃a o,x = .ref a/\DGet b a y o/\Q (.bl (!o.isSome)) b):QD ty td σ H Q:=h
theorem jG(h:td σ H λx c=>ty σ c λy b => ∃a v,x = .ref a/\DGet b a y (some v)/\Q v b):tDGet td ty σ H Q:=h
theorem jH(h:td σ H λx b => ∃a,x = .ref a/\IsD b a/\ty σ b λy d=>tx σ d λz c => ∃o,DGet c a y o/\Q (o.getD z) c):QG td ty tx σ H Q:=h
theorem jI(h:tv σ H λv c=>td σ c λx d=>ty σ d λy e => ∃a b,x = .ref a/\DPut e a y v b/\D.nx σ b):sDPut td ty tv D σ H:=h
theorem jJ{R:St->Hp->Prop}(h:te σ H λv a => ∃vs,a l=some (.lst vs)/\vs.length<sizeLine/\R σ (upd a l (.lst (vs ++ [v])))):eApp te l σ H R:=h
theorem jK{R:St->Hp->Prop}(h:tk σ H λx b=>tv σ b λy a => ∃kvs k,x=kV k/\a l=some (.dK kvs)/\kvs.length<sizeLine/\R σ (upd a l (.dK (putK kvs k y)))):ePut tk tv l σ H R:=h
theorem jL{R:Bool->Hp->Prop}(h:R true H):tAll [] σ H R:=h
theorem jM{a:TT}{R:Bool->Hp->Prop}(h:a σ H λb c=>if b=true then R true c else R false c):tAll [a] σ H R:=h
theorem yO{n:Nat}{t:TGs}{R:St->Hp->Prop}(h:SqT K H l xs)(a:xs.length=n)(q:t xs σ H R):gTup K n t (.ref l) σ H R:=⟨l,xs,rfl,h,a,q⟩
theorem vZ{t:TG}{u:TGs}{R:St->Hp->Prop}(h:t v σ H λa b=>u xs a b R):gCons t u (v::xs) σ H R:=⟨v,xs,rfl,h⟩
theorem va{R:St->Hp->Prop}(h:R σ H):gNil [] σ H R:=⟨rfl,h⟩
theorem jN{r:V->Option Int->Option Int->Hp->VK->Prop}{a b:TO}(h:te σ H λx c=>a σ c λl d=>b σ d λu e=>r x l u e Q):tSl r te a b σ H Q:=h
theorem jO{R:Option Int->Hp->Prop}(h:R none H):oW σ H R:=h
theorem jP{R:Option Int->Hp->Prop}(h:te σ H λx a => ∃i,x = .int i/\R (some i) a):tPart te σ H R:=h
end
def Nx(N A:St->Hp->Prop):Prop := ∀ σ H,A σ H->N σ H
theorem yH{N A:St->Hp->Prop}{σ : St}{H:Hp}(h:Nx N A)(q:A σ H):N σ H:=h σ H q
def NxV(Q' Q:VK):Prop := ∀v H,Q v H->Q' v H
theorem jQ{a Q:VK}{v:V}{H:Hp}(h:NxV a Q)(q:Q v H):a v H:=h v H q
theorem wc{K:PySem.W.Frag}{a:Addr}{xs:List V}{g:TG}{f:TS}{D:Ends}{σ : St}{H:Hp}(Pv:Nat->St->Hp->Prop)(k:Pv 0 σ H)(l:∀i σ H,i<=xs.length->Pv i σ H->SqL K H a xs)(n:∀i x σ H,xs[i]? = some x->Pv i σ H -> ∀(N B C:St->Hp->Prop) (R:VK),Nx N (Pv (i+1))->Nx C (Pv (i+1))->NxV R D.rt->g x σ H λb e=>f ⟨N,R,B,C⟩ b e)(hd:∀ σ H,Pv xs.length σ H->D.nx σ H):∃W:Nat->Nat->St->Hp->Prop,(∃m,W 0 m σ H) /\ ∀i m σ H,W i m σ H ->
   ((Itl K a).stop i H/\D.nx σ H)\/((Itl K a).go i H /\ ∃N:St->Hp->Prop,(∀ c d,N c d -> ∃j,j<m/\W (i+1) j c d) /\ ∀x d,(Itl K a).yld i H x d->g x σ d λb e=>f { D with nx:=N,ct:=N,bk:=D.nx } b e) :=
 qUy Pv k l (λi x σ H o p=>n i x σ H o p _ _ _ _ (λ_ _ h=>h) (λ_ _ h=>h) (λ_ _ h=>h)) hd
theorem wf{lo:Int}{n:Nat}{g:TG}{e:TS}{D:Ends}{σ : St}{H:Hp}(Pv:Nat->St->Hp->Prop)(j:Pv 0 σ H)(k:∀i σ H,i<n->Pv i σ H -> ∀(N B C:St->Hp->Prop) (R:VK),Nx N (Pv (i+1))->Nx C (Pv (i+1))->NxV R D.rt->g (.int (lo+i)) σ H λa d=>e ⟨N,R,B,C⟩ a d)(hd:∀ σ H,Pv n σ H->D.nx σ H):∃W:Nat->Nat->St->Hp->Prop,(∃m,W 0 m σ H) /\ ∀i m σ H,W i m σ H ->
   ((Itr lo n).stop i H/\D.nx σ H)\/((Itr lo n).go i H /\ ∃N:St->Hp->Prop,(∀ b c,N b c -> ∃f,f<m/\W (i+1) f b c) /\ ∀x c,(Itr lo n).yld i H x c->g x σ c λa d=>e { D with nx:=N,ct:=N,bk:=D.nx } a d) :=
 qSw Pv j (λi σ H l o=>k i σ H l o _ _ _ _ (λ_ _ h=>h) (λ_ _ h=>h) (λ_ _ h=>h)) hd
theorem Qo{K:PySem.W.Frag}{a:Addr}{xs:List V}{g:TG}{f:TS}{D:Ends}{σ : St}{H:Hp}(Pv:Nat->St->Hp->Prop)(k:Pv 0 σ H)(l:∀i σ H,i<=xs.length->Pv i σ H->SqL K H a xs)(n:∀i x σ H p,xs[i]? = some x->Pv i σ H->H p=none -> ∀(N B C:St->Hp->Prop) (R:VK),Nx N (Pv (i+1))->Nx C (Pv (i+1))->NxV R D.rt->g (.ref p) σ (upd H p (.tup [.int i,x])) λb e=>f ⟨N,R,B,C⟩ b e)(hd:∀ σ H,Pv xs.length σ H->D.nx σ H):∃W:Nat->Nat->St->Hp->Prop,(∃m,W 0 m σ H) /\ ∀i m σ H,W i m σ H ->
   ((Ite K a).stop i H/\D.nx σ H)\/((Ite K a).go i H /\ ∃N:St->Hp->Prop,(∀ c d,N c d -> ∃j,j<m/\W (i+1) j c d) /\ ∀x d,(Ite K a).yld i H x d->g x σ d λb e=>f { D with nx:=N,ct:=N,bk:=D.nx } b e) :=
 Qk Pv k l (λi x σ H p o q r=>n i x σ H p o q r _ _ _ _ (λ_ _ h=>h) (λ_ _ h=>h) (λ_ _ h=>h)) hd
inductive Deed where
 | set (b n:Int)
 | add (b o:Int)
 | tell (b:Int)
 | call (c:Int)
 | save (b:Int)
 | back (b:Int)
def deedD:Deed->PyData
 | .set b n =>.tuple [.str "set",.int b,.int n]
 | .add b o =>.tuple [.str "add",.int b,.int o]
 | .tell b =>.tuple [.str "tell",.int b]
 | .call c =>.tuple [.str "call",.int c]
 | .save b =>.tuple [.str "save",.int b]
 | .back b =>.tuple [.str "back",.int b]
def wg(works:Int):Deed->Prop
 | .set b n=>0<=b/\b<8 /\ -(10^12)<=n/\n<=10^12
 | .add b o=>0<=b/\b<8/\0<=o/\o<8
 | .tell b=>0<=b/\b<8
 | .call c=>0<=c/\c<works
 | .save b=>0<=b/\b<8
 | .back b=>0<=b/\b<8
def endD:List Int->PyData
 | [] =>.tuple [.str "out"]
 | [x] =>.tuple [.str "go",.int x]
 | x::y::_ =>.tuple [.str "fork",.int x,.int y]
structure Blk where
 ds:List Deed
 ns:List Int
def blkD(b:Blk):PyData :=.tuple [.list (b.ds.map deedD),endD b.ns]
def workD(w:List Blk):PyData :=.list (w.map blkD)
def NsOk(m:Int)(ns:List Int):Prop:=ns = []\/(∃x,ns = [x]/\1<=x/\x<m) \/ ∃x y,ns = [x,y]/\x≠y/\1<=x/\x<m/\1<=y/\y<m
structure BlkOk(m works:Int)(b:Blk):Prop where
 ns:NsOk m b.ns
 ds:∀d∈b.ds,wg works d
 few:b.ds.length<=20
structure WorkOk(m works:Int)(w:List Blk):Prop where
 len:(w.length:Int)=m
 blk:∀b∈w,BlkOk m works b
structure BsOk(bs:List Int):Prop where
 one:1<=bs.length
 few:bs.length<=8
 all:∀b∈bs,0<=b/\b<8
theorem Qp{k c:Nat}{lo hi:Int}{t:Addr}{H:Hp}{Q:VK}{E:XK}(b:Tape H t k)(d:k+c<=2^40)(q:∀r a,lo<=r->r<=hi->Tape a t (k+c)->Ext [t] H a->Q (.int r) a):kx c lo hi ([.ref t] ++ []) H Q E:=⟨t,k,rfl,b,d,q⟩
theorem jR{ns:List Int}{r:Int}(b:0<=r)(c:r<ns.length):∃n,n∈ns/\atI (ns.map V.int) r=some (.int n):=by
 obtain⟨j,rfl⟩:=cD b;have a:j<ns.length:=by exact_mod_cast c
 refine⟨ns[j],cL a,?_⟩;have:=zK (xs:=ns.map V.int) (j:=j) (by rw [aS,aD a];rfl);exact this
section
variable{X:Cx}
def qYm:List V->Hp->VK->Prop:=λxs H Q => ∃j:Int,xs = [.int j] /\ ∀l,H l=none->Q (.ref l) (upd H l (.rng 0 j))
theorem qMn:CallR X (.type "range") qYm:=by
 intro a s σ H c d Q I r h;obtain⟨j,rfl,q⟩:=h;obtain⟨u,rfl,t,rfl⟩:=vals1 r;refine call_range_1 ⟨.ref s.heap.objs.size,_,?_,rfl,q _ (I.hok.fresh (aF _))⟩;exact I.laid (λb o e=>aG _ e) (aF _) ⟨_,_,_,aT _ rfl⟩
def qU7:List V->Hp->VK->Prop:=λxs H Q => ∃(p:Addr) (j:Nat),xs = [.ref p]/\H p=some (.rng 0 j)/\j<=1000 /\ ∀l,H l=none->Q (.ref l) (upd H l (.lst ((List.range j).map λ(i:Nat)=>V.int (i:Int))))
theorem qJ6(hh:X.A.handled=none):CallR X (.type "list") qU7:=by
 intro f s σ H C a Q I r h;obtain⟨p,j,rfl,m,w,q⟩:=h;obtain⟨u,rfl,x⟩:=vals1 r;cases x;obtain⟨t,u,v,e⟩:∃t u v,s.heap.get? p=some { cls :=.type "range",data :=.fields #[.int 0 t,.int (j:Int) u,.int 1 v] }:=I.hok p _ m;refine call_list_range hh e (small_one (by decide) (by decide) (by lia) (by lia)) (n:=j) (by rw [rangeSize_one];split <;> lia) (by lia) λD tk b c y z g=>?_;refine⟨.ref s.heap.objs.size,_,I.laid (o :=.lst ((List.range j).map λ(i:Nat)=>V.int (i:Int))) y (aF _) (show _/\_ from⟨?_,b.toList,c,?_,?_⟩),rfl,q _ (I.hok.fresh (aF _))⟩
 ·rw [aB,cO];exact len2 w
 ·have l:b.toList.length=j:=by rw [aU];exact g.1
  have d:∀(i:Nat) v,b.toList[i]? = some v -> ∃t,v=Value.int (i:Int) t:=λi v d=>by
   obtain⟨t,h⟩:=g.2 i v (by rw [<-d,bE]);exact⟨t,by rw [h];congr 1;lia⟩
  generalize b.toList=a at l d;subst l;have key:∀(a:List Value) (k:Nat),(∀(i:Nat) v,a[i]? = some v -> ∃t,v=Value.int ((k+i:Nat):Int) t)->Vals ((List.range' k a.length).map λ(i:Nat)=>V.int (i:Int)) a:=by
   intro a
   induction a with
   | nil=>intro k _;exact .nil
   | cons u a B =>
    intro k h;obtain⟨t,rfl⟩:=h 0 u rfl;refine .cons ⟨t,rfl⟩ (B (k+1) λi v e=>?_);obtain⟨t,e⟩:=h (i+1) v e;exact⟨t,by rw [e];congr 1;lia⟩
  have:=key a 0 (λi v e=>by obtain⟨t,h⟩:=d i v e;exact⟨t,by rw [h];congr 1;lia⟩)
  rwa [<-List.range_eq_range'] at this
 ·rw [Array.toArray_toList];exact z
variable{K:PySem.W.Frag}
theorem qUv(K:PySem.W.Frag)(a:X.K=K):IxR X (rIxL K):=a▸zX
theorem xl(K:PySem.W.Frag)(a:X.K=K):IxR X (rIxT K):=a▸yg
theorem qTu(K:PySem.W.Frag)(a:X.K=K):SlR X (rSlL K):=a▸xC
theorem Qq(K:PySem.W.Frag)(a:X.K=K):SlR X (rSlT K):=a▸vP
theorem Qr(K:PySem.W.Frag)(b:X.K=K):CallR X (.builtin "len") (λxs H Q => ∃p a,xs = [.ref p]/\(SqL K H p a\/SqT K H p a)/\Q (.int a.length) H):=b▸yb
theorem jS(K:PySem.W.Frag)(b:X.K=K):CallR X (.type "list") (λxs H Q => ∃p a,xs = [.ref p]/\(SqL K H p a\/SqT K H p a) /\ ∀l,H l=none->Q (.ref l) (upd H l (.lst a))):=b▸vQ
theorem wh(K:PySem.W.Frag)(b:X.K=K){c l:Expr}{a:TE}(d:PE X l a):PI X c l (iList K a):=b▸zu d
theorem xb(K:PySem.W.Frag)(c:X.K=K){es:List Expr}{a:Pos}{k:Nat}{t:TGs}{n:Nat}(d:X.calm=true)(h:PGs X es t)(e:(assignEach es X.env).length=n:=by rfl)(b:(assignEach es X.env).findIdx? (·.1)=none:=by rfl):PG X (.Tuple es k a) (gTup K n t):=c▸xS d h e b
theorem qYv(K:PySem.W.Frag)(j:X.K=K){T:String}{name:Str}{id:String}{r:V->List V->Hp->VK->Prop}{o e:Expr}{es:List Expr}{i:TE}{t:TA}{c a:Pos}(k:PlainAttrs T)(slot:Slot T name id)(h:typeOf (.builtin id)=pure (.type "method_descriptor"))(l:MtR X id r)(m:PE X o i)(n:PA X (e::es) t)
  (d:attributeBase o name X.env (eval o X.env)=eval o X.env:=by rfl)
  (g:((backTo a (starEach (e::es) X.env)).all (λx => !x.1)&&(backToKw a (keywordEach [] X.env)).all (λx=>x.1.isSome)
   && decide ((e::es).length+([]:List Keyword).length+(if ([]:List Keyword).isEmpty then 0 else 1)<30))=true:=by rfl)
  (f:(c.endLine == a.line)=true:=by rfl) (p:starEach (e::es) X.env=(false,eval e X.env)::starEach es X.env:=by rfl) (b:(backTo a (starEach es X.env)).any (·.1)=false:=by rfl) :
  PE X (.Call (.Attribute o name c) (e::es) [] a) (tBM K T r i t):=j▸yc k slot h l m n d g f p b
theorem Qs{j n:Nat}(h:j<n):seqIndex? (j:Int) n=some j:=by
 show (if (decide (0<=if (j:Int)<0 then (j:Int)+n else j)&&decide ((if (j:Int)<0 then (j:Int)+n else j)<n))=true then some (if (j:Int)<0 then (j:Int)+n else (j:Int)).toNat else none)=some j;have e:(if (j:Int)<0 then (j:Int)+n else (j:Int))=j:=if_neg (by lia);rw [e,decide_eq_true (show (0:Int)<=j by lia),decide_eq_true (show (j:Int)<n by lia)];rfl
theorem jT{α β : Type}{f : α -> β}:∀(l:List α) (n:Nat),(l.eraseIdx n).map f=(l.map f).eraseIdx n
 | [],_=>rfl
 | _::_,0=>rfl
 | a::l,n+1=>congrArg (f a :: ·) (jT l n)
end
theorem Qt{ns:List Int}(h:ns.length<=2):∃w:Str,endD ns = .tuple (.str w::ns.map .int):=by
 match ns,h with
 | [],_=>exact⟨_,rfl⟩
 | [x],_=>exact⟨_,rfl⟩
 | [x,y],_=>exact⟨_,rfl⟩
theorem Ext.toSame{H a:Hp}(e:Ext [] H a):Same H a:=λb o h=>e b o (by simp) h
abbrev pairD(p:Int×Int):PyData :=.tuple [.int p.1,.int p.2]
abbrev wj(ps:List (Int×Int)):PyData :=.list (ps.map pairD)
theorem NsOk.few{m:Int}{ns:List Int}(h:NsOk m ns):ns.length<=2:=by
 rcases h with h | ⟨x,h,_⟩ | ⟨x,y,h,_⟩ <;> subst h <;> simp
theorem NsOk.range{m:Int}{ns:List Int}(h:NsOk m ns):∀x∈ns,1<=x/\x<m:=by
 rcases h with h | ⟨x,h,a,b⟩ | ⟨x,y,h,_,a,b,d,f⟩ <;> subst h <;> intro z c
 ·cases c
 ·rw [aH.mp c];exact⟨a,b⟩
 ·rcases aV.mp c with e | e
  ·rw [e];exact⟨a,b⟩
  ·rw [aH.mp e];exact⟨d,f⟩
theorem jU(ns:List Int):PyData.eqv (intsD ns) (.list [])=decide (ns = []):=by
 cases ns with
 | nil=>rfl
 | cons x r=>rfl
theorem Qu{X:Cx}(K:PySem.W.Frag)(a:X.K=K):OpR X (compareOp .NotIn) (rIn K true):=a▸qKf
theorem inK{X:Cx}(K:PySem.W.Frag)(a:X.K=K):OpR X (compareOp .In) (rIn K false):=a▸xt
theorem qXo{a b:Int}:eqV (.int a) (.int b)=decide (a=b):=by
 first | rfl | (unfold eqV;simp)
theorem wG(x:Int):∀ns:List Int,inV (.int x) (ns.map V.int)=decide (x∈ns)
 | []=>rfl
 | n::r=>by
  have c:=wG x r;show (eqV (.int n) (.int x)||inV (.int x) (r.map V.int))=_;rw [c,qXo];by_cases a:n=x
  ·subst a;simp
  ·by_cases b:x∈r
   ·simp [b]
   ·simp [a,b,dF a]
theorem wH:∀ns:List Int,(ns.map V.int).all flatV=true
 | []=>rfl
 | _::r=>wH r
theorem qYa{K:PySem.W.Frag}{x:Int}{ns:List Int}{p:Addr}{H:Hp}{Q:VK}(h:SqL K H p (ns.map V.int))(q:Q (.bl (!decide (x∈ns))) H):rIn K true (.int x) (.ref p) H Q:=⟨p,_,rfl,.inl h,rfl,wH ns,by rw [if_pos rfl,wG];exact q⟩
theorem vc{n:Nat}(h:n<=100000):n<sizeLine:=Nat.lt_of_le_of_lt h (by decide)
theorem zj{α β : Type}{f : α -> β}{l:List α}{i:Nat}{y : β}(h:(l.map f)[i]? = some y):∃x,l[i]? = some x/\y=f x:=by
 rw [aS] at h;cases z:l[i]? with
 | none=>rw [z] at h;cases h
 | some x=>rw [z] at h;exact⟨x,rfl,(bT h).symm⟩
theorem zd{α : Type}{l:List α}{i:Nat}{x : α}(h:l[i]? = some x):l.take (i+1)=l.take i ++ [x]:=by rw [fN,h];rfl
def nxt(w:List Blk)(i:Int):List Int:=if 0<=i then ((w[i.toNat]?).map Blk.ns).getD [] else []
inductive Reach(nx:Int->List Int)(a:Int):Int->Prop
 | refl:Reach nx a a
 | step {b c:Int}:Reach nx a b->c∈nx b->Reach nx a c
theorem Qv{w:List Blk}{i:Nat}{b:Blk}(h:w[i]? = some b):nxt w (i:Int)=b.ns:=by
 unfold nxt;rw [if_pos (by lia),cE,h];rfl
theorem xP{m works:Int}{w:List Blk}(h:WorkOk m works w)(i:Int):NsOk m (nxt w i):=by
 unfold nxt;split
 ·cases z:w[i.toNat]? with
  | none=>exact .inl rfl
  | some b=>exact (h.blk b (aM z)).ns
 ·exact .inl rfl
theorem Reach.range{m works a x:Int}{w:List Blk}(h:WorkOk m works w)(b:0<=a/\a<m)(r:Reach (nxt w) a x):0<=x/\x<m:=by
 induction r with
 | refl=>exact b
 | step _ c _=>have:=(xP h _).range _ c;lia
def cnt(p:Int->Bool):Nat->Nat
 | 0=>0
 | m+1=>cnt p m+(if p (m:Int)=true then 1 else 0)
theorem wI(p:Int->Bool):∀m,cnt p m<=m
 | 0=>aF _
 | m+1=>by
  have:=wI p m;show cnt p m+_<=_;split <;> lia
theorem Qw{p q:Int->Bool}(h:∀i,p i=true->q i=true):∀m,cnt p m<=cnt q m
 | 0=>aF _
 | m+1=>by
  have:=Qw h m;show cnt p m+_<=cnt q m+_;by_cases a:p (m:Int)=true
  ·rw [if_pos a,if_pos (h _ a)];lia
  ·rw [if_neg a];lia
theorem uT{p q:Int->Bool}{x:Int}(h:∀i,p i=true->q i=true)(b:q x=true)(a:p x=false):∀m:Nat,0<=x->x<m->cnt p m<cnt q m
 | 0,h0,c=>by lia
 | m+1,h0,c=>by
  show cnt p m+_<cnt q m+_;by_cases e:x=(m:Int)
  ·subst e;have:=Qw h m;rw [if_neg (by rw [a];decide),if_pos b];lia
  ·have:=uT h b a m h0 (by lia);by_cases a:p (m:Int)=true
   ·rw [if_pos a,if_pos (h _ a)];lia
   ·rw [if_neg a];lia
theorem Qx{p:Int->Bool}:∀m:Nat,cnt p m=m -> ∀x:Int,0<=x->x<m->p x=true
 | 0,_,x,h0,b=>by lia
 | m+1,h,x,h0,b=>by
  have c:=wI p m;have h:cnt p m+(if p (m:Int)=true then 1 else 0)=m+1:=h;by_cases a:p (m:Int)=true
  ·rw [if_pos a] at h;by_cases e:x=(m:Int)
   ·rw [e];exact a
   ·exact Qx m (by lia) x h0 (by lia)
  ·rw [if_neg a] at h;lia
section
variable(nx:Int->List Int)(a:Int)
def lay:Nat->List Int×List Int
 | 0=>([],[a])
 | j+1=>let f:=(lay j).2.flatMap λb=>(nx b).filter λx => !decide (x∈(lay j).1);((lay j).1++f,f)
variable{nx a}
theorem lay_further{j:Nat}{x:Int}:x∈(lay nx a (j+1)).2↔(∃b∈(lay nx a j).2,x∈nx b)/\x∉(lay nx a j).1:=by
 show x∈(lay nx a j).2.flatMap _↔_;simp only [cG,bQ,Bool.not_eq_true',decide_eq_false_iff_not];constructor
 ·rintro⟨b,c,d,e⟩;exact⟨⟨b,c,d⟩,e⟩
 ·rintro⟨⟨b,c,d⟩,e⟩;exact⟨b,c,d,e⟩
theorem jV{j:Nat}:(lay nx a (j+1)).1=(lay nx a j).1++(lay nx a (j+1)).2:=rfl
theorem jW{x:Int}:∀ {j:Nat},x∈(lay nx a j).1 -> ∃i,i<=j/\x∈(lay nx a i).2
 | 0,h=>absurd h (by simp [lay])
 | j+1,h=>by
  rw [jV] at h;rcases aK.mp h with h | h
  ·obtain⟨i,b,e⟩:=jW h;exact⟨i,by lia,e⟩
  ·exact⟨j+1,aF _,h⟩
theorem Qy{x:Int}:∀ {j:Nat},x∈(lay nx a j).2->Reach nx a x
 | 0,h=>by
  have:x=a:=by simpa [lay] using h
  rw [this];exact .refl
 | j+1,h=>by
  obtain⟨⟨b,c,d⟩,_⟩:=lay_further.mp h;exact .step (Qy c) d
theorem qQq{x:Int}(r:Reach nx a x):∃j,x∈(lay nx a j).2:=by
 induction r with
 | refl=>exact⟨0,by simp [lay]⟩
 | @step b c _ f g =>
  obtain⟨j,h⟩:=g;by_cases d:c∈(lay nx a j).1
  ·obtain⟨i,_,e⟩:=jW d;exact⟨i,e⟩
  ·exact⟨j+1,lay_further.mpr ⟨⟨b,h,f⟩,d⟩⟩
theorem Qz{j:Nat}(h:(lay nx a (j+1)).2 ≠ []):(lay nx a j).2 ≠ []:=by
 intro e;apply h;show (lay nx a j).2.flatMap _ = [];rw [e];rfl
theorem qKs{j:Nat}:∀ {i:Nat},(lay nx a (j+i)).2 ≠ []->(lay nx a j).2 ≠ []
 | 0,h=>h
 | i+1,h=>qKs (i:=i) (Qz h)
theorem qSd{m:Nat}(c:∀x j,x∈(lay nx a j).2->0<=x/\x<(m:Int)):∀j,(lay nx a j).2 ≠ []->j<=cnt (λx=>decide (x∈(lay nx a j).1)) m
 | 0,_=>bB _
 | j+1,h=>by
  have g:=qSd c j (Qz h);obtain⟨x,b⟩:=gK _ h;have d:=c x (j+1) b;have e:=(lay_further.mp b).2
  have:=uT (p:=λx=>decide (x∈(lay nx a j).1)) (q:=λx=>decide (x∈(lay nx a (j+1)).1)) (x:=x) (λi f=>by
   rw [jV]
   exact decide_eq_true (bA _ (of_decide_eq_true f))) (decide_eq_true (by rw [jV];exact aZ _ b)) (decide_eq_false e) m d.1 d.2
  lia
theorem qXj{m:Nat}(c:∀x j,x∈(lay nx a j).2->0<=x/\x<(m:Int)){x:Int}(r:Reach nx a x):∃j,j<=m/\x∈(lay nx a j).2:=by
 obtain⟨j,b⟩:=qQq r;by_cases h:j<=m
 ·exact⟨j,h,b⟩
 ·have e:(lay nx a m).2 ≠ []:=qKs (i:=j - m) (by rw [show m+(j - m)=j by lia];exact List.ne_nil_of_mem b);have f:=qSd c m e;have g:=wI (λx=>decide (x∈(lay nx a m).1)) m;have d:=c x j b;have:=Qx (p:=λx=>decide (x∈(lay nx a m).1)) m (by lia) x d.1 d.2;exact jW (of_decide_eq_true this)
end
theorem xm{α : Type} [DecidableEq α]:∀ {l1 l2:List α},l1.Nodup->(∀x∈l1,x∈l2)->l1.length<=l2.length
 | [],_,_,_=>bB _
 | x::r,l2,h,b=>by
  rw [dA] at h;have c:=b x (aQ ..);have e:=xm (l2:=l2.erase x) h.2 λy d=>by
   have a:y≠x:=λz=>h.1 (z▸d);exact (List.mem_erase_of_ne a).mpr (b y (aP _ d))
  have f:=List.length_erase_of_mem c;have g:=List.length_pos_of_mem c;rw [bY];lia
theorem qKc:∀ps:List (Int×Int),PyData.canLayAll0 (ps.map pairD)=true
 | []=>rfl
 | p::r=>by
  show (PyData.canLay0 (pairD p)&&PyData.canLayAll0 (r.map pairD))=true;rw [qKc r];rfl
theorem qHq:∀ps:List (Int×Int),PyData.depthAll (ps.map pairD)<=1
 | []=>bB _
 | p::r=>by
  show max (PyData.depth (pairD p)) (PyData.depthAll (r.map pairD))<=1;have a:PyData.depth (pairD p)=1:=rfl;have:=qHq r;lia
theorem qM8(ps:List (Int×Int)):PyData.depth (wj ps)<=2:=by
 have:=qHq ps;show PyData.depthAll (ps.map pairD)+1<=2;lia
theorem qKb(ps:List (Int×Int)):SeqAt.shaped (wj ps)=true:=by
 have:=qM8 ps;show (PyData.canLayAll0 (ps.map pairD)&&decide (PyData.depth (wj ps)<=64))=true;rw [qKc,decide_eq_true (show PyData.depth (wj ps)<=64 by lia)];rfl
theorem cut1(x:V)(xs:List V):cutV (x::xs) (some 1) none=xs:=by
 unfold cutV HT.sIx;simp
theorem yE{X:Cx}{a:Expr}{c:TE}(K:PySem.W.Frag)(e:X.K=K)(f:PE X a c)(g:∀b,isTrue a X.env b=(do let v <-b;standAt a.pos;holding [v] (truthy v))):PT X a (λσ H Q=>c σ H λx d => ∃k,TruV K x d k/\Q k d):=e▸kJ f g
theorem jX(xs:Array Nat)(j:Nat)(h:xs.toList.Pairwise (· < ·)):∀(fuel lo hi:Nat),lo<=hi->hi<=xs.size->hi - lo<=fuel->(∀(i x:Nat),xs[i]? = some x->i<lo->x<j)->(∀(i x:Nat),xs[i]? = some x->hi<=i->j<=x) ->
  (SetTable.below.go xs j fuel lo hi<=xs.size)/\(∀(i x:Nat),xs[i]? = some x->i<SetTable.below.go xs j fuel lo hi->x<j)/\(∀(i x:Nat),xs[i]? = some x->SetTable.below.go xs j fuel lo hi<=i->j<=x)
 | 0,lo,hi,r,d,s,f,g=>by
  have e:lo=hi:=by lia
  subst e;exact⟨d,f,g⟩
 | fuel+1,lo,hi,r,d,s,f,g=>by
  unfold SetTable.below.go;by_cases p:lo<hi
  ·rw [if_pos p];dsimp only;have t:(lo+hi) / 2<xs.size:=by lia
   have q:∀(i k x y:Nat),xs[i]? = some x->xs[k]? = some y->i<=k->x<=y:=by
    intro i k x y b c l;rw [<-bE] at b c;obtain⟨m,rfl⟩:=aE.mp b;obtain⟨n,rfl⟩:=aE.mp c;rcases Nat.lt_or_eq_of_le l with z | z
    ·exact dH (gL.mp h i k m n z)
    ·subst z;exact aF _
   obtain⟨y,c⟩:∃y,xs[(lo+hi) / 2]? = some y:=⟨_,bK t⟩;have u:xs.getD ((lo+hi) / 2) j=y:=by rw [dC,c];rfl
   rw [u];by_cases a:y<j
   ·rw [if_pos a];exact jX xs j h fuel _ _ (by lia) d (by lia) (λi x b o=>Nat.lt_of_le_of_lt (q i _ x y b c (by lia)) a) g
   ·rw [if_neg a];exact jX xs j h fuel _ _ (by lia) (by lia) (by lia) f (λi x b o=>bL (Nat.le_of_not_lt a) (q _ i y x c b (by lia)))
  ·rw [if_neg p];have e:lo=hi:=by lia
   subst e;exact⟨d,f,g⟩
theorem qOb(xs:Array Nat)(j:Nat)(a:xs.toList.Pairwise (· < ·)):SetTable.below xs j<=xs.size/\(∀(i x:Nat),xs[i]? = some x->i<SetTable.below xs j->x<j)/\(∀(i x:Nat),xs[i]? = some x->SetTable.below xs j<=i->j<=x):=jX xs j a xs.size 0 xs.size (bB _) (aF _) (Nat.sub_le _ _) (λ_ _ _ h=>absurd h (Nat.not_lt_zero _)) (λi x b h=>absurd (Array.getElem?_eq_some_iff.mp b).1 (by lia))
theorem qRc(xs:Array Nat)(j:Nat)(h:xs.toList.Pairwise (· < ·))(q:xs[SetTable.below xs j]? ≠ some j):(SetTable.insertAt xs (SetTable.below xs j) j).toList.Pairwise (· < ·):=by
 obtain⟨u,r,o⟩:=qOb xs j h;rw [SetTable.toList_insertAt];generalize SetTable.below xs j=b at *;have p:∀x∈xs.toList.drop b,j<x:=by
  intro x k;obtain⟨i,c,e⟩:=bI k;have a:xs.toList[b+i]? = some x:=by rw [<-List.getElem?_drop,aD c,e]
  rw [bE] at a;have l:=o _ _ a (Nat.le_add_right _ _);rcases Nat.lt_or_eq_of_le l with z | z
  ·exact z
  ·subst z;by_cases m:i=0
   ·subst m;exact absurd a q
   ·have d:b<xs.toList.length:=by rw [cC] at c;lia
    have s:xs[b]? = some xs.toList[b]:=by rw [<-bE,aD d]
    have v:=o _ _ s (aF _);rw [<-bE] at a;obtain⟨n,w⟩:=aE.mp a;have A:=gL.mp h b (b+i) d n (by lia);lia
 refine List.pairwise_append.mpr ⟨h.sublist (List.take_sublist _ _),List.pairwise_cons.mpr ⟨p,h.sublist (List.drop_sublist _ _)⟩,λx k y t=>?_⟩;obtain⟨i,c,e⟩:=bI k;have f:i<b:=by rw [aN] at c;lia
 have a:xs.toList[i]? = some x:=by rw [<-List.getElem?_take_of_lt f,aD c,e]
 rw [bE] at a;have g:=r _ _ a f;rcases aV.mp t with z | z
 ·subst z;exact g
 ·exact Nat.lt_trans g (p y z)
theorem uU(n:Nat):(Array.range n).toList.Pairwise (· < ·):=by
 rw [Array.toList_range];exact dU
def qTl(t:SetTable)(j:Nat):Prop:=t.place[SetTable.below t.place j]? ≠ some j
theorem qHs{t:SetTable}{j:Nat}(h:t.slot j = .empty\/t.slot j = .dummy):qTl t j:=by
 intro e;unfold SetTable.slot at h;dsimp only at h;rw [e] at h;simp at h
theorem jY{t:SetTable}{f:Nat->Int}{h:Int}{j:Nat}{b:Option Nat}:∀(fuel:Nat) (p:SetTable.Probe),SetTable.probe.go t f h fuel p=some (.empty j b)->(∀d,p.dummy=some d->t.slot d = .dummy) ->
  t.slot j = .empty /\ ∀d,b=some d->t.slot d = .dummy
 | 0,p,e,_=>by unfold SetTable.probe.go at e;cases e
 | fuel+1,p,e,hd=>by
  unfold SetTable.probe.go at e;have c:∀q:SetTable.Probe,(t.advance q).dummy=q.dummy:=by
   intro q;unfold SetTable.advance;split <;> rfl
  cases a:t.slot p.j with
  | empty=>rw [a] at e;dsimp only at e;cases e;exact⟨a,hd⟩
  | dummy=>rw [a] at e;dsimp only at e;exact jY fuel _ e (λd z=>by rw [c] at z;cases z;exact a)
  | live i =>
   rw [a] at e;dsimp only at e;split at e
   ·cases e
   ·exact jY fuel _ e (λd z=>by rw [c] at z;exact hd d z)
theorem qMg{t:SetTable}{h:Int}{slot:Nat}{c:Bool}(e:t.freeSlot h=some (slot,c)):qTl t slot:=by
 unfold SetTable.freeSlot at e;split at e
 ·rename_i j f g;obtain⟨a,b⟩:=jY _ _ g (λd z=>by unfold SetTable.probeStart at z;cases z);cases e;cases f with
  | none=>exact qHs (.inl a)
  | some d=>exact qHs (.inr (b d rfl))
 ·cases e
structure GoodT(b:Bool)(t:SetTable)(n:Nat):Prop where
 fits:t.fits n=true
 rise:t.place.toList.Pairwise (· < ·)
 led:t.led=b
theorem qGx{b:Bool}{t:SetTable}{es:Array (Int×Value)}{h:Int}{x:Value}(g:GoodT b t es.size):GoodT b (layNew t es h x).2.1 (layNew t es h x).1.size:=by
 refine⟨layNew_fits t es h x,?_,?_⟩
 ·unfold layNew;split
  ·rename_i a d c;dsimp only;unfold SetTable.orStandIn;split
   ·exact qRc _ _ g.rise (qMg c)
   ·exact uU _
  ·exact uU _
 ·unfold layNew;split
  ·dsimp only;unfold SetTable.orStandIn;split
   ·exact g.led
   ·exact g.led
  ·exact g.led
theorem qIj{b:Bool}{t:SetTable}{es:Array (Int×Value)}{m:Nat}(g:GoodT b t es.size):GoodT b (relayAll t es m).2.1 (relayAll t es m).1.size:=by
 refine⟨relayAll_fits t es m,?_,?_⟩
 ·unfold relayAll;split
  ·rename_i i d c;dsimp only;split
   ·unfold SetTable.relaid SetTable.laid at c;cases e:SetTable.layClean (SetTable.sizeAbove m - 1) (es.map (·.1)) with
    | none=>rw [e] at c;cases c
    | some owner =>
     rw [e] at c;cases c;show (((List.range _).filterMap λj=>(owner.getD j none).map (j,·)).map (·.1)).Pairwise (· < ·);have f:∀l:List Nat,((l.filterMap λj=>(owner.getD j none).map (j,·)).map (·.1)).Sublist l:=by
      intro l
      induction l with
      | nil=>exact .slnil
      | cons a r h =>
       rw [bW];cases owner.getD a none with
       | none=>exact h.cons _
       | some k=>exact h.cons₂ a
     exact List.Pairwise.sublist (f _) dU
   ·exact uU _
  ·exact uU _
 ·unfold relayAll;split
  ·rename_i i d c;dsimp only;split
   ·unfold SetTable.relaid SetTable.laid at c;cases e:SetTable.layClean (SetTable.sizeAbove m - 1) (es.map (·.1)) with
    | none=>rw [e] at c;cases c
    | some owner=>rw [e] at c;cases c;exact g.led
   ·exact g.led
  ·exact g.led
theorem GoodT.plainOff{b:Bool}{t:SetTable}{n:Nat}(g:GoodT b t n):GoodT b { t with plain:=false } n:=⟨SetTable.fits_plain_off g.fits,g.rise,g.led⟩
def keyI:Int×Value->Int
 | (_,.int n _)=>n
 | _=>0
def EI(e:Int×Value):Prop := ∃n t,e=(hashInt n,Value.int n t)
def yA(w:World):Bool:=w.params.followText "set-order"
def SetI(w:World)(h:Heap)(a:Addr)(ns:List Int):Prop :=
 ∃o es ep t,h.get? a=some o/\o.ExactSet/\o.data = .set es ep t/\(∀e∈es.toList,EI e)/\(es.toList.map keyI).Perm ns/\ns.Nodup/\es.size<scanBound/\GoodT (!yA w) t es.size
theorem EI.elems{P:Program}{w:World}{l:List (Int×Value)}(h:∀e∈l,EI e):ElemsOf (intKind P w) l:=λe a=>by
 obtain⟨n,t,rfl⟩:=h e a;exact⟨⟨n,intKind_is P w n t,rfl⟩,rfl⟩
theorem uV{P:Program}{w:World}{l:List (Int×Value)}(h:∀e∈l,EI e)(n:Int):n∈l.map keyI ↔ ∃e∈l,(intKind P w).is n e.2=true:=by
 constructor
 ·intro b;obtain⟨e,a,q⟩:=aW.mp b;obtain⟨m,t,rfl⟩:=h e a;cases q;exact⟨_,a,intKind_is P w m t⟩
 ·rintro⟨e,a,q⟩;obtain⟨m,t,rfl⟩:=h e a;have:n=m:=(intKind P w).inj _ _ _ q (intKind_is P w m t);subst this;exact aW.mpr ⟨_,a,rfl⟩
theorem SetI.stay{w:World}{h h':Heap}{a:Addr}{ns:List Int}(S:SetI w h a ns)(k:∀o,h.get? a=some o->h'.get? a=some o):SetI w h' a ns:=by
 obtain⟨o,b,c,t,e,r⟩:=S;exact⟨o,b,c,t,k o e,r⟩
def addN(ns:List Int)(n:Int):List Int:=if n∈ns then ns else ns ++ [n]
theorem xn{ns:List Int}{n:Int}(h:ns.Nodup):(addN ns n).Nodup:=by
 unfold addN;split
 ·exact h
 ·rename_i b;exact cF.mpr ⟨h,by simp,by intro x c y a;simp at a;subst a;intro e;subst e;exact b c⟩
theorem jZ{ns:List Int}{n m:Int}:m∈addN ns n↔m∈ns\/m=n:=by
 unfold addN;split
 ·rename_i a;constructor
  ·exact .inl
  ·rintro (h | rfl)
   ·exact h
   ·exact a
 ·simp
theorem qOd{ns:List Int}{n:Int}:(addN ns n).length<=ns.length+1:=by
 unfold addN;split <;> simp
section
variable{P:Program}{w:World}{A:Around}{E:Value->Shared->Prop}{s:Shared}
theorem SetI.store{h:Heap}{a:Addr}{o:Obj}{es es':Array (Int×Value)}{ep:Nat}{t t':SetTable}{ns:List Int}(f:h.get? a=some o)(b:o.ExactSet)(hd:o.data = .set es ep t)(c:∀e∈es'.toList,EI e)(i:(es'.toList.map keyI).Perm ns)(j:ns.Nodup)(k:es'.size<scanBound)(g:GoodT (!yA w) t' es'.size):(h.update a (Obj.putSet es' t')).get? a=some { o with data :=.set es' (ep+1) t' }/\SetI w (h.update a (Obj.putSet es' t')) a ns:=by
 have d:=bZ (Obj.putSet es' t') f (by rw [putSet_of es' t' hd];rfl);rw [putSet_of es' t' hd] at d;exact⟨d,_,es',ep+1,t',d,b,rfl,c,i,j,k,g⟩
theorem uW{u:Bool->Sem Unit}(D:∀(b:Bool) (i : Shared) (v:Unit->Shared->Prop),v () i -> wpAny (model P w) A (u b) v E i){a:Addr}{o:Obj}{es:Array (Int×Value)}{ep:Nat}{t:SetTable}(x:s.heap.get? a=some o)(j:o.ExactSet)(hd:o.data = .set es ep t){c:Array (Int×Value)}{f:SetTable}{ns:List Int}(k:∀e∈c.toList,EI e)(y:(c.toList.map keyI).Perm ns)(z:ns.Nodup)(B:c.size<scanBound)(g:GoodT (!yA w) f c.size){F:Bool}{R:Option Bool->Shared->Prop}(h:∀h',Heap.SameBut a s.heap h'->SetI w h' a ns->R (some true) { s with heap:=h' }):wpAny (model P w) A (do
    storeSet a c f
    if (!F&&f.tooFull)=true then do
      u (relayAll f c (SetTable.grown c.size)).2.2
      storeSet a (relayAll f c (SetTable.grown c.size)).1 (relayAll f c (SetTable.grown c.size)).2.1
      pure (some true)
     else pure (some true)) R E s:=by
 refine aA (wpAny_storeSet_of x hd ?_ (gA B));obtain⟨l,q⟩:=SetI.store (w:=w) x j hd k y z B g;have C:=bR s.heap a (Obj.putSet c f);split
 ·have d:=relayAll_perm f c (SetTable.grown c.size);have r:=qIj (m:=SetTable.grown c.size) g;generalize relayAll f c (SetTable.grown c.size)=G at d r ⊢;obtain⟨n,I,J⟩:=G;dsimp only at d r ⊢;have K:n.size=c.size:=by rw [<-aU,d.length_eq,aU]
  have p:n.size<scanBound:=by lia
  refine aA (D _ _ _ (aA (wpAny_storeSet_of l rfl ?_ (gA p))));exact aC (h _ (C.trans (bR _ a _)) (SetI.store (w:=w) l j rfl (λe H=>k e (d.mem_iff.mp H)) ((d.map keyI).trans y) z p r).2)
 ·exact aC (h _ C q)
theorem addI{a:Addr}{ns:List Int}{n:Int}{tk:Tok}{Q:Bool->Shared->Prop}(S:SetI w s.heap a ns)(N:ns.length+1<scanBound)(h:∀h',Heap.SameBut a s.heap h'->SetI w h' a (addN ns n)->Q (!decide (n∈ns)) { s with heap:=h',toks:=s.toks+1 }):wpAny (model P w) A (setAdd a (.int n tk)) Q E s:=by
 unfold setAdd;refine bM (aA ((intKind P w).pyHash (k:=n) (intKind_is _ _ _ _) ?_));obtain⟨o,u,X,t,y,p,B,f,C,O,T,g⟩:=S;have U:u.size=ns.length:=by rw [<-C.length_eq,aB,aU]
 have v:=EI.elems (P:=P) (w:=w) f;have D:=intKind_is P w n tk;unfold setAddHashed setAddHashedIn;refine bM (aA (dZ (s :={ s with toks:=s.toks+1 }) y B g.fits ?_));dsimp only;rw [byScan_of (knd:=intKind P w) (x :=.int n tk) rfl T v];simp only [↓reduceIte];unfold setAddByScan;refine aA (aA (cV (aA (wpAny_setScan_of (knd:=intKind P w) (k:=n) D y B g.fits v ?_))));cases V:List.findIdx? (λe=>(intKind P w).is n e.2) u.toList with
 | some j =>
  dsimp only;obtain⟨Y,R,_⟩:=List.findIdx?_eq_some_iff_getElem.mp V;have F:n∈ns:=C.mem_iff.mp ((uV (P:=P) (w:=w) f n).mpr ⟨_,cL Y,R⟩);refine aC (aC ?_);have q:=h s.heap (fO a s.heap) ⟨o,u,X,t,y,p,B,f,by unfold addN;rw [if_pos F];exact C,xn O,T,g⟩;rw [decide_eq_true F] at q;exact q
 | none =>
  dsimp only;have F:n∉ns:=λz=>by
   obtain⟨e,v,q⟩:=(uV (P:=P) (w:=w) f n).mp (C.mem_iff.mpr z);have:=gM.mp V e v;rw [q] at this;cases this
  have G:∀(b:Bool) {c : Shared} {l:Unit->Shared->Prop},l () c -> wpAny (model P w) A (match b with | true=>rule "set.scan.the-table-gave-way" | false=>pure ()) l E c :=λb c l i=>by
   cases b
   ·exact aC i
   ·exact cV i
  have d:=layNew_perm t u ((intKind P w).hash n) (.int n tk);have H:=qGx (h:=(intKind P w).hash n) (x :=.int n tk) g;generalize layNew t u ((intKind P w).hash n) (.int n tk)=L at d H ⊢;obtain⟨r,t1,wd,W⟩:=L;dsimp only at d H ⊢;rw [gB] at d;have m:∀e∈r.toList,EI e:=λe v=>by
   rcases aK.mp (d.mem_iff.mp v) with z | z
   ·exact f e z
   ·rw [aH] at z;exact⟨n,tk,z⟩
  have Z:r.size=u.size+1:=by rw [<-aU,d.length_eq,aI,aU];rfl
  have I:(r.toList.map keyI).Perm (addN ns n):=by
   unfold addN;rw [if_neg F];refine (d.map keyI).trans ?_;rw [aJ];exact C.append_right _
  have J:∀h',Heap.SameBut a s.heap h'->SetI w h' a (addN ns n)->Q true { s with heap:=h',toks:=s.toks+1 }:=λh' K M=>by
   have q:=h h' K M;rw [decide_eq_false F] at q;exact q
  refine aA (G _ ?_);have a0:∀(b:Bool) (c : Shared) (l:Unit->Shared->Prop),l () c -> wpAny (model P w) A (match b with | true=>rule "set.scan.the-table-gave-way" | false=>pure ()) l E c :=λb c l i=>G b i;split
  ·refine aA ?_;rw [hashByValue_scannable 8 (x :=.int n tk) rfl];refine aC ?_;refine uW (s :={ s with toks:=s.toks+1 }) (λb c l i=>?_) y p B m I (xn O) (by lia) ?_ (λh' K M=>?_)
   ·cases b
    ·exact aC i
    ·exact cV i
   ·split
    ·exact H
    ·exact H.plainOff
   ·dsimp only;exact aC (J h' K M)
  ·refine aA (aC ?_);simp only [↓reduceIte];refine uW (s :={ s with toks:=s.toks+1 }) (λb c l i=>?_) y p B m I (xn O) (by lia) H (λh' K M=>?_)
   ·cases b
    ·exact aC i
    ·exact cV i
   ·dsimp only;exact aC (J h' K M)
end
theorem slot_si_next:Slot "set_iterator" "__next__" "set_iterator.__next__" :=.of (owner := "set_iterator") (n := "__next__") (by rw [typeLookup_type,builtinLookup_eq_fast];kernel_rfl) (by decide +kernel) (by decide +kernel) (by decide +kernel) (by first | exact .inl (by decide +kernel) | exact .inr (by decide +kernel)) (by rw [isSubtype_type];kernel_rfl)
theorem qFs:Slot "set_iterator" "__iter__" "set_iterator.__iter__" :=.of (owner := "set_iterator") (n := "__iter__") (by rw [typeLookup_type,builtinLookup_eq_fast];kernel_rfl) (by decide +kernel) (by decide +kernel) (by decide +kernel) (by first | exact .inl (by decide +kernel) | exact .inr (by decide +kernel)) (by rw [isSubtype_type];kernel_rfl)
theorem qFg:entryFor table "set_iterator.__next__" = some Builtin.«set_iterator.__next__» :=entryFor_of_tree (by kernel_rfl)
theorem qIz:entryFor table "set_iterator.__iter__" = some Builtin.«dict_keyiterator.__iter__» :=entryFor_alias (id' := "dict_keyiterator.__iter__") (by kernel_rfl) rfl (by decide +kernel) (by kernel_rfl)
theorem qG0(a:Value):argsOk "set_iterator.__next__" ⟨[a],[]⟩:=by unfold argsOk;kernel_rfl
theorem qLk(a:Value):argsOk "set_iterator.__iter__" ⟨[a],[]⟩:=by unfold argsOk;kernel_rfl
theorem qHg:entryFor table "set.__iter__" = some Builtin.«frozenset.__iter__» :=entryFor_alias (id' := "frozenset.__iter__") (by kernel_rfl) rfl (by decide +kernel) (by kernel_rfl)
def SIter(h:Heap)(it:Addr)(first:Value)(i:Nat)(a:Addr)(n ep:Nat):Prop :=
 ∃o,h.get? it=some o/\o.cls = .type "set_iterator" /\ o.data = .fields #[first,.int i 0,.ref a,.int n 0,.int ep 0]
theorem SIter.ty{s:Shared}{it:Addr}{first:Value}{i:Nat}{a:Addr}{n ep:Nat}(h:SIter s.heap it first i a n ep):s.TypeIs (.ref it) "set_iterator" :=let ⟨o,e,c,_⟩:=h;⟨o,e,c⟩
theorem uX{α : Type}:∀ {l:List α} {i:Nat} (h:i<l.length),(l[i]::l.eraseIdx i).Perm l
 | a::r,0,_ =>.refl _
 | a::r,i+1,h=>by
  have b:i<r.length:=by simpa using h
  show ((r[i]'b)::a::r.eraseIdx i).Perm (a::r);exact (List.Perm.swap _ _ _).trans ((uX b).cons a)
section
variable{P:Program}{w:World}{A:Around}{E:Value->Shared->Prop}{s:Shared}
theorem qWf{it a:Addr}{first:Value}{i n ep:Nat}{Q:Value->Shared->Prop}(h:SIter s.heap it first i a n ep)(q:Q (.ref it) s):wpAny (model P w) A (pyIter (.ref it)) Q E s:=by
 refine wpAny_pyIter_slot h.ty qFs (bX qFs h.ty qIz ?_ (qLk _));show wpAny _ _ (ret (.ref it)) _ _ s;exact aC ⟨_,rfl,"set_iterator",_,h.ty,slot_si_next.lookup,q⟩
theorem qPm{a:Source}{n:Nat}{Q:Nat->Shared->Prop}(b:n≠0)(h:∀i d,i<n->Q i { s with drawn:=d }):wpAny (model P w) A (choose a n) Q E s:=λΓ p c =>by
 unfold choose;rw [Sem.wp_choose];exact⟨b,h _ _ (Nat.mod_lt _ (Nat.pos_of_ne_zero b))⟩
theorem ja{α : Type}:∀(xs:List α) {s:Shared} {Q:List α -> Shared->Prop},(∀ys d,ys.Perm xs->Q ys { s with drawn:=d })->wpAny (model P w) A (drawOrder xs.length xs) Q E s
 | [],s,Q,h=>by
  unfold drawOrder;exact aC (h [] s.drawn (.refl _))
 | x::r,s,Q,h=>by
  show wpAny _ _ (drawOrder (r.length+1) (x::r)) _ _ s;unfold drawOrder;refine aA (qPm (by simp) λi d hi=>?_);rw [aD hi];dsimp only;have hl:((x::r).eraseIdx i).length=r.length:=by rw [List.length_eraseIdx_of_lt hi];rfl
  rw [<-hl];refine aA (ja ((x::r).eraseIdx i) λys d' hp=>aC (h _ d' ?_));exact (hp.cons _).trans (uX hi)
 termination_by xs=>xs.length
theorem qRh{α : Type}(f:Nat->Nat):∀(fuel k:Nat) (l:List α) (out:Array α),l.length=fuel->(pickOrder.go f fuel k l out).toList.Perm (out.toList++l)
 | 0,k,l,out,h=>by
  have:l = []:=fU.mp h;subst this;unfold pickOrder.go;simp
 | fuel+1,k,l,out,h=>by
  unfold pickOrder.go;have a:f k%l.length<l.length:=Nat.mod_lt _ (by lia);rw [aD a];dsimp only;refine (qRh f fuel (k+1) _ _ (by rw [List.length_eraseIdx_of_lt a];lia)).trans ?_;rw [gB,eZ];exact List.Perm.append_left _ (uX a)
theorem qK9{α : Type}(f:Nat->Nat)(xs:Array α):(pickOrder f xs).toList.Perm xs.toList:=by
 unfold pickOrder;have:=qRh f xs.size 0 xs.toList #[] (by simp);simpa using this
end
theorem uY{h:Heap}{it:Addr}{o:Obj}{vs:Array Value}(k:Nat)(v:Value)(b:h.get? it=some o)(hd:o.data = .fields vs):∃a,(h.update it (Obj.mapFields (·.setIfInBounds k v))).get? it=some a/\a.cls=o.cls/\a.data = .fields (vs.setIfInBounds k v) :=
 ⟨_,bZ _ b (Obj.isFreed_of_fields (Obj.data_mapFields hd _)),Obj.cls_mapFields ..,Obj.data_mapFields hd _⟩
def slotI(t:SetTable):Nat->Nat
 | 0=>0
 | i+1=>t.place.getD i 0+1
theorem qPh{t:SetTable}{n:Nat}(g:t.place.toList.Pairwise (· < ·)){i:Nat}(hi:i<=t.place.size):SetTable.below t.place (slotI t i)=i:=by
 obtain⟨p,h,l⟩:=qOb t.place (slotI t i) g;generalize SetTable.below t.place (slotI t i)=b at *;have lt:∀(i k x y:Nat),t.place[i]? = some x->t.place[k]? = some y->i<k->x<y:=by
  intro i k x y c j d;rw [<-bE] at c j;obtain⟨e,rfl⟩:=aE.mp c;obtain⟨f,rfl⟩:=aE.mp j;exact gL.mp g i k e f d
 cases i with
 | zero =>
  by_cases m:b=0
  ·exact m
  ·have o:0<t.place.size:=by lia
   exact absurd (h 0 _ (bK o) (by lia)) (Nat.not_lt_zero _)
 | succ i =>
  have c:t.place[i]? = some (t.place.getD i 0):=by
   have a:i<t.place.size:=by lia
   rw [dC,bK a];rfl
  rcases Nat.lt_trichotomy b (i+1) with z | z | z
  ·have:=l i _ c (by lia);simp only [slotI] at this;lia
  ·exact z
  ·have a:i+1<t.place.size:=by lia
   have q:=h (i+1) _ (bK a) z;have r:=lt i (i+1) _ _ c (bK a) (by lia);simp only [slotI] at q;lia
inductive Mode(w:World)(h:Heap)(a:Addr)(es:Array (Int×Value))(ep:Nat)(t:SetTable)(i:Nat):Value->List (Int×Value)->List Addr->Prop
 | told (sl:Nat) (b:yA w=true):Mode w h a es ep t i (.int sl 0) (pickOrder (w.params.setOrder a ep) es).toList []
 | place (b:yA w=false) (d:(!t.plain&&decide (es.size>1))=false):Mode w h a es ep t i (.int (slotI t i) 0) es.toList []
 | drawn (tp:Addr) (places:List Nat) (o:Obj) (n:Nat) (ord:List (Int×Value)) (e:h.get? tp=some o) (c:o.data = .seq (places.map λ(j:Nat)=>rawInt (j:Int)).toArray n) (q:places.map (λj=>es[j]?)=ord.map some):Mode w h a es ep t i (.ref tp) ord [tp]
def SW(w:World)(it a:Addr)(es:Array (Int×Value))(ep:Nat)(t:SetTable)(ord:List (Int×Value))(ex:List Addr)(i:Nat)(h:Heap):Prop :=
 ∃first,SIter h it first i a es.size ep/\(∃o,h.get? a=some o/\o.data = .set es ep t)/\GoodT (!yA w) t es.size/\ord.length=es.size/\Mode w h a es ep t i first ord ex
section
variable{P:Program}{w:World}{A:Around}{E:Value->Shared->Prop}{s:Shared}{it a:Addr}{es:Array (Int×Value)}{ep:Nat}{t:SetTable}{ord:List (Int×Value)}{ex:List Addr}{i:Nat}
theorem uZ{t:SetTable}{n:Nat}(h:t.fits n=true):t.place.size=n:=by
 simp only [SetTable.fits,aO,beq_iff_eq] at h;exact h.1
theorem qKj{o:Obj}{c:Nat}{Q:Option (Value×Nat)->Shared->Prop}(d:s.heap.get? a=some o)(hd:o.data = .set es ep t)(g:GoodT (!yA w) t es.size)(b:yA w=true)(q:Q (((pickOrder (w.params.setOrder a ep) es)[i]?).map λe=>(e.2,c)) s):wpAny (model P w) A (setNext a c i ep) Q E s:=by
 unfold setNext;refine aA (dZ d hd g.fits ?_);dsimp only;unfold setsByText;refine aA (aA (cU (aC ?_)));show wpAny _ _ (if w.params.followText "set-order" = true then _ else _) _ _ _;rw [if_pos (show (w.params.followText "set-order")=true from b),if_neg (by simp)];unfold setWalk;refine aA (aA (dZ d hd g.fits ?_));dsimp only;unfold setsByText;refine aA (aA (cU (aC ?_)));show wpAny _ _ (if w.params.followText "set-order" = true then _ else _) _ _ _;rw [if_pos (show (w.params.followText "set-order")=true from b)];refine aA (cU (aC (aC ?_)))
 exact q
theorem qHt{o:Obj}{Q:Option (Value×Nat)->Shared->Prop}(j:s.heap.get? a=some o)(hd:o.data = .set es ep t)(g:GoodT (!yA w) t es.size)(b:yA w=false)(d:(!t.plain&&decide (es.size>1))=false)(hi:i<=es.size)(q:Q ((es[i]?).map λe=>(e.2,slotI t (i+1))) s):wpAny (model P w) A (setNext a (slotI t i) i ep) Q E s:=by
 have l:=uZ g.fits;unfold setNext;refine aA (dZ j hd g.fits ?_);dsimp only;unfold setsByText;refine aA (aA (cU (aC ?_)));show wpAny _ _ (if w.params.followText "set-order" = true then _ else _) _ _ _;rw [if_neg (show ¬(w.params.followText "set-order")=true from λz=>by rw [show (w.params.followText "set-order")=false from b] at z;cases z)];have c:t.led=true:=by rw [g.led,b];rfl
 split
 ·rename_i z;exact absurd (show (!t.plain&&decide (es.size>1))=true from z) (by rw [d];exact aL)
 ·refine aA ?_;show wpAny _ _ (if (!t.led && !es.isEmpty)=true then unsupported "set:maker-not-led" else pure PUnit.unit) _ _ _;rw [if_neg (by rw [c];simp)];refine aC (aC ?_);rw [qPh (n:=es.size) g.rise (by lia)];by_cases f:i<es.size
  ·have h:es[i]? = some es[i]:=bK f;have k:t.place[i]? = some (t.place.getD i 0):=by
    have:i<t.place.size:=by lia
    rw [dC,bK this];rfl
   rw [h] at q ⊢;rw [k];exact q
  ·have h:es[i]? = none:=Array.getElem?_eq_none (by lia);rw [h] at q ⊢;exact q
theorem Mode.stay{h h':Heap}{first:Value}(m:Mode w h a es ep t i first ord ex)(k:∀b∈ex,∀o,h.get? b=some o->h'.get? b=some o):Mode w h' a es ep t i first ord ex:=by
 cases m with
 | told g b=>exact .told g b
 | place b d=>exact .place b d
 | drawn f places o n _ e c q=>exact .drawn f places o n _ (k f (by simp) _ e) c q
theorem qW9{Q:Option Value->Shared->Prop}(B:it≠a)(H:it∉ex)(h:SW w it a es ep t ord ex i s.heap){e:Int×Value}(D:ord[i]? = some e)(q:∀h',SW w it a es ep t ord ex (i+1) h'->Heap.SameBut it s.heap h'->Q (some e.2) { s with heap:=h' }):wpAny (model P w) A (pyNext (.ref it)) Q E s:=by
 obtain⟨first,r,⟨o,u,x⟩,g,I,m⟩:=h;obtain⟨oi,f,S,k⟩:=id r;have W:i<es.size:=by rw [<-I];exact (aE.mp D).1
 unfold pyNext;refine aA (wpAny_attempt (cS (name:=Str.ofString "__next__") r.ty slot_si_next (bX slot_si_next r.ty qFg ?_ (qG0 _))));unfold Builtin.«set_iterator.__next__»;refine aA (m:=slotArgs "__next__" 0 _) (aC ?_);refine aA (gN f k ?_);dsimp only;refine aA (gS u x g.fits ?_);rw [if_neg (by simp)];have C:∀(y z:Nat),first = .int y 0->(∀h',Heap.SameBut it s.heap h'->Mode w h' a es ep t (i+1) (.int z 0) ord ex) ->
   wpAny (model P w) A.in1 (do setField (Value.ref it) 0 (rawInt z);setField (Value.ref it) 1 (rawInt ((i:Int)+1));ret e.2) (λJ K => ∃v,J=Fin.done (Flow.ret v)/\wpAny (model P w) A (pure (some v)) Q E K)
    (λe K=>wpAny (model P w) A (do if (<-isInstance e (Value.type "StopIteration"))=true then pure none else throw e) Q E K) s:=by
  intro y z X Y;subst X;refine aA (eY f k (by simp) ?_);obtain⟨T,F,L,G⟩:=uY 0 (rawInt z) f k;refine aA (eY F G (by simp) ?_);obtain⟨Z,e2,c2,d2⟩:=uY 1 (rawInt ((i:Int)+1)) F G;have p:Heap.SameBut it s.heap _:=(bR s.heap it (Obj.mapFields (·.setIfInBounds 0 (rawInt z)))).trans (bR _ it (Obj.mapFields (·.setIfInBounds 1 (rawInt ((i:Int)+1)))));refine aC ⟨_,rfl,aC (q _ ⟨.int z 0,⟨Z,e2,c2.trans (L.trans S),?_⟩,⟨o,(p.2 a (dF B)).trans u,x⟩,g,I,Y _ p⟩ p)⟩;rw [d2];simp [rawInt]
 cases m with
 | told y b =>
  dsimp only;simp only [cE];refine aA (qKj (i:=i) u x g b ?_);rw [show (pickOrder (w.params.setOrder a ep) es)[i]? = some e by rw [<-bE];exact D];exact C y y rfl λh' p =>.told y b
 | place b d =>
  dsimp only;simp only [cE];refine aA (qHt (i:=i) u x g b d (by lia) ?_);rw [show es[i]? = some e by rw [<-bE];exact D];exact C _ _ rfl λh' p =>.place b d
 | drawn M places op n _ U c N =>
  dsimp only;refine aA (wpAny_seqItems U c ?_);dsimp only;have a0:places.length=ord.length:=by have:=congrArg List.length N;simpa using this
  obtain⟨j,V⟩:∃j,places[i]? = some j:=⟨_,aD (by lia)⟩;have O:es[j]? = some e:=by
   have:=congrArg (λl=>l[i]?) N;simp only [aS,V,D,Option.map_some] at this;exact bT this
  have R:(places.map λ(j:Nat)=>rawInt (j:Int)).toArray[((i:Int)).toNat]? = some (.int (j:Int) 0):=by
   rw [cE,eJ,aS,V];rfl
  rw [R];dsimp only;unfold setNextDrawn;refine aA (aA (dZ u x g.fits ?_));dsimp only;rw [if_neg (by simp)];rw [cE,O];dsimp only;refine aC ?_;refine aA (eY f k (by simp) ?_);obtain⟨T,F,L,G⟩:=uY 1 (rawInt ((i:Int)+1)) f k;have p:Heap.SameBut it s.heap _:=bR s.heap it (Obj.mapFields (·.setIfInBounds 1 (rawInt ((i:Int)+1))));refine aC ⟨_,rfl,aC (q _ ⟨.ref M,⟨T,F,L.trans S,?_⟩,⟨o,(p.2 a (dF B)).trans u,x⟩,g,I,.drawn M places op n _ ((p.2 M (by simpa using dF (a:=it) (by simpa using H))).trans U) c N⟩ p)⟩;rw [G];simp [rawInt]
end
section
variable{P:Program}{w:World}{A:Around}{E:Value->Shared->Prop}{s:Shared}{it a:Addr}{es:Array (Int×Value)}{ep:Nat}{t:SetTable}{ord:List (Int×Value)}{ex:List Addr}{i:Nat}
theorem ua{s0:Shared}{Q:Option Value->Shared->Prop}{α : Type}{d : α -> Shared->Prop}(hh:A.in1.handled=none)(c:Heap.ExtBut it s0.heap s.heap)(q:∀h',Heap.ExtBut it s0.heap h'->Q none { s with heap:=h' }):wpAny (model P w) A.in1 (do raiseNew (<-newExc (.type "StopIteration") [])) d (λe f=>wpAny (model P w) A (do if (<-isInstance e (Value.type "StopIteration"))=true then pure none else throw e) Q E f) s:=by
 refine aA ?_;simp only [newExc,newTuple];refine aA (bV ?_ (by size_fits));refine aA (m:=firstArgMember _ _) (wpAny_of_eq (a:=Value.none) (by first | rfl | (simp only [firstArgMember];rfl)) ?_);refine bV ?_ (by size_fits);simp only [raiseNew];refine aA (wpAny_handled ?_);rw [hh];refine aA (aC (wpAny_throw ?_));refine aA (gP (T := "StopIteration") (b:=true) ⟨_,aT _ rfl,rfl⟩ isSubtype_stop ?_);exact aC (q _ ((c.push _).push _))
theorem qWa{Q:Option Value->Shared->Prop}(hh:A.handled=none)(h:SW w it a es ep t ord ex es.size s.heap)(q:∀h',Heap.ExtBut it s.heap h'->Q none { s with heap:=h' }):wpAny (model P w) A (pyNext (.ref it)) Q E s:=by
 obtain⟨first,k,⟨o,p,r⟩,g,C,m⟩:=h;obtain⟨D,e,F,f⟩:=id k;unfold pyNext;refine aA (wpAny_attempt (cS (name:=Str.ofString "__next__") k.ty slot_si_next (bX slot_si_next k.ty qFg ?_ (qG0 _))));unfold Builtin.«set_iterator.__next__»;refine aA (m:=slotArgs "__next__" 0 _) (aC ?_);refine aA (gN e f ?_);dsimp only;refine aA (gS p r g.fits ?_);rw [if_neg (by simp)];have l:A.in1.handled=none:=hh;cases m with
 | told G b =>
  dsimp only;simp only [cE];refine aA (qKj (i:=es.size) p r g b ?_);rw [show (pickOrder (w.params.setOrder a ep) es)[es.size]? = none by rw [<-bE];exact List.getElem?_eq_none (by lia)];dsimp only [Option.map];refine aA (eY e f (by simp) ?_);exact ua (s0:=s) l (bR ..).extBut q
 | place b d =>
  dsimp only;simp only [cE];refine aA (qHt (i:=es.size) p r g b d (aF _) ?_);rw [show es[es.size]? = none from Array.getElem?_eq_none (aF _)];dsimp only [Option.map];refine aA (eY e f (by simp) ?_);exact ua (s0:=s) l (bR ..).extBut q
 | drawn H places op n _ v c x =>
  dsimp only;refine aA (wpAny_seqItems v c ?_);dsimp only;have y:places.length=ord.length:=by have:=congrArg List.length x;simpa using this
  have u:(places.map λ(j:Nat)=>rawInt (j:Int)).toArray[((es.size:Int)).toNat]? = none:=by
   rw [cE,eJ];exact List.getElem?_eq_none (by rw [aB];lia)
  rw [u];dsimp only;refine aA (eY e f (by simp) ?_);obtain⟨I,z,J,B⟩:=uY 0 (rawInt 0) e f;refine aA (eY z B (by simp) ?_);exact ua (s0:=s) l ((bR ..).trans (bR ..)).extBut q
theorem qTs(hh:A.handled=none)(f:it≠a)(j:it∉ex):Walks P w A it (it::a::ex) [it] es.size (λi v=>(ord[i]?).map (·.2)=some v) (SW w it a es ep t ord ex) where
 sub:=λb c=>by simp at c;simp [c]
 frame:=λi h d st k=>by
  obtain⟨first,⟨y,l,z,n⟩,⟨o,B,C⟩,g,u,m⟩:=st;exact⟨first,⟨y,k it (by simp) _ l,z,n⟩,⟨o,k a (by simp) _ B,C⟩,g,u,m.stay λb c o e=>k b (by simp [c]) o e⟩
 item:=λi s Q E G st q=>by
  obtain⟨first,_,_,_,u,_⟩:=id st;obtain⟨e,x⟩:∃e,ord[i]? = some e:=⟨_,aD (by lia)⟩;refine qW9 f j st x λd p D=>q e.2 d s.toks (by rw [x];rfl) p λb o c e=>?_;exact (D.2 b (by simpa using c)).trans e
 done:=λs Q E st q=>qWa hh st λd F=>q d s.toks λb o c e=>F b o (by simpa using c) e
 self:=λi s Q E st q=>by
  obtain⟨first,r,_⟩:=st;exact qWf r q
theorem qSn{o:Obj}{es:Array (Int×Value)}{ep:Nat}{t:SetTable}{Q:Value->Shared->Prop}(D:s.heap.get? a=some o)(J:o.ExactSet)(hd:o.data = .set es ep t)(p:es.size<scanBound)(g:GoodT (!yA w) t es.size)(q:∀(it:Addr) (ord:List (Int×Value)) (ex:List Addr) (h':Heap) (d:Drawn),s.heap.objs.size<=it->it<h'.objs.size->(∀b∈ex,s.heap.objs.size<=b/\b<it)->a<s.heap.objs.size->(∀b u,s.heap.get? b=some u->h'.get? b=some u)->SW w it a es ep t ord ex 0 h'->ord.Perm es.toList->Q (.ref it) { s with heap:=h',drawn:=d }):wpAny (model P w) A (pyIter (.ref a)) Q E s:=by
 have N:s.TypeIs (.ref a) "set" :=⟨o,D,J.1⟩;have V:a<s.heap.objs.size:=aX D;refine wpAny_pyIter_slot N F.slot_set_iter (bX F.slot_set_iter N qHg ?_ (F.args_set_iter_1 _));unfold Builtin.«frozenset.__iter__» Builtin.Frozenset.slot0;refine aA (aA (m:=slotArgs "__iter__" 0 _) (aC ?_));unfold Builtin.Frozenset.addrOf;refine aC ?_;unfold Builtin.Frozenset.sizeOf;refine aA (aA (gS D hd g.fits (aC ?_)));unfold setDrawn;refine aA (aA (dZ D hd g.fits ?_));dsimp only;unfold setsByText;refine aA (aA (cU (aC (aC ?_))));show wpAny _ _ (if (!w.params.followText "set-order" && (!t.plain&&decide (es.size>1)))=true then _ else _) _ _ _
 have f:∀(B:Shared) (first:Value) (ord:List (Int×Value)) (ex:List Addr),(∃h' d,B = { s with heap:=h',drawn:=d })->s.heap.objs.size<=B.heap.objs.size->(∀b u,s.heap.get? b=some u->B.heap.get? b=some u)->(∀b∈ex,s.heap.objs.size<=b/\b<B.heap.objs.size)->ord.length=es.size->ord.Perm es.toList->(∀h',(∀b u,B.heap.get? b=some u->h'.get? b=some u)->Mode w h' a es ep t 0 first ord ex) ->
   wpAny (model P w) A.in1 (do let x <-setEpoch a;let y <-newFields "set_iterator" [first,rawInt 0,Value.ref a,rawInt es.size,rawInt x];ret y) (λf O => ∃v,f=Fin.done (Flow.ret v) /\ ∃R r,O.TypeIs v R/\typeLookup (Value.type R) (Str.ofString "__next__")=pure (some r)/\Q v O) E B:=by
  rintro B first ord ex ⟨h',d,rfl⟩ K k W X c Y
  refine aA (wpAny_setEpoch_of (k _ _ D) hd g.fits ?_);refine aA (bV (aC ⟨_,rfl,"set_iterator",_,⟨_,aT _ rfl,rfl⟩,slot_si_next.lookup,?_⟩));refine q h'.objs.size ord ex _ d K (by rw [dI];exact eS _) W V (λb u e=>aG _ (k b u e)) ⟨first,⟨_,aT _ rfl,rfl,rfl⟩,⟨o,aG _ (k _ _ D),hd⟩,g,X,Y _ λb u e=>aG _ e⟩ c
 cases h:yA w with
 | true =>
  rw [if_neg (by rw [show w.params.followText "set-order" = true from h];simp)];refine aA (aC ?_);have c:=qK9 (w.params.setOrder a ep) es;exact f s (rawInt 0) _ [] ⟨s.heap,s.drawn,rfl⟩ (aF _) (λ_ _ e=>e) (λb p=>by simp at p) (by rw [c.length_eq,aU]) c (λh' k =>.told 0 h)
 | false =>
  cases hd2:(!t.plain&&decide (es.size>1)) with
  | false =>
   rw [if_neg (by simp)];refine aA (aC ?_);exact f s (rawInt 0) _ [] ⟨s.heap,s.drawn,rfl⟩ (aF _) (λ_ _ e=>e) (λb p=>by simp at p) (aU ..) (.refl _) (λh' k =>.place h hd2)
  | true =>
   rw [if_pos (by rw [show w.params.followText "set-order" = false from h];simp)];have S:(List.range es.size).length=es.size:=cO;refine aA ?_;have L:∀ {H:List Nat->Shared->Prop},(∀n d,n.Perm (List.range es.size)->H n { s with drawn:=d })->wpAny (model P w) A.in1 (drawOrder es.size (List.range es.size)) H E s:=λ{H} z=>by
    have T:=ja (P:=P) (w:=w) (A:=A.in1) (E:=E) (List.range es.size) (s:=s) (Q:=H) z;rw [S] at T;exact T
   refine L λn d C=>?_;refine aA ?_;have Z:n.length=es.size:=by rw [C.length_eq,S]
   simp only [newTuple];refine bV ?_ (by have:=gA p;show (List.map (λ(i:Nat)=>rawInt (i:Int)) n).toArray.size<=sizeLine;rw [aR,aB];lia);have G:∀l:List Nat,(∀j∈l,j<es.size)->l.map (λj=>es[j]?)=(l.filterMap λj=>es[j]?).map some:=by
    intro l
    induction l with
    | nil=>intro _;rfl
    | cons j r ih =>
     intro I;have h1:es[j]? = some (es[j]'(I j (by simp))):=bK _;rw [bG,ih λk hk=>I k (by simp [hk]),bW,h1];rfl
   have M:∀j∈n,j<es.size:=λj I=>bF.mp (C.mem_iff.mp I);have U:=G n M;have c:(n.filterMap λj=>es[j]?).Perm es.toList:=(C.filterMap _).trans (by rw [filterMap_getElem?_range])
   exact f _ (.ref s.heap.objs.size) _ [s.heap.objs.size] ⟨_,d,rfl⟩ (by show _<=(Heap.push _ _).objs.size;rw [dI];exact gR _) (λb u e=>aG _ e) (λb p=>by
    have e:b=s.heap.objs.size:=by simpa using p
    rw [e];exact⟨aF _,by show _<(Heap.push _ _).objs.size;rw [dI];exact eS _⟩) (by have:=congrArg List.length U;simp at this;lia) c (λh' k =>.drawn s.heap.objs.size n _ 0 _ (k _ _ (aT _ rfl)) rfl U)
end
theorem qKo:typeLookup (.type "set") "__len__" = pure (some (.builtin "set.__len__")):=F.slot_set_len.lookup
section
variable{P:Program}{w:World}{A:Around}{E:Value->Shared->Prop}{s:Shared}{a:Addr}
theorem qLa{o:Obj}{es:Array (Int×Value)}{ep:Nat}{t:SetTable}{Q:List Value->Shared->Prop}(hh:A.handled=none)(x:s.heap.get? a=some o)(j:o.ExactSet)(hd:o.data = .set es ep t)(m:es.size<scanBound)(g:GoodT (!yA w) t es.size)(q:∀(ord:List (Int×Value)) (h':Heap) (d:Drawn) (tk:Nat),(∀b u,s.heap.get? b=some u->h'.get? b=some u)->s.heap.objs.size<=h'.objs.size->ord.Perm es.toList->Q (ord.map (·.2)) { s with heap:=h',drawn:=d,toks:=tk }):wpAny (model P w) A (collect (.ref a)) Q E s:=by
 unfold collect;refine aA (wpAny_runValue (dR F.entry_proto_collect ?_));rw [cW F.plain_proto_collect _];show wpAny _ A.in1 (newList [] >>= λl=>again (.builtin "list.__iadd__" ⟨[l,.ref a],[]⟩)) _ _ s;refine aA (bV ?_);refine aC ⟨fF F.plain_list_iadd _,dR F.entry_list_iadd ?_⟩;rw [cW F.plain_list_iadd _];have Z:∀b u,s.heap.get? b=some u->(s.heap.push { cls :=.type "list",data :=.seq ([]:List Value).toArray }).get? b=some u:=λb u e=>aG _ e;have M:=Z a o x;have hT:Shared.TypeIs { s with heap:=s.heap.push { cls :=.type "list",data :=.seq ([]:List Value).toArray } } (.ref a) "set" :=⟨o,M,j.1⟩
 have n:a<s.heap.objs.size:=aX x;show wpAny _ A.in1 (Builtin.List.listExtendWith (.ref s.heap.objs.size) (.ref a) (.ref s.heap.objs.size)) _ _ _;unfold Builtin.List.listExtendWith;refine aA (fS hT ?_);have h1:Builtin.List.listSameRef (.ref s.heap.objs.size) (.ref a)=false:=by simp [Builtin.List.listSameRef];exact eE n
 have J:(Value.type "set" == Value.type "list")=false:=by decide
 have h3:(Value.type "set" == Value.type "tuple")=false:=by decide
 simp only [h1,J,h3,Bool.or_false,dQ,if_false];refine aA (qSn (s :={ s with heap:=s.heap.push { cls :=.type "list",data :=.seq ([]:List Value).toArray } }) M j hd m g λit ord ex h' d f a0 hx ha k sw N=>?_);refine aA (bM ?_);have p:Shared.TypeIs { s with heap:=h',drawn:=d } (.ref a) "set" :=⟨o,k _ _ M,j.1⟩;unfold Builtin.List.listLengthHint;refine aA (wpAny_specialOf p qKo ?_);have O:splitId "set.__len__" = some ("set","__len__"):=by kernel_rfl
 dsimp only;rw [O];dsimp only;refine aA (gP p sub_set_self ?_);rw [if_neg (by simp)];rw [if_pos (by decide +kernel)];refine aA (fS p (aC ?_));rw [if_pos (by decide +kernel)];refine aA (cV ?_);have y:h'.get? s.heap.objs.size=some { cls :=.type "list",data :=.seq ([]:List Value).toArray }:=k _ _ (aT _ rfl);refine aA ?_;show wpAny _ A.in1 (updateSeq s.heap.objs.size (·.push .none) >>= λ_=>updateSeq s.heap.objs.size (·.pop)) _ _ _;refine aA (wpAny_updateSeq (s :={ s with heap:=h',drawn:=d }) y rfl ?_);have B:=bZ (Obj.mapSeq (·.push Value.none)) y rfl;refine wpAny_updateSeq B rfl ?_
 have R:=bZ (Obj.mapSeq (·.pop)) B rfl;have C:∀b u,b≠s.heap.objs.size->h'.get? b=some u->((h'.update s.heap.objs.size (Obj.mapSeq (·.push Value.none))).update s.heap.objs.size (Obj.mapSeq (·.pop))).get? b=some u :=
  λb u m e=>(cY _ _ (dF m)).trans ((cY _ _ (dF m)).trans e)
 rw [dI] at f ha;have S:it≠a:=eE (bP n (bL (gR _) f));have T:it∉ex:=λz=>fT _ (hx it z).2;have D:s.heap.objs.size∉it::a::ex:=λz=>by
  rcases aV.mp z with z | z
  ·exact bD f z
  ·rcases aV.mp z with z | z
   ·exact eE n z
   ·have K:=(hx _ z).1;rw [show (Heap.push s.heap { cls :=.type "list",data :=.seq ([]:List Value).toArray }).objs.size=s.heap.objs.size+1 from dI ..] at K;exact Nat.not_succ_le_self _ K
 have U:ord.length=es.size:=by obtain⟨_,_,_,_,U,_⟩:=sw;exact U
 have V:es.size<=sizeLine:=gA m;have W:=(qTs (P:=P) (w:=w) (A:=A.in1) (it:=it) (a:=a) (es:=es) (ep:=ep) (t:=t) (ord:=ord) (ex:=ex) hh S T).toS
 refine aC ⟨fF F.plain_extend_loop _,codeAny_extend_loopS W V _ D _ es.size 0 _ _ _ rfl (bB _)
  (W.frame 0 ({ s with heap:=h',drawn:=d }:Shared) _ s.toks sw (aF _) λb m u e=>C b u (λz=>D (z▸m)) e) R (ItemsOf.nil _) λs' c c' L G h=>?_⟩
 show wpAny _ A (load s.heap.objs.size >>= _) _ _ s';refine aA (wpAny_load G ?_);refine aC ?_;obtain⟨J,g2,d2,X,Y⟩:=s';have e1:g2=s.gens:=L.gens;have e2:d2=d:=L.drawn;have e3:Y=s.os:=L.os;subst e1;subst e2;subst e3;have k2:∀b u,s.heap.get? b=some u->J.get? b=some u:=λb u e=>by
  have r:=aX e
  exact L.heap b u (λz=>by
   rcases aV.mp z with z | z
   ·exact bD r z
   ·have K:b=it:=by simpa using z
    exact bD (Nat.lt_trans r f) K) (C b u (bD r) (k b u (Z b u e)))
 have H:∀(i:Nat) (v:Value),c.toList[i]? = some v->(ord[i]?).map (·.2)=some v:=λi v e=>h.2 i v (by rw [<-bE];exact e);have I:c.toList.length=ord.length:=by rw [aU,h.1,U]
 have e:c.toList=ord.map (·.2):=by
  refine List.ext_getElem? λi=>?_;rw [aS];cases z:c.toList[i]? with
  | some v=>exact (H i v z).symm
  | none=>rw [List.getElem?_eq_none (by rw [<-I];exact List.getElem?_eq_none_iff.mp z)];rfl
 show Q c.toList _;rw [e];exact q ord J d2 X k2 (dH (aX G)) N
theorem qL9{ns:List Int}{Q:List Value->Shared->Prop}(hh:A.handled=none)(S:SetI w s.heap a ns)(q:∀(vs:List Value) (ms:List Int) (h':Heap) (d:Drawn) (tk:Nat),(∀b u,s.heap.get? b=some u->h'.get? b=some u)->s.heap.objs.size<=h'.objs.size->IntsAre vs ms->ms.Perm ns->Q vs { s with heap:=h',drawn:=d,toks:=tk }):wpAny (model P w) A (collect (.ref a)) Q E s:=by
 obtain⟨o,C,D,t,p,i,v,j,x,F,y,g⟩:=S;refine qLa hh p i v y g λf h' d tk k l c=>q _ _ h' d tk k l ?_ ((c.map keyI).trans x);have h:∀e∈f,EI e:=λe z=>j e (c.mem_iff.mp z);clear c
 induction f with
 | nil=>exact .nil
 | cons e r B =>
  obtain⟨n,tk,rfl⟩:=h e (by simp);exact .cons n tk (B λe m=>h e (by simp [m]))
end
theorem qHk{h:Heap}{D:Addr}{vs:List Value}{out:Array Value}{n:Nat}(d:h.get? D=some (seqObj "list" vs.toArray n)):(∃c,(sortedHeap h D vs out).get? D=some { cls :=.type "list",data :=.seq out c })/\(∀b u,b≠D->h.get? b=some u->(sortedHeap h D vs out).get? b=some u)/\h.objs.size<=(sortedHeap h D vs out).objs.size:=by
 unfold sortedHeap;have f:=get?_update_seq d (λ_ => #[]);have g:=aG (seqObj "tuple" vs.toArray 0) f;have i:=aG (seqObj "list" #[] 0) g;have j:=get?_update_seq i (λ_=>out);refine⟨⟨_,j⟩,λb u a e=>?_,?_⟩
 ·exact (cY _ _ (dF a)).trans (aG _ (aG _ ((cY _ _ (dF a)).trans e)))
 ·rw [Heap.size_update,dI,dI,Heap.size_update];lia
section
variable{P:Program}{w:World}{A:Around}{E:Value->Shared->Prop}{s:Shared}{a:Addr}
theorem qLn{ns:List Int}{Q:Value->Shared->Prop}(hh:A.handled=none)(S:SetI w s.heap a ns)(j:ns.length<64)
  (q:∀(D:Addr) (out:Array Value) (c:Nat) (f:List Int) (h':Heap) (d:Drawn) (tk:Nat),s.heap.objs.size<=D->h'.get? D=some { cls :=.type "list",data :=.seq out c }->(∀b u,s.heap.get? b=some u->h'.get? b=some u)->IntsAre out.toList f->f.Perm ns->f.Pairwise (· <= ·)->Q (.ref D) { s with heap:=h',drawn:=d,toks:=tk }) :
  wpAny (model P w) A (call (.builtin "sorted") [.ref a]) Q E s:=by
 refine Calls.call_function_entry kind_sorted plain_sorted entry_sorted (args_sorted1 _) ?_;unfold Builtin.«sorted»;refine aA (m:=checkCount "sorted" 1 1 _) (aC ?_);refine aA (qL9 (A:=A.in1) hh S λi y h' d tk k l o h=>?_);have n:i.length<64:=by rw [IntsAre.length o,h.length_eq];exact j
 refine aA (wpAny_newList ?_ (by rw [dX];lia));have g:(h'.push (seqObj "list" i.toArray 0)).get? h'.objs.size=some (seqObj "list" i.toArray 0):=aT _ rfl;refine aA (bM (bX slot_list_sort (s :={ s with heap:=h'.push (seqObj "list" i.toArray 0),drawn:=d,toks:=tk }) ⟨_,g,rfl⟩ entry_list_sort (list_sort_tree g o n λout f p r t=>⟨_,rfl,?_⟩) (args_list_sort _)));obtain⟨⟨c,v⟩,x,_⟩:=qHk (out:=out) g;exact aC ⟨_,rfl,q h'.objs.size out c f _ d tk l v (λb u e=>x b u (bD (aX (k b u e))) (aG _ (k b u e))) p (r.trans h) t⟩
end
theorem Inv.drew{X:Cx}{a:List (Addr×Obj)}{σ : St}{H:Hp}{s:Shared}{d:Drawn}(I:Inv X a σ H s):Inv X a σ H { s with drawn:=d }:=⟨I.ok,I.os,I.bare,I.base,I.loc,I.cell,I.free,I.freeC,I.pin,I.hok,I.len⟩
def setO(w:World)(ns:List Int):HO :=.ext λa h=>SetI w h a ns
section
variable{X:Cx}
theorem uc{w:World}{P:Program}{b:World}{H:Hp}{h:Heap}{a:Addr}{ns:List Int}(S:SetI w h a ns):ObjOk P b H h a (setO w ns):=by
 refine⟨S,?_,λd f c k=>c.stay k⟩;obtain⟨o,_,_,_,e,_⟩:=S;exact⟨o,e⟩
theorem Inv.setI{b:List (Addr×Obj)}{σ : St}{H:Hp}{s:Shared}{w:World}{a:Addr}{ns:List Int}(I:Inv X b σ H s)(e:H a=some (setO w ns)):SetI w s.heap a ns:=(I.hok a _ e).1
def qYf(w:World):List V->Hp->VK->Prop:=λxs H Q => ∃(a:Addr) (ns:List Int),xs = [.ref a]/\H a=some (setO w ns)/\ns.length<64 /\ ∀(l:Addr) (ns':List Int),H l=none->ns'.Perm ns->ns'.Pairwise (· <= ·)->Q (.ref l) (upd H l (.lst (ns'.map V.int)))
theorem wJ(hh:X.A.handled=none):CallR X (.builtin "sorted") (qYf X.w):=by
 intro i s σ H y z Q I r h;obtain⟨a,B,rfl,m,n,q⟩:=h;obtain⟨u,rfl,p⟩:=vals1 r;cases p;refine qLn hh (I.setI m) n λD e c b C d tk j f k t l v=>?_;have x:H D=none:=I.hok.fresh j;have g:Vals (b.map V.int) e.toList:=uM t;refine⟨.ref D,_,(I.laid (t':=tk) (o :=.lst (b.map V.int)) k j ⟨?_,e.toList,c,g,by simpa using f⟩).drew,rfl,q _ b x l v⟩;rw [aB,l.length_eq,dX];lia
end
def newS(w:World):Obj :={ cls :=.type "set",dict:=none,data :=.set #[] 0 (.fresh 0 0 (!yA w)) }
theorem qS5{w:World}{h:Heap}{a:Addr}(e:h.get? a=some (newS w)):SetI w h a []:=⟨_,#[],0,_,e,⟨rfl,rfl,rfl⟩,rfl,λe b=>by simp at b,.refl _,.nil,by decide,⟨rfl,.nil,rfl⟩⟩
section
variable{P:Program}{w:World}{A:Around}{E:Value->Shared->Prop}{s:Shared}{a:Addr}
theorem qKk{Q:Value->Shared->Prop}(q:Q (.ref s.heap.objs.size) { s with heap:=s.heap.push (newS w) }):wpAny (model P w) A (newSet (.type "set")) Q E s:=by
 unfold newSet setsByText;refine aA (aA (cU (aC ?_)));dsimp only;simp only [newObj];exact aA (wpAny_alloc (aC q))
theorem qTd{ns:List Int}{n:Int}{tk:Tok}{Q:Value->Shared->Prop}(S:SetI w s.heap a ns)(b:ns.length+1<scanBound)
  (q:∀h',Heap.SameBut a s.heap h'->SetI w h' a (addN ns n)->Q .none { s with heap:=h',toks:=s.toks+1 }):wpAny (model P w) A (call (.builtin "set.add") [.ref a,.int n tk]) Q E s:=by
 obtain⟨o,_,_,_,d,c,_⟩:=id S;refine bX F.slot_set_add ⟨o,d,c.1⟩ F.entry_set_add ?_ (F.args_set_add_2 _ _);unfold Builtin.«set.add» Builtin.Frozenset.oneOther;simp only [List.isEmpty_nil,bind_assoc];unfold Builtin.Frozenset.addrOf;refine aA (aC ?_)
 try dsimp only
 refine aA (aC ?_)
 try dsimp only
 refine aA (addI S b λh' e f=>?_);show wpAny _ _ (ret Value.none) _ _ _;exact aC ⟨_,rfl,q h' e f⟩
end
section
variable{X:Cx}{elt tg iter tg2 iter2:Expr}{ifs ifs2:List Expr}{scope:Scope}{own:List Str}{cap:List Nat}{wi wi2:TI}{g g2:TG}{tts tts2:List TT}{te:TE}{pos:Pos}
theorem qXu:wY X (newSet (.type "set")) (setO X.w []):=by
 intro a s σ H E Q I h;refine qKk (h _ _ (aF _) I.fresh (I.laid (t':=s.toks) (λb u e=>aG _ e) (aF _) (uc (qS5 (aT _ rfl)))) λb u e=>aG _ e)
def eAdd(w:World)(te:TE)(l:Addr):TB:=λσ H Q=>te σ H λv H1 => ∃ns n,v = .int n/\H1 l=some (setO w ns)/\ns.length+1<4096/\Q σ (upd H1 l (setO w (addN ns n)))
def jc(elt:Expr)(acc:Value)(env:Env):Sem Unit:=do let v <-eval elt env;standAt elt.pos;let _ <-call (.builtin "set.add") [acc,v]
theorem qYw{l:Addr}(w:World)(hw:X.w=w)(f:PE X elt te):PB X (jc elt (.ref l) X.env) (eAdd w te l):=by
 subst hw;intro a s σ H Q I h;refine aA (thn (f a s σ H _ I h) λv g hq_=>?_);obtain⟨x,m,b,i,p,n,e,c,j,q⟩:=hq_;subst e;obtain⟨tk,rfl⟩:=i;refine aA (dP (aA (qTd (b.setI c) j λr k d=>aC ⟨σ,_,?_,q⟩)));refine xG (t':=g.toks+1) b (by rw [c];exact True.intro) k ?_ (uc d);obtain⟨o,_,_,_,e,_⟩:=d;exact⟨o,e⟩
theorem qJl{gens:List Comprehension}{acc:Value}{d:Nat}(hd:gens[d]? = some ⟨tg,iter,ifs,0⟩)(it:Value)(R:Result->Shared->Prop)(s:Shared)(e:codeAny (model X.prog X.w) X.A (.compLoop (.SetComp elt gens scope pos) d it acc X.env) R s)(h:wpAny (model X.prog X.w) X.A (pyIter it) (λa b=>codeAny (model X.prog X.w) X.A (.compLoop (.SetComp elt gens scope pos) d a acc X.env) R b) (λ_ _=>False) s):codeAny (model X.prog X.w) X.A (.compStart (.SetComp elt gens scope pos) d it acc X.env) R s:=by
 refine codeAny_of_tree ?_;show wpAny _ X.A ((compStart (.SetComp elt gens scope pos) d it acc X.env).onRaise (λx=>do noteFrame x X.env;standAt theWindowsPlace)) _ _ s;refine wpAny_notedAt ?_;unfold compStart;have f:(clausesOf (.SetComp elt gens scope pos))[d]? = some ⟨tg,iter,ifs,0⟩:=hd;rw [f];show wpAny _ _ (ask >>= _) _ _ s;refine aA (cU (wpAny_ite ?_));have c:wpAny (model X.prog X.w) X.A (pyIter it) (λa b=>codeAny (model X.prog X.w) X.A (.compLoop (.SetComp elt gens scope pos) d a acc X.env) R b) (notedBy (model X.prog X.w) X.A X.env λx b=>R (.error x) b) s:=eM h (λ_ _ z=>z) λ_ _ z=>z.elim;split
 ·first | exact aA (aC (aC (And.intro rfl e))) | exact aC (And.intro rfl e)
 ·first | exact aA (cV (aA (dP (aA (eM c (λa b c=>aC (And.intro rfl c)) λ_ _ x=>x))))) | (refine aA (cV ?_);show wpAny _ _ (standAt iter.pos >>= _) _ _ s;exact aA (dP (aA (eM c (λa b c=>aC (And.intro rfl c)) λ_ _ x=>x))))
theorem qLc{acc:Value}:ClauseAt X (.SetComp elt [⟨tg,iter,ifs,0⟩,⟨tg2,iter2,ifs2,0⟩] scope pos) 0 acc tg iter ifs (wB (.SetComp elt [⟨tg,iter,ifs,0⟩,⟨tg2,iter2,ifs2,0⟩] scope pos) iter2 1 acc X.env) where
 quiet:=λ_=>rfl
 under:=λ_=>rfl
 den:=λ_=>rfl
 turn:=λa=>by
  have e:compTurn (.SetComp elt [⟨tg,iter,ifs,0⟩,⟨tg2,iter2,ifs2,0⟩] scope pos) 0 a acc X.env=(do
   standAt iter.pos
   match <-pyNext a with
   | none=>pure (.done .next)
   | some v =>
    letOwnedTupleGo tg a v
    assign tg X.env v
    let ok <-wA ifs X.env true
    if ok then
     let x <-eval iter2 X.env
     standAt iter2.pos
     let x <-foldedSetIterable iter2 X.env x
     let _ <-runOwn (.compStart (.SetComp elt [⟨tg,iter,ifs,0⟩,⟨tg2,iter2,ifs2,0⟩] scope pos) 1 (<-holding [x] (pyIter x)) acc X.env) X.env
    again (.compLoop (.SetComp elt [⟨tg,iter,ifs,0⟩,⟨tg2,iter2,ifs2,0⟩] scope pos) 0 a acc X.env)):=rfl
  rw [e];unfold wB;simp only [bind_assoc,pure_bind]
  first | done | rfl | (congr 1;funext _;congr 1;funext r;cases r <;> rfl)
 start:=λa R s=>qJl rfl a R s
theorem qLb{acc:Value}:ClauseAt X (.SetComp elt [⟨tg,iter,ifs,0⟩,⟨tg2,iter2,ifs2,0⟩] scope pos) 1 acc tg2 iter2 ifs2 (jc elt acc X.env) where
 quiet:=λ_=>rfl
 under:=λ_=>rfl
 den:=λ_=>rfl
 turn:=λ_=>by first | rfl | (unfold jc;simp only [bind_assoc,pure_bind];rfl)
 start:=λa R s=>qJl rfl a R s
theorem qYt(own:List Str)(cap:List Nat)(w:World)(hw:X.w=w)(i:X.calm=true)(S:CompScope X own cap scope)(hi:PI X tg iter wi)(j:∀a s H ex,PG (zT X own cap scope a s H ex) tg g)(k:∀a s H ex,PTs (zT X own cap scope a s H ex) ifs tts)(c:∀a s H ex,PI (zT X own cap scope a s H ex) tg2 iter2 wi2)(d:∀a s H ex,PG (zT X own cap scope a s H ex) tg2 g2)(e:∀a s H ex,PTs (zT X own cap scope a s H ex) ifs2 tts2)(m:∀a s H ex,PE (zT X own cap scope a s H ex) elt te)(n:∀x,foldedSetIterable iter X.env x=pure x:=by intro _;rfl)(f:∀a s H ex x,foldedSetIterable iter2 (zT X own cap scope a s H ex).env x=pure x:=by intros;rfl):PE X (.SetComp elt [⟨tg,iter,ifs,0⟩,⟨tg2,iter2,ifs2,0⟩] scope pos) (tComp own cap (setO w []) wi g tts λl=>bNext wi2 g2 tts2 (eAdd w te l)):=by
 subst hw;intro b s σ H Q I h;exact kW (behOf:=wB (.SetComp elt [⟨tg,iter,ifs,0⟩,⟨tg2,iter2,ifs2,0⟩] scope pos) iter2 1) i S rfl hi qXu (λ_ _ _ _ _=>qLc) j k (λa s H ex l=>QU rfl i qLb (c a s H ex) (d a s H ex) (e a s H ex) (qYw X.w rfl (m a s H ex)) (f a s H ex)) n b s σ H Q I h
end
def zf(ms:List Int):List Int:=ms.foldl addN []
theorem qMr(ms:List Int)(n:Int):zf (ms ++ [n])=addN (zf ms) n:=by unfold zf;rw [List.foldl_append];rfl
theorem qHf:∀(ms ns:List Int),(ms.foldl addN ns).length<=ns.length+ms.length
 | [],ns=>aF _
 | m::r,ns=>by
  have a:=qHf r (addN ns m);have b:=qOd (ns:=ns) (n:=m);rw [List.foldl_cons,bY];lia
theorem xo(ms:List Int):(zf ms).length<=ms.length:=by have h:=qHf ms [];rw [List.length_nil,Nat.zero_add] at h;exact h
theorem qGv{m:Int}:∀(ms ns:List Int),m∈ms.foldl addN ns↔m∈ns\/m∈ms
 | [],ns=>by simp
 | k::r,ns=>by rw [List.foldl_cons,qGv r,jZ,aV,or_assoc]
theorem yt{m:Int}(ms:List Int):m∈zf ms↔m∈ms:=by unfold zf;rw [qGv];simp
theorem qFj:∀(ms ns:List Int),ns.Nodup->(ms.foldl addN ns).Nodup
 | [],ns,h=>h
 | k::r,ns,h=>qFj r _ (xn h)
theorem ud(ms:List Int):(zf ms).Nodup:=qFj ms [] .nil
section
variable{P:Program}{w:World}{A:Around}{R:Result->Shared->Prop}{I:Addr}{fp wr:List Addr}{G:Array GenState->Array GenState->Prop}{n:Nat}{T:Nat->Value->Prop}{St:Nat->Shared->Prop}
theorem qSy(W:WalksS P w A.in1 I fp wr G n T St)(S:Addr)(g:S∉fp)(ms:List Int)(z:ms.length=n)(j:∀i v,T i v -> ∃t,v = .int (ms.getD i 0) t)(f:n+1<scanBound):∀(k i:Nat) (s:Shared),n - i=k->i<=n->St i s->SetI w s.heap S (zf (ms.take i))->(∀a,Moved (S::wr) G s a->SetI w a.heap S (zf ms)->R (.ok (.ret .none)) a) ->
   codeAny (model P w) A (.builtin "set.update.loop" ⟨[.ref S,.ref I],[]⟩) R s:=by
 have l:S∉wr:=λh=>g (W.sub _ h);have c:∀b∈wr,b∈S::wr:=λb f=>aP _ f;intro k
 induction k with
 | zero =>
  intro i s K L d y B;have C:i=n:=by lia
  subst C;refine dR F.entry_set_update_loop ?_;rw [cW F.plain_set_update_loop _];show wpAny _ A.in1 (pyNext (.ref I) >>= _) _ _ s;refine aA (W.done s _ _ d λa m=>?_);show wpAny _ A.in1 (ret Value.none) _ _ a;rw [<-z,aY] at y;exact aC (B a (m.mono c) (y.stay λo e=>m.heap S _ l e))
 | succ k M =>
  intro i s K L d y B;have p:i<n:=by lia
  refine dR F.entry_set_update_loop ?_;rw [cW F.plain_set_update_loop _];show wpAny _ A.in1 (pyNext (.ref I) >>= _) _ _ s;refine aA (W.item i s _ _ p d λv a N q m=>?_);obtain⟨t,rfl⟩:=j i v N;have D:SetI w a.heap S (zf (ms.take i)):=y.stay λo e=>m.heap S _ l e;show wpAny _ A.in1 (holding [Value.int (ms.getD i 0) t] (setAdd S (.int (ms.getD i 0) t)) >>= _) _ _ a;have r:=xo (ms.take i);rw [aN] at r;refine aA (bM (addI D (by lia) λU H J=>?_));have O:ms.take (i+1)=ms.take i ++ [ms.getD i 0]:=by
   have Q:ms[i]? = some (ms.getD i 0):=by
    have:i<ms.length:=by lia
    rw [cJ,aD this];rfl
   rw [fN,Q];rfl
  rw [<-qMr,<-O] at J;refine aC ⟨fF F.plain_set_update_loop _,M (i+1) _ (by lia) p (W.frame _ a _ _ q (gR _) λb f o e=>?_) J λE u x=>?_⟩
  ·rw [H.2 b (λh:b=S=>g (by rw [<-h];exact f))];exact e
  ·refine B E (Moved.trans W.gtrans ((m.mono c).then_heap (gR _) λb o f e=>?_) u) x;rw [H.2 b (λh:b=S=>f (by rw [h];exact aQ))];exact e
end
section
variable{P:Program}{w:World}{A:Around}{E:Value->Shared->Prop}{s:Shared}
theorem qOl(a:Value){Q₁ : Value->Shared->Prop}(h:Q₁ (.ref s.heap.objs.size) { s with heap:=s.heap.push (newS w) }):codeAny (model P w) A (.call (.builtin "set.__new__") ⟨[.type "set",a],[]⟩) (wants Q₁ E) s:=by
 refine codeAny_of_tree ?_;show wpAny _ A.in1 (do checkBuiltinCall "set.__new__" ⟨[.type "set",a],[]⟩;again (.builtin "set.__new__" ⟨[.type "set",a],[]⟩)) _ _ s;refine aA (wpAny_of_eq (F.newCall_set_1 a) (aC ⟨fF F.plain_set_new _,dR F.entry_set_new ?_⟩));rw [cW F.plain_set_new _];unfold Builtin.«set.__new__» Builtin.Frozenset.newClass;have b:=sub_set_self;obtain⟨c,g,d,tk,os⟩:=s;dsimp only
 wp_walk
 refine cU (aC ?_);dsimp only;simp only [newObj];exact aA (wpAny_alloc (aC (aC h)))
theorem qLp{l:Addr}{items:Array Value}{ns:List Int}{Q:Value->Shared->Prop}(hh:A.handled=none)(hl:s.heap.IsList l items)(hi:IntsAre items.toList ns)(G:items.size+1<scanBound)(h:∀(h':Heap) (tk:Nat),SetI w h' s.heap.objs.size (zf ns)->(∀b o,b<s.heap.objs.size->s.heap.get? b=some o->h'.get? b=some o)->Q (.ref s.heap.objs.size) { s with heap:=h',toks:=tk }):wpAny (model P w) A (call (.type "set") [.ref l]) Q E s:=by
 obtain⟨c,tl,U⟩:=fX.mro;have I:=fX.made;have V:=fX.sub;refine wpAny_call (codeAny_of_tree ?_);show wpAny _ _ (callAny (.type "set") _) _ _ _;refine aC ⟨Code.quiet_builtin _ (by decide +kernel),dR F.entry_type_call ?_⟩;rw [Around.under_plain (weight_type_call_type "set" [.ref l] []) rfl];have h1:=fX.notType;have h2:=fX.canCreate;have a1:=F.typeCall_set_1 (.ref l)
 repeat (any_goals (first | assumption | wp_step))
 refine gX (qOl (.ref l) (E:=E) (Q₁ :=λn f =>n = .ref s.heap.objs.size/\f = { s with heap:=s.heap.push (newS w) }) ⟨rfl,rfl⟩) λr f J=>?_;cases r with
 | error e=>exact J
 | ok fl =>
  cases fl with
  | ret n =>
   obtain⟨rfl,rfl⟩:=J;have W:(s.heap.push (newS w)).get? s.heap.objs.size=some (newS w):=aT _ rfl;have hT:Shared.TypeIs { s with heap:=s.heap.push (newS w) } (.ref s.heap.objs.size) "set" :=⟨_,W,rfl⟩;have a2:=fX.init.lookup;have a3:=fX.init.bind (.ref s.heap.objs.size)
   repeat (any_goals (first | assumption | wp_step))
   refine gX (codeAny_call_builtin (R:=wants (λr g =>r = .none /\ ∃h' tk,g = { s with heap:=h',toks:=tk }/\SetI w h' s.heap.objs.size (zf ns)/\(∀b o,b<s.heap.objs.size->s.heap.get? b=some o->h'.get? b=some o)) E) fX.init.plain F.entry_set_init (check_set_init_1 hT ?_)) λp g a=>?_
   ·obtain⟨ol,q,t,X,u⟩:=hl;obtain⟨Y,j,K,d⟩:=ol;simp only at t u;subst t;subst u;have x:(s.heap.push (newS w)).get? l=some { cls :=.type "list",dict:=j,data :=.seq items X,slots:=d }:=aG _ q;have Z:=F.sub_list_set;have a0:=F.sub_list_frozenset;have a4:(Value.type "list" == Value.type "dict")=false:=by decide
    have y:(s.heap.push (newS w)).IsList l items:=⟨_,x,rfl,X,rfl⟩;unfold Builtin.«set.__init__» noKeywords Builtin.Frozenset.updateFrom;generalize L:pyIter=PI
    wp_walk
    subst L;refine fL y (aA (wpAny_runValue ?_));have B:l<s.heap.objs.size:=aX q;have M:A.in1.in1.in1.handled=none:=hh;have C:l≠(s.heap.push (newS w)).objs.size:=by rw [dI];exact bD (Nat.lt_succ_of_lt B)
    have N:s.heap.objs.size ∉ [(s.heap.push (newS w)).objs.size,l]:=by
     rw [dI];simp only [aV,aH,List.not_mem_nil,or_false,not_or];exact⟨bD (eS _),eE B⟩
    have D:ns.length=items.size:=by rw [<-IntsAre.length hi,aU]
    refine qSy ((Walks.list M _ l C items).toS) s.heap.objs.size N ns D (λi v hv=>IntsAre.int_at hi i v (by rw [bE];exact hv)) G (items.size - 0) 0 _ (by lia) (bB _) ⟨⟨_,aT _ rfl,rfl,rfl⟩,(y.push _)⟩ (qS5 (aG _ W)) ?_;intro s' H k;obtain⟨h',g',d',O,S⟩:=s';have eg:g'=s.gens:=H.gens;have ed:d'=s.drawn:=H.drawn;have eo:S=s.os:=H.os;subst eg;subst ed;subst eo;show wpAny _ _ _ _ _ _;refine aC ?_;show wpAny _ _ (ret Value.none) _ _ _;refine aC ⟨rfl,h',O,rfl,k,λb o G e=>?_⟩;refine H.heap b o (λz=>?_) (aG _ (aG _ e));rcases aV.mp z with z | z
    ·exact bD G z
    ·have z2:b=(s.heap.push (newS w)).objs.size:=by simpa using z
     rw [dI] at z2;exact bD (Nat.lt_succ_of_lt G) z2
   ·cases p with
    | error e=>exact a
    | ok m =>cases m with
     | ret r=>obtain⟨rfl,h',tk,rfl,k,T⟩:=a;(repeat (any_goals (first | assumption | wp_step)));exact h _ _ k T
     | _=>exact a.elim
  | _=>exact J.elim
end
section
variable{X:Cx}
def qYi(w:World)(K:PySem.W.Frag):List V->Hp->VK->Prop:=λxs H Q => ∃(a:Addr) (ns:List Int),xs = [.ref a]/\SqL K H a (ns.map V.int)/\ns.length+1<4096 /\ ∀l,H l=none->Q (.ref l) (upd H l (setO w (zf ns)))
theorem wK(hh:X.A.handled=none):CallR X (.type "set") (qYi X.w X.K):=by
 intro d s σ H n o Q I r h;obtain⟨a,p,rfl,g,t,q⟩:=h;obtain⟨u,rfl,i⟩:=vals1 r;cases i;obtain⟨c,f,j,_⟩:=I.list g;have l:=f.length;rw [aB] at l;refine qLp hh j.isList (kL f) (by rw [aR];show c.length+1<4096;lia) λv tk m k=>?_;exact⟨.ref s.heap.objs.size,_,I.laid (t':=tk) (λb u e=>k b u (aX e) e) (aF _) (uc m),rfl,q _ (I.hok.fresh (aF _))⟩
end
section
variable{K:PySem.W.Frag}{a:Addr}{xs:List V}{g:TG}{tt:TT}{B:TB}{σ : St}{H:Hp}{Q:St->Hp->Prop}
theorem qNp(Pv:Nat->St->Hp->Prop)(l:Pv 0 σ H)(h:∀i σ H,i<=xs.length->Pv i σ H->SqT K H a xs)(m:∀i x σ H (R:St->Hp->Prop),xs[i]? = some x->Pv i σ H->(∀ d j,Pv (i+1) d j->R d j)->g x σ H λc o=>tt c o λb k=>if b=true then B c k R else R c k)(hd:∀ σ H,Pv xs.length σ H->Q σ H):LoopT (Itt K a) g tt B σ H Q:=by
 refine wF (n:=xs.length) Pv l (λi σ H f p=>⟨xs,xs[i],h i σ H (dH f) p,by simp [f]⟩) (λσ H p=>⟨xs,h _ σ H (aF _) p,aF _⟩) (λi σ H R f p q x j y=>?_) hd;obtain⟨e,y⟩:=y;subst e;exact m i x σ _ R (y xs (h i σ _ (dH f) p)) p q
end
def wr:Deed->Option Int
 | .set b _=>some b
 | .add b _=>some b
 | _=>none
def yk(w:List Blk):List Int:=w.flatMap λb=>b.ds.filterMap wr
def boxes(w:List Blk):List Int:=((List.range 8).map λ(n:Nat)=>(n:Int)).filter λb=>decide (b∈yk w)
theorem xp:∀ {l1 l2:List Int},l1.Pairwise (· < ·)->l2.Pairwise (· < ·)->(∀p,p∈l1↔p∈l2)->l1=l2
 | [],[],_,_,_=>rfl
 | [],q::l2,_,_,h=>absurd ((h q).mpr (aQ ..)) (by simp)
 | p::l1,[],_,_,h=>absurd ((h p).mp (aQ ..)) (by simp)
 | p::l1,q::l2,b,c,h=>by
  rw [List.pairwise_cons] at b c;have e:p=q:=by
   rcases aV.mp ((h p).mp (aQ ..)) with z | z
   ·exact z
   ·rcases aV.mp ((h q).mpr (aQ ..)) with y | y
    ·exact y.symm
    ·have:=c.1 p z;have:=b.1 q y;lia
  subst e;refine congrArg (p :: ·) (xp b.2 c.2 λx=>⟨λa=>?_,λa=>?_⟩)
  ·rcases aV.mp ((h x).mp (aP _ a)) with z | z
   ·rw [z] at a;have:=b.1 p a;lia
   ·exact z
  ·rcases aV.mp ((h x).mpr (aP _ a)) with z | z
   ·rw [z] at a;have:=c.1 p a;lia
   ·exact z
theorem qMu{works:Int}{d:Deed}{b:Int}(h:wg works d)(e:wr d=some b):0<=b/\b<8:=by
 cases d with
 | set x n=>cases e;exact⟨h.1,h.2.1⟩
 | add x o=>cases e;exact⟨h.1,h.2.1⟩
 | tell x=>cases e
 | call x=>cases e
 | save x=>cases e
 | back x=>cases e
theorem vf{m works:Int}{w:List Blk}(h:WorkOk m works w){b:Int}(a:b∈yk w):0<=b/\b<8:=by
 obtain⟨k,c,a⟩:=cG.mp a;obtain⟨d,f,e⟩:=eO.mp a;exact qMu ((h.blk k c).ds d f) e
theorem yl(w:List Blk):(boxes w).Pairwise (· < ·):=by
 unfold boxes;refine List.Pairwise.filter _ ?_;rw [List.pairwise_map];exact dU.imp λ{a b} h=>by lia
theorem jd{m works:Int}{w:List Blk}(h:WorkOk m works w){b:Int}:b∈boxes w↔b∈yk w:=by
 unfold boxes;rw [bQ,decide_eq_true_eq];refine⟨λz=>z.2,λz=>⟨?_,z⟩⟩;have:=vf h z;exact aW.mpr ⟨b.toNat,bF.mpr (by lia),by lia⟩
theorem qJv{m works:Int}{w:List Blk}{ns c:List Int}(h:WorkOk m works w)(f:∀b,b∈ns↔b∈yk w)(g:ns.Nodup)(e:c.Perm ns)(i:c.Pairwise (· <= ·)):c=boxes w:=by
 refine xp ?_ (yl w) λb=>by rw [e.mem_iff,f,jd h]
 have d:c.Pairwise (· ≠ ·):=e.nodup_iff.mpr g;exact (i.and d).imp λ{a b} z=>by obtain⟨j,k⟩:=z;lia
theorem vg(w:List Blk):(boxes w).length<=8:=by
 unfold boxes;refine bL (bC _ _) (by simp)
def qJs(K:PySem.W.Frag):Sp:=λvs H Q _ => ∃(a:Addr) (w:List Blk) (m works:Int),vs = [.ref a]/\Den K H (workD w) (.ref a)/\WorkOk m works w/\m<=12 /\
 ∀(l:Addr) (H':Hp),H l=none->Ext [] H H'->H' l=some (.lst ((boxes w).map V.int))->Q (.ref l) H'
mutual
def tame:PyData->Bool
 | .int i=>decide (i.natAbs<10^13)
 | .str x=>x.cps.all (· < 0x110000)&&decide (x.cps.size<=10)
 | .list xs=>yP xs
 | .tuple xs=>yP xs
 | .none=>false
 | .bool _=>false
 | .dict _=>false
def yP:List PyData->Bool
 | []=>true
 | x::xs=>tame x&&yP xs
end
mutual
def cells:PyData->Nat
 | .list xs=>wL xs
 | .tuple xs=>wL xs
 | .int _=>0
 | .str _=>0
 | .none=>0
 | .bool _=>0
 | .dict _=>0
def wL:List PyData->Nat
 | []=>0
 | x::xs=>cells x+1+wL xs
end
theorem qVv{n:Nat}(h:n<10^13):n.log2<44:=by
 by_cases a:n=0
 ·subst a;decide
 ·exact (Nat.log2_lt a).mpr (bP h (by decide))
mutual
theorem qJj:∀d:PyData,tame d=true->PyData.showable d=true
 | .int i,h=>by
  have a:i.natAbs<10^13:=by simpa only [tame,decide_eq_true_eq] using h
  have:=qVv a;simp only [PyData.showable,decide_eq_true_eq];lia
 | .str x,_=>rfl
 | .list xs,h=>je xs (by simpa only [tame] using h)
 | .tuple xs,h=>je xs (by simpa only [tame] using h)
theorem je:∀ds:List PyData,yP ds=true->PyData.showableAll ds=true
 | [],_=>rfl
 | x::xs,h=>by
  have a:(tame x&&yP xs)=true:=by simpa only [yP] using h
  rw [aO] at a;simp only [PyData.showableAll,qJj x a.1,je xs a.2,eW]
end
mutual
theorem jf:∀d:PyData,tame d=true->PyData.canLay0 d=true
 | .int i,h=>rfl
 | .str x,h=>by
  have a:(x.cps.all (· < 0x110000)&&decide (x.cps.size<=10))=true:=by simpa only [tame] using h
  rw [aO] at a;simpa only [PyData.canLay0,PyData.strOk] using a.1
 | .list xs,h=>jg xs (by simpa only [tame] using h)
 | .tuple xs,h=>jg xs (by simpa only [tame] using h)
theorem jg:∀ds:List PyData,yP ds=true->PyData.canLayAll0 ds=true
 | [],_=>rfl
 | x::xs,h=>by
  have a:(tame x&&yP xs)=true:=by simpa only [yP] using h
  rw [aO] at a;simp only [PyData.canLayAll0,jf x a.1,jg xs a.2,eW]
end
mutual
theorem qHi:∀d:PyData,tame d=true->PyData.intsShort 14 d=true
 | .int i,h=>by
  have a:i.natAbs<10^13:=by simpa only [tame,decide_eq_true_eq] using h
  have e:=int_text_length_le10 (k:=13) (by decide) a;simp only [PyData.intsShort,decide_eq_true_eq];show (Str.ofString (toString i)).length<=14;rw [PySem.ofString_length];exact e
 | .str x,h=>rfl
 | .list xs,h=>jh xs (by simpa only [tame] using h)
 | .tuple xs,h=>jh xs (by simpa only [tame] using h)
theorem jh:∀ds:List PyData,yP ds=true->PyData.intsShortAll 14 ds=true
 | [],_=>rfl
 | x::xs,h=>by
  have a:(tame x&&yP xs)=true:=by simpa only [yP] using h
  rw [aO] at a;simp only [PyData.intsShortAll,qHi x a.1,jh xs a.2,eW]
end
mutual
theorem qGk:∀d:PyData,tame d=true->PyData.weight d<=46*cells d+45
 | .int i,h=>by
  have a:i.natAbs<10^13:=by simpa only [tame,decide_eq_true_eq] using h
  have:=qVv a;simp only [PyData.weight,cells];split <;> lia
 | .str x,h=>by
  have a:(x.cps.all (· < 0x110000)&&decide (x.cps.size<=10))=true:=by simpa only [tame] using h
  rw [aO,decide_eq_true_eq] at a;simp only [PyData.weight,cells];lia
 | .list xs,h=>by
  have:=ji xs (by simpa only [tame] using h);simp only [PyData.weight,cells];lia
 | .tuple xs,h=>by
  have:=ji xs (by simpa only [tame] using h);simp only [PyData.weight,cells];lia
theorem ji:∀ds:List PyData,yP ds=true->PyData.weightAll ds<=46*wL ds
 | [],_=>aF _
 | x::xs,h=>by
  have a:(tame x&&yP xs)=true:=by simpa only [yP] using h
  rw [aO] at a;have b:=qGk x a.1;have c:=ji xs a.2;simp only [PyData.weightAll,wL];lia
end
theorem ym{d:PyData}(h:tame d=true)(hd:d.depth<=64)(b:∃xs,d = .list xs):SeqAt.shaped d=true:=by
 obtain⟨xs,rfl⟩:=b;have a:=jf _ h;have a:PyData.canLayAll0 xs=true:=by simpa only [PyData.canLay0] using a
 show (PyData.canLayAll0 xs&&decide (PyData.depth (.list xs)<=64))=true;rw [a,decide_eq_true hd];rfl
theorem qGl{α : Type}{f : α -> PyData}:∀ {l:List α},(∀x∈l,tame (f x)=true)->yP (l.map f)=true
 | [],_=>rfl
 | x::r,h=>by
  simp only [bG,yP,h x (aQ ..),qGl λy a=>h y (aP _ a),eW]
theorem qFz{α : Type}{f : α -> PyData}{n:Nat}:∀ {l:List α},(∀x∈l,cells (f x)<=n)->wL (l.map f)<=(n+1)*l.length
 | [],_=>bB _
 | x::r,h=>by
  have b:=h x (aQ ..);have c:=qFz (l:=r) λy a=>h y (aP _ a);simp only [bG,wL,bY,Nat.mul_add];lia
theorem qFy{α : Type}{f : α -> PyData}{n:Nat}:∀ {l:List α},(∀x∈l,(f x).depth<=n)->PyData.depthAll (l.map f)<=n
 | [],_=>bB _
 | x::r,h=>by
  have b:=h x (aQ ..);have c:=qFy (l:=r) λy a=>h y (aP _ a);simp only [bG,PyData.depthAll];lia
theorem yn{ns:List Int}(h:∀n∈ns,-1<=n/\n<=100)(c:ns.length<=1000):tame (intsD ns)=true/\cells (intsD ns)<=5000/\(intsD ns).depth<=64:=by
 have b:=qGl (l:=ns) (f:=PyData.int) λn a=>by
  have:=h n a;simp only [tame,decide_eq_true_eq];lia
 have d:=qFz (l:=ns) (f:=PyData.int) (n:=0) λn a=>aF _;have e:=qFy (l:=ns) (f:=PyData.int) (n:=0) λn a=>aF _;refine⟨?_,?_,?_⟩
 ·simp only [intsD,tame,b]
 ·simp only [intsD,cells];lia
 ·show PyData.depthAll (ns.map .int)+1<=64;lia
section
variable{prog:Program}{w:World}{K:Type} [DecidableEq K] {knd:HeapKind prog w K}{A:Around}{E:Value->Shared->Prop}{s:Shared}{d a:Addr}{k:K}{xs:List (K×Addr×Value)}
theorem qLo{v:Value}{Q:Value->Shared->Prop}(q:knd.room A)(b:knd.is s.heap k a)(u:s.heap.DictOfH knd d xs)(hsz:xs.length<=sizeLine)(z:∀p,atKey xs k=some p->Q p.2 { s with toks:=s.toks+knd.draws k })(B:atKey xs k=none -> ∀m,m.DictOfH knd d (storedH xs k a v)->Heap.SameBut d s.heap m->Q v { s with heap:=m,toks:=s.toks+knd.draws k }):wpAny (model prog w) A (dictSetDefault d (.ref a) v) Q E s:=by
 obtain⟨o,F,C,g,D,f,l,h,n⟩:=u;unfold dictSetDefault
 try with_reducible refine bM ?_
 refine aA (knd.pyHash q b (aA (wpAny_dictFind_heap (s :={ s with toks:=s.toks+knd.draws k }) q b g f l h n ?_ ?_)))
 ·intro c;have i:k∉xs.map (·.1):=not_mem_keys_of_get c;refine aA (cV (aA (wpAny_updateDictKeys (hz:=by have e:=size_of_entries l;lia) (s :={ s with toks:=s.toks+knd.draws k }) g f (aC (B (atKey_none_of_get c) _ ⟨_,_,C+1,bZ _ g (Obj.isFreed_of_dict (gJ f _)),D.mapDictKeys _,gJ f _,?_,?_,?_⟩ (bR ..))))))
  ·rw [storedH_new (atKey_none_of_get c)];simp [l,entryOfKey]
  ·rw [storedH_new (atKey_none_of_get c)];intro x hx;rcases aK.mp hx with hx | hx
   ·exact knd.keeps (h x hx) g f (bR ..)
   ·simp only [aH] at hx;subst hx;exact knd.keeps b g f (bR ..)
  ·rw [storedH_new (atKey_none_of_get c),aJ,cF];refine⟨n,by simp,λx hx y r=>?_⟩;simp only [bG,List.map_nil,aH] at r;subst r;exact λe=>i (e▸hx)
 ·intro j p t;refine aA (gC (s :={ s with toks:=s.toks+knd.draws k }) g f ?_);rw [entry_at l j,t];exact aA (cV (aC (z p (atKey_of_get n t))))
end
section
variable{X:Cx}{o e f:Expr}{td ty tx:TE}{apos cpos:Pos}
def qVb(td ty tx:TE):TE:=λσ H Q=>td σ H λx H1 => ∃a,x = .ref a/\IsD H1 a/\ty σ H1 λy H2=>tx σ H2 λz H3 => ∃kvs k b,y = .ref b/\H3 a=some (.dT kvs)/\H3 b=some (.tup (k.map kV))/\kvs.length<sizeLine /\
 (∀v,valV kvs k=some v->Q v H3)/\(valV kvs k=none->Q z (upd H3 a (.dT (putK kvs k z))))
theorem qUc(U:X.A.units+1<cLine)(V:PE X o td)(W:PE X e ty)(Y:PE X f tx)(m:M2 X o "setdefault" apos e f cpos):PE X (.Call (.Attribute o "setdefault" apos) [e,f] [] cpos) (qVb td ty tx):=by
 intro i s σ H Q I h;refine wpAny_Call_method m.base m.few m.line eV PySem.F.slot_dict_setdefault PySem.F.type_dict_setdefault (thn (V i s σ H _ I h) λu Z hq_=>?_);obtain⟨x,H1,K,rx,a,ex,d,q1⟩:=hq_;subst ex;obtain rfl:u=Value.ref a:=rx;obtain⟨t1,t2,_⟩:=kS K d;refine⟨t1,t2,?_⟩;rw [m.trees];refine fB rfl (gI (fE (thn (W i Z σ H1 _ K q1) λiv s2 hq_=>?_)));obtain⟨y,H2,I2,ry,q2⟩:=hq_;refine fE (thn (Y i s2 σ H2 _ I2 q2) λL B hq_=>?_);obtain⟨z,H3,t,M,g,k,b,ey,C,N,hl,g1,g2⟩:=hq_;refine Calls.spliced_nil ?_;subst ey;cases (show iv=Value.ref b from ry);obtain⟨zz,O,xs,j,P⟩:=QB t.hok C
 have hz:xs.length<=sizeLine:=by rw [<-cZ j];exact zz
 obtain⟨q0,_,_,D,E,R,_⟩:=id P;have n:B.TypeIs (.ref a) "dict" :=⟨q0,D,E.1⟩;refine bX PySem.F.slot_dict_setdefault n PySem.F.entry_dict_setdefault ?_ (PySem.F.args_dict_setdefault_3 _ _ _);unfold Builtin.«dict.setdefault»;refine aA ?_;unfold Builtin.Dict.keyAndDefault;refine aA (eI n ?_);show wpAny _ _ (pure (a,Value.ref b,some L)) _ _ B;refine aC ?_;show wpAny _ _ (if (a == sysModules)=true then _ else (dictSetDefault a (.ref b) L >>= _)) _ _ B;rw [if_neg (by rw [O];exact aL)];refine aA (qLo (knd:=tupleKind (zY X.prog X.w)) (eQ U) (xv t.hok N) P hz (λp hp=>aC ⟨_,rfl,?_⟩) (λhn h' G hs=>aC ⟨_,rfl,?_⟩))
 ·have r:=j.val k;rw [hp] at r;cases l:valV g k with
  | none=>rw [l] at r;exact r.elim
  | some v=>rw [l] at r;exact⟨v,H3,t.tok _,r,g1 v l⟩
 ·have r:=j.val k;rw [hn] at r;have l:valV g k=none:=by
   cases l:valV g k with
   | none=>rfl
   | some v=>rw [l] at r;exact r.elim
  have J:(putK g k z).length<=sizeLine:=by have:=xW g k z;lia
  obtain⟨q,es,ep,S,h2,h3,h4,_,h5⟩:=G;refine⟨z,_,xG (ob :=.dT (putK g k z)) t (by rw [C];exact True.intro) hs ⟨q,S⟩ ⟨J,O,_,(j.put k N M).keeps λc ys T=>?_,q,es,ep,S,h2,h3,h4,h5⟩,M,g2 l⟩;rw [zD (yq T C (λz=>nomatch z))];exact T
end
section
variable{X:Cx}
theorem qQr{bs:List Bool}{f:Nat->Bool}(c:∀i b,bs[i]? = some b->f i=b):(List.range bs.length).any f=bs.any id:=by
 rw [cM,dE,dE];constructor
 ·rintro⟨i,a,h⟩;have a:=bF.mp a;have:=c i bs[i] (aD a);exact⟨bs[i],cL a,by rw [<-this];exact h⟩
 ·rintro⟨b,d,h⟩;obtain⟨i,a,e⟩:=bI d;exact⟨i,bF.mpr a,by rw [c i b (by rw [aD a,e])];exact h⟩
def rAnyB(K:PySem.W.Frag):List V->Hp->VK->Prop:=λxs H Q => ∃(a:Addr) (bs:List Bool),xs = [.ref a]/\SqL K H a (bs.map V.bl)/\Q (.bl (bs.any id)) H
theorem jk(hh:X.A.handled=none):CallR X (.builtin "any") (rAnyB X.K):=by
 intro m s σ H F G Q I r h;obtain⟨a,bs,rfl,w,q⟩:=h;obtain⟨u,rfl,y⟩:=vals1 r;cases y;obtain⟨d,n,z,_⟩:=I.list w;have c:=n.length;rw [aB] at c;have g:=z.isList;have j:a≠s.heap.objs.size:=by obtain⟨o,e,_⟩:=g;exact bD (aX e)
 have f:∀(i:Nat) (v:Value),d.toArray[i]? = some v->v = .bool (bs.getD i false):=λi v e=>by
  rw [eJ] at e;have p:i<bs.length:=by rw [c];exact (aE.mp e).1
  obtain⟨u,t,l⟩:=n.get (i:=i) (x:=V.bl bs[i]) (by rw [aS,aD p];rfl);rw [e] at t;cases t;have l:v=Value.bool bs[i]:=l;rw [l,cJ,aD p];rfl
 refine call_any_walk (fL g ⟨_,_,_,_,_,_,λi=>bs.getD i false,rfl,Walks.list (by exact hh) _ a j d.toArray,⟨⟨_,aT _ rfl,rfl,rfl⟩,g.push _⟩,λi v s Q E B C=>?_,λJ tk k=>?_⟩)
 ·rw [f i v B];exact dJ C
 ·have e:(List.range d.toArray.size).any (λi=>bs.getD i false)=bs.any id:=by
   rw [aR,<-c];exact qQr λi b D=>by rw [cJ,D];rfl
  rw [e];exact⟨.bl (bs.any id),H,I.kept (t':=tk) (λb o e=>k b o (by simpa using bD (aX e)) (aG _ e)),rfl,q⟩
end
abbrev Pl:=Int×Int
def plK(p:Pl):List Key :=[.inl p.1,.inl p.2]
theorem jl{p q:Pl}(h:plK p=plK q):p=q:=by
 obtain⟨a,b⟩:=p;obtain⟨c,d⟩:=q;simp only [plK,List.cons.injEq,Sum.inl.injEq,and_true] at h;rw [h.1,h.2]
def TK(H H':Hp):Prop := ∀b xs,H b=some (.tup xs)->H' b=some (.tup xs)
theorem TK.trans{H d e:Hp}(a:TK H d)(b:TK d e):TK H e:=λc f h=>b c f (a c f h)
theorem Ext.tk{H a:Hp}(e:Ext [] H a):TK H a:=λb c h=>e b _ (by simp) h
theorem TK.put{H:Hp}{t:Addr}{o:HO}(h:∀a,H t≠some (.tup a)):TK H (upd H t o):=λb c e=>by
 have n:b≠t:=λz=>by rw [z] at e;exact h c e
 rw [zD n];exact e
def PlAt(H:Hp)(v:V)(p:Pl):Prop := ∃b,v = .ref b/\H b=some (.tup [.int p.1,.int p.2])
def PlsAt(H:Hp):List V->List Pl->Prop:=Paired (PlAt H)
theorem PlsAt.mono{H a:Hp}(k:TK H a){vs:List V}{ps:List Pl}(h:PlsAt H vs ps):PlsAt a vs ps:=Paired.mapP h λ_ _ ⟨b,e,q⟩=>⟨b,e,k _ _ q⟩
theorem PlsAt.len{H:Hp}{vs:List V}{ps:List Pl}(h:PlsAt H vs ps):vs.length=ps.length:=cZ h
theorem PlsAt.append{H:Hp}{vs ws:List V}{ps qs:List Pl}(h:PlsAt H vs ps)(k:PlsAt H ws qs):PlsAt H (vs++ws) (ps++qs):=by
 induction h with
 | nil=>exact k
 | cons a _ b=>exact .cons a b
theorem PlsAt.one{H:Hp}{b:Addr}{p:Pl}(h:H b=some (.tup [.int p.1,.int p.2])):PlsAt H [.ref b] [p] :=.cons ⟨b,rfl,h⟩ .nil
theorem PlsAt.get{H:Hp}:∀ {vs:List V} {ps:List Pl} {i:Nat} {v:V},PlsAt H vs ps->vs[i]? = some v -> ∃p,ps[i]? = some p/\PlAt H v p
 | _,_,_,_,.nil,e=>by simp at e
 | _,_,0,_,.cons a _,e=>by simp at e;subst e;exact⟨_,rfl,a⟩
 | _,_,i+1,v,.cons _ r,e=>by
  obtain⟨p,b,c⟩:=PlsAt.get (i:=i) (v:=v) r (by simpa using e);exact⟨p,by simpa using b,c⟩
theorem PlsAt.last{H:Hp}:∀ {vs:List V} {ps:List Pl} {y:Pl},PlsAt H vs (ps ++ [y]) -> ∃b v,vs=b ++ [v]/\PlsAt H b ps/\PlAt H v y:=by
 intro vs ps
 induction ps generalizing vs with
 | nil =>
  intro y h;cases h with
  | cons a r=>cases r;exact⟨[],_,rfl,.nil,a⟩
 | cons p r c =>
  intro y h;cases h with
  | cons a t =>
   obtain⟨b,v,rfl,d,e⟩:=c t;exact⟨_::b,v,rfl,.cons a d,e⟩
theorem PlsAt.den{K:PySem.W.Frag}{H:Hp}{vs:List V}{ps:List Pl}(h:PlsAt H vs ps):DenL K H (ps.map pairD) vs:=by
 induction h with
 | nil=>exact .nil
 | cons a _ c=>obtain⟨b,e,q⟩:=a;subst e;exact .cons (.tuple (SqT.of q) (.cons .int (.cons .int .nil))) c
inductive RT(N:Pl->List Pl)(a:Pl):Pl->Prop
 | refl:RT N a a
 | step {b c:Pl}:RT N a b->c∈N b->RT N a c
theorem RT.trans{N:Pl->List Pl}{a b c:Pl}(d:RT N a b)(e:RT N b c):RT N a c:=by
 induction e with
 | refl=>exact d
 | step _ f g=>exact .step g f
theorem RT.back{N M:Pl->List Pl}(h:∀p q,q∈N p↔p∈M q){a b:Pl}(r:RT N a b):RT M b a:=by
 induction r with
 | refl=>exact .refl
 | step _ c d=>exact (RT.step .refl ((h _ _).mp c)).trans d
theorem RT.within{N:Pl->List Pl}{U:List Pl}{a b:Pl}(c:∀p∈U,∀q∈N p,q∈U)(d:a∈U)(r:RT N a b):b∈U:=by
 induction r with
 | refl=>exact d
 | step _ h e=>exact c _ e _ h
def NexT(H:Hp)(nd:Addr)(N:Pl->List Pl):Prop := ∃kvs:List (List Key×V),H nd=some (.dT kvs) /\ ∀p:Pl,(valV kvs (plK p)=none/\N p = []) \/ ∃c vs,valV kvs (plK p)=some (.ref c)/\H c=some (.lst vs)/\PlsAt H vs (N p)
theorem NexT.mono{H b:Hp}{d:Addr}{N:Pl->List Pl}(h:NexT H d N)(e:Ext [] H b):NexT b d N:=by
 obtain⟨a,f,g⟩:=h;refine⟨a,e _ _ (by simp) f,λp=>?_⟩;rcases g p with z | ⟨c,i,j,k,l⟩
 ·exact .inl z
 ·exact .inr ⟨c,i,j,e _ _ (by simp) k,l.mono e.tk⟩
def trueD(ks:List Pl):List (List Key×V):=ks.map λp=>(plK p,V.bl true)
theorem wm(y:Pl):∀a:List Pl,valV (trueD a) (plK y)=if y∈a then some (V.bl true) else none
 | []=>rfl
 | k::r=>by
  have b:=wm y r;unfold trueD at b ⊢;by_cases e:k=y
  ·subst e;rw [bG,yh rfl,if_pos (aQ ..)]
  ·rw [bG,yi (λz=>e (jl z)),b];have:(y∈k::r)↔y∈r:=by simp [dF e]
   simp only [this]
def qVh(K:PySem.W.Frag):Sp:=λvs H Q _ => ∃(st nd:Addr) (svs:List V) (starts U:List Pl) (N:Pl->List Pl),vs = [.ref st,.ref nd]/\SqL K H st svs/\PlsAt H svs starts/\NexT H nd N/\(∀s∈starts,s∈U)/\(∀p∈U,∀q∈N p,q∈U)/\(∀p,(N p).length<=8000)/\U.length<=500/\starts.length<=8000 /\
 ∀(d:Addr) (ks:List Pl) (H':Hp),H d=none->Ext [] H H'->H' d=some (.dT (trueD ks))->ks.Nodup->(∀x,x∈ks ↔ ∃s∈starts,RT N s x)->Q (.ref d) H'
def dword:Deed->Str
 | .set _ _ => "set"
 | .add _ _ => "add"
 | .tell _ => "tell"
 | .call _ => "call"
 | .save _ => "save"
 | .back _ => "back"
def dargs:Deed->List Int
 | .set b n =>[b,n]
 | .add b o =>[b,o]
 | .tell b =>[b]
 | .call b =>[b]
 | .save b =>[b]
 | .back b =>[b]
def darg:Deed->Int
 | .set b _=>b
 | .add b _=>b
 | .tell b=>b
 | .call b=>b
 | .save b=>b
 | .back b=>b
theorem deed_is(d:Deed):deedD d = .tuple (.str (dword d)::(dargs d).map .int):=by cases d <;> rfl
theorem qPa(d:Deed):∃r,dargs d=darg d::r:=by cases d <;> exact⟨_,rfl⟩
theorem qL3(d:Deed):1<=(dargs d).length/\(dargs d).length<=2:=by cases d <;> simp [dargs]
theorem deed_in(d:Deed):inV (V.str (dword d)) [V.str "set",.str "add"]=(wr d).isSome:=by cases d <;> first | rfl | (show inV (V.str _) _=_;simp only [dword,wr];decide)
theorem deed_wr(d:Deed)(h:(wr d).isSome=true):wr d=some (darg d):=by cases d <;> first | rfl | cases h
def wrB(x:Int)(d:Deed):Bool:=(wr d).isSome&&decide (darg d=x)
def ue:Deed->Bool
 | .add _ _=>true
 | .tell _=>true
 | _=>false
theorem qT1(d:Deed):inV (V.str (dword d)) [V.str "add",.str "tell"]=ue d:=by cases d <;> first | rfl | (show inV (V.str _) _=_;simp only [dword,ue];decide)
def rdB(x:Int)(d:Deed):Bool:=ue d&&decide (x∈dargs d)
def KTup(K:PySem.W.Frag)(wa:Addr)(xs:List V):Prop := ∃(o:Obj) (its:Array Value) (n:Nat),K.lookup wa=some o/\o.cls = .type "tuple" /\ o.data = .seq its n/\its.size<=sizeLine/\Vals xs its.toList
abbrev Writing(K:PySem.W.Frag)(wa:Addr):Prop:=KTup K wa [V.str "set",.str "add"]
abbrev qTj(K:PySem.W.Frag)(wa:Addr):Prop:=KTup K wa [V.str "add",.str "tell"]
def xq(φ : Int->Deed->Bool)(K:PySem.W.Frag):Sp:=λvs H Q _ => ∃(v:V) (d:Deed) (x:Int),vs = [v,.int x]/\Den K H (deedD d) v /\ ∀H',Ext [] H H'->Q (.bl (φ x d)) H'
def till(x:Int):List Deed->List Deed
 | [] =>[]
 | d::r=>if wrB x d=true then [d] else d::till x r
def wrote(x:Int)(ds:List Deed):Bool:=ds.any (wrB x)
def yQ:Deed->Option Int
 | .call c=>some c
 | _=>none
def wn(d:Deed):Bool:=(yQ d).isSome
theorem qL2(d:Deed):decide (dword d = "call")=wn d:=by
 cases d with
 | call c=>exact decide_eq_true rfl
 | set _ _=>exact decide_eq_false (show ¬("set" : Str) = "call" by decide)
 | add _ _=>exact decide_eq_false (show ¬("add" : Str) = "call" by decide)
 | tell _=>exact decide_eq_false (show ¬("tell" : Str) = "call" by decide)
 | save _=>exact decide_eq_false (show ¬("save" : Str) = "call" by decide)
 | back _=>exact decide_eq_false (show ¬("back" : Str) = "call" by decide)
theorem qTb(d:Deed)(h:wn d=true):yQ d=some (darg d):=by cases d <;> first | rfl | cases h
theorem wp(x:Int):∀ds:List Deed,(till x ds).length<=ds.length
 | []=>aF _
 | d::r=>by
  unfold till;split
  ·simp
  ·have:=wp x r;simp;lia
theorem qMx{x:Int}{d:Deed}:∀ {ds:List Deed},d∈till x ds->d∈ds
 | [],h=>h
 | e::r,h=>by
  unfold till at h;split at h
  ·rw [aH.mp h];exact aQ ..
  ·rcases aV.mp h with z | z
   ·rw [z];exact aQ ..
   ·exact aP _ (qMx z)
theorem qHh{x:Int}:∀ {ds:List Deed} {i:Nat} {d:Deed},(∀e∈ds.take i,wrB x e=false)->ds[i]? = some d->wrB x d=true->till x ds=ds.take (i+1)
 | [],i,d,_,h,_=>by simp at h
 | e::r,0,d,_,h,hw=>by
  simp at h;subst h;unfold till;rw [if_pos hw];rfl
 | e::r,i+1,d,a,h,hw=>by
  unfold till;rw [if_neg (by rw [a e (by simp)];exact aL),List.take_succ_cons];rw [qHh (i:=i) (d:=d) (λf b=>a f (by simp [b])) (by simpa using h) hw]
theorem qJi{x:Int}:∀ {ds:List Deed},(∀e∈ds,wrB x e=false)->till x ds=ds
 | [],_=>rfl
 | e::r,h=>by
  unfold till;rw [if_neg (by rw [h e (by simp)];exact aL),qJi λf a=>h f (by simp [a])]
abbrev yF(ws:List (List Blk)):PyData :=.list (ws.map workD)
def blkAt(ws:List (List Blk))(p:Pl):Option Blk:=if 0<=p.1/\0<=p.2 then (ws[p.1.toNat]?).bind λw=>w[p.2.toNat]? else none
def vh(x:Int)(b:Blk):List Pl:=((till x b.ds).filterMap yQ).map λc=>(c,0)
def metB(x n:Int)(b:Blk):List Pl:=vh x b++(if wrote x b.ds=true then [] else b.ns.map λt=>(n,t))
def metOf(ws:List (List Blk))(x:Int)(p:Pl):List Pl:=match blkAt ws p with
 | none =>[]
 | some b=>metB x p.1 b
def readB(x:Int)(b:Blk):Bool:=(till x b.ds).any (rdB x)
def yG(ws:List (List Blk))(x:Int)(p:Pl):Bool:=match blkAt ws p with
 | none=>false
 | some b=>readB x b
def Asks(ws:List (List Blk))(x:Int)(p:Pl):Prop := ∃q,RT (metOf ws x) p q/\yG ws x q=true
structure WsOk(ws:List (List Blk)):Prop where
 all:∀w∈ws,∃m:Int,1<=m/\m<=12/\WorkOk m (ws.length:Int) w
 one:1<=ws.length
 few:ws.length<=25
theorem wM(b:List (List Blk))(n a:Nat):blkAt b ((n:Int),(a:Int))=(b[n]?).bind λw=>w[a]? :=by
 unfold blkAt;rw [if_pos ⟨by lia,by lia⟩];rfl
theorem jm{c:List (List Blk)}{p:Pl}{b:Blk}(h:blkAt c p=some b):∃(n a:Nat) (w:List Blk),p=((n:Int),(a:Int))/\c[n]? = some w/\w[a]? = some b:=by
 unfold blkAt at h;split at h
 ·rename_i d;cases e:c[p.1.toNat]? with
  | none=>rw [e] at h;cases h
  | some w =>
   rw [e] at h;refine⟨p.1.toNat,p.2.toNat,w,?_,e,h⟩;rw [gT d.1,gT d.2]
 ·cases h
def places(ws:List (List Blk)):List Pl:=(List.range ws.length).flatMap λ(n:Nat)=>(List.range ((ws[n]?).getD []).length).map λ(a:Nat)=>((n:Int),(a:Int))
theorem mem_places{e:List (List Blk)}{p:Pl}:p∈places e ↔ ∃b,blkAt e p=some b:=by
 unfold places;rw [cG];constructor
 ·rintro⟨n,d,g⟩;obtain⟨a,c,rfl⟩:=aW.mp g;rw [wM];have d:=bF.mp d;have c:=bF.mp c;rw [aD d] at c ⊢;exact⟨_,aD c⟩
 ·rintro⟨b,h⟩;obtain⟨n,a,w,rfl,f,c⟩:=jm h;refine⟨n,bF.mpr (aE.mp f).1,aW.mpr ⟨a,bF.mpr ?_,rfl⟩⟩;rw [f];exact (aE.mp c).1
theorem WsOk.blk{c:List (List Blk)}(h:WsOk c){p:Pl}{b:Blk}(f:blkAt c p=some b):∃(m:Int) (n:Nat) (w:List Blk),p.1=(n:Int)/\c[n]? = some w/\(w.length:Int)=m/\1<=m/\m<=12/\BlkOk m (c.length:Int) b:=by
 obtain⟨n,a,w,rfl,d,g⟩:=jm f;obtain⟨m,i,j,e⟩:=h.all w (aM d);exact⟨m,n,w,rfl,d,e.len,i,j,e.blk b (aM g)⟩
theorem qS8{a:List (List Blk)}(h:WsOk a){x:Int}{p q:Pl}(g:q∈metOf a x p):q∈places a:=by
 unfold metOf at g;split at g
 ·cases g
 ·rename_i b o;obtain⟨m,n,w,r,s,D,u,v,f⟩:=h.blk o;unfold metB at g;rcases aK.mp g with z | z
  ·unfold vh at z;obtain⟨c,y,rfl⟩:=aW.mp z;obtain⟨d,A,e⟩:=eO.mp y;have i:=f.ds d (qMx A);have j:0<=c/\c<(a.length:Int):=by
    cases d with
    | call E=>cases e;exact i
    | set _ _=>cases e
    | add _ _=>cases e
    | tell _=>cases e
    | save _=>cases e
    | back _=>cases e
   obtain⟨k,rfl⟩:=cD j.1;have l:k<a.length:=by lia
   refine mem_places.mpr ?_;have:=wM a k 0;show ∃b,blkAt a ((k:Int),((0:Nat):Int))=some b;rw [this,aD l];obtain⟨F,G,H,B⟩:=h.all a[k] (cL l);have I:=B.len;exact⟨_,aD (by lia)⟩
  ·split at z
   ·cases z
   ·obtain⟨t,C,rfl⟩:=aW.mp z;have J:=f.ns.range t C;obtain⟨k,rfl⟩:=cD (show 0<=t by lia);refine mem_places.mpr ?_;rw [r,wM,s];exact⟨_,aD (by lia)⟩
theorem jn{c:List (List Blk)}(h:WsOk c)(x:Int)(p:Pl):(metOf c x p).length<=22:=by
 unfold metOf;split
 ·exact bB _
 ·rename_i b d;obtain⟨m,n,w,g,i,j,e,f,a⟩:=h.blk d;unfold metB vh;have k:=eR yQ (till x b.ds);have l:=wp x b.ds;have o:=a.few;have q:=a.ns.few;rw [aI,aB];split
  ·simp;lia
  ·rw [aB];lia
theorem qHp{b:List (List Blk)}(h:WsOk b):(places b).length<=300:=by
 unfold places;have key:∀l:List Nat,(∀n∈l,n<b.length)->(l.flatMap λ(n:Nat)=>(List.range ((b[n]?).getD []).length).map λ(a:Nat)=>((n:Int),(a:Int))).length<=12*l.length:=by
  intro l
  induction l with
  | nil=>intro _;exact aF _
  | cons n r f =>
   intro d;rw [gD,aI,aB,cO,bY];have e:=f λm g=>d m (aP _ g);have c:=d n (aQ ..);rw [aD c];obtain⟨j,k,o,i⟩:=h.all b[n] (cL c);have p:=i.len;show b[n].length+_<=_;lia
 have e:=key (List.range b.length) λn c=>bF.mp c;rw [cO] at e;have:=h.few;lia
def qN4(K:PySem.W.Frag):Sp:=λvs H Q _ => ∃(wa:Addr) (ws:List (List Blk)) (n b:Nat) (x:Int),vs = [.ref wa,.int n,.int b,.int x]/\Den K H (yF ws) (.ref wa)/\WsOk ws/\((n:Int),(b:Int))∈places ws /\
 ∀(l:Addr) (us:List V) (H':Hp),H l=none->Ext [] H H'->H' l=some (.lst us)->PlsAt H' us (metOf ws x ((n:Int),(b:Int)))->Q (.ref l) H'
structure NexK(H:Hp)(nd:Addr)(N:Pl->List Pl)(ok:Addr->Prop)(k:Nat)(kvs:List (List Key×V)):Prop where
 at_:H nd=some (.dT kvs)
 few:kvs.length<=k
 all:∀p:Pl,(valV kvs (plK p)=none/\N p = []) \/ ∃c vs,valV kvs (plK p)=some (.ref c)/\ok c/\H c=some (.lst vs)/\PlsAt H vs (N p)
 one:∀(p q:Pl) (c:Addr),valV kvs (plK p)=some (.ref c)->valV kvs (plK q)=some (.ref c)->p=q
def NexB(H:Hp)(nd:Addr)(N:Pl->List Pl)(ok:Addr->Prop)(k:Nat):Prop := ∃kvs,NexK H nd N ok k kvs
theorem NexK.mono{H a:Hp}{b:Addr}{N:Pl->List Pl}{ok:Addr->Prop}{ts:List Addr}{k:Nat}{kvs:List (List Key×V)}(h:NexK H b N ok k kvs)(e:Ext ts H a)(f:b∉ts)(g:∀t∈ts,¬ok t)(tk:TK H a):NexK a b N ok k kvs:=by
 refine⟨e _ _ f h.at_,h.few,λp=>?_,h.one⟩;rcases h.all p with z | ⟨c,i,j,d,l,m⟩
 ·exact .inl z
 ·exact .inr ⟨c,i,j,d,e _ _ (λz=>g c z d) l,m.mono tk⟩
theorem NexB.mono{H a:Hp}{b:Addr}{N:Pl->List Pl}{ok:Addr->Prop}{ts:List Addr}{k:Nat}(h:NexB H b N ok k)(e:Ext ts H a)(d:b∉ts)(f:∀t∈ts,¬ok t)(tk:TK H a):NexB a b N ok k:=let ⟨c,z⟩:=h;⟨c,z.mono e d f tk⟩
theorem NexB.toT{H:Hp}{b:Addr}{N:Pl->List Pl}{ok:Addr->Prop}{k:Nat}(h:NexB H b N ok k):NexT H b N:=by
 obtain⟨a,z⟩:=h;refine⟨a,z.at_,λp=>?_⟩;rcases z.all p with y | ⟨c,d,e,_,f,g⟩
 ·exact .inl y
 ·exact .inr ⟨c,d,e,f,g⟩
def snocN(N:Pl->List Pl)(q p:Pl):Pl->List Pl:=λr=>if r=q then N r ++ [p] else N r
theorem NexK.app{H:Hp}{d c pt:Addr}{N:Pl->List Pl}{ok:Addr->Prop}{k:Nat}{kvs:List (List Key×V)}{q p:Pl}{vs:List V}(h:NexK H d N ok k kvs)(a:valV kvs (plK q)=some (.ref c))(l:H c=some (.lst vs))(m:PlsAt H vs (N q))(o:H pt=some (.tup [.int p.1,.int p.2])):NexK (upd H c (.lst (vs ++ [.ref pt]))) d (snocN N q p) ok k kvs:=by
 have tk:TK H (upd H c (.lst (vs ++ [.ref pt]))) :=.put (by intro v z;rw [l] at z;cases z);have s:d≠c:=yq h.at_ l (by intro z;cases z);refine⟨by rw [zD s];exact h.at_,h.few,λr=>?_,h.one⟩;unfold snocN;by_cases e:r=q
 ·subst e;rw [if_pos rfl];have f:ok c:=by
   rcases h.all r with z | ⟨g,_,b,i,_⟩
   ·rw [z.1] at a;cases a
   ·rw [b] at a;cases a;exact i
  exact .inr ⟨c,vs ++ [.ref pt],a,f,zC,(m.mono tk).append (.one (tk _ _ o))⟩
 ·rw [if_neg e];rcases h.all r with z | ⟨g,j,b,i,t,u⟩
  ·exact .inl z
  ·have n:g≠c:=λz=>e (h.one r q c (z▸b) a);exact .inr ⟨g,j,b,i,by rw [zD n];exact t,u.mono tk⟩
theorem NexK.new{H:Hp}{g a:Addr}{N:Pl->List Pl}{ok:Addr->Prop}{k:Nat}{kvs:List (List Key×V)}{q:Pl}(h:NexK H g N ok k kvs)(j:valV kvs (plK q)=none)(l:H a=some (.lst []))(t:ok a)(m:∀(p:Pl) (c:Addr),valV kvs (plK p)=some (.ref c)->c≠a):NexK (upd H g (.dT (putK kvs (plK q) (.ref a)))) g N ok (k+1) (putK kvs (plK q) (.ref a)):=by
 have tk:TK H (upd H g (.dT (putK kvs (plK q) (.ref a)))) :=.put (by intro w z;rw [h.at_] at z;cases z);have u:N q = []:=by
  rcases h.all q with z | ⟨c,n,d,_⟩
  ·exact z.2
  ·rw [d] at j;cases j
 have i:a≠g:=yq l h.at_ (by intro z;cases z);refine⟨zC,by have:=xW kvs (plK q) (V.ref a);have:=h.few;lia,λr=>?_,λr s c b e=>?_⟩
 ·by_cases b:r=q
  ·subst b;exact .inr ⟨a,[],by rw [vR,if_pos rfl],t,by rw [zD i];exact l,by rw [u];exact .nil⟩
  ·rw [vR,if_neg (λz=>b (jl z))];rcases h.all r with z | ⟨c,n,d,f,o,v⟩
   ·exact .inl z
   ·exact .inr ⟨c,n,d,f,by rw [zD (yq o h.at_ (by intro z;cases z))];exact o,v.mono tk⟩
 ·rw [vR] at b e;by_cases d:plK r=plK q
  ·by_cases f:plK s=plK q
   ·exact jl (d.trans f.symm)
   ·rw [if_pos d] at b;rw [if_neg f] at e;cases b;exact absurd rfl (m s a e)
  ·rw [if_neg d] at b;by_cases f:plK s=plK q
   ·rw [if_pos f] at e;cases e;exact absurd rfl (m r a b)
   ·rw [if_neg f] at e;exact h.one r s c b e
def yX(ws:List (List Blk))(x:Int)(ps:List Pl)(q:Pl):List Pl:=ps.flatMap λp=>((metOf ws x p).filter λr=>decide (r=q)).map λ_=>p
def yf(ws:List (List Blk))(x:Int)(ps:List Pl)(p:Pl)(ms:List Pl)(q:Pl):List Pl:=yX ws x ps q++(ms.filter λr=>decide (r=q)).map λ_=>p
theorem qJ8(a:List (List Blk))(x:Int)(ps:List Pl)(p:Pl)(ms:List Pl)(r:Pl):yf a x ps p (ms ++ [r])=snocN (yf a x ps p ms) r p:=by
 funext q
 unfold yf snocN;rw [cA,aJ,<-eZ];by_cases h:q=r
 ·subst h;simp
 ·simp [h,dF h]
theorem qLj(a:List (List Blk))(x:Int)(ps:List Pl)(p:Pl):yf a x ps p []=yX a x ps:=by
 funext q;unfold yf;simp
theorem qJ9(a:List (List Blk))(x:Int)(ps:List Pl)(p:Pl):yf a x ps p (metOf a x p)=yX a x (ps ++ [p]):=by
 funext q;unfold yf yX;rw [fA];simp
theorem mem_behind{d:List (List Blk)}{x:Int}{ps:List Pl}{p q:Pl}:p∈yX d x ps q↔p∈ps/\q∈metOf d x p:=by
 unfold yX;rw [cG];constructor
 ·rintro⟨f,a,h⟩;obtain⟨r,e,rfl⟩:=aW.mp h;obtain⟨b,c⟩:=bQ.mp e;have:=of_decide_eq_true c;subst this;exact⟨a,b⟩
 ·rintro⟨b,c⟩;exact⟨p,b,aW.mpr ⟨q,bQ.mpr ⟨c,decide_eq_true rfl⟩,rfl⟩⟩
theorem qUt{a:List (List Blk)}{x:Int}{p q:Pl}(h:q∈metOf a x p):p∈places a:=by
 refine mem_places.mpr ?_;unfold metOf at h;split at h
 ·cases h
 ·rename_i b c;exact⟨b,c⟩
theorem jp{a:List (List Blk)}(h:WsOk a)(x:Int)(q:Pl):∀ps:List Pl,(yX a x ps q).length<=22*ps.length
 | []=>aF _
 | p::r=>by
  have b:=jp h x q r;unfold yX at b ⊢;rw [gD,aI,aB,bY];have c:=bC (λr=>decide (r=q)) (metOf a x p);have d:=jn h x p;lia
theorem qTh{a:List (List Blk)}{x:Int}{p:Pl}:(∃s∈(places a).filter (yG a x),RT (yX a x (places a)) s p)↔Asks a x p:=by
 have d:∀p q,q∈metOf a x p↔p∈yX a x (places a) q:=λp q=>by
  rw [mem_behind];exact⟨λh=>⟨qUt h,h⟩,λh=>h.2⟩
 have e:∀p q,q∈yX a x (places a) p↔p∈metOf a x q:=λp q=>(d q p).symm;constructor
 ·rintro⟨s,f,r⟩;exact⟨s,r.back e,(bQ.mp f).2⟩
 ·rintro⟨q,r,c⟩;refine⟨q,bQ.mpr ⟨mem_places.mpr ?_,c⟩,r.back d⟩;unfold yG at c;split at c
  ·cases c
  ·rename_i b g;exact⟨b,g⟩
def qQ9(K:PySem.W.Frag):Sp:=λvs H Q _ => ∃(wa:Addr) (ws:List (List Blk)) (x:Int),vs = [.ref wa,.int x]/\Den K H (yF ws) (.ref wa)/\WsOk ws /\
 ∀(d:Addr) (ks:List Pl) (H':Hp),H d=none->Ext [] H H'->H' d=some (.dT (trueD ks))->ks.Nodup->(∀p,p∈ks↔Asks ws x p)->Q (.ref d) H'
def qXq(X:Cx)(own:List Str)(cap:List Nat)(scope:Scope)(y:Str)(cl:List (Str×Addr))(s:Shared)(H:Hp)(ex:List Addr):Cx :=
 { zT X own cap scope ((y,s.heap.objs.size+1)::cl) s H ex with fn:=λx=>x == y }
theorem xc{X:Cx}{a:List Str}{b:List Nat}{scope:Scope}{y:Str}{c:List (Str×Addr)}{s:Shared}{H:Hp}{ex:List Addr}:(qXq X a b scope y c s H ex).K=X.K:=rfl
noncomputable def askB(ws:List (List Blk))(x:Int)(p:Pl):Bool :=@decide (Asks ws x p) (Classical.propDecidable _)
theorem askB_iff{a:List (List Blk)}{x:Int}{p:Pl}:askB a x p=true↔Asks a x p:=by unfold askB;exact @decide_eq_true_iff _ (Classical.propDecidable _)
theorem uf(x:Int)(ds:List Deed)(d:Deed):wrote x (ds ++ [d])=(wrote x ds||wrB x d):=by unfold wrote;simp
theorem qGh{x:Int}{ds:List Deed}(h:wrote x ds=false):∀e∈ds,wrB x e=false:=by
 unfold wrote at h;intro e a;have:=List.any_eq_false.mp h e a;simpa using this
theorem jq{x:Int}{d:Deed}:∀ {ds:List Deed},wrote x ds=false->till x (ds ++ [d])=till x ds ++ [d]
 | [],_=>by
  show (if wrB x d=true then [d] else d::till x []) = [d];split <;> rfl
 | e::r,h=>by
  have a:=qGh h e (by simp);have b:wrote x r=false:=by unfold wrote at h ⊢;simp at h ⊢;exact h.2
  simp only [List.cons_append,till];rw [if_neg (by rw [a];exact aL),if_neg (by rw [a];exact aL),jq b];rfl
theorem jr{x:Int}:∀ {ds es:List Deed},wrote x ds=true->till x (ds++es)=till x ds
 | [],es,h=>by cases h
 | e::r,es,h=>by
  simp only [List.cons_append,till];by_cases a:wrB x e=true
  ·rw [if_pos a,if_pos a]
  ·have b:wrote x r=true:=by
    unfold wrote at h ⊢;rw [List.any_cons] at h;rw [gE.mpr a,Bool.false_or] at h;exact h
   rw [if_neg a,if_neg a,jr b]
theorem qTr{x:Int}{ds:List Deed}{j:Nat}{d:Deed}(h:wrote x (ds.take j)=false)(hd:ds[j]? = some d):d∈till x ds:=by
 have e:ds=(ds.take j ++ [d])++ds.drop (j+1):=by
  rw [<-zd hd,List.take_append_drop]
 have l:=jq (d:=d) h;by_cases k:wrB x d=true
 ·have g:wrote x (ds.take j ++ [d])=true:=by rw [uf,h,k];rfl
  rw [e,jr g,l];simp
 ·have all:∀(b bs:List Deed),wrote x b=false -> ∀f∈b,f∈till x (b++bs):=by
   intro b bs
   induction b with
   | nil=>intro _ f i;cases i
   | cons a r m =>
    intro c f i;have n:=qGh c a (by simp);have o:wrote x r=false:=by unfold wrote at c ⊢;simp at c ⊢;exact c.2
    simp only [List.cons_append,till];rw [if_neg (by rw [n];exact aL)];rcases aV.mp i with z | z
    ·rw [z];exact aQ ..
    ·exact aP _ (m o f z)
  have g:wrote x (ds.take j ++ [d])=false:=by rw [uf,h,gE.mpr k];rfl
  rw [e];exact all _ _ g d (by simp)
theorem qIy(ps:List (Int×Int)):PyData.eqv (wj ps) (.list [])=decide (ps = []):=by
 cases ps with
 | nil=>rfl
 | cons p r=>rfl
def qJq(K:PySem.W.Frag):Sp:=λvs H Q _ => ∃(wa:Addr) (ws:List (List Blk)) (n b:Nat) (x:Int),vs = [.ref wa,.int n,.int b,.int x]/\Den K H (yF ws) (.ref wa)/\WsOk ws/\((n:Int),(b:Int))∈places ws /\ ∀H',Ext [] H H'->Q (.bl (askB ws x ((n:Int),(b:Int)))) H'
section
variable{P:Program}{w:World}{A:Around}{E:Value->Shared->Prop}{s:Shared}{d:Addr}
theorem qIw:typeLookup (.type "dict") "__len__" = pure (some (.builtin "dict.__len__")):=F.slot_dict_len.lookup
theorem qJ3{a:List Int}{kvs:List (Key×Value)}{ep:Nat}{Q:List Value->Shared->Prop}(hh:A.handled=none)(hs:(d == sysModules)=false)(dd:s.heap.DictAt (zY P w) d kvs ep)(hk:kvs.map (·.1)=a.map Sum.inl)(hz:a.length<=1000)(q:∀(vs:List Value) (h':Heap) (tk:Nat),(∀b u,s.heap.get? b=some u->h'.get? b=some u)->s.heap.objs.size<=h'.objs.size->IntsAre vs a->Q vs { s with heap:=h',toks:=tk }):wpAny (model P w) A (collect (.ref d)) Q E s:=by
 have H:kvs.length=a.length:=by have:=congrArg List.length hk;simpa using this
 unfold collect;refine aA (wpAny_runValue (dR F.entry_proto_collect ?_));rw [cW F.plain_proto_collect _];show wpAny _ A.in1 (newList [] >>= λl=>again (.builtin "list.__iadd__" ⟨[l,.ref d],[]⟩)) _ _ s;refine aA (bV ?_);refine aC ⟨fF F.plain_list_iadd _,dR F.entry_list_iadd ?_⟩;rw [cW F.plain_list_iadd _];have k1:∀b u,s.heap.get? b=some u->(s.heap.push { cls :=.type "list",data :=.seq ([]:List Value).toArray }).get? b=some u:=λb u e=>aG _ e;have j:=dd.at' (h':=s.heap.push { cls :=.type "list",data :=.seq ([]:List Value).toArray }) λo e=>k1 d o e;have hT:Shared.TypeIs { s with heap:=s.heap.push { cls :=.type "list",data :=.seq ([]:List Value).toArray } } (.ref d) "dict" :=j.dictOf.typeIs
 have m:d<s.heap.objs.size:=by obtain⟨o,es,ho,_⟩:=dd;exact aX ho
 show wpAny _ A.in1 (Builtin.List.listExtendWith (.ref s.heap.objs.size) (.ref d) (.ref s.heap.objs.size)) _ _ _;unfold Builtin.List.listExtendWith;refine aA (fS hT ?_);have S:Builtin.List.listSameRef (.ref s.heap.objs.size) (.ref d)=false:=by simp [Builtin.List.listSameRef];exact eE m
 have X:(Value.type "dict" == Value.type "list")=false:=by decide
 have h3:(Value.type "dict" == Value.type "tuple")=false:=by decide
 simp only [S,X,h3,Bool.or_false,dQ,if_false];refine aA (wpAny_pyIter_dict hs j ?_);rw [show ({ s with heap:=s.heap.push { cls :=.type "list",data :=.seq ([]:List Value).toArray } }:Shared).heap.objs.size=s.heap.objs.size+1 from dI ..];have T:∀b u,(s.heap.push { cls :=.type "list",data :=.seq ([]:List Value).toArray }).get? b=some u->((s.heap.push { cls :=.type "list",data :=.seq ([]:List Value).toArray }).push { cls :=.type "dict_keyiterator",data :=.fields #[.ref d,.int 0 0,.int kvs.length 0,.int ep 0] }).get? b=some u:=λb u e=>aG _ e;have I:((s.heap.push { cls :=.type "list",data :=.seq ([]:List Value).toArray }).push { cls :=.type "dict_keyiterator",data :=.fields #[.ref d,.int 0 0,.int kvs.length 0,.int ep 0] }).IsKeyIter (s.heap.objs.size+1) d 0 kvs.length ep:=by
  have:=aT (h:=s.heap.push { cls :=.type "list",data :=.seq ([]:List Value).toArray }) (o :={ cls :=.type "dict_keyiterator",data :=.fields #[.ref d,.int 0 0,.int kvs.length 0,.int ep 0] }) rfl;rw [dI] at this;exact⟨_,this,rfl,rfl⟩
 have p:=j.at' λo e=>T d o e;have B:=T _ _ (aT (h:=s.heap) (o :={ cls :=.type "list",data :=.seq ([]:List Value).toArray }) rfl);generalize (s.heap.push { cls :=.type "list",data :=.seq ([]:List Value).toArray }).push { cls :=.type "dict_keyiterator",data :=.fields #[.ref d,.int 0 0,.int kvs.length 0,.int ep 0] }=h' at T I p B ⊢;have C:Shared.TypeIs { s with heap:=h' } (.ref d) "dict" :=p.dictOf.typeIs;refine aA (bM ?_);unfold Builtin.List.listLengthHint;refine aA (wpAny_specialOf C qIw ?_);have Y:splitId "dict.__len__" = some ("dict","__len__"):=by kernel_rfl
 dsimp only;rw [Y];dsimp only;refine aA (gP (b:=true) C (by rw [isSubtype_type];kernel_rfl) ?_);rw [if_neg (by simp)];rw [if_pos (by decide +kernel)];refine aA (fS C (aC ?_));rw [if_pos (by decide +kernel)];refine aA (cV ?_);refine aA ?_;show wpAny _ A.in1 (updateSeq s.heap.objs.size (·.push .none) >>= λ_=>updateSeq s.heap.objs.size (·.pop)) _ _ _;refine aA (wpAny_updateSeq (s :={ s with heap:=h' }) B rfl ?_);have J:=bZ (Obj.mapSeq (·.push Value.none)) B rfl;refine wpAny_updateSeq J rfl ?_;have Z:=bZ (Obj.mapSeq (·.pop)) J rfl;have K:∀b u,b≠s.heap.objs.size->h'.get? b=some u->((h'.update s.heap.objs.size (Obj.mapSeq (·.push Value.none))).update s.heap.objs.size (Obj.mapSeq (·.pop))).get? b=some u :=
  λb u U e=>(cY _ _ (dF U)).trans ((cY _ _ (dF U)).trans e)
 have a0:d≠s.heap.objs.size+1:=bD (Nat.lt_succ_of_lt m);have L:s.heap.objs.size ∉ [s.heap.objs.size+1,d]:=λz=>by
  rcases aV.mp z with z | z
  ·exact bD (eS _) z
  ·have:s.heap.objs.size=d:=by simpa using z
   exact eE m this
 have a1:kvs.length<=sizeLine:=by rw [H,dX];lia
 have W:=(Walks.dictKeys (prog:=P) (w:=w) (A:=A.in1) (knd:=zY P w) hh (s.heap.objs.size+1) d a0 kvs ep).toS;refine aC ⟨fF F.plain_extend_loop _,codeAny_extend_loopS W a1 _ L _ kvs.length 0 _ _ _ rfl (bB _) (W.frame 0 ({ s with heap:=h' }:Shared) _ s.toks ⟨I,p⟩ (aF _) λb U u e=>K b u (λz=>L (z▸U)) e) Z (ItemsOf.nil _) λs' c c' V M f=>?_⟩;show wpAny _ A (load s.heap.objs.size >>= _) _ _ s';refine aA (wpAny_load M (aC ?_));obtain⟨X,g2,d2,a2,a3⟩:=s';have g:g2=s.gens:=V.gens;have G:d2=s.drawn:=V.drawn;have e3:a3=s.os:=V.os;subst g;subst G;subst e3;refine q c.toList X a2 (λb u e=>?_) (dH (aX M)) ?_
 ·have D:=aX e;refine V.heap b u (λz=>?_) (K b u (bD D) (T b u (k1 b u e)));rcases aV.mp z with z | z
  ·exact bD D z
  ·have z2:b=s.heap.objs.size+1:=by simpa using z
   exact bD (Nat.lt_succ_of_lt D) z2
 ·have N:c.toList.length=a.length:=by rw [aU,f.1,H]
  have O:∀(i:Nat) (v:Value),c.toList[i]? = some v -> ∃n t,a[i]? = some n/\v = .int n t:=λi v e=>by
   obtain⟨k,x,a4,a5⟩:=f.2 i v (by rw [<-bE];exact e);have R:(kvs.map (·.1))[i]? = some k:=by rw [aS,a4];rfl
   rw [hk,aS] at R;cases hn:a[i]? with
   | none=>rw [hn] at R;cases R
   | some n =>
    rw [hn] at R;have h6:k=Sum.inl n:=(bT R).symm;subst h6;rcases yU (show keyIs (Sum.inl n) v=true from a5) with ⟨i',t,g,G⟩ | ⟨y,t,g,G⟩
    ·have g:n=i':=by first | exact Sum.inl.inj g | exact Sum.inl.inj G
     subst g;exact⟨n,t,rfl,by first | exact G | exact g⟩
    ·first | exact nomatch g | exact nomatch G
  have a6:∀(a:List Int) (vs:List Value),vs.length=a.length->(∀(i:Nat) (v:Value),vs[i]? = some v -> ∃n t,a[i]? = some n/\v = .int n t)->IntsAre vs a:=by
   intro a
   induction a with
   | nil=>intro vs h _;have:vs = []:=fU.mp h;subst this;exact .nil
   | cons k r ih =>
    intro vs h hg;cases vs with
    | nil=>cases h
    | cons v vr =>
     obtain⟨n,t,S,rfl⟩:=hg 0 v rfl;simp at S;subst S;exact .cons _ t (ih vr (by simpa using h) λi v hv=>by simpa using hg (i+1) v (by simpa using hv))
  exact a6 a c.toList N O
theorem qJu{h:List Int}{kvs:List (Key×Value)}{ep:Nat}{Q:Value->Shared->Prop}(hh:A.handled=none)(o:(d == sysModules)=false)(p:s.heap.DictAt (zY P w) d kvs ep)(r:kvs.map (·.1)=h.map Sum.inl)(i:h.length<64)
  (q:∀(D:Addr) (out:Array Value) (c:Nat) (a:List Int) (h':Heap) (tk:Nat),s.heap.objs.size<=D->h'.get? D=some { cls :=.type "list",data :=.seq out c }->(∀b u,s.heap.get? b=some u->h'.get? b=some u)->IntsAre out.toList a->a.Perm h->a.Pairwise (· <= ·)->Q (.ref D) { s with heap:=h',toks:=tk }) :
  wpAny (model P w) A (call (.builtin "sorted") [.ref d]) Q E s:=by
 refine Calls.call_function_entry kind_sorted plain_sorted entry_sorted (args_sorted1 _) ?_;unfold Builtin.«sorted»;refine aA (m:=checkCount "sorted" 1 1 _) (aC ?_);refine aA (qJ3 (A:=A.in1) hh o p r (by lia) λg h' tk k j n=>?_);have l:g.length<64:=by rw [IntsAre.length n];exact i
 refine aA (wpAny_newList ?_ (by rw [dX];lia));have f:(h'.push (seqObj "list" g.toArray 0)).get? h'.objs.size=some (seqObj "list" g.toArray 0):=aT _ rfl;refine aA (bM (bX slot_list_sort (s :={ s with heap:=h'.push (seqObj "list" g.toArray 0),toks:=tk }) ⟨_,f,rfl⟩ entry_list_sort (list_sort_tree f n l λout a t v x=>⟨_,rfl,?_⟩) (args_list_sort _)));obtain⟨⟨c,y⟩,z,_⟩:=qHk (out:=out) f;exact aC ⟨_,rfl,q h'.objs.size out c a _ tk j y (λb u e=>z b u (bD (aX (k b u e))) (aG _ (k b u e))) t v x⟩
end
section
variable{X:Cx}
def qYh:List V->Hp->VK->Prop:=λxs H Q => ∃(d:Addr) (ks:List Int) (kvs:List (Key×V)),xs = [.ref d]/\H d=some (.dK kvs)/\kvs.map (·.1)=ks.map Sum.inl/\ks.length<64 /\ ∀(l:Addr) (ns':List Int),H l=none->ns'.Perm ks->ns'.Pairwise (· <= ·)->Q (.ref l) (upd H l (.lst (ns'.map V.int)))
theorem wN(hh:X.A.handled=none):CallR X (.builtin "sorted") qYh:=by
 intro j s σ H O P Q I r h;obtain⟨d,R,n,rfl,p,g,t,q⟩:=h;obtain⟨u,rfl,v⟩:=vals1 r;cases v;obtain⟨z,x,y,b,o,B,C,E,F,G,J⟩:=ye I.hok p;have K:s.heap.DictAt (zY X.prog X.w) d y C:=⟨o,B,E,F,G,J⟩;refine qJu hh x K (by first | (rw [<-KV.keys b];exact g) | (rw [KV.keys b] at g;exact g)) t λD e c a S tk l f k L m M=>?_;have N:H D=none:=I.hok.fresh l;have i:Vals (a.map V.int) e.toList:=uM L;refine⟨.ref D,_,I.laid (t':=tk) (o :=.lst (a.map V.int)) k l ⟨?_,e.toList,c,i,by simpa using f⟩,rfl,q _ a N m M⟩;rw [aB,m.length_eq,dX];lia
def rSumI(K:PySem.W.Frag):List V->Hp->VK->Prop:=λxs H Q => ∃(a:Addr) (ns:List Int),xs = [.ref a]/\SqL K H a (ns.map V.int)/\Q (.int ns.sum) H
theorem qLd(hh:X.A.handled=none):CallR X (.builtin "sum") (rSumI X.K):=by
 intro f s σ H b t Q I r h;obtain⟨a,c,rfl,j,q⟩:=h;obtain⟨u,rfl,k⟩:=vals1 r;cases k;obtain⟨d,l,m,_⟩:=I.list j;have g:=kL l;obtain⟨b,i⟩:=g.allInts.items;have e:s.heap.IsList a (intItems b):=i▸m.isList;refine sum_intListG hh e λv tk t' n=>?_;have o:c=b.toList.map (·.1):=by
  rw [<-nums_intItems,<-i];exact (show numsOf d.toArray.toList=c from g.numsOf).symm
 have p:preSum (numAt b) b.size=c.sum:=by rw [preSum_eq,cB (by simp),o]
 rw [p];exact⟨.int c.sum,H,I.kept (t':=tk) n,⟨t',rfl⟩,q⟩
end
theorem sumK{X:Cx}(K:PySem.W.Frag)(a:X.K=K)(hh:X.A.handled=none):CallR X (.builtin "sum") (rSumI K):=a▸qLd hh
def js(K:PySem.W.Frag):Sp:=λvs H Q _ => ∃(wa:Addr) (ws:List (List Blk)),vs = [.ref wa]/\Den K H (yF ws) (.ref wa)/\ws.length<=25/\(∀w∈ws,w.length<=12) /\ ∀(r:Int) (H':Hp),Ext [] H H'->Q (.int r) H'
def slimB(b:Blk):Blk:=⟨b.ds.take 2,b.ns⟩
def wq(ws:List (List Blk)):List (List Blk):=ws.take 1++(ws.drop 1).map λw=>w.map slimB
theorem ug(a:List (List Blk)):(wq a).length=a.length:=by unfold wq;simp;lia
theorem qWe{e:List (List Blk)}(h:WsOk e):WsOk (wq e):=by
 refine⟨λw f=>?_,by rw [ug];exact h.one,by rw [ug];exact h.few⟩;rw [ug];unfold wq at f;rcases aK.mp f with z | z
 ·exact h.all w (cX z)
 ·obtain⟨j,c,rfl⟩:=aW.mp z;obtain⟨m,k,l,g⟩:=h.all j (fJ c);refine⟨m,k,l,by rw [aB];exact g.len,λb n=>?_⟩;obtain⟨i,a,rfl⟩:=aW.mp n;have a:=g.blk i a;refine⟨a.ns,λd o=>a.ds d (cX o),?_⟩;show (i.ds.take 2).length<=20;rw [aN];lia
def Nex(H:Hp)(nd:Addr)(w:List Blk):Prop := ∃kvs:List (Key×V),H nd=some (.dK kvs) /\ ∀k:Int,0<=k->k<w.length -> ∃c,valV kvs (Sum.inl k)=some (.ref c)/\H c=some (.lst ((nxt w k).map V.int))
theorem Nex.mono{H b:Hp}{d:Addr}{w:List Blk}(h:Nex H d w)(e:Ext [] H b):Nex b d w:=by
 obtain⟨a,f,g⟩:=h;refine⟨a,e _ _ (by simp) f,λk i j=>?_⟩;obtain⟨c,l,m⟩:=g k i j;exact⟨c,l,e _ _ (by simp) m⟩
def qVi(K:PySem.W.Frag):Sp:=λvs H Q _ => ∃(st nd:Addr) (wk:List Blk) (m works:Int) (ss:List Int),vs = [.ref st,.ref nd]/\SqL K H st (ss.map V.int)/\Nex H nd wk/\WorkOk m works wk/\m<=12/\(∀s∈ss,0<=s/\s<m)/\ss.length<=500 /\
 ∀(d:Addr) (ks:List Int) (H':Hp),H d=none->Ext [] H H'->H' d=some (.dK (ks.map λk=>((Sum.inl k:Key),V.bl true)))->ks.Nodup->(∀x,x∈ks ↔ ∃s∈ss,Reach (nxt wk) s x)->Q (.ref d) H'
theorem jt(y:Int):∀a:List Int,valV (a.map λk=>((Sum.inl k:Key),V.bl true)) (Sum.inl y)=if y∈a then some (V.bl true) else none
 | []=>rfl
 | k::r=>by
  have b:=jt y r;by_cases e:k=y
  ·subst e;rw [bG,yh rfl,if_pos (aQ ..)]
  ·rw [bG,yi (λz=>e (Sum.inl.inj z)),b];have:(y∈k::r)↔y∈r:=by simp [dF e]
   simp only [this]
structure LedI(H:Hp)(st nd d du:Addr)(wk:List Blk)(ss:List Int)(ks due:List Int)(H':Hp):Prop where
 ext:Ext [] H H'
 hd:H' d=some (.dK (ks.map λk=>((Sum.inl k:Key),V.bl true)))
 hdu:H' du=some (.lst (due.map V.int))
 nod:ks.Nodup
 rk:∀x∈ks,∃s∈ss,Reach (nxt wk) s x
 rd:∀x∈due,∃s∈ss,Reach (nxt wk) s x
 clo:∀k∈ks,∀c∈nxt wk k,c∈ks\/c∈due
 one:∀s∈ss,s∈ks\/s∈due
 few:ks.length<=cnt (λx=>decide (x∈ks)) wk.length
 fewd:due.length<=500+2*cnt (λx=>decide (x∈ks)) wk.length
def LedW(H:Hp)(st nd d du:Addr)(wk:List Blk)(ss:List Int)(μ : Nat)(σ':St)(H':Hp):Prop := ∃(ks due:List Int) (o4:Option V),μ = (wk.length - cnt (λx=>decide (x∈ks)) wk.length)*3+due.length /\ σ' = [some (.ref st),some (.ref nd),some (.ref d),some (.ref du),o4]/\LedI H st nd d du wk ss ks due H'
theorem LedI.end_{H f:Hp}{st g d i:Addr}{a:List Blk}{b:List Int}{c:List Int}(h:LedI H st g d i a b c [] f)(x:Int):x∈c ↔ ∃s∈b,Reach (nxt a) s x:=by
 have key:∀s∈b,∀y,Reach (nxt a) s y->y∈c:=by
  intro s e y r
  induction r with
  | refl=>exact (h.one s e).elim id λz=>absurd z (by simp)
  | step _ j k=>exact (h.clo _ k _ j).elim id λz=>absurd z (by simp)
 exact⟨h.rk x,λ⟨s,e,r⟩=>key s e x r⟩
def ju(K:PySem.W.Frag):Sp:=λvs H Q E=>qVi K vs H Q E\/qVh K vs H Q E
def hasW(wk:List Blk)(x:Int)(i:Nat):Bool:=(wk[i]?).any λb=>wrote x b.ds
def wrTo(wk:List Blk)(x:Int)(i:Nat):List Int:=((List.range i).filter (hasW wk x)).map λ(n:Nat)=>(n:Int)
theorem qJf(a:List Blk)(x:Int)(i:Nat):wrTo a x (i+1)=if hasW a x i=true then wrTo a x i ++ [(i:Int)] else wrTo a x i:=by
 unfold wrTo;rw [eK,cA,cT,eL];split
 ·rw [aJ];rfl
 ·rw [cH]
theorem xf(a:List Blk)(x:Int)(i:Nat):(wrTo a x i).length<=i:=by
 unfold wrTo;rw [aB];have:=bC (hasW a x) (List.range i);rw [cO] at this;exact this
theorem qSt{a:List Blk}{x:Int}{i:Nat}{b:Blk}(h:a[i]? = some b):hasW a x i=wrote x b.ds:=by unfold hasW;rw [h];rfl
theorem mem_wrTo{c:List Blk}{x y:Int}{i:Nat}:y∈wrTo c x i ↔ ∃n:Nat,y=(n:Int)/\n<i/\hasW c x n=true:=by
 unfold wrTo;rw [aW];constructor
 ·rintro⟨n,d,rfl⟩;obtain⟨a,b⟩:=bQ.mp d;exact⟨n,rfl,bF.mp a,b⟩
 ·rintro⟨n,rfl,a,b⟩;exact⟨n,bQ.mpr ⟨bF.mpr a,b⟩,rfl⟩
def wO(K:PySem.W.Frag):Sp:=λvs H Q _ => ∃(wa:Addr) (wk:List Blk) (m works x:Int),vs = [.ref wa,.int x]/\Den K H (workD wk) (.ref wa)/\WorkOk m works wk/\m<=12 /\
 ∀(l:Addr) (H':Hp),H l=none->Ext [] H H'->H' l=some (.lst ((wrTo wk x wk.length).map V.int))->Q (.ref l) H'
noncomputable def waitTo(ws:List (List Blk))(x:Int)(n i:Nat):List Int:=((List.range i).filter λ(a:Nat)=>askB ws x ((n:Int),(a:Int))).map λ(a:Nat)=>(a:Int)
theorem qGi(a:List (List Blk))(x:Int)(n i:Nat):waitTo a x n (i+1)=if askB a x ((n:Int),(i:Int))=true then waitTo a x n i ++ [(i:Int)] else waitTo a x n i:=by
 unfold waitTo;rw [eK,cA,cT,eL];split
 ·rw [aJ];rfl
 ·rw [cH]
theorem qOg(b:List (List Blk))(x:Int)(n i:Nat):(waitTo b x n i).length<=i:=by
 unfold waitTo;rw [aB];have:=bC (λa:Nat=>askB b x ((n:Int),(a:Int))) (List.range i);rw [cO] at this;exact this
def qJt(K:PySem.W.Frag):Sp:=λvs H Q _ => ∃(wa:Addr) (ws:List (List Blk)) (n:Nat) (wk:List Blk) (x:Int),vs = [.ref wa,.int n,.int x]/\Den K H (yF ws) (.ref wa)/\WsOk ws/\ws[n]? = some wk /\
 ∀(l:Addr) (H':Hp),H l=none->Ext [] H H'->H' l=some (.lst ((waitTo ws x n wk.length).map V.int))->Q (.ref l) H'
def yp(wk:List Blk)(x:Int):List Int:=(wrTo wk x wk.length).flatMap (nxt wk)
theorem vi{α β : Type}(f : α -> List β)(h:∀a,(f a).length<=2):∀l:List α,(l.flatMap f).length<=2*l.length
 | []=>aF _
 | a::r=>by
  have:=vi f h r;have:=h a;rw [gD,aI,bY];lia
def qJm(K:PySem.W.Frag):Sp:=λvs H Q _ => ∃(wa:Addr) (ws:List (List Blk)) (n:Nat) (wk:List Blk) (x:Int),vs = [.ref wa,.int n,.int x]/\Den K H (yF ws) (.ref wa)/\WsOk ws/\ws[n]? = some wk /\
 ∀(l:Addr) (ns:List Int) (H':Hp),H l=none->Ext [] H H'->H' l=some (.lst (ns.map V.int))->ns.Pairwise (· <= ·)->ns.Nodup->(∀y,y∈ns ↔ ∃s∈yp wk x,Reach (nxt wk) s y)->Q (.ref l) H'
def grow(nx:Int->List Int)(F:List Int)(b:Int):List Int:=F++(nx b).filter λx => !decide (x∈F)
structure BehI(nx:Int->List Int)(ss:List Int)(m:Nat)(F:List Int):Prop where
 sub:∀s∈ss,s∈F
 rk:∀x∈F,∃s∈ss,Reach nx s x
 len:F.length<=ss.length+2*cnt (λx=>decide (x∈F)) m
theorem BehI.start(nx:Int->List Int)(a:List Int)(m:Nat):BehI nx a m a:=⟨λ_ h=>h,λx h=>⟨x,h,.refl⟩,Nat.le_add_right _ _⟩
theorem mem_grow{nx:Int->List Int}{F:List Int}{b x:Int}:x∈grow nx F b↔x∈F\/x∈nx b:=by
 unfold grow;rw [aK,bQ];by_cases h:x∈F <;> simp [h]
theorem BehI.grow{nx:Int->List Int}{f F:List Int}{m:Nat}{b:Int}(h:BehI nx f m F)(k:b∈F)(few:∀x,(nx x).length<=2)(l:∀x,(∃s∈f,Reach nx s x)->0<=x/\x<(m:Int)):BehI nx f m (grow nx F b):=by
 refine⟨λs a=>mem_grow.mpr (.inl (h.sub s a)),λx n=>?_,?_⟩
 ·rcases mem_grow.mp n with z | z
  ·exact h.rk x z
  ·obtain⟨s,a,r⟩:=h.rk b k;exact⟨s,a,.step r z⟩
 ·have o:=h.len;by_cases e:(nx b).filter (λx => !decide (x∈F)) = []
  ·have:L2.grow nx F b=F:=by unfold L2.grow;rw [e,cH]
   rw [this];exact o
  ·obtain⟨y,t⟩:=gK _ e;obtain⟨c,g⟩:=bQ.mp t;have j:y∉F:=by simpa using g
   obtain⟨s,a,r⟩:=h.rk b k;have d:=l y ⟨s,a,.step r c⟩;have u:=uT (p:=λx=>decide (x∈F)) (q:=λx=>decide (x∈L2.grow nx F b)) (x:=y) (λi v=>decide_eq_true (mem_grow.mpr (.inl (of_decide_eq_true v)))) (decide_eq_true (mem_grow.mpr (.inr c))) (decide_eq_false j) m d.1 d.2;have w:=bC (λx => !decide (x∈F)) (nx b);have A:=few b;have:(L2.grow nx F b).length=F.length+((nx b).filter λx => !decide (x∈F)).length:=by unfold L2.grow;rw [aI]
   lia
def Lays(nx:Int->List Int)(ss:List Int)(t:Nat)(F:List Int):Prop := ∀s∈ss,∀j,j<=t -> ∀x∈(lay nx s j).2,x∈F
theorem Lays.zero{nx:Int->List Int}{a F:List Int}(h:∀s∈a,s∈F):Lays nx a 0 F:=λs b j d x c=>by
 have:j=0:=by lia
 subst this;have:x=s:=by simpa [lay] using c
 rw [this];exact h s b
theorem Lays.succ{nx:Int->List Int}{d F G:List Int}{t:Nat}(h:Lays nx d t F)(i:∀x∈F,x∈G)(k:∀b∈F,∀c∈nx b,c∈G):Lays nx d (t+1) G:=λs f j m x g=>by
 by_cases e:j=t+1
 ·subst e;obtain⟨⟨b,l,a⟩,_⟩:=lay_further.mp g;exact k b (h s f t (aF _) b l) x a
 ·exact i x (h s f j (by lia) x g)
theorem Lays.all{nx:Int->List Int}{a F:List Int}{m:Nat}(h:Lays nx a m F)(I:BehI nx a m F)(c:∀x,(∃s∈a,Reach nx s x)->0<=x/\x<(m:Int))(x:Int):x∈F ↔ ∃s∈a,Reach nx s x:=by
 refine⟨I.rk x,λ⟨s,b,r⟩=>?_⟩;obtain⟨j,d,e⟩:=qXj (m:=m) (λy i f=>c y ⟨s,b,Qy f⟩) r;exact h s b j d x e
def qN3(K:PySem.W.Frag):Sp:=λvs H Q _ => ∃(wa:Addr) (wk:List Blk) (m works x:Int),vs = [.ref wa,.int x]/\Den K H (workD wk) (.ref wa)/\WorkOk m works wk/\m<=12 /\
 ∀(l:Addr) (ns:List Int) (H':Hp),H l=none->Ext [] H H'->H' l=some (.lst (ns.map V.int))->ns.Pairwise (· <= ·)->ns.Nodup->(∀y,y∈ns ↔ ∃s∈yp wk x,Reach (nxt wk) s y)->Q (.ref l) H'
mutual
def noI:PyData->Bool
 | .list ds=>noIs ds&&(match ds with | .int _::_=>false | _=>true)
 | .tuple ds=>noIs ds
 | _=>true
def noIs:List PyData->Bool
 | []=>true
 | d::ds=>noI d&&noIs ds
end
theorem uh{α : Type}{f : α -> PyData}:∀ {l:List α},(∀a∈l,noI (f a)=true)->noIs (l.map f)=true
 | [],_=>rfl
 | a::l,h=>by
  simp only [bG,noIs,aO];exact⟨h a (aQ ..),uh λb c=>h b (aP _ c)⟩
theorem qUr(d:Deed):noI (deedD d)=true:=by cases d <;> rfl
theorem qXg(ns:List Int):noI (endD ns)=true:=by
 match ns with
 | []=>rfl
 | [x]=>rfl
 | x::y::_=>rfl
theorem qXh(b:Blk):noI (blkD b)=true:=by
 simp only [blkD,noI,noIs,qXg,Bool.and_true,aO];refine⟨uh λd _=>qUr d,?_⟩;cases b.ds with
 | nil=>rfl
 | cons d ds=>cases d <;> rfl
theorem qUq(w:List Blk):noI (workD w)=true:=by
 simp only [workD,noI,aO];refine⟨uh λd _=>qXh d,?_⟩;cases w <;> rfl
theorem qS4(a:List (List Blk)):noI (yF a)=true:=by
 simp only [yF,noI,aO];refine⟨uh λd _=>qUq d,?_⟩;cases a <;> rfl
theorem vj:∀ {ns:List Int} {lo hi:Int},ns.Pairwise (· <= ·)->ns.Nodup->(∀n∈ns,lo<=n/\n<hi)->(ns.length:Int)<=max 0 (hi - lo)
 | [],_,_,_,_,_=>by simp;lia
 | n::r,lo,hi,j,k,i=>by
  obtain⟨d,e⟩:=List.pairwise_cons.mp j;obtain⟨f,g⟩:=dA.mp k;have l:=i n (aQ ..);have:=vj (ns:=r) (lo:=n+1) (hi:=hi) e g λm h=>by
   have a:=d m h;have b:=i m (aP _ h);have c:m≠n:=λz=>f (z▸h);lia
  rw [bY];lia
def lcg(M i:Nat):Nat:=(i*5+1)%M
def orb(M:Nat):Nat->Nat->Nat
 | 0,i=>i
 | j+1,i=>orb M j (lcg M i)
theorem qNj(M:Nat):∀j i,orb M (j+1) i=lcg M (orb M j i)
 | 0,_=>rfl
 | j+1,i=>qNj M j (lcg M i)
theorem ui(M a:Nat):∀b i,orb M (a+b) i=orb M b (orb M a i)
 | 0,_=>rfl
 | b+1,i=>by
  show orb M (a+b) (lcg M i)=orb M b (lcg M (orb M a i));rw [ui M a b (lcg M i),<-qNj];rfl
def Cyc(M:Nat):Bool:=((List.range M).all λx=>(List.range M).any λj=>orb M j 0 == x)&&(orb M M 0 == 0)
theorem Cyc.from{M:Nat}(h:Cyc M=true){i x:Nat}(hi:i<M)(l:x<M):∃j,j<M/\orb M j i=x:=by
 unfold Cyc at h;rw [aO,bO] at h;obtain⟨f,e⟩:=h;have e:=beq_iff_eq.mp e;obtain⟨a,g,c⟩:=dE.mp (f i (bF.mpr hi));obtain⟨b,k,d⟩:=dE.mp (f x (bF.mpr l));have g:=bF.mp g;have k:=bF.mp k;have c:=beq_iff_eq.mp c;have d:=beq_iff_eq.mp d;by_cases m:a<=b
 ·refine⟨b - a,by lia,?_⟩;rw [<-c,<-ui,show a+(b - a)=b by lia];exact d
 ·refine⟨M+b - a,by lia,?_⟩;rw [<-c,<-ui,show a+(M+b - a)=M+b by lia,ui,e];exact d
def pows:List Nat :=[8,16,32,64,128]
theorem qV3:∀M∈pows,Cyc M=true:=by decide +kernel
theorem qKz{a:Nat}{owner:Array (Option Nat)}(e:owner.size=a+1):∀(fuel i p:Nat),p<32->i<a+1 ->
  (∃j,SetTable.layClean.free a owner fuel i p=some j/\j<a+1/\owner[j]? = some none)\/(∀j,j<fuel -> ∃v,owner[orb (a+1) j i]? = some (some v))
 | 0,_,_,_,_ =>.inr λj d=>absurd d (Nat.not_lt_zero _)
 | fuel+1,i,p,l,m=>by
  unfold SetTable.layClean.free;have f:i<=SetTable.runEnd a i/\SetTable.runEnd a i<=a:=by unfold SetTable.runEnd;split <;> lia
  cases hf:(List.range (SetTable.runEnd a i+1 - i)).find? λk=>(owner.getD (i+k) (some 0)).isNone with
  | some k =>
   have c:=List.find?_some hf;have n:=bF.mp (List.mem_of_find?_eq_some hf);have b:i+k<owner.size:=by lia
   refine .inl ⟨i+k,rfl,by lia,?_⟩;rw [dC,bK b] at c;rw [bK b];have c:(owner[i+k]).isNone=true:=c;rw [Option.isNone_iff_eq_none.mp c]
  | none =>
   dsimp only;have g:SetTable.leap a i p=(lcg (a+1) i,0):=by
    unfold SetTable.leap lcg;rw [show p / 32=0 by lia]
   rw [g];dsimp only;rcases qKz e fuel (lcg (a+1) i) 0 (by lia) (Nat.mod_lt _ (by lia)) with z | z
   ·exact .inl z
   ·refine .inr λj d=>?_;cases j with
    | zero =>
     have:=List.find?_eq_none.mp hf 0 (bF.mpr (by lia));have b:i<owner.size:=by lia
     rw [Nat.add_zero,dC,bK b] at this;show ∃v,owner[i]? = some (some v);rw [bK b];have this : ¬(owner[i]).isNone=true:=this;cases h:owner[i] with
     | none=>rw [h] at this;exact absurd rfl this
     | some v=>exact⟨v,rfl⟩
    | succ j=>exact z j (by lia)
theorem qJw{k:Nat}:∀ {l:List (Option Nat)} {j:Nat},l[j]? = some none->((l.set j (some k)).filterMap id).Perm (k::l.filterMap id)
 | [],j,h=>by simp at h
 | a::l,0,h=>by
  simp at h;subst h;exact .refl _
 | a::l,j+1,h=>by
  have b:=qJw (k:=k) (l:=l) (j:=j) (by simpa using h);rw [List.set_cons_succ];cases a with
  | none=>exact b
  | some v =>
   show (v::(l.set j (some k)).filterMap id).Perm (k::v::l.filterMap id);exact (List.Perm.cons v b).trans (List.Perm.swap ..)
theorem qJx:∀l:List (Option Nat),(∀j,j<l.length -> ∃v,l[j]? = some (some v))->(l.filterMap id).length=l.length
 | [],_=>rfl
 | a::l,h=>by
  obtain⟨v,b⟩:=h 0 (by simp);simp at b;subst b;show (v::l.filterMap id).length=_;rw [bY,bY,qJx l λj c=>by simpa using h (j+1) (by simpa using c)]
theorem qPg{h:Int}(a:0<=h)(b:h<32):SetTable.bits h<32:=by unfold SetTable.bits;lia
theorem qVw{a:Nat}(p:a+1∈pows):∀(hs:List Int) (owner:Array (Option Nat)) (k:Nat),(∀h∈hs,0<=h/\h<32)->owner.size=a+1->(owner.toList.filterMap id).Perm (List.range k)->k+hs.length<=a ->
  ∃f,(hs.foldl (λacc h=>(do
   let (owner,k) <-acc
   let j <-SetTable.layClean.free a owner (SetTable.turns a) (SetTable.bits h%(a+1)) (SetTable.bits h)
   pure (owner.setIfInBounds j (some k),k+1):Option (Array (Option Nat)×Nat))) (some (owner,k)))=some (f,k+hs.length)/\f.size=a+1/\(f.toList.filterMap id).Perm (List.range (k+hs.length))
 | [],owner,k,_,d,l,_=>⟨owner,rfl,d,l⟩
 | h::hs,owner,k,q,d,l,t=>by
  obtain⟨u,w⟩:=q h (aQ ..);rw [bY] at t;have b:∃j,SetTable.layClean.free a owner (SetTable.turns a) (SetTable.bits h%(a+1)) (SetTable.bits h)=some j/\j<a+1/\owner[j]? = some none:=by
   rcases qKz d (SetTable.turns a) (SetTable.bits h%(a+1)) (SetTable.bits h) (qPg u w) (Nat.mod_lt _ (by lia)) with z | z
   ·exact z
   ·exfalso;have g:∀j,j<owner.toList.length -> ∃v,owner.toList[j]? = some (some v):=λx m=>by
     rw [aU,d] at m;obtain⟨j,r,e⟩:=Cyc.from (qV3 _ p) (i:=SetTable.bits h%(a+1)) (Nat.mod_lt _ (by lia)) m;obtain⟨v,s⟩:=z j (by unfold SetTable.turns;lia);rw [e] at s;exact⟨v,by rw [bE];exact s⟩
    have y:=qJx _ g;have A:=l.length_eq;rw [cO,y,aU,d] at A;lia
  obtain⟨j,r,B,n⟩:=b
  have c:((do
   let (owner,k) <-some (owner,k)
   let j <-SetTable.layClean.free a owner (SetTable.turns a) (SetTable.bits h%(a+1)) (SetTable.bits h)
   pure (owner.setIfInBounds j (some k),k+1)):Option (Array (Option Nat)×Nat))=some (owner.setIfInBounds j (some k),k+1):=by
   show (SetTable.layClean.free a owner (SetTable.turns a) (SetTable.bits h%(a+1)) (SetTable.bits h)).bind _=_;rw [r];rfl
  have o:((owner.setIfInBounds j (some k)).toList.filterMap id).Perm (List.range (k+1)):=by
   rw [Array.toList_setIfInBounds];refine (qJw (by rw [bE];exact n)).trans ?_;rw [eK];exact (List.Perm.cons k l).trans (List.perm_append_singleton k _).symm
  obtain⟨f,e,C,D⟩:=qVw p hs (owner.setIfInBounds j (some k)) (k+1) (λx m=>q x (aP _ m)) (by rw [Array.size_setIfInBounds];exact d) o (by lia);refine⟨f,?_,C,by rw [bY,show k+(hs.length+1)=k+1+hs.length by lia];exact D⟩;rw [List.foldl_cons,c,e,bY,show k+(hs.length+1)=k+1+hs.length by lia]
theorem qEr{α : Type}:∀n:Nat,((List.replicate n (none:Option α)).filterMap id) = []
 | 0=>rfl
 | n+1=>by rw [List.replicate_succ];exact qEr n
theorem qMd{a:Nat}(f:a+1∈pows){b:Array Int}(hh:∀h∈b.toList,0<=h/\h<32)(i:b.size<=a):∃c,SetTable.layClean a b=some c/\c.size=a+1/\(c.toList.filterMap id).Perm (List.range b.size):=by
 obtain⟨c,e,g,d⟩:=qVw f b.toList (Array.replicate (a+1) none) 0 hh (by simp) (by rw [Array.toList_replicate,qEr];exact .refl _) (by rw [aU];lia);rw [aU,Nat.zero_add] at d;refine⟨c,?_,g,d⟩;unfold SetTable.layClean;rw [<-Array.foldl_toList,e];rfl
theorem qNq(L:List (Option Nat)):∀n,n<=L.length->(((List.range n).filterMap λj=>(L.getD j none).map (j,·)).map (·.2))=(L.take n).filterMap id
 | 0,_=>by simp
 | n+1,h=>by
  have b:=qNq L n (by lia);rw [eK,dL,aJ,b,List.take_succ,dL]
  congr 1
  have a:n<L.length:=by lia
  rw [aD a];have:L.getD n none=L[n]:=by rw [cJ,aD a];rfl
  rw [bW,this];cases L[n] <;> rfl
theorem qSb{owner:Array (Option Nat)}{n:Nat}:(((List.range n).filterMap λj=>(owner.getD j none).map (j,·)).map (·.1)).Pairwise (· < ·):=by
 have b:∀l:List Nat,((l.filterMap λj=>(owner.getD j none).map (j,·)).map (·.1)).Sublist l:=by
  intro l
  induction l with
  | nil=>exact .slnil
  | cons a r c =>
   rw [bW];cases owner.getD a none with
   | none=>exact c.cons _
   | some k=>exact c.cons₂ a
 exact List.Pairwise.sublist (b _) dU
theorem qSe{a finger moves:Nat}{led plain:Bool}(m:a+1∈pows){c:Array Int}(hh:∀h∈c.toList,0<=h/\h<32)(g:c.size<=a):∃t order,SetTable.laid a finger moves led plain c=some (t,order)/\order.toList.Perm (List.range c.size)/\GoodT led t c.size/\t.mask=a/\t.dummies = #[]:=by
 obtain⟨d,e,i,k⟩:=qMd m hh g;have b:=qNq d.toList (a+1) (by rw [aU,i];exact aF _);rw [cB (by rw [aU,i];exact aF _)] at b;have l:(λj=>(d.getD j none).map (j,·))=λj=>(d.toList.getD j none).map ((j:Nat),·):=by
  funext j
  rw [dC,cJ,bE]
 have f:((List.range (a+1)).filterMap λj=>(d.getD j none).map (j,·)).length=c.size:=by
  have:=congrArg List.length b;rw [aB,<-l] at this;rw [this,k.length_eq,cO]
 refine⟨_,_,by unfold SetTable.laid;rw [e];rfl,?_,⟨?_,?_,rfl⟩,rfl,rfl⟩
 ·rw [l];show List.Perm (((List.range (a+1)).filterMap λj=>(d.toList.getD j none).map (j,·)).map (·.2)) _;rw [b];exact k
 ·unfold SetTable.fits SetTable.fill;simp only [aR,aB,f];simp;exact g
 ·exact qSb
theorem jv{es:Array (Int×Value)}{order:Array Nat}(h:order.toList.Perm (List.range es.size)):(order.filterMap (es[·]?)).toList.Perm es.toList:=by
 have a:(order.filterMap (es[·]?)).toList=order.toList.filterMap (es[·]?):=by rw [Array.toList_filterMap]
 rw [a];refine (h.filterMap _).trans ?_;have b:∀n,n<=es.size->(List.range n).filterMap (es[·]?)=es.toList.take n:=by
  intro n
  induction n with
  | zero=>intro _;simp
  | succ n c =>
   intro d;rw [eK,dL,c (by lia),List.take_succ]
   congr 1
   rw [bW,fV,bE,bK (by lia)];rfl
 rw [b es.size (aF _),cB (by rw [aU];exact aF _)]
theorem qMs:∀n,n<128->SetTable.sizeAbove n∈pows/\n<SetTable.sizeAbove n:=by decide +kernel
section
variable{P:Program}{w:World}{A:Around}{E:Value->Shared->Prop}{s:Shared}
theorem qV7{a:Addr}{ns:List Int}{n:Int}{tk:Tok}{Q:Bool->Shared->Prop}(S:SetI w s.heap a ns)(N:ns.length+1<scanBound)(h:∀h',Heap.SameBut a s.heap h'->SetI w h' a (addN ns n)->Q (!decide (n∈ns)) { s with heap:=h' }):wpAny (model P w) A (setAddHashed a (.int n tk) (hashInt n)) Q E s:=by
 show wpAny (model P w) A (setAddHashed a (.int n tk) ((intKind P w).hash n)) Q E s;obtain⟨o,u,X,t,y,p,B,f,C,O,T,g⟩:=S;have U:u.size=ns.length:=by rw [<-C.length_eq,aB,aU]
 have v:=EI.elems (P:=P) (w:=w) f;have D:=intKind_is P w n tk;unfold setAddHashed setAddHashedIn;refine bM (aA (dZ y B g.fits ?_));dsimp only;rw [byScan_of (knd:=intKind P w) (x :=.int n tk) rfl T v];simp only [↓reduceIte];unfold setAddByScan;refine aA (aA (cV (aA (wpAny_setScan_of (knd:=intKind P w) (k:=n) D y B g.fits v ?_))));cases V:List.findIdx? (λe=>(intKind P w).is n e.2) u.toList with
 | some j =>
  dsimp only;obtain⟨Y,R,_⟩:=List.findIdx?_eq_some_iff_getElem.mp V;have F:n∈ns:=C.mem_iff.mp ((uV (P:=P) (w:=w) f n).mpr ⟨_,cL Y,R⟩);refine aC (aC ?_);have q:=h s.heap (fO a s.heap) ⟨o,u,X,t,y,p,B,f,by unfold addN;rw [if_pos F];exact C,xn O,T,g⟩;rw [decide_eq_true F] at q;exact q
 | none =>
  dsimp only;have F:n∉ns:=λz=>by
   obtain⟨e,v,q⟩:=(uV (P:=P) (w:=w) f n).mp (C.mem_iff.mpr z);have:=gM.mp V e v;rw [q] at this;cases this
  have G:∀(b:Bool) {c : Shared} {l:Unit->Shared->Prop},l () c -> wpAny (model P w) A (match b with | true=>rule "set.scan.the-table-gave-way" | false=>pure ()) l E c :=λb c l i=>by
   cases b
   ·exact aC i
   ·exact cV i
  have d:=layNew_perm t u ((intKind P w).hash n) (.int n tk);have H:=qGx (h:=(intKind P w).hash n) (x :=.int n tk) g;generalize layNew t u ((intKind P w).hash n) (.int n tk)=L at d H ⊢;obtain⟨r,t1,wd,W⟩:=L;dsimp only at d H ⊢;rw [gB] at d;have m:∀e∈r.toList,EI e:=λe v=>by
   rcases aK.mp (d.mem_iff.mp v) with z | z
   ·exact f e z
   ·rw [aH] at z;exact⟨n,tk,z⟩
  have Z:r.size=u.size+1:=by rw [<-aU,d.length_eq,aI,aU];rfl
  have I:(r.toList.map keyI).Perm (addN ns n):=by
   unfold addN;rw [if_neg F];refine (d.map keyI).trans ?_;rw [aJ];exact C.append_right _
  have J:∀h',Heap.SameBut a s.heap h'->SetI w h' a (addN ns n)->Q true { s with heap:=h' }:=λh' K M=>by
   have q:=h h' K M;rw [decide_eq_false F] at q;exact q
  refine aA (G _ ?_);have a0:∀(b:Bool) (c : Shared) (l:Unit->Shared->Prop),l () c -> wpAny (model P w) A (match b with | true=>rule "set.scan.the-table-gave-way" | false=>pure ()) l E c :=λb c l i=>G b i;split
  ·refine aA ?_;rw [hashByValue_scannable 8 (x :=.int n tk) rfl];refine aC ?_;refine uW (λb c l i=>?_) y p B m I (xn O) (by lia) ?_ (λh' K M=>?_)
   ·cases b
    ·exact aC i
    ·exact cV i
   ·split
    ·exact H
    ·exact H.plainOff
   ·dsimp only;exact aC (J h' K M)
  ·refine aA (aC ?_);simp only [↓reduceIte];refine uW (λb c l i=>?_) y p B m I (xn O) (by lia) H (λh' K M=>?_)
   ·cases b
    ·exact aC i
    ·exact cV i
   ·dsimp only;exact aC (J h' K M)
def SetT(w:World)(h:Heap)(a:Addr)(ns:List Int)(es:Array (Int×Value))(ep:Nat)(t:SetTable):Prop :=
 ∃o,h.get? a=some o/\o.ExactSet/\o.data = .set es ep t/\(∀e∈es.toList,EI e)/\(es.toList.map keyI).Perm ns/\ns.Nodup/\es.size<scanBound/\GoodT (!yA w) t es.size
theorem SetI.table{w:World}{h:Heap}{a:Addr}{ns:List Int}(S:SetI w h a ns):∃es ep t,SetT w h a ns es ep t:=by
 obtain⟨o,es,ep,t,r⟩:=S;exact⟨es,ep,t,o,r⟩
theorem SetT.setI{w:World}{h:Heap}{a:Addr}{ns:List Int}{es:Array (Int×Value)}{ep:Nat}{t:SetTable}(S:SetT w h a ns es ep t):SetI w h a ns:=by
 obtain⟨o,r⟩:=S;exact⟨o,es,ep,t,r⟩
theorem SetT.stay{w:World}{h h':Heap}{a:Addr}{ns:List Int}{es:Array (Int×Value)}{ep:Nat}{t:SetTable}(S:SetT w h a ns es ep t)(k:∀o,h.get? a=some o->h'.get? a=some o):SetT w h' a ns es ep t:=by
 obtain⟨o,e,r⟩:=S;exact⟨o,k o e,r⟩
theorem SetT.len{w:World}{h:Heap}{a:Addr}{ns:List Int}{es:Array (Int×Value)}{ep:Nat}{t:SetTable}(S:SetT w h a ns es ep t):es.size=ns.length:=by
 obtain⟨o,_,_,_,_,p,_⟩:=S;rw [<-p.length_eq,aB,aU]
theorem SetT.state{a:Addr}{ns:List Int}{es:Array (Int×Value)}{ep:Nat}{t:SetTable}{Q:(Array (Int×Value)×Nat×SetTable)->Shared->Prop}(S:SetT w s.heap a ns es ep t)(q:Q (es,ep,t) s):wpAny (model P w) A (setState a) Q E s:=by
 obtain⟨o,b,_,c,_,_,_,_,g⟩:=S;exact dZ b c g.fits q
theorem SetT.put{a:Addr}{ns ms:List Int}{es es':Array (Int×Value)}{ep:Nat}{t t':SetTable}{Q:Unit->Shared->Prop}(S:SetT w s.heap a ns es ep t)(b:∀e∈es'.toList,EI e)(j:(es'.toList.map keyI).Perm ms)(k:ms.Nodup)(f:es'.size<scanBound)(g:GoodT (!yA w) t' es'.size)(q:∀h',Heap.SameBut a s.heap h'->SetT w h' a ms es' (ep+1) t'->Q () { s with heap:=h' }):wpAny (model P w) A (storeSet a es' t') Q E s:=by
 obtain⟨o,h,c,d,_⟩:=S;refine wpAny_storeSet_of h d ?_ (gA f);have i:=bZ (Obj.putSet es' t') h (by rw [putSet_of es' t' d];rfl);rw [putSet_of es' t' d] at i;exact q _ (bR s.heap a (Obj.putSet es' t')) ⟨_,i,c,rfl,b,j,k,f,g⟩
def Small(ns:List Int):Prop := ∀n∈ns,0<=n/\n<32
theorem qP8{n:Int}(a:0<=n)(b:n<32):hashInt n=n:=by
 have:∀k:Fin 32,hashInt (k.1:Int)=(k.1:Int):=by decide +kernel
 have:=this ⟨n.toNat,by lia⟩;simpa [gT a] using this
theorem qFx{es:Array (Int×Value)}{ns:List Int}(a:∀e∈es.toList,EI e)(f:(es.toList.map keyI).Perm ns)(g:Small ns):∀h∈(es.map (·.1)).toList,0<=h/\h<32:=by
 intro h c;rw [Array.toList_map] at c;obtain⟨e,d,rfl⟩:=aW.mp c;obtain⟨n,t,rfl⟩:=a e d;have b:=g n (f.mem_iff.mp (aW.mpr ⟨_,d,rfl⟩));have:hashInt n=n:=by
  exact qP8 b.1 b.2
 show 0<=hashInt n/\hashInt n<32;rw [this];exact b
theorem reord{es:Array (Int×Value)}{t:SetTable}{order:Array Nat}{laid:Option (SetTable×Array Nat)}{Q:(Array (Int×Value)×SetTable)->Shared->Prop}(b:laid=some (t,order))(c:order.toList.Perm (List.range es.size))(q:Q (order.filterMap (es[·]?),t) s):wpAny (model P w) A (do
   let some (t,order):=laid | unsupported "internal:set-table-without-room"
   let a:=order.filterMap (es[·]?)
   if a.size != es.size then unsupported "internal:set-table-lost-an-element"
   pure (a,t)) Q E s:=by
 subst b;dsimp only;have d:(order.filterMap (es[·]?)).size=es.size:=by rw [<-aU,(jv c).length_eq,aU]
 rw [d];simp only [bne_self_eq_false,dQ,if_false];exact aC q
theorem qY5{a:Addr}{ns:List Int}{es:Array (Int×Value)}{ep b:Nat}{t:SetTable}{Q:Unit->Shared->Prop}(S:SetT w s.heap a ns es ep t)(r:Small ns)(hw:b<128)(G:ns.length<=b)(q:∀h' es' t',Heap.SameBut a s.heap h'->SetT w h' a ns es' (ep+1) t'->t'.mask+1∈pows->b<=t'.mask->Q () { s with heap:=h' }):wpAny (model P w) A (setRelay a b) Q E s:=by
 obtain⟨i,H⟩:=qMs b hw;have u:SetTable.sizeAbove b<=128:=by
  have:∀M∈pows,M<=128:=by decide
  exact this _ i
 have j:=S.len;obtain⟨o,I,v,J,d,k,y,f,g⟩:=id S;unfold setRelay;refine aA (S.state ?_);dsimp only;rw [if_neg (by rw [dX];lia)];have l:SetTable.sizeAbove b - 1+1∈pows:=by rw [show SetTable.sizeAbove b - 1+1=SetTable.sizeAbove b by lia];exact i
 obtain⟨t',order,z,h,m,n,K⟩:=qSe (finger:=t.finger) (moves:=t.movedTo (SetTable.sizeAbove b - 1)) (led:=t.led) (plain:=t.plain) l (qFx d k r) (by rw [Array.size_map];lia);rw [Array.size_map] at h m;refine aA (reord (es:=es) (laid:=t.relaid (es.map λ(x:Int×Value)=>x.1) b) (t:=t') (order:=order) z h ?_);dsimp only;have c:=jv h;have p:(order.filterMap (es[·]?)).size=es.size:=by rw [<-aU,c.length_eq,aU]
 have B:GoodT (!yA w) t' (order.filterMap (es[·]?)).size:=by rw [p,<-g.led];exact m
 refine S.put (es':=order.filterMap (es[·]?)) (t':=t') (ms:=ns) (λe C=>d e (c.mem_iff.mp C)) ((c.map keyI).trans k) y (by rw [p];exact f) B λh' D F=>q h' _ t' D F (by rw [n];exact l) (by rw [n];lia)
end
section
variable{P:Program}{w:World}{A:Around}{E:Value->Shared->Prop}{s:Shared}
theorem roomI{a:Addr}{ns:List Int}{es:Array (Int×Value)}{ep more:Nat}{t:SetTable}{Q:Unit->Shared->Prop}(S:SetT w s.heap a ns es ep t)(e:Small ns)(l:ns.length+more<=60)(f:t.fill=0->t.mask+1∈pows)(q:∀h' es' b t',Heap.SameBut a s.heap h'->SetT w h' a ns es' b t'->(t'.fill=0->t'.mask+1∈pows/\more<=t'.mask)->Q () { s with heap:=h' }):wpAny (model P w) A (setRoomFor a more) Q E s:=by
 have c:=S.len;have m:t.place.size=es.size:=by obtain⟨o,_,_,_,_,_,_,_,g⟩:=S;exact uZ g.fits
 unfold setRoomFor;refine aA (S.state ?_);dsimp only;unfold SetTable.roomFor;by_cases d:(t.fill+more)*5>=t.mask*3
 ·rw [if_pos d];dsimp only;exact qY5 S e (by lia) (by lia) λh' es' t' h i j n=>q h' es' _ t' h i λ_=>⟨j,by lia⟩
 ·rw [if_neg d];dsimp only;exact aC (q s.heap es ep t (fO a s.heap) S λk=>⟨f k,by lia⟩)
theorem walkI{a:Addr}{ns:List Int}{es:Array (Int×Value)}{ep:Nat}{t:SetTable}{Q:Array (Int×Value)->Shared->Prop}(S:SetT w s.heap a ns es ep t)(q:∀c d,c.toList.Perm es.toList->Q c { s with drawn:=d }):wpAny (model P w) A (setWalk a) Q E s:=by
 obtain⟨o,k,h,l,i,m,n,j,g⟩:=id S;unfold setWalk;refine aA (S.state ?_);dsimp only;unfold setsByText;refine aA (aA (cU (aC ?_)));show wpAny _ _ (if w.params.followText "set-order" = true then _ else _) _ _ _;cases b:yA w with
 | true =>
  rw [if_pos (show (w.params.followText "set-order")=true from b)];refine aA (cU (aC ?_));exact q _ s.drawn (qK9 _ _)
 | false =>
  rw [if_neg (show ¬(w.params.followText "set-order")=true from λz=>by rw [show (w.params.followText "set-order")=false from b] at z;cases z)];have e:t.led=true:=by rw [g.led,b];rfl
  split
  ·refine aA ?_;rw [<-aU];refine ja es.toList λp d f=>aC (q _ d f)
  ·refine aA ?_;show wpAny _ _ (if (!t.led&&decide (es.size>1))=true then unsupported "set:maker-not-led" else pure PUnit.unit) _ _ _;rw [if_neg (by rw [e];simp)];exact aC (aC (q es s.drawn (.refl _)))
theorem qYq{a b:Addr}{ns ms:List Int}{es p:Array (Int×Value)}{ep r:Nat}{t u:SetTable}{Q:Bool->Shared->Prop}(S:SetT w s.heap a ns es ep t)(O:SetT w s.heap b ms p r u)(q:Q true s):wpAny (model P w) A (setsQuiet [a,b]) Q E s:=by
 unfold setsQuiet;refine aA (wpAny_forIn_list _ (λrest c j=>j=s/\c.1=none /\ ∀x∈rest,∃ns es ep t,SetT w s.heap x ns es ep t) _ ?_ ?_ _ _ ?_)
 ·rintro x rest I j ⟨rfl,f,d⟩;obtain⟨ns,es,ep,t,v⟩:=d x (aQ ..);obtain⟨o,B,C,D,k,J,K,F,g⟩:=id v;refine aA (gS B D g.fits ?_);refine aA (MeetsSeq2.wpAny_forIn_array _ (λrest c i=>i=j/\c.1=none /\ ∀e∈rest,EI e) _ ?_ ?_ _ _ ?_)
  ·rintro e l L i ⟨rfl,f,m⟩;obtain⟨n,tk,rfl⟩:=m e (aQ ..);exact aC ⟨rfl,rfl,λe h=>m e (aP _ h)⟩
  ·rintro⟨c,u⟩ i ⟨rfl,f,_⟩;dsimp only at f;subst f;exact aC ⟨rfl,rfl,λy G=>d y (aP _ G)⟩
  ·exact⟨rfl,rfl,k⟩
 ·rintro⟨c,u⟩ j ⟨rfl,f,_⟩;dsimp only at f;subst f;exact aC q
 ·refine⟨rfl,rfl,λx H=>?_⟩;rcases aV.mp H with z | z
  ·exact z▸⟨_,_,_,_,S⟩
  ·exact (aH.mp z)▸⟨_,_,_,_,O⟩
theorem GoodT.flags{b:Bool}{t u:SetTable}{n:Nat}(g:GoodT b t n)(c:u.mask=t.mask)(a:u.place=t.place)(d:u.dummies=t.dummies)(e:u.led=b):GoodT b u n:=by
 refine⟨?_,by rw [a];exact g.rise,e⟩;have:=g.fits;unfold SetTable.fits SetTable.fill at this ⊢;rw [c,a,d];exact this
theorem qW8{a b:Addr}{ns ms:List Int}{es e:Array (Int×Value)}{ep m:Nat}{t u:SetTable}{Q:Array (Int×Value)->Shared->Prop}(n:a≠b)(S:SetT w s.heap a ns es ep t)(O:SetT w s.heap b ms e m u)(q:∀c h' d es' f t',c.toList.Perm e.toList->Heap.SameBut a s.heap h'->SetT w h' a ns es' f t'->Q c { s with heap:=h',drawn:=d }):wpAny (model P w) A (setWalkUnseen b [a] (some a)) Q E s:=by
 unfold setWalkUnseen;refine aA (O.state ?_);dsimp only;unfold setsByText;refine aA (aA (cU (aC ?_)));have p:∀ {k:Array (Int×Value)->Shared->Prop},(∀c d,c.toList.Perm e.toList->k c { s with drawn:=d })->wpAny (model P w) A (setWalk b) k E s:=λz=>walkI O z;split
 ·exact p λc d h=>q c s.heap d es ep t h (fO a s.heap) S
 ·refine aA (qYq O S ?_);simp only [Bool.not_true,dQ,if_false];refine aA (cV ?_);refine aA (S.state ?_);dsimp only;have l:=S;obtain⟨o,C,r,D,i,h,v,j,g⟩:=S;have x:u.led=(!yA w):=by obtain⟨_,_,_,_,_,_,_,_,g⟩:=O;exact g.led
  split
  ·refine aA (l.put (t' :={ t with led:=t.led&&u.led,plain:=t.plain&&u.plain }) i h v j (g.flags rfl rfl rfl (by show (t.led&&u.led)=_;rw [g.led,x,eW])) λh' y B=>aC ?_);exact q e h' s.drawn _ _ _ (.refl _) y B
  ·exact aA (aC (aC (q e s.heap s.drawn _ _ _ (.refl _) (fO a s.heap) l)))
theorem qVu{a b:Addr}{ns ms:List Int}{es:Array (Int×Value)}{ep:Nat}{t:SetTable}{D:Sem Unit}{Q:Unit->Shared->Prop}(p:a≠b)(S:SetT w s.heap a ns es ep t)(a1:Small ns)(h0:t.fill=0->t.mask+1∈pows)(O:SetI w s.heap b ms)(a2:Small ms)(hl:ns.length+ms.length<=60)(Y:∀(L:Shared) (R:Unit->Shared->Prop),(∀o,s.heap.get? b=some o->L.heap.get? b=some o)->R () L->wpAny (model P w) A D R E L)(q:∀h' d es' a3 t' us,Heap.SameBut a s.heap h'->SetT w h' a us es' a3 t'->(t'.fill=0->t'.mask+1∈pows)->(∀x,x∈us↔x∈ns\/x∈ms)->Q () { s with heap:=h',drawn:=d }):wpAny (model P w) A (setMerge a b D) Q E s:=by
 obtain⟨v,eq,u,O⟩:=O.table;obtain⟨oo,b7,b2,b8,i,B,Z,F,go⟩:=id O;have a4:=O.len;unfold setMerge;rw [if_neg (by simpa using p)];refine aA (O.state ?_);dsimp only;split
 ·rename_i hz;have hz:v.size=0:=by simpa [Array.isEmpty] using hz
  have:ms = []:=fU.mp (by lia);subst this;exact aC (q s.heap s.drawn es ep t ns (fO a s.heap) S h0 (by simp))
 ·rename_i a5;have b3:0<v.size:=by
   cases h:v.size with
   | zero=>exact absurd (by simp [Array.isEmpty,h]) a5
   | succ k=>lia
  have f:∀ {h:Heap} {us:List Int} {es:Array (Int×Value)} {ep:Nat} {t:SetTable},SetT w h a us es ep t->0<us.length->t.fill≠0:=by
   intro h us es ep t G hu j;have M:=G.len;obtain⟨_,_,_,_,_,_,_,_,g⟩:=G;have h2:=uZ g.fits;unfold SetTable.fill at j;lia
  refine aA (roomI S a1 (by lia) h0 λM b9 c0 m C W a6=>?_);have O1:SetT w M b ms v eq u:=O.stay λo e=>by rw [C.2 b p.symm];exact e
  obtain⟨o1,c1,b4,c2,b5,c3,c4,b6,g1⟩:=id W;have c5:=W.len;refine aA (W.state (s :={ s with heap:=M }) ?_);dsimp only;have r:m.fill=0->ns = []:=λj=>by
   have h2:=uZ g1.fits;unfold SetTable.fill at j;exact fU.mp (by lia)
  have H:(m.led&&u.led) = !yA w:=by rw [g1.led,go.led,eW]
  cases X:m.road u with
  | slotForSlot =>
   dsimp only;have j:m.fill=0:=by
    unfold SetTable.road at X;split at X
    ·cases X
    ·rename_i z;simpa using z
   have:=r j;subst this;refine W.put (s :={ s with heap:=M }) (t' :={ u with finger:=m.finger,led:=m.led&&u.led,moves:=m.moves,plain:=m.plain&&u.plain }) i B Z F (go.flags rfl rfl rfl H) λh' I G=>?_;exact q h' s.drawn _ _ _ ms (C.trans I) G (λj=>absurd j (f G (by lia))) (by simp)
  | clean =>
   dsimp only;have j:m.fill=0:=by
    unfold SetTable.road at X;split at X
    ·cases X
    ·rename_i z;simpa using z
   have:=r j;subst this;obtain⟨m1,m2⟩:=a6 j;obtain⟨t',order,e1,e2,e3,e4,e5⟩:=qSe (finger:=m.finger) (moves:=m.moves) (led:=m.led&&u.led) (plain:=m.plain&&u.plain) m1 (qFx i B a2) (by rw [Array.size_map];lia);rw [Array.size_map] at e2 e3;refine aA (reord (s :={ s with heap:=M }) (es:=v) (t:=t') (order:=order) e1 e2 ?_);dsimp only;have N:=jv e2;have hz:(order.filterMap (v[·]?)).size=v.size:=by rw [<-aU,N.length_eq,aU]
   have g':GoodT (!yA w) t' (order.filterMap (v[·]?)).size:=by rw [hz,<-H];exact e3
   refine W.put (s :={ s with heap:=M }) (es':=order.filterMap (v[·]?)) (t':=t') (λe Y=>i e (N.mem_iff.mp Y)) ((N.map keyI).trans B) Z (by rw [hz];exact F) g' λh' I G=>?_;exact q h' s.drawn _ _ _ ms (C.trans I) G (λj=>absurd j (f G (by lia))) (by simp)
  | oneByOne =>
   dsimp only;refine aA (qW8 (s :={ s with heap:=M }) p W O1 λa7 h2 d c6 c7 t2 T a8 S2=>?_);refine aA (MeetsSeq2.wpAny_forIn_array _ (λrest _ L => ∃h' us,L = { s with heap:=h',drawn:=d }/\Heap.SameBut a s.heap h'/\SetI w h' a us/\us.length+rest.length<=60/\(∀e∈rest,EI e) /\ ∀x,(x∈us\/x∈rest.map keyI)↔(x∈ns\/x∈ms)) _ ?_ ?_ _ _ ?_)
   ·rintro e rest c L ⟨h',us,rfl,I,SI,J,U,l⟩;obtain⟨n,tk,rfl⟩:=U e (aQ ..);rw [bY] at J;dsimp only;refine aA (bM (qV7 (s :={ s with heap:=h',drawn:=d }) SI (by show us.length+1<4096;lia) λV K a0=>?_));have keep:∀o,s.heap.get? b=some o->V.get? b=some o:=λo e=>by rw [K.2 b p.symm,I.2 b p.symm];exact e
    refine aA (Y _ _ keep ?_);refine aA (SetT.state (s :={ s with heap:=V,drawn:=d }) (O.stay keep) ?_);dsimp only;rw [if_neg (by simp)];refine aC ⟨V,addN us n,rfl,I.trans K,a0,?_,λe h=>U e (aP _ h),λx=>?_⟩
    ·have:=qOd (ns:=us) (n:=n);lia
    ·rw [<-l x,jZ,bG,aV];show (x∈us\/x=n)\/_↔x∈us\/x=n\/_;rw [or_assoc]
   ·rintro c L ⟨h',us,rfl,I,SI,J,U,l⟩;obtain⟨a9,b0,t3,S3⟩:=SI.table;have b1:0<us.length:=by
     obtain⟨y,hy⟩:=gK ms (λz=>by subst z;rw [List.length_nil] at a4;lia);exact List.length_pos_of_mem (((l y).mpr (.inr hy)).elim id λz=>by cases z)
    exact aC (q h' d a9 b0 t3 us I S3 (λj=>absurd j (f S3 b1)) λx=>by rw [<-l x];simp)
   ·refine⟨h2,ns,rfl,C.trans a8,S2.setI,?_,λe Y=>i e (T.mem_iff.mp Y),λx=>?_⟩
    ·have h9:a7.toList.length=v.size:=T.length_eq.trans (aU ..);lia
    ·rw [((T.map keyI).trans B).mem_iff]
theorem jw{a:Addr}{ns:List Int}{Q:Bool->Shared->Prop}(S:SetI w s.heap a ns)(q:Q true s):wpAny (model P w) A (Builtin.Frozenset.isAnySet (.ref a)) Q E s:=by
 obtain⟨o,_,_,_,c,b,_⟩:=S;have d:Shared.TypeIs s (.ref a) "set" :=⟨o,c,b.1⟩;unfold Builtin.Frozenset.isAnySet;refine aA (gP d sub_set_self ?_);exact aC q
theorem copyI{a:Addr}{ns:List Int}{Q:Value->Shared->Prop}(S:SetI w s.heap a ns)(k:Small ns)(l:ns.length<=60)(q:∀h' d es ep t us,(∀b o,s.heap.get? b=some o->h'.get? b=some o)->SetT w h' s.heap.objs.size us es ep t->(t.fill=0->t.mask+1∈pows)->(∀x,x∈us↔x∈ns)->Q (.ref s.heap.objs.size) { s with heap:=h',drawn:=d }):wpAny (model P w) A (Builtin.Frozenset.copyOf a) Q E s:=by
 have m:Shared.TypeIs s (.ref a) "set" :=by obtain⟨o,_,_,_,f,g,_⟩:=S;exact⟨o,f,g.1⟩
 have p:a<s.heap.objs.size:=by obtain⟨o,_,_,_,f,_⟩:=S;exact aX f
 unfold Builtin.Frozenset.copyOf Builtin.Frozenset.baseOf;refine aA (aA (gP m sub_set_self (aC ?_)));simp only [if_true];refine aA (qKk ?_);unfold Builtin.Frozenset.addrOf;refine aA (aC ?_);have j:∀b o,s.heap.get? b=some o->(s.heap.push (newS w)).get? b=some o:=λb o e=>aG _ e;have r:SetT w (s.heap.push (newS w)) s.heap.objs.size [] #[] 0 (.fresh 0 0 (!yA w)):=⟨newS w,aT _ rfl,⟨rfl,rfl,rfl⟩,rfl,by simp,.refl _,.nil,by decide,⟨rfl,by simp [SetTable.fresh],rfl⟩⟩;refine aA (qVu (s :={ s with heap:=s.heap.push (newS w) }) (eE p) r (λn u=>by cases u) (λ_=>by show 8∈pows;decide) (S.stay λo e=>j a o e) k (by simpa using l) (λD R _ v=>aC v) λh' d h i y us z B C c=>?_)
 refine aC (q h' d h i y us (λb o e=>?_) B C λx=>by rw [c x];simp);rw [z.2 b (bD (aX e))];exact j b o e
theorem qL1:entryFor table "set.__or__" = some Builtin.«frozenset.__or__» :=entryFor_alias (id' := "frozenset.__or__") (by kernel_rfl) rfl (by decide +kernel) (by kernel_rfl)
theorem qTp{a b:Addr}{ns ms:List Int}{id:String}{Q:Value->Shared->Prop}(m:a≠b)(S:SetI w s.heap a ns)(O:SetI w s.heap b ms)(h:Small ns)(p:Small ms)(hl:ns.length+ms.length<=60)(q:∀h' d us,(∀b o,s.heap.get? b=some o->h'.get? b=some o)->SetI w h' s.heap.objs.size us->(∀x,x∈us↔x∈ns\/x∈ms)->Q (.ref s.heap.objs.size) { s with heap:=h',drawn:=d }):wpAny (model P w) A (do
   let result <-Builtin.Frozenset.copyOf a
   if (Value.ref b) != .ref a then holding [result] (Builtin.Frozenset.updateFrom id (<-Builtin.Frozenset.addrOf result) (.ref b))
   return result) Q E s:=by
 have K:b<s.heap.objs.size:=by obtain⟨o,_,_,_,L,_⟩:=O;exact aX L
 refine aA (copyI S h (by lia) λl r es ep t us D F M f=>?_);have v:((Value.ref b) != .ref a)=true:=by simp;exact m.symm
 rw [if_pos v];unfold Builtin.Frozenset.addrOf;refine aA (aC (aA (bM ?_)));unfold Builtin.Frozenset.updateFrom;have y:SetI w l b ms:=O.stay λo e=>D b o e;have N:=y;refine aA (jw (s :={ s with heap:=l,drawn:=r }) y ?_);simp only [if_true];unfold Builtin.Frozenset.addrOf Builtin.Frozenset.merge;refine aA (aC ?_);obtain⟨oo,eo,eq,u,i,G,j,H,T,U,I,J⟩:=N;refine aA (wpAny_setEpoch_of (s :={ s with heap:=l,drawn:=r }) i j J.fits ?_);have V:us.length=ns.length:=by
  obtain⟨_,_,_,_,_,_,z,_⟩:=F;obtain⟨_,_,_,_,_,_,_,_,_,B,_⟩:=S;exact ((List.perm_ext_iff_of_nodup z B).mpr f).length_eq
 refine qVu (s :={ s with heap:=l,drawn:=r }) (eE K) F (λn z=>h n ((f n).mp z)) M y p (by lia) (λs' R k W=>?_) λh' d X Y t' C Z S' a0 g=>?_
 ·unfold Builtin.Frozenset.unchanged;refine aA (wpAny_setEpoch_of (k _ i) j J.fits ?_);rw [if_neg (by simp)];exact aC W
 ·refine aC (q h' d C (λc o e=>?_) S'.setI λx=>by rw [g x,f x]);rw [Z.2 c (bD (aX e))];exact D c o e
theorem qX2{a b:Addr}{ns ms:List Int}{Q:Value->Shared->Prop}(e:a≠b)(S:SetI w s.heap a ns)(O:SetI w s.heap b ms)(f:Small ns)(g:Small ms)(n:ns.length+ms.length<=60)(q:∀h' d us,(∀b o,s.heap.get? b=some o->h'.get? b=some o)->SetI w h' s.heap.objs.size us->(∀x,x∈us↔x∈ns\/x∈ms)->Q (.ref s.heap.objs.size) { s with heap:=h',drawn:=d }):wpAny (model P w) A (binaryOp .BitOr (.ref a) (.ref b)) Q E s:=by
 have h:∀ {c:Addr} {j:List Int},SetI w s.heap c j->Shared.TypeIs s (.ref c) "set" :=by intro c j S;obtain⟨o,_,_,_,p,i,_⟩:=S;exact⟨o,p,i.1⟩
 refine wpAny_binaryOp_same (h S) (h O) F.fills_set_or F.slot_set_or (bX F.slot_set_or (h S) qL1 ?_ (F.args_set_or_2 _ _))
 show wpAny _ _ (do
  let (self,other) <-Builtin.Frozenset.slot1 "__or__" ⟨[.ref a,.ref b],[]⟩
  let (l,r):=if false then (other,self) else (self,other)
  if !(<-Builtin.Frozenset.isAnySet l <&&> Builtin.Frozenset.isAnySet r) then rule s!"frozenset.{"__or__"}.declined";return <-ret .notImplemented
  ret (<-(λ(id:String) (l:Addr) (r:Value)=>(do
   let result <-Builtin.Frozenset.copyOf l
   if r != .ref l then holding [result] (Builtin.Frozenset.updateFrom id (<-Builtin.Frozenset.addrOf result) r)
   return result:Sem Value)) s!"frozenset.{"__or__"}" (<-Builtin.Frozenset.addrOf l) r)) _ _ _
 unfold Builtin.Frozenset.slot1;refine aA (aA (m:=slotArgs "__or__" 1 _) (aC (aC ?_)));refine aA (aA (jw S ?_));refine jw O ?_;simp only [Bool.not_true,dQ,if_false];refine aA (m:=Builtin.Frozenset.addrOf (.ref a)) (aC ?_);refine aA (qTp e S O f g n λh' d us k t u=>?_);exact aC ⟨_,rfl,by simp,q h' d us k t u⟩
end
section
variable{X:Cx}
def rOrS(w:World):R2:=λx y H Q => ∃(a b:Addr) (ns ms:List Int),x = .ref a/\y = .ref b/\a≠b/\H a=some (setO w ns)/\H b=some (setO w ms)/\Small ns/\Small ms/\ns.length+ms.length<=60 /\
 ∀(l:Addr) (us:List Int),H l=none->us.Nodup->(∀x,x∈us↔x∈ns\/x∈ms)->Q (.ref l) (upd H l (setO w us))
theorem qYx:OpR X (binaryOp .BitOr) (rOrS X.w):=by
 intro i s σ H x y v u Q I m n h;obtain⟨a,b,z,A,rfl,rfl,c,o,p,e,f,r,q⟩:=h;cases m;cases n;refine qX2 c (I.setI o) (I.setI p) e f r λB d j k l t=>?_;have g:j.Nodup:=by obtain⟨_,_,_,_,_,_,_,_,_,g,_⟩:=l;exact g
 exact⟨.ref s.heap.objs.size,_,(I.laid (t':=s.toks) k (aF _) (uc l)).drew,rfl,q _ j (I.hok.fresh (aF _)) g t⟩
end
theorem yu{CX:CXT}{P:Program}{w:World}{K:PySem.W.Frag}{mg:Str->Option Value}{base:Heap}{N:List Str}{a:Str}{scope:Scope}{f:Addr}{b:Value}{A:Around}{outer:List Env}{s:Shared}{H:Hp}{E:XK}:(cxOf CX P w K mg base N a scope f b A outer s H E).nox.w=w:=rfl
theorem yv{CX:CXT}{P:Program}{w:World}{K:PySem.W.Frag}{mg:Str->Option Value}{base:Heap}{N:List Str}{a:Str}{scope:Scope}{f:Addr}{b:Value}{A:Around}{outer:List Env}{s:Shared}{H:Hp}{E:XK}:(cxOf CX P w K mg base N a scope f b A outer s H E).w=w:=rfl
def BusyP(ws:List (List Blk))(n:Nat)(wk:List Blk)(x y:Int):Prop:=y∈wrTo wk x wk.length\/(∃s∈yp wk x,Reach (nxt wk) s y)/\y∈waitTo ws x n wk.length
def uj(K:PySem.W.Frag):Sp:=λvs H Q _ => ∃(wa:Addr) (ws:List (List Blk)) (n:Nat) (wk:List Blk) (x:Int),vs = [.ref wa,.int n,.int x]/\Den K H (yF ws) (.ref wa)/\WsOk ws/\ws[n]? = some wk /\
 ∀(l:Addr) (ns:List Int) (H':Hp),H l=none->Ext [] H H'->H' l=some (.lst (ns.map V.int))->ns.Pairwise (· <= ·)->ns.Nodup->(∀y,y∈ns↔BusyP ws n wk x y)->Q (.ref l) H'
theorem neDK(K:PySem.W.Frag){X:Cx}{k:Nat}(a:X.K=K)(b:Room k X.A):OpR X (compareOp .NotEq) (rEqD K true):=a▸xk b
def boxTo(wk:List Blk)(i:Nat):List Int:=((List.range i).filter λ(k:Nat) => !decide (wrTo wk (k:Int) wk.length = [])).map λ(k:Nat)=>(k:Int)
theorem qI3(a:List Blk)(i:Nat):boxTo a (i+1)=if wrTo a (i:Int) a.length = [] then boxTo a i else boxTo a i ++ [(i:Int)]:=by
 unfold boxTo;rw [eK,cA,cT,eL];by_cases h:wrTo a (i:Int) a.length = []
 ·rw [decide_eq_true h,if_pos h];simp
 ·rw [decide_eq_false h,if_neg h];simp
theorem qTe(a:List Blk)(i:Nat):(boxTo a i).length<=i:=by
 unfold boxTo;rw [aB];have:=bC (λ(k:Nat) => !decide (wrTo a (k:Int) a.length = [])) (List.range i);rw [cO] at this;exact this
theorem qSa{a:List Blk}{i:Nat}{y:Int}:y∈boxTo a i↔(0<=y/\y<i)/\wrTo a y a.length ≠ []:=by
 unfold boxTo;rw [aW];constructor
 ·rintro⟨k,d,rfl⟩;obtain⟨b,c⟩:=bQ.mp d;have:=bF.mp b;exact⟨by lia,by simpa using c⟩
 ·rintro⟨b,c⟩;refine⟨y.toNat,bQ.mpr ⟨bF.mpr (by lia),?_⟩,by lia⟩;rw [gT b.1];simpa using c
def qN2(K:PySem.W.Frag):Sp:=λvs H Q _ => ∃(wa:Addr) (wk:List Blk) (m works:Int),vs = [.ref wa]/\Den K H (workD wk) (.ref wa)/\WorkOk m works wk/\m<=12 /\
 ∀(l:Addr) (H':Hp),H l=none->Ext [] H H'->H' l=some (.lst ((boxTo wk 8).map V.int))->Q (.ref l) H'
theorem jx{m works x y:Int}{a:List Blk}(h:WorkOk m works a)(d:∃s∈yp a x,Reach (nxt a) s y):0<=y/\y<m:=by
 obtain⟨s,e,f⟩:=d;obtain⟨b,g,c⟩:=cG.mp e;have:=(xP h b).range _ c;exact f.range h (by lia)
theorem ul{m works x y:Int}{a:List Blk}(h:WorkOk m works a)(b:y∈wrTo a x a.length):0<=y/\y<m:=by
 obtain⟨n,rfl,c,_⟩:=mem_wrTo.mp b;have:=h.len;lia
theorem um{b:List (List Blk)}{n:Nat}{m works x y:Int}{a:List Blk}(h:WorkOk m works a)(c:BusyP b n a x y):0<=y/\y<m:=c.elim (ul h) λz=>jx h z.1
theorem qP0{d:List (List Blk)}{x y:Int}{n i:Nat}:y∈waitTo d x n i ↔ ∃a:Nat,y=(a:Int)/\a<i/\askB d x ((n:Int),(a:Int))=true:=by
 unfold waitTo;rw [aW];constructor
 ·rintro⟨a,e,rfl⟩;obtain⟨b,c⟩:=bQ.mp e;exact⟨a,rfl,bF.mp b,c⟩
 ·rintro⟨a,rfl,b,c⟩;exact⟨a,bQ.mpr ⟨bF.mpr b,c⟩,rfl⟩
theorem qN5{m:Int}{ns:List Int}(b:m<=12)(h:∀n∈ns,0<=n/\n<m):Small ns:=λn a=>by have:=h n a;lia
theorem qKh:∀(m:Nat) {ns:List Int},ns.Nodup->(∀n∈ns,0<=n/\n<(m:Int))->ns.length<=m
 | 0,ns,_,h=>by
  cases ns with
  | nil=>exact aF _
  | cons a r=>have:=h a (aQ ..);lia
 | m+1,ns,c,h=>by
  have d:=qKh m (ns:=ns.erase (m:Int)) (c.erase _) λn b=>by
   have e:=(c.mem_erase_iff).mp b;have g:=h n e.2;have i:=e.1;lia
  by_cases f:(m:Int)∈ns
  ·rw [List.length_erase_of_mem f] at d;lia
  ·rw [List.erase_of_not_mem f] at d;lia
mutual
def DenE(G:Hp):PyData->V->Prop
 | .none,v=>v = .non
 | .bool b,v=>v = .bl b
 | .int i,v=>v = .int i
 | .str x,v=>v = .str x
 | .list ds,v => ∃a vs,v = .ref a/\G a=some (.lst vs)/\DenEL G ds vs
 | .tuple ds,v => ∃a vs,v = .ref a/\G a=some (.tup vs)/\DenEL G ds vs
 | .dict _,_=>False
def DenEL(G:Hp):List PyData->List V->Prop
 | [],vs=>vs = []
 | d::ds,vs => ∃v r,vs=v::r/\DenE G d v/\DenEL G ds r
end
section
variable{G G':Hp}
mutual
theorem DenE.mono(h:Same G G'):∀ {d:PyData} {v:V},DenE G d v->DenE G' d v
 | .none,_,e=>by simp only [DenE] at e ⊢;exact e
 | .bool _,_,e=>by simp only [DenE] at e ⊢;exact e
 | .int _,_,e=>by simp only [DenE] at e ⊢;exact e
 | .str _,_,e=>by simp only [DenE] at e ⊢;exact e
 | .list ds,_,e=>by
  simp only [DenE] at e ⊢;obtain⟨a,b,c,f,g⟩:=e;exact⟨a,b,c,h _ _ f,DenEL.mono h g⟩
 | .tuple ds,_,e=>by
  simp only [DenE] at e ⊢;obtain⟨a,b,c,f,g⟩:=e;exact⟨a,b,c,h _ _ f,DenEL.mono h g⟩
 | .dict _,_,e=>by simp only [DenE] at e
theorem DenEL.mono(h:Same G G'):∀ {ds:List PyData} {vs:List V},DenEL G ds vs->DenEL G' ds vs
 | [],_,e=>by simp only [DenEL] at e ⊢;exact e
 | d::ds,_,e=>by
  simp only [DenEL] at e ⊢;obtain⟨v,r,a,b,c⟩:=e;exact⟨v,r,a,DenE.mono h b,DenEL.mono h c⟩
end
theorem DenEL.len:∀ {ds:List PyData} {vs:List V},DenEL G ds vs->vs.length=ds.length
 | [],_,e=>by simp only [DenEL] at e;rw [e];rfl
 | d::ds,_,e=>by
  simp only [DenEL] at e;obtain⟨v,r,rfl,_,a⟩:=e;simp [DenEL.len a]
theorem DenEL.nil:DenEL G [] []:=by simp only [DenEL]
theorem DenEL.cons{d:PyData}{ds:List PyData}{v:V}{vs:List V}(a:DenE G d v)(b:DenEL G ds vs):DenEL G (d::ds) (v::vs):=by
 simp only [DenEL];exact⟨v,vs,rfl,a,b⟩
theorem DenEL.append:∀ {ds es:List PyData} {vs ws:List V},DenEL G ds vs->DenEL G es ws->DenEL G (ds++es) (vs++ws)
 | [],_,_,_,e,f=>by simp only [DenEL] at e;subst e;exact f
 | d::ds,_,_,_,e,f=>by
  simp only [DenEL] at e;obtain⟨v,r,rfl,a,b⟩:=e;exact .cons a (DenEL.append b f)
theorem DenEL.get:∀ {ds:List PyData} {vs:List V} {i:Nat} {v:V},DenEL G ds vs->vs[i]? = some v -> ∃d,ds[i]? = some d/\DenE G d v
 | [],_,_,_,e,h=>by simp only [DenEL] at e;subst e;simp at h
 | d::ds,_,0,_,e,h=>by
  simp only [DenEL] at e;obtain⟨v,r,rfl,a,b⟩:=e;simp at h;subst h;exact⟨d,rfl,a⟩
 | d::ds,_,i+1,_,e,h=>by
  simp only [DenEL] at e;obtain⟨v,r,rfl,a,b⟩:=e;exact DenEL.get (i:=i) b (by simpa using h)
theorem DenE.int{i:Int}:DenE G (.int i) (.int i):=by simp only [DenE]
theorem DenE.str{i:Str}:DenE G (.str i) (.str i):=by simp only [DenE]
theorem DenE.list{ds:List PyData}{a:Addr}{vs:List V}(h:G a=some (.lst vs))(e:DenEL G ds vs):DenE G (.list ds) (.ref a):=by simp only [DenE];exact⟨a,vs,rfl,h,e⟩
theorem DenE.tuple{ds:List PyData}{a:Addr}{vs:List V}(h:G a=some (.tup vs))(e:DenEL G ds vs):DenE G (.tuple ds) (.ref a):=by simp only [DenE];exact⟨a,vs,rfl,h,e⟩
theorem DenE.ofListE{ds:List PyData}{v:V}(h:DenE G (.list ds) v):∃a vs,v = .ref a/\G a=some (.lst vs)/\DenEL G ds vs:=by simpa only [DenE] using h
theorem DenE.ofTupleE{ds:List PyData}{v:V}(h:DenE G (.tuple ds) v):∃a vs,v = .ref a/\G a=some (.tup vs)/\DenEL G ds vs:=by simpa only [DenE] using h
theorem DenEL.ofCons{d:PyData}{ds:List PyData}{vs:List V}(h:DenEL G (d::ds) vs):∃v r,vs=v::r/\DenE G d v/\DenEL G ds r:=by simpa only [DenEL] using h
theorem DenEL.ofNil{vs:List V}(h:DenEL G [] vs):vs = []:=by simpa only [DenEL] using h
end
section
variable{K:PySem.W.Frag}{G:Hp}
theorem DenE.ofList{ds:List PyData}{v:V}(h:DenE G (.list ds) v):∃a vs,v = .ref a/\SqL K G a vs/\DenEL G ds vs:=by
 obtain⟨a,vs,e,b,c⟩:=h.ofListE;exact⟨a,vs,e,SqL.of b,c⟩
theorem DenE.ofTuple{ds:List PyData}{v:V}(h:DenE G (.tuple ds) v):∃a vs,v = .ref a/\SqT K G a vs/\DenEL G ds vs:=by
 obtain⟨a,vs,e,b,c⟩:=h.ofTupleE;exact⟨a,vs,e,SqT.of b,c⟩
mutual
theorem DenE.den:∀ {d:PyData} {v:V},DenE G d v->Den K G d v
 | .none,_,e=>by simp only [DenE] at e;simp only [Den];exact e
 | .bool _,_,e=>by simp only [DenE] at e;simp only [Den];exact e
 | .int _,_,e=>by simp only [DenE] at e;simp only [Den];exact e
 | .str _,_,e=>by simp only [DenE] at e;simp only [Den];exact e
 | .list ds,_,e=>by
  simp only [DenE] at e;obtain⟨a,f,rfl,b,c⟩:=e;exact .list (SqL.of b) (DenEL.den c)
 | .tuple ds,_,e=>by
  simp only [DenE] at e;obtain⟨a,f,rfl,b,c⟩:=e;exact .tuple (SqT.of b) (DenEL.den c)
 | .dict _,_,e=>by simp only [DenE] at e
theorem DenEL.den:∀ {ds:List PyData} {vs:List V},DenEL G ds vs->DenL K G ds vs
 | [],_,e=>by simp only [DenEL] at e;subst e;exact .nil
 | d::ds,_,e=>by
  simp only [DenEL] at e;obtain⟨v,r,rfl,a,b⟩:=e;exact .cons (DenE.den a) (DenEL.den b)
end
end
def WorksE(G H:Hp)(as:List Addr)(ws:List (List Blk)):Prop:=Paired (λa w => ∃bs,H a=some (.lst bs)/\DenEL G (w.map blkD) bs) as ws
theorem WorksE.len{G H:Hp}{as:List Addr}{a:List (List Blk)}(h:WorksE G H as a):as.length=a.length:=cZ h
theorem WorksE.mono{G b H c:Hp}(g:Same G b){as:List Addr}{f:List (List Blk)}(h:WorksE G H as f)(k:∀a∈as,∀o,H a=some o->c a=some o):WorksE b c as f:=by
 induction h with
 | nil=>exact .nil
 | cons a _ i=>obtain⟨bs,e,d⟩:=a;exact .cons ⟨bs,k _ (by simp) _ e,d.mono g⟩ (i λa j o e=>k a (by simp [j]) o e)
theorem WorksE.get{G H:Hp}:∀ {as:List Addr} {b:List (List Blk)} {i:Nat} {a:Addr},WorksE G H as b->as[i]? = some a -> ∃w bs,b[i]? = some w/\H a=some (.lst bs)/\DenEL G (w.map blkD) bs
 | _,_,_,_,.nil,e=>by simp at e
 | _,_,0,_,.cons ⟨bs,e,d⟩ _,h=>by simp at h;subst h;exact⟨_,bs,rfl,e,d⟩
 | _,_,i+1,a,.cons _ r,h=>by
  obtain⟨w,bs,c,f⟩:=WorksE.get (i:=i) (a:=a) r (by simpa using h);exact⟨w,bs,by simpa using c,f⟩
theorem WorksE.snoc{G H:Hp}{a:Addr}{w:List Blk}{bs:List V}{as:List Addr}{b:List (List Blk)}(h:WorksE G H as b)(e:H a=some (.lst bs))(d:DenEL G (w.map blkD) bs):WorksE G H (as ++ [a]) (b ++ [w]):=by
 induction h with
 | nil=>exact .cons ⟨bs,e,d⟩ .nil
 | cons a _ c=>exact .cons a c
def jy(K:PySem.W.Frag):Sp:=λvs H Q _ => ∃(t b:Addr) (k:Nat) (most first works:Int) (bs:List Int),vs = [.ref t,.int most,.ref b,.int first,.int works]/\Tape H t k/\k+130<=2^40/\0<=most/\most<=12/\0<=first/\first<=100/\1<=works/\works<=100 /\
 H b=some (.lst (bs.map V.int))/\b≠t/\BsOk bs /\ ∀(l:Addr) (ds:List Deed) (H':Hp),H l=none->Tape H' t (k+130)->Ext [t] H H'->(∀d∈ds,wg works d)->ds.length<=12->DenE (yo H [t] H') (.list (ds.map deedD)) (.ref l)->Q (.ref l) H'
def qQ0(K:PySem.W.Frag):Sp:=λvs H Q _ => ∃(t:Addr) (k:Nat) (m most first works:Int),vs = [.ref t,.int m,.int most,.int first,.int works]/\Tape H t k/\k+2000<=2^40/\1<=m/\m<=12/\0<=most/\most<=12/\0<=first/\first<=100/\1<=works/\works<=100 /\
 ∀(l:Addr) (w:List Blk) (bs:List V) (H':Hp),H l=none->l≠t->Tape H' t (k+2000)->Ext [t] H H'->WorkOk m works w->(∀b∈w,b.ds.length<=12)->H' l=some (.lst bs)->DenEL (yo H [l,t] H') (w.map blkD) bs->Q (.ref l) H'
def qQ2(K:PySem.W.Frag):Sp:=λvs H Q _ => ∃(wa:Addr) (ws:List (List Blk)),vs = [.ref wa]/\DenE H (yF ws) (.ref wa)/\WsOk ws /\ ∀(l:Addr) (ws':List (List Blk)) (H':Hp),Ext [] H H'->DenE H' (yF ws') (.ref l)->WsOk ws'->ws'.length=ws.length->Q (.ref l) H'
theorem qOf{G H:Hp}{as:List Addr}{b:List (List Blk)}(h:WorksE G H as b)(g:Same G H):DenEL H (b.map workD) (as.map V.ref):=by
 induction h with
 | nil=>exact .nil
 | cons a _ c=>obtain⟨bs,e,d⟩:=a;exact .cons (.list e (d.mono g)) c
def qMz(K:PySem.W.Frag):Sp:=λvs H Q _ => ∃(t:Addr) (k:Nat) (most:Int),vs = [.ref t,.int most]/\Tape H t k/\k+21000<=2^40/\0<=most/\most<=12 /\
 ∀(l:Addr) (ws:List (List Blk)) (H':Hp),Tape H' t (k+21000)->Ext [t] H H'->DenE H' (yF ws) (.ref l)->WsOk ws->Q (.ref l) H'
section
variable{X:Cx}{elts:List Expr}{k:Nat}{tpos:Pos}
variable{X:Cx}{elt tg iter tg2 iter2:Expr}{ifs ifs2:List Expr}{scope:Scope}{own:List Str}{cap:List Nat}{wi wi2:TI}{g g2:TG}{tts tts2:List TT}{te:TE}{pos:Pos}
theorem qYr{i:Nat}{x:Str}{d b:Pos}(own:List Str)(cap:List Nat)(o:X.calm=true)(S:CompScope X own cap scope)(p:X.N.Nodup)(e:X.N[i]? = some x)(q:Loc X.env.scope x)(hi:PI X tg iter wi)(r:∀a s H ex,PG (zT X own cap scope a s H ex) tg g)(t:∀a s H ex,PTs (zT X own cap scope a s H ex) ifs tts)(f:∀a s H ex,PI (zT X own cap scope a s H ex) tg2 iter2 wi2)(j:∀a s H ex,PG (zT X own cap scope a s H ex) tg2 g2)(k:∀a s H ex,PTs (zT X own cap scope a s H ex) ifs2 tts2)(u:∀a s H ex,PE (zT X own cap scope a s H ex) elt te)(m:swapsWith (.ListComp elt [⟨tg,iter,ifs,0⟩,⟨tg2,iter2,ifs2,0⟩] scope pos) (some (.Name x d)) b.line X.env=pure true:=by rfl)(v:∀x,foldedSetIterable iter X.env x=pure x:=by intro _;rfl)(n:∀a s H ex x,foldedSetIterable iter2 (zT X own cap scope a s H ex).env x=pure x:=by intros;rfl)(w:X.fn x=true\/X.env.scope.names.lookup x=some .local:=by first | exact .inl rfl | exact .inr rfl | assumption):PS X (.Assign [.Name x d] (.ListComp elt [⟨tg,iter,ifs,0⟩,⟨tg2,iter2,ifs2,0⟩] scope pos) b) (tAsg (tComp own cap (.lst []) wi g tts λl=>bNext wi2 g2 tts2 (eApp te l)) (gName i)):=by
 intro c s σ H D I h;rw [exec_Assign_Name_used _ _ _ _ m];refine aA (dP (aA ?_));show wpAny _ X.A (do let _ <-comprehension (.ListComp elt [⟨tg,iter,ifs,0⟩,⟨tg2,iter2,ifs2,0⟩] scope pos) scope X.env _ (newList []) false (eval iter X.env) (some (assign (.Name x d) X.env))) _ _ s
 refine aA (thn (QS (behOf:=wB (.ListComp elt [⟨tg,iter,ifs,0⟩,⟨tg2,iter2,ifs2,0⟩] scope pos) iter2 1) o S rfl hi kU (λ_ _ _ _ _=>qJ5) r t
  (λa s H ex l=>QU rfl o qJ4 (f a s H ex) (j a s H ex) (k a s H ex) (kX (u a s H ex)) (n a s H ex)) v p e q w c s σ H D I h) λ_ z y=>?_)
 exact aC (aC y)
end
section
variable{X:Cx}
theorem qQs{bs:List Bool}{f:Nat->Bool}(c:∀i b,bs[i]? = some b->f i=b):(List.range bs.length).all f=bs.all id:=by
 rw [cM,bO,bO];constructor
 ·intro h b d;obtain⟨i,a,e⟩:=bI d;have:=h i (bF.mpr a);rw [c i b (by rw [aD a,e])] at this;exact this
 ·intro h i a;have a:=bF.mp a;rw [c i bs[i] (aD a)];exact h _ (cL a)
def rAllB(K:PySem.W.Frag):List V->Hp->VK->Prop:=λxs H Q => ∃(a:Addr) (bs:List Bool),xs = [.ref a]/\SqL K H a (bs.map V.bl)/\Q (.bl (bs.all id)) H
theorem wt(hh:X.A.handled=none):CallR X (.builtin "all") (rAllB X.K):=by
 intro m s σ H F G Q I r h;obtain⟨a,bs,rfl,w,q⟩:=h;obtain⟨u,rfl,y⟩:=vals1 r;cases y;obtain⟨d,n,z,_⟩:=I.list w;have c:=n.length;rw [aB] at c;have g:=z.isList;have j:a≠s.heap.objs.size:=by obtain⟨o,e,_⟩:=g;exact bD (aX e)
 have f:∀(i:Nat) (v:Value),d.toArray[i]? = some v->v = .bool (bs.getD i false):=λi v e=>by
  rw [eJ] at e;have p:i<bs.length:=by rw [c];exact (aE.mp e).1
  obtain⟨u,t,l⟩:=n.get (i:=i) (x:=V.bl bs[i]) (by rw [aS,aD p];rfl);rw [e] at t;cases t;have l:v=Value.bool bs[i]:=l;rw [l,cJ,aD p];rfl
 refine call_all_walk (fL g ⟨_,_,_,_,_,_,λi=>bs.getD i false,rfl,Walks.list (by exact hh) _ a j d.toArray,⟨⟨_,aT _ rfl,rfl,rfl⟩,g.push _⟩,λi v s Q E B C=>?_,λJ tk k=>?_⟩)
 ·rw [f i v B];exact dJ C
 ·have e:(List.range d.toArray.size).all (λi=>bs.getD i false)=bs.all id:=by
   rw [aR,<-c];exact qQs λi b D=>by rw [cJ,D];rfl
  rw [e];exact⟨.bl (bs.all id),H,I.kept (t':=tk) (λb o e=>k b o (by simpa using bD (aX e)) (aG _ e)),rfl,q⟩
end
section
variable{X:Cx}{pins:List (Addr×Obj)}{σ : St}{H:Hp}{s:Shared}
theorem Inv.thaw{d:Addr}{o:Obj}{u:HO}(I:Inv X pins σ H s)(e:H d=some (.frz o u))(k:∀o u,X.H₀ d≠some (.frz o u)):Inv X pins σ (upd H d u) s:=by
 have ne:∀b,H b=none->b≠d:=λb a z=>by rw [z,e] at a;cases a
 refine⟨I.ok,I.os,I.bare,⟨I.base.keep,I.base.slot,?_,I.base.there,?_,?_,?_⟩,I.loc,I.cell,?_,?_,?_,?_,I.len⟩
 ·intro b g q n l;have:=I.base.free b g q n l;rw [zD (ne b this)];exact this
 ·intro b i q;have:=I.base.tups b i q;rw [zD (λz=>by rw [z,e] at this;cases this)];exact this
 ·intro b g v q;have:=I.base.frzs b g v q;rw [zD (λz=>k g v (by rw [<-z];exact q))];exact this
 ·intro b m q;obtain⟨f,this⟩:=I.base.tbls b m q;exact⟨f,by rw [zD (λz=>by rw [z,e] at this;cases this)];exact this⟩
 ·rw [zD (ne _ I.free)];exact I.free
 ·intro x c q;have:=I.freeC x c q;rw [zD (ne c this)];exact this
 ·intro p r;obtain⟨t,j,y⟩:=I.pin p r;exact⟨t,by rw [zD (ne _ j)];exact j,y⟩
 ·intro b v q
  have st:∀ {b v},ObjOk X.prog X.w H s.heap b v->ObjOk X.prog X.w (upd H d u) s.heap b v:=λ{b v} h=>h.stay (λc w _ q=>q) (λc q=>by
   rw [zD (λz=>by rw [z,e] at q;cases q)];exact q) λc i q=>by
   rw [zD (λz=>by rw [z,e] at q;cases q)];exact q
  by_cases a:b=d
  ·subst a;rw [zC] at q;have q:u=v:=bT q;rw [<-q];exact st (show ObjOk X.prog X.w H s.heap b (.frz o u) from I.hok b _ e).2
  ·rw [zD a] at q;exact st (I.hok b v q)
def tThaw(H0:Hp)(te:TE):TE:=λσ H Q=>te σ H λv H1 => ∃d o u,H1 d=some (.frz o u)/\(∀o u,H0 d≠some (.frz o u))/\Q v (upd H1 d u)
theorem vk{e:Expr}{a:TE}(b:PE X e a):PE X e (tThaw X.H₀ a):=by
 intro pins s σ H Q I h;refine thn (b pins s σ H _ I h) λv j hq_=>?_;obtain⟨x,k,c,f,d,o,u,g,i,q⟩:=hq_;exact⟨x,_,c.thaw g i,f,q⟩
theorem vm{H0:Hp}{a:TE}{σ : St}{H:Hp}{Q:VK}(h:a σ H λv b => ∃d o u,b d=some (.frz o u)/\(∀o u,H0 d≠some (.frz o u))/\Q v (upd b d u)):tThaw H0 a σ H Q:=h
end
def viewO(d:Addr):HO :=.ext λa h=>h.IsItemsView a d
section
variable{X:Cx}
def qYo:V->List V->Hp->VK->Prop:=λx vs H Q => ∃d kvs,x = .ref d/\vs = []/\H d=some (.dK kvs) /\ ∀p,H p=none->Q (.ref p) (upd H p (viewO d))
theorem qUs:MtM X "dict.items" qYo:=by
 intro e s σ H x f v y Q I i j h;obtain⟨d,l,rfl,rfl,m,q⟩:=h;cases i;have a:=j.zero;subst a;obtain⟨z,n,f,p,g⟩:=ye I.hok m;refine call_meetsIn PySem.F.slot_dict_items g.typeIs PySem.F.entry_dict_items (PySem.F.args_dict_items_1 _) (meets_dict_items (zY X.prog X.w) d n) ⟨⟨f,g⟩,?_⟩;refine⟨.ref s.heap.objs.size,_,I.laid (t':=s.toks) (o:=viewO d) (λb u q=>aG _ q) (aF _) ⟨⟨_,aT _ rfl,rfl,rfl⟩,⟨_,aT _ rfl⟩,λA B v k=>?_⟩,rfl,q _ (I.hok.fresh (aF _))⟩;obtain⟨o,r,t,c⟩:=v;exact⟨o,k _ r,t,c⟩
end
theorem qFn:entryFor table "dict_itemiterator.__iter__" = some Builtin.«dict_keyiterator.__iter__»:=entryFor_alias (id' := "dict_keyiterator.__iter__") (by kernel_rfl) rfl (by decide +kernel) (by kernel_rfl)
theorem qP5{P:Program}{w:World}{A:Around}{E:Value->Shared->Prop}{s:Shared}{it d:Addr}{i n ep:Nat}{ok b:Value}{Q:Value->Shared->Prop}(st:IsItemIter s.heap it d i n ep ok b)(h:Q (.ref it) s):wpAny (model P w) A (pyIter (.ref it)) Q E s:=by
 have a:s.TypeIs (.ref it) "dict_itemiterator" :=⟨_,st,rfl⟩;refine wpAny_pyIter_slot a F.slot_dict_itemiterator_iter (bX F.slot_dict_itemiterator_iter a qFn ?_ (F.args_dict_itemiterator_iter_1 _));show wpAny _ _ (ret (.ref it)) _ _ s;exact aC ⟨_,rfl,"dict_itemiterator",_,a,F.slot_dict_itemiterator_next.lookup,h⟩
def Iti(d:Addr)(o:Obj)(kvs:List (Key×V)):It:=⟨λi H=>H d=some (.frz o (.dK kvs))/\i<kvs.length,λi H x H' => ∃p k v,x = .ref p/\H p=none/\kvs[i]? = some (k,v)/\H'=upd H p (.tup [kV k,v]),λi H=>H d=some (.frz o (.dK kvs))/\kvs.length<=i⟩
theorem KV.at{κ : Type}:∀ {kvs:List (κ × V)} {vs:List (κ × Value)} {i:Nat} {k : κ} {v:V},KV kvs vs->kvs[i]? = some (k,v) -> ∃x,vs[i]? = some (k,x)/\RelV v x
 | _,_,_,_,_,.nil,e=>by simp at e
 | _,_,0,_,_,.cons (b:=b) r _,e=>by
  simp at e;subst e;obtain⟨a,c⟩:=b;have:_=a:=r.1;exact⟨c,by simp [<-this],r.2⟩
 | _,_,i+1,k,v,.cons _ t,e=>KV.at (i:=i) (v:=v) t (by simpa using e)
section
variable{P:Program}{w:World}{K:PySem.W.Frag}{elts:List Expr}{kk:Nat}{pos:Pos}
theorem qOj(d it:Addr)(o:Obj)(kvs:List (Key×V)){es:Array DictEntry}{ep:Nat}(hd:o.data = .dict es ep):Turn P w K (.Tuple elts kk pos) (Iti d o kvs) [it] it (λi h => ∃ok l,IsItemIter h it d i kvs.length ep ok l) where
 mem:=by simp
 obj:=λi h st b c=>by
  have e:b=it:=by simpa using c
  subst e;obtain⟨ok,l,st⟩:=st;exact⟨_,st,λv z=>by have z:Data.fields _=Data.cell v:=z;cases z⟩
 keep:=λi h A st k=>by
  obtain⟨ok,l,st⟩:=st;exact⟨ok,l,k it (by simp) _ st⟩
 item:=by
  intro X B C D N i j s σ H E I t st F;subst B C D;obtain⟨G,O⟩:=F;obtain⟨ok,l,st⟩:=st;obtain⟨z,S,T,f,J⟩:=uN I.hok G hd;obtain⟨⟨k,v⟩,Q⟩:∃p,kvs[i]? = some p:=⟨kvs[i],by simp [O]⟩;obtain⟨x,L,U⟩:=f.at Q;have u:=f.length;have a:it<s.heap.objs.size:=aX st;refine wpAny_pyNext_items_item (by rw [<-u];exact st) J L λkey A m M W Y Z=>?_;refine⟨_,rfl,wpAny_letOwnedTupleGo_items M λR n g=>?_⟩;have g:Heap.SameBut it A R:=g;have I1:Inv X j σ (upd H s.heap.objs.size (.tup [kV k,v])) { s with heap:=R,toks:=s.toks }:=by
   refine I.turnLaid (ch :=[it]) (λb y c q=>?_) (λb c=>?_) t (aF _) ?_
   ·have r:b≠it:=λz=>c (by simp [z]);exact g.extBut b y r (Z b y r q)
   ·have e:b=it:=by simpa using c
    subst e;exact⟨_,n⟩
   ·exact⟨by show 2<=sizeLine;decide,[key,x],.cons (QX m) (.cons U .nil),⟨_,g.extBut _ _ (eE a) W,rfl,_,rfl⟩⟩
  refine⟨.ref s.heap.objs.size,_,I1,rfl,⟨s.heap.objs.size,k,v,rfl,I.fresh,Q,rfl⟩,⟨_,_,by rw [u];exact n⟩,λb c=>?_⟩;have e:b=it:=by simpa using c
  subst e;rw [zD (bD a)];exact (t b c).1
 done:=by
  intro X B C D N i j s σ H E I t st F;subst B C D;obtain⟨G,O⟩:=F;obtain⟨ok,l,st⟩:=st;obtain⟨z,S,T,f,J⟩:=uN I.hok G hd;obtain⟨f0,f1,f2,f3,f4,f5⟩:=t it (by simp);have u:=f.length;exact wpAny_pyNext_items_end (I.ok.hd N) (by rw [<-u];exact st) J (by simp;lia) λA eb=>⟨rfl,I.turned (t':=s.toks) (λb y c e=>eb b y c e) f0 f1 f3 f4 f5⟩
 self:=λ_ _ _ _ _ st h=>by
  obtain⟨ok,l,st⟩:=st;exact qP5 st h
end
section
variable{X:Cx}{elts:List Expr}{kk:Nat}{tpos:Pos}
def iView(te:TE):TI:=λσ H R=>te σ H λx H1 => ∃a d kvs,x = .ref a/\H1 a=some (viewO d)/\H1 d=some (.dK kvs) /\ ∀o,R (Iti d o kvs) (upd H1 d (.frz o (.dK kvs)))
theorem qWy{l:Expr}{p:TE}(C:PE X l p):PI X (.Tuple elts kk tpos) l (iView p):=by
 intro c s σ H R I h;refine thn (C c s σ H _ I h) λv f hq_=>?_;obtain⟨x,D,j,E,F⟩:=hq_;obtain⟨a,d,g,e,G,r,q⟩:=F;subst e;cases E;obtain⟨z,J,t,i,o,u,y,k,A,m,B⟩:=ye j.hok r;have K:f.heap.DictAt (zY X.prog X.w) d t y:=⟨o,u,k,A,m,B⟩;have n:Inv X c σ (upd D d (.frz o (.dK g))) f:=j.freeze r True.intro k λM=>⟨z,J,t,i,o,u,y,k,A,m,B⟩;refine wpAny_pyIter_items (j.hok a _ G).1 K ?_;refine⟨f.heap.objs.size,[f.heap.objs.size],_,_,_,rfl,n.kept (t':=f.toks) λb N e=>aG _ e,qOj d _ o g m,⟨_,_,by rw [i.length];exact aT _ rfl⟩,λb L=>?_,q o⟩;have e:b=f.heap.objs.size:=by simpa using L
 subst e;exact n.fpOk (aF _) (n.hok.fresh (aF _))
theorem qWr{c:TE}{σ : St}{H:Hp}{R:It->Hp->Prop}(h:c σ H λx b => ∃a d kvs,x = .ref a/\b a=some (viewO d)/\b d=some (.dK kvs) /\ ∀o,R (Iti d o kvs) (upd b d (.frz o (.dK kvs)))):iView c σ H R:=h
end
theorem qP2{d:Addr}{o:Obj}{kvs:List (Key×V)}{g:TG}{j:TT}{B:St->Hp->(St->Hp->Prop)->Prop}{σ : St}{H:Hp}{Q:St->Hp->Prop}(Pv:Nat->St->Hp->Prop)(q:Pv 0 σ H)(l:∀i σ H,i<=kvs.length->Pv i σ H->H d=some (.frz o (.dK kvs)))(s:∀i k v σ H p (R:St->Hp->Prop),kvs[i]? = some (k,v)->Pv i σ H->H p=none->(∀ c f,Pv (i+1) c f->R c f)->g (.ref p) σ (upd H p (.tup [kV k,v])) λa t=>j a t λb m=>if b=true then B a m R else R a m)(hd:∀ σ H,Pv kvs.length σ H->Q σ H):LoopT (Iti d o kvs) g j B σ H Q:=by
 refine wF (n:=kvs.length) Pv q (λi σ H h p=>⟨l i σ H (dH h) p,h⟩) (λσ H p=>⟨l _ σ H (aF _) p,aF _⟩) (λi σ H R h p u x f y=>?_) hd;obtain⟨r,k,v,e,w,z,A⟩:=y;subst e A;exact s i k v σ H r R z p w u
theorem Inv.laidN{X:Cx}{a:List (Addr×Obj)}{σ : St}{H:Hp}{s:Shared}{h':Heap}{t':Nat}{D:Addr}{o:HO}(I:Inv X a σ H s)(k:∀b u,s.heap.get? b=some u->h'.get? b=some u)(h:s.heap.get? D=none)(new:ObjOk X.prog X.w (upd H D o) h' D o):Inv X a σ (upd H D o) { s with heap:=h',toks:=t' }:=by
 have d:H D=none:=I.hok.gone h;have f:∀b u,s.heap.get? b=some u->b≠D:=λb u e z=>by rw [z,h] at e;cases e
 refine I.step (g':=s.gens) (d':=s.drawn) (ch :=[]) (λ_ z=>nomatch z) (λb u _ _ _ e _=>k b u e) (λb u _ _ _ e _=>⟨u.slots,k b u e⟩) (λb u _ e n=>by rw [zD (f b u e)];exact n)
  (λb u _ e=>⟨u,k b u e⟩) (λb i e=>by rw [zD (zF e d)];exact e) (λb g i e=>by rw [zD (zF e d)];exact e) (λb x e=>⟨#[],by rw [zD (zF e d),e];simp⟩) (λy l=>?_) (λb u e=>?_) I.bare
 ·obtain⟨g,m,p,t,r⟩:=l;exact⟨g,m,p,k _ g t,r⟩
 ·by_cases j:b=D
  ·subst j;rw [zC] at e;cases e;exact new
  ·rw [zD j] at e;exact (I.hok b u e).stay (λc v _ q=>k c v q) (λc q=>by rw [zD (zF q d)];exact q) λc i q=>by rw [zD (zF q d)];exact q
theorem qVo{a b:TE}{σ : St}{H:Hp}{Q:VK}(h:a σ H λx d => ∃c,x = .bl c/\if c=true then b σ d Q else Q (.bl false) d):tAndV a b σ H Q:=h
theorem qVn{a:TE}{σ : St}{H:Hp}{Q:VK}(h:a σ H λx b => ∃c,x = .bl c/\Q (.bl (!c)) b):tNotV a σ H Q:=h
theorem qN9{r a:R2}{b c d:TE}{σ : St}{H:Hp}{Q:VK}(h:b σ H λx f=>c σ f λy g=>r x y g λz e => ∃k,z = .bl k/\(if k=true then d σ e λi j=>a y i j Q else Q (.bl false) e)):oK r a b c d σ H Q:=h
theorem qV9(d:Deed)(b:Int):wrB b d=true↔wr d=some b:=by
 cases d <;> simp [wrB,wr,darg] <;> exact decide_eq_true_iff
theorem qMo{m works:Int}{c:List Blk}(h:WorkOk m works c):boxTo c 8=boxes c:=by
 refine xp ?_ (yl c) λb=>?_
 ·unfold boxTo;rw [List.pairwise_map];exact (List.Pairwise.filter _ dU).imp λ{a b} h=>by lia
 ·rw [qSa,jd h];unfold yk;constructor
  ·intro ⟨_,j⟩;obtain⟨y,l⟩:∃y,y∈wrTo c b c.length:=by
    cases e:wrTo c b c.length with
    | nil=>exact absurd e j
    | cons y r=>exact⟨y,aQ ..⟩
   obtain⟨n,rfl,f,g⟩:=mem_wrTo.mp l;unfold hasW at g;rw [aD f] at g;have g:wrote b c[n].ds=true:=g;obtain⟨d,k,e⟩:=dE.mp g;refine cG.mpr ⟨c[n],cL f,eO.mpr ⟨d,k,?_⟩⟩;exact (qV9 d b).mp e
  ·intro i;have s:=vf h (by unfold yk;exact i);refine⟨by lia,λe=>?_⟩;obtain⟨blk,o,i⟩:=cG.mp i;obtain⟨d,k,p⟩:=eO.mp i;obtain⟨n,f,q⟩:=bI o
   have:(n:Int)∈wrTo c b c.length:=mem_wrTo.mpr ⟨n,rfl,f,by
    unfold hasW;rw [aD f,q]
    exact dE.mpr ⟨d,k,(qV9 d b).mpr p⟩⟩
   rw [e] at this;cases this
theorem uo{m works y:Int}{a:List Blk}(h:WorkOk m works a)(b:y∈boxes a):0<=y/\y<8:=vf h ((jd h).mp b)
noncomputable def busyL(ws:List (List Blk))(n:Nat)(wk:List Blk)(x:Int):List Int:=((List.range wk.length).map λ(k:Nat)=>(k:Int)).filter λy =>@decide (BusyP ws n wk x y) (Classical.propDecidable _)
theorem wu{m works:Int}{b:List (List Blk)}{n:Nat}{a:List Blk}{x y:Int}(h:WorkOk m works a):y∈busyL b n a x↔BusyP b n a x y:=by
 unfold busyL;rw [bQ];constructor
 ·intro z;exact @of_decide_eq_true _ (Classical.propDecidable _) z.2
 ·intro z;have c:=um h z;have:=h.len;exact⟨aW.mpr ⟨y.toNat,bF.mpr (by lia),by lia⟩,@decide_eq_true _ (Classical.propDecidable _) z⟩
theorem qPf(c:List (List Blk))(n:Nat)(d:List Blk)(x:Int):(busyL c n d x).Pairwise (· < ·):=by
 unfold busyL;refine List.Pairwise.filter _ ?_;rw [List.pairwise_map];exact dU.imp λ{a b} h=>by lia
theorem qXr{m works:Int}{d:List (List Blk)}{n:Nat}{c:List Blk}{x:Int}{ns:List Int}(h:WorkOk m works c)(e:ns.Pairwise (· <= ·))(f:ns.Nodup)(g:∀y,y∈ns↔BusyP d n c x y):ns=busyL d n c x:=by
 refine xp ?_ (qPf d n c x) λy=>by rw [g,wu h]
 exact (e.and f).imp λ{a b} z=>by obtain⟨i,j⟩:=z;lia
section
variable{K:PySem.W.Frag}{G G':Hp}
mutual
theorem Den.monoS(b:∀a xs,SqL K G a xs->SqL K G' a xs)(c:∀a xs,SqT K G a xs->SqT K G' a xs):∀ {d:PyData} {v:V},Den K G d v->Den K G' d v
 | .none,_,e=>by simp only [Den] at e ⊢;exact e
 | .bool _,_,e=>by simp only [Den] at e ⊢;exact e
 | .int _,_,e=>by simp only [Den] at e ⊢;exact e
 | .str _,_,e=>by simp only [Den] at e ⊢;exact e
 | .list ds,_,e=>by
  simp only [Den] at e ⊢;obtain⟨a,f,g,h,i⟩:=e;exact⟨a,f,g,b _ _ h,DenL.monoS b c i⟩
 | .tuple ds,_,e=>by
  simp only [Den] at e ⊢;obtain⟨a,f,g,h,i⟩:=e;exact⟨a,f,g,c _ _ h,DenL.monoS b c i⟩
 | .dict _,_,e=>by simp only [Den] at e
theorem DenL.monoS(b:∀a xs,SqL K G a xs->SqL K G' a xs)(c:∀a xs,SqT K G a xs->SqT K G' a xs):∀ {ds:List PyData} {vs:List V},DenL K G ds vs->DenL K G' ds vs
 | [],_,e=>by simp only [DenL] at e ⊢;exact e
 | d::ds,_,e=>by
  simp only [DenL] at e ⊢;obtain⟨v,r,f,g,h⟩:=e;exact⟨v,r,f,Den.monoS b c g,DenL.monoS b c h⟩
end
theorem Den.beside{d:Addr}{kvs:List (Key×V)}(hd:G d=some (.dK kvs))(e:Ext [d] G f){x:PyData}{v:V}(h:Den K G x v):Den K f x v:=by
 have ne:∀ {b o},G b=some o->(∀k,o ≠ .dK k)->f b=some o:=λ{b o} c g=>e _ _ (by
  intro z;have z:b=d:=by simpa using z
  rw [z,hd] at c
  exact g _ (bT c).symm) c
 refine h.monoS (λa i z=>?_) (λa i z=>?_)
 ·rcases z with (z | ⟨o,z⟩) | z
  ·exact .inl (.inl (ne z λ_=>by simp))
  ·exact .inl (.inr ⟨o,ne z λ_=>by simp⟩)
  ·exact .inr z
 ·rcases z with (z | ⟨o,z⟩) | z
  ·exact .inl (.inl (ne z λ_=>by simp))
  ·exact .inl (.inr ⟨o,ne z λ_=>by simp⟩)
  ·exact .inr z
theorem Ext.thawed{d:Addr}{o:Obj}{u:HO}(hd:G d=some u)(e:Ext [] (upd G d (.frz o u)) c):Ext [] G (upd c d u):=λb f _ a=>by
 by_cases z:b=d
 ·subst z;rw [zC];rw [hd] at a;exact a
 ·rw [zD z];exact e _ _ (by simp) (by rw [zD z];exact a)
end
def ListsAt(H:Hp)(as:List Addr)(ls:List (List Int)):Prop:=Paired (λa ns=>H a=some (.lst (ns.map V.int))) as ls
theorem ListsAt.len{H:Hp}{as:List Addr}{a:List (List Int)}(h:ListsAt H as a):as.length=a.length:=cZ h
theorem ListsAt.mono{H c:Hp}{as:List Addr}{d:List (List Int)}(h:ListsAt H as d)(k:∀a∈as,∀o,H a=some o->c a=some o):ListsAt c as d:=by
 unfold ListsAt at h ⊢
 induction h with
 | nil=>exact .nil
 | @cons a n as ns r _ f=>exact .cons (k a (aQ ..) _ r) (f λb g o e=>k b (aP _ g) o e)
theorem ListsAt.snoc{H:Hp}{as:List Addr}{b:List (List Int)}{a:Addr}{ns:List Int}(h:ListsAt H as b)(e:H a=some (.lst (ns.map V.int))):ListsAt H (as ++ [a]) (b ++ [ns]):=Paired.snoc h e
theorem ListsAt.get{H:Hp}{as:List Addr}{c:List (List Int)}(h:ListsAt H as c):∀ {i:Nat} {a:Addr},as[i]? = some a -> ∃ns,c[i]? = some ns/\H a=some (.lst (ns.map V.int)):=by
 unfold ListsAt at h
 induction h with
 | nil=>intro i a e;simp at e
 | @cons a n as ns r _ d =>
  intro i b e;cases i with
  | zero=>simp at e;subst e;exact⟨n,rfl,r⟩
  | succ i=>simpa using d (i:=i) (a:=b) (by simpa using e)
def planK(bs:List Int)(as:List Addr):List (Key×V):=(bs.zip as).map λp=>(Sum.inl p.1,V.ref p.2)
theorem yY{bs:List Int}{as:List Addr}(h:as.length=bs.length):(planK bs as).length=bs.length:=by unfold planK;rw [aB,List.length_zip];lia
theorem qNd{bs:List Int}{as:List Addr}{j:Nat}{k:Key}{v:V}(h:(planK bs as)[j]? = some (k,v)):∃b a,bs[j]? = some b/\as[j]? = some a/\k=Sum.inl b/\v=V.ref a:=by
 unfold planK at h;rw [aS] at h;cases e:(bs.zip as)[j]? with
 | none=>rw [e] at h;cases h
 | some p =>
  rw [e] at h;obtain⟨c,d⟩:=List.getElem?_zip_eq_some.mp e;have h:(Sum.inl p.1,V.ref p.2)=(k,v):=bT h;exact⟨p.1,p.2,c,d,(congrArg Prod.fst h).symm,(congrArg Prod.snd h).symm⟩
theorem yw:∀ {bs:List Int} {as:List Addr},as.length=bs.length->(planK bs as).map (·.1)=bs.map Sum.inl
 | [],[],_=>rfl
 | [],_::_,h=>by cases h
 | _::_,[],h=>by cases h
 | b::bs,a::as,h=>by
  have:=yw (bs:=bs) (as:=as) (by simpa using h);unfold planK at this ⊢;rw [List.zip_cons_cons,bG,bG,bG,this]
theorem qOp{bs:List Int}{as:List Addr}{b:Int}{a:Addr}(h:as.length=bs.length)(d:b∉bs):putK (planK bs as) (Sum.inl b) (V.ref a)=planK (bs ++ [b]) (as ++ [a]):=by
 unfold putK;rw [if_neg]
 ·unfold planK;rw [List.zip_append h.symm,aJ];rfl
 ·intro z;obtain⟨p,f,e⟩:=dE.mp z;have e:p.1=Sum.inl b:=of_decide_eq_true e;have:p.1∈(planK bs as).map (·.1):=aW.mpr ⟨p,f,rfl⟩;rw [yw h,e] at this;obtain⟨c,g,i⟩:=aW.mp this;have:c=b:=Sum.inl.inj i;exact d (this▸g)
theorem ww:∀ {bs:List Int} {as:List Addr} {j:Nat} {b:Int} {a:Addr},bs.Nodup->bs[j]? = some b->as[j]? = some a->valV (planK bs as) (Sum.inl b)=some (V.ref a)
 | [],_,_,_,_,_,e,_=>by simp at e
 | _::_,[],_,_,_,_,_,e=>by simp at e
 | c::bs,d::as,0,b,a,_,f,g=>by
  simp at f g;subst f g;simp [planK,valV]
 | c::bs,d::as,j+1,b,a,h,f,g=>by
  have h:=dA.mp h;have f:bs[j]? = some b:=by simpa using f
  have ne:c≠b:=λz=>h.1 (z▸aM f);have:=ww h.2 f (show as[j]? = some a by simpa using g);unfold planK valV at this ⊢;rw [List.zip_cons_cons,bG,List.find?_cons_of_neg]
  ·exact this
  ·simp [ne]
structure PlanAt(H:Hp)(d:Addr)(bs:List Int)(as:List Addr)(ls:List (List Int)):Prop where
 dict:H d=some (.dK (planK bs as))
 lists:ListsAt H as ls
 len:as.length=bs.length
 nd:as.Nodup
 nda:d∉as
theorem PlanAt.snoc{G k:Hp}{d c:Addr}{bs:List Int}{as:List Addr}{n:List (List Int)}{b:Int}{ns:List Int}(h:PlanAt G d bs as n)(e:Ext [] G k)(l:G c=none)(r:k c=some (.lst (ns.map V.int)))(f:b∉bs):PlanAt (upd k d (.dK (putK (planK bs as) (Sum.inl b) (.ref c)))) d (bs ++ [b]) (as ++ [c]) (n ++ [ns]):=by
 have g:c≠d:=λz=>by rw [z,h.dict] at l;cases l
 have m:∀a∈as,∃o,G a=some o:=λa j=>by
  obtain⟨i,s,e⟩:=bI j;obtain⟨_,_,z⟩:=h.lists.get (i:=i) (a:=a) (by rw [aD s,e]);exact⟨_,z⟩
 refine⟨by rw [zC,qOp h.len f],?_,by simp [h.len],?_,?_⟩
 ·refine ListsAt.snoc (h.lists.mono λa j o q=>?_) (by rw [zD g];exact r);rw [zD (show a≠d from λz=>h.nda (z▸j))];exact e _ _ (by simp) q
 ·refine cF.mpr ⟨h.nd,by simp,λa j b f z=>?_⟩;have f:b=c:=by simpa using f
  obtain⟨o,p⟩:=m a j;rw [z,f,l] at p;cases p
 ·intro z;rcases aK.mp z with z | z
  ·exact h.nda z
  ·exact g (by simpa using z:d=c).symm
noncomputable def tightLs(ws:List (List Blk))(n:Nat)(wk:List Blk):List (List Int):=(boxes wk).map λx=>busyL ws n wk x
def kD:Key->PyData
 | .inl i =>.int i
 | .inr x =>.str x
mutual
def DenX(K:PySem.W.Frag)(G:Hp):PyData->V->Prop
 | .none,v=>v = .non
 | .bool b,v=>v = .bl b
 | .int i,v=>v = .int i
 | .str x,v=>v = .str x
 | .list ds,v => ∃a vs,v = .ref a/\SqL K G a vs/\DenXs K G ds vs
 | .tuple ds,v => ∃a vs,v = .ref a/\SqT K G a vs/\DenXs K G ds vs
 | .dict kvs,v => ∃a ps,v = .ref a/\Rd G a (.dK ps)/\DenXk K G kvs ps
def DenXs(K:PySem.W.Frag)(G:Hp):List PyData->List V->Prop
 | [],vs=>vs = []
 | d::ds,vs => ∃v r,vs=v::r/\DenX K G d v/\DenXs K G ds r
def DenXk(K:PySem.W.Frag)(G:Hp):List (PyData×PyData)->List (Key×V)->Prop
 | [],ps=>ps = []
 | (k,d)::r,ps => ∃kk v q,ps=(kk,v)::q/\k=kD kk/\DenX K G d v/\DenXk K G r q
end
mutual
theorem Den.x{K:PySem.W.Frag}{G:Hp}:∀ {d:PyData} {v:V},Den K G d v->DenX K G d v
 | .none,_,e=>by simp only [Den] at e;simp only [DenX];exact e
 | .bool _,_,e=>by simp only [Den] at e;simp only [DenX];exact e
 | .int _,_,e=>by simp only [Den] at e;simp only [DenX];exact e
 | .str _,_,e=>by simp only [Den] at e;simp only [DenX];exact e
 | .list ds,_,e=>by
  simp only [Den] at e;obtain⟨a,b,c,f,g⟩:=e;simp only [DenX];exact⟨a,b,c,f,DenL.x g⟩
 | .tuple ds,_,e=>by
  simp only [Den] at e;obtain⟨a,b,c,f,g⟩:=e;simp only [DenX];exact⟨a,b,c,f,DenL.x g⟩
 | .dict _,_,e=>by simp only [Den] at e
theorem DenL.x{K:PySem.W.Frag}{G:Hp}:∀ {ds:List PyData} {vs:List V},DenL K G ds vs->DenXs K G ds vs
 | [],_,e=>by simp only [DenL] at e;simp only [DenXs];exact e
 | d::ds,_,e=>by
  simp only [DenL] at e;obtain⟨v,r,a,b,c⟩:=e;simp only [DenXs];exact⟨v,r,a,Den.x b,DenL.x c⟩
end
theorem DenXs.nil{K:PySem.W.Frag}{G:Hp}:DenXs K G [] []:=by simp only [DenXs]
theorem DenXs.cons{K:PySem.W.Frag}{G:Hp}{d:PyData}{ds:List PyData}{v:V}{vs:List V}(h:DenX K G d v)(t:DenXs K G ds vs):DenXs K G (d::ds) (v::vs):=by simp only [DenXs];exact⟨v,vs,rfl,h,t⟩
theorem DenX.list{K:PySem.W.Frag}{G:Hp}{ds:List PyData}{a:Addr}{vs:List V}(h:SqL K G a vs)(t:DenXs K G ds vs):DenX K G (.list ds) (.ref a):=by simp only [DenX];exact⟨a,vs,rfl,h,t⟩
def RdX(P:Program)(w:World)(h:Heap)(u:Value)(d:PyData):Prop:=(∃as,Reads h u d as)/\(d.showable=true->d.shown.length<=sizeLine -> ∃bs,ReadAtMost h d.depth bs/\ReprK P w bs h d.depth u d.shown)
def RdXs(P:Program)(w:World)(h:Heap)(us:List Value)(ds:List PyData):Prop:=(∃as,ReadsAll h us ds as)/\(PyData.showableAll ds=true->(∀t∈PyData.shownAll ds,t.length<=sizeLine) -> ∃bs,ReadAtMost h (PyData.depthAll ds) bs/\ReprAllK P w bs h (PyData.depthAll ds) us (PyData.shownAll ds))
theorem RdX.of{P:Program}{w:World}{h:Heap}{u:Value}{d:PyData}{as:List Addr}(r:Reads h u d as)(a:d.hasDict=false):RdX P w h u d:=⟨⟨as,r⟩,λb c=>ReprK.of_reads r b (λz=>by rw [a] at z;cases z) c⟩
theorem RdXs.nil{P:Program}{w:World}{h:Heap}:RdXs P w h [] []:=⟨⟨[],.nil⟩,λ_ _=>⟨[],(λ_ z=>nomatch z),by simp only [PyData.shownAll];exact .nil⟩⟩
theorem RdXs.cons{P:Program}{w:World}{h:Heap}{u:Value}{d:PyData}{us:List Value}{ds:List PyData}(x:RdX P w h u d)(t:RdXs P w h us ds):RdXs P w h (u::us) (d::ds):=by
 obtain⟨⟨s,i⟩,j⟩:=x;obtain⟨⟨v,k⟩,l⟩:=t;refine⟨⟨_,.cons i k⟩,λa e=>?_⟩;have a:(d.showable&&PyData.showableAll ds)=true:=by simpa only [PyData.showableAll] using a
 rw [aO] at a;obtain⟨m,n,o⟩:=j a.1 (e _ (by simp only [PyData.shownAll];exact aQ ..));obtain⟨b2,p,q⟩:=l a.2 (λt r=>e t (by simp only [PyData.shownAll];exact aP _ r));have f:d.depth<=PyData.depthAll (d::ds):=by simp only [PyData.depthAll];lia
 have g:PyData.depthAll ds<=PyData.depthAll (d::ds):=by simp only [PyData.depthAll];lia
 refine⟨m++b2,(n.mono f).append (p.mono g),?_⟩;simp only [PyData.shownAll];exact .cons ((o.more λb c=>bA _ c).level_le f) (q.more_le (λb c=>aZ _ c) g)
theorem RdX.list{P:Program}{w:World}{h:Heap}{a:Addr}{o:Obj}{us:Array Value}{n:Nat}{ds:List PyData}(c:h.get? a=some o)(d:o.cls = .type "list")(f:o.data = .seq us n)(t:RdXs P w h us.toList ds):RdX P w h (.ref a) (.list ds):=by
 obtain⟨⟨k,b⟩,q⟩:=t;have r:Reads h (.ref a) (.list ds) (a::k) :=.list c d f b;refine⟨⟨_,r⟩,λs g=>?_⟩;have g:(listText (PyData.shownAll ds)).length<=sizeLine:=by simpa only [PyData.shown] using g
 obtain⟨bs,m,p⟩:=q (by simpa [PyData.showable] using s) λt u=>bL (listText_mem_le u) g;have j:=gF r (by simp only [PyData.depth];lia) m;refine⟨a::bs,ReadAtMost.cons r (by simp only [PyData.depth];lia) m,?_⟩;simp only [PyData.depth,PyData.shown];obtain⟨l⟩:=us;cases l with
 | nil =>
  have b:ReadsAll h [] ds k:=b;cases b;simp only [PyData.shownAll,listText_nil];exact .listEmpty c d f
 | cons x l=>exact .list c d f j (by simpa using p.length_eq) λi y e=>p.item i y (by simpa using e)
theorem RdX.tuple{P:Program}{w:World}{h:Heap}{a:Addr}{o:Obj}{us:Array Value}{n:Nat}{ds:List PyData}(d:h.get? a=some o)(e:o.cls = .type "tuple")(f:o.data = .seq us n)(t:RdXs P w h us.toList ds):RdX P w h (.ref a) (.tuple ds):=by
 obtain⟨⟨i,j⟩,k⟩:=t;have r:Reads h (.ref a) (.tuple ds) i :=.tuple d e f j;refine⟨⟨_,r⟩,λl b=>?_⟩;have b:(tupleText (PyData.shownAll ds)).length<=sizeLine:=by simpa only [PyData.shown] using b
 obtain⟨bs,g,m⟩:=k (by simpa [PyData.showable] using l) λt p=>bL (tupleText_mem_le p) b;have c:=gF r (by simp only [PyData.depth];lia) g;refine⟨a::bs,ReadAtMost.cons r (by simp only [PyData.depth];lia) g,?_⟩;simp only [PyData.depth,PyData.shown];exact .tuple d e f c m
theorem RdX.dict{P:Program}{w:World}{h:Heap}{a:Addr}{o:Obj}{es:Array DictEntry}{n:Nat}{kvs:List (PyData×PyData)}(l:h.get? a=some o)(m:o.cls = .type "dict")(q:o.data = .dict es n)(e:(a == sysModules)=false)
  (f:RdXs P w h (es.toList.map (·.key)) (kvs.map (·.1))) (g:RdXs P w h (es.toList.map (·.val)) (kvs.map (·.2))):RdX P w h (.ref a) (.dict kvs):=by
 obtain⟨⟨v,x⟩,f⟩:=f;obtain⟨⟨ds,rd⟩,g⟩:=g;have r:Reads h (.ref a) (.dict kvs) (a::v++ds) :=.dict l m q x rd;refine⟨⟨_,r⟩,λy i=>?_⟩;have i:(dictText (PyData.shownKv kvs)).length<=sizeLine:=by simpa only [PyData.shown] using i
 obtain⟨z,A⟩:=PyData.showableKv_split kvs (by simpa [PyData.showable] using y);have c:∀ {t:Str},(∃p∈PyData.shownKv kvs,t.length<=p.length)->t.length<=sizeLine:=λ{t} ⟨p,B,C⟩=>bL C (bL (dictText_mem_le B) i);obtain⟨D,E,F⟩:=f z λt j=>c (PyData.shownKv_key_le kvs t j);obtain⟨b2,G,H⟩:=g A λt j=>c (PyData.shownKv_val_le kvs t j);have s:=PyData.depthAll_keys_le kvs;have u:=PyData.depthAll_vals_le kvs;have d:=(E.mono s).append (G.mono u);have k:=gF r (by simp only [PyData.depth];lia) d;refine⟨a::(D++b2),ReadAtMost.cons r (by simp only [PyData.depth];lia) d,?_⟩;simp only [PyData.depth,PyData.shown,PyData.shownKv_eq];exact .dict l m q e k (ReprEntriesK.of_two _ _ _ (F.more_le (λb d=>bA _ d) s) (H.more_le (λb d=>aZ _ d) u))
theorem RdX.key{P:Program}{w:World}{h:Heap}{k:Key}{u:Value}(e:(zY P w).is k u=true):RdX P w h u (kD k):=by
 rcases yU e with ⟨i,t,rfl,z⟩ | ⟨y,t,rfl,z⟩
 ·rw [z];exact .of (.int i t) (by simp only [kD,PyData.hasDict])
 ·rw [z];exact .of (.str y t) (by simp only [kD,PyData.hasDict])
section
variable{X:Cx}{pins:List (Addr×Obj)}{σ : St}{H:Hp}{s:Shared}
mutual
theorem DenX.reads(I:Inv X pins σ H s):∀ {d:PyData} {v:V} {u:Value},DenX X.K H d v->RelV v u->RdX X.prog X.w s.heap u d
 | .none,_,_,e,r=>by simp only [DenX] at e;subst e;cases r;exact .of .none (by simp only [PyData.hasDict])
 | .bool b,_,_,e,r=>by simp only [DenX] at e;subst e;cases r;exact .of (.bool b) (by simp only [PyData.hasDict])
 | .int i,_,_,e,r=>by simp only [DenX] at e;subst e;obtain⟨t,rfl⟩:=r;exact .of (.int i t) (by simp only [PyData.hasDict])
 | .str x,_,_,e,r=>by simp only [DenX] at e;subst e;obtain⟨t,rfl⟩:=r;exact .of (.str x t) (by simp only [PyData.hasDict])
 | .list ds,_,_,e,r=>by
  simp only [DenX] at e;obtain⟨a,p,rfl,c,f⟩:=e;cases r;obtain⟨j,k,⟨o,n,l,g,q,h⟩,_⟩:=I.list c;exact .list l g h (by simpa using DenXs.reads I f k)
 | .tuple ds,_,_,e,r=>by
  simp only [DenX] at e;obtain⟨a,p,rfl,c,f⟩:=e;cases r;obtain⟨j,k,⟨o,l,g,n,h⟩,_⟩:=I.tuple c;exact .tuple l g h (by simpa using DenXs.reads I f k)
 | .dict y,_,_,e,r=>by
  simp only [DenX] at e;obtain⟨a,F,rfl,c,f⟩:=e;cases r;obtain⟨z,A,p,m,o,G,J,B,g,q,h,C,L⟩:=xF I.hok c;obtain⟨D,E⟩:=DenXk.reads I f m C;exact .dict B g.1 q A D E
theorem DenXs.reads(I:Inv X pins σ H s):∀ {ds:List PyData} {vs:List V} {us:List Value},DenXs X.K H ds vs->Vals vs us->RdXs X.prog X.w s.heap us ds
 | [],_,_,e,r=>by simp only [DenXs] at e;subst e;cases r;exact .nil
 | d::ds,_,_,e,r=>by
  simp only [DenXs] at e;obtain⟨v,g,rfl,a,b⟩:=e;cases r with
  | cons c f=>exact .cons (DenX.reads I a c) (DenXs.reads I b f)
theorem DenXk.reads(I:Inv X pins σ H s):∀ {kvs:List (PyData×PyData)} {ps:List (Key×V)} {vs:List (Key×Value)} {es:List DictEntry},DenXk X.K H kvs ps->KV ps vs->Pairs (zY X.prog X.w) es vs->RdXs X.prog X.w s.heap (es.map (·.key)) (kvs.map (·.1))/\RdXs X.prog X.w s.heap (es.map (·.val)) (kvs.map (·.2))
 | [],_,_,_,e,r,q=>by
  simp only [DenXk] at e;subst e;cases r;cases q;exact⟨.nil,.nil⟩
 | (k,d)::kvs,_,_,_,e,r,q=>by
  simp only [DenXk] at e;obtain⟨h,v,ps,rfl,rfl,i,j⟩:=e;cases r with
  | @cons _ b _ bs c l =>
   obtain⟨m,g⟩:=b;obtain⟨c,a⟩:=c;have c:h=m:=c;subst c;cases q with
   | @cons n _ _ _ o f p =>
    obtain⟨t,u⟩:=DenXk.reads I j l p;have a:RelV v g:=a;have f:n.val=g:=f;rw [<-f] at a;exact⟨.cons (.key o) t,.cons (DenX.reads I i a) u⟩
end
def qYj(K:PySem.W.Frag):List V->Hp->VK->Prop:=λxs H Q => ∃(a:Addr) (ds:List PyData),xs = [.ref a]/\DenX K H (.list ds) (.ref a)/\PyData.showable (.list ds)=true/\PyData.depth (.list ds)<=100/\(PyData.shown (.list ds)).length<=sizeLine/\Q (.str (PyData.shown (.list ds))) H
theorem qPd{k:Nat}(C:Room k X.A):CallR X (.builtin "repr") (qYj X.K):=by
 intro c s σ H Z us Q I r h;obtain⟨a,d,rfl,m,J,L,M,q⟩:=h;obtain⟨u,rfl,N⟩:=vals1 r;cases N;have m:=m;simp only [DenX] at m;obtain⟨a',vs,O,P,R⟩:=m;cases O;obtain⟨v,S,⟨o,n,f,p,g3,w⟩,_⟩:=I.list P;obtain⟨⟨T,D⟩,U⟩:=DenXs.reads I R S;have E:(listText (PyData.shownAll d)).length<=sizeLine:=by simpa only [PyData.shown] using M
 have hu:=C.un;obtain⟨bs,V,G⟩:=U (by simpa [PyData.showable] using J) λt W=>bL (listText_mem_le W) E;have r:Reads s.heap (.ref a) (.list d) (a::T) :=.list f p w (by simpa using D);have z:=gF r (by simp only [PyData.depth];lia) V;have Y:PyData.depthAll d+1<=100:=by simpa only [PyData.depth] using L
 have g:∀(j:Heap) (u:Tok) (tk:Nat),(∀b o,s.heap.get? b=some o->j.get? b=some o)->EP X c σ Q (.str (PyData.shown (.list d)) u) { s with heap:=j,toks:=tk }:=λj u tk B=>⟨.str _,H,I.kept (t':=tk) B,⟨_,rfl⟩,q⟩;refine call_repr_slot (by lia) ⟨o,f,p⟩ F.slot_list_repr.toG ?_;cases v with
 | nil =>
  cases D;refine call_list_repr_empty ⟨o,f,p⟩ f w ⟨_,_,rfl,?_⟩;have:=g s.heap;simp only [PyData.shown,PyData.shownAll,listText_nil] at this;exact this _ _ λ_ _ e=>e
 | cons x l =>
  refine call_list_reprK f p w z (by simpa using G.length_eq) (λi y e=>G.item i y (by simpa using e)) C.gd (λb _=>Clear.nil b) (show X.A.units+1+(PyData.depthAll d+1)<cLine by lia) (λ_ _ e=>e) (λj u tk B=>⟨_,_,rfl,?_⟩) E;have:=g j u tk B;simpa only [PyData.shown] using this
end
structure Fit(d:PyData)(W D:Nat):Prop where
 sh:d.showable=true
 lv:d.leavesShort 14=true
 we:d.weight<=W
 de:d.depth<=D
theorem Fit.mono{d:PyData}{W D a b:Nat}(h:Fit d W D)(c:W<=a)(e:D<=b):Fit d a b:=⟨h.sh,h.lv,bL h.we c,bL h.de e⟩
theorem Fit.of{d:PyData}{n D:Nat}(h:tame d=true)(a:cells d<=n)(hd:d.depth<=D):Fit d (46*n+45) D:=⟨qJj d h,PyData.leavesShort_of_canLay0 14 d (jf d h) (qHi d h),bL (qGk d h) (by lia),hd⟩
def FitS(ds:List PyData)(W D:Nat):Prop:=PyData.showableAll ds=true/\PyData.leavesShortAll 14 ds=true/\PyData.weightAll ds<=W/\PyData.depthAll ds<=D
theorem FitS.nil(D:Nat):FitS [] 0 D:=⟨rfl,rfl,aF _,bB _⟩
theorem FitS.cons{d:PyData}{ds:List PyData}{W V D:Nat}(h:Fit d W D)(t:FitS ds V D):FitS (d::ds) (W+1+V) D:=by
 obtain⟨a,b,c,e⟩:=t;have f:=h.we;have g:=h.de;refine⟨?_,?_,?_,?_⟩
 ·simp only [PyData.showableAll,h.sh,a,eW]
 ·simp only [PyData.leavesShortAll,h.lv,b,eW]
 ·simp only [PyData.weightAll];lia
 ·simp only [PyData.depthAll];lia
theorem FitS.map{α : Type}{f : α -> PyData}{W D:Nat}:∀ {l:List α},(∀x∈l,Fit (f x) W D)->FitS (l.map f) ((W+1)*l.length) D
 | [],_ =>.nil D
 | x::r,h=>by
  have:=(h x (aQ ..));have t:=FitS.map (l:=r) λy a=>h y (aP _ a);have e:(W+1)*(x::r).length=W+1+(W+1)*r.length:=by rw [bY,Nat.mul_add,Nat.mul_one,Nat.add_comm]
  rw [e];exact .cons this t
theorem FitS.list{ds:List PyData}{W D:Nat}(t:FitS ds W D):Fit (.list ds) W (D+1):=by
 obtain⟨a,b,c,d⟩:=t;refine⟨?_,?_,?_,?_⟩
 ·simpa only [PyData.showable] using a
 ·simpa only [PyData.leavesShort] using b
 ·simpa only [PyData.weight] using c
 ·simp only [PyData.depth];lia
theorem Fit.shown{d:PyData}{W D:Nat}(h:Fit d W D)(b:W<=1000000)(a:D<=100):d.showable=true/\d.depth<=100/\d.shown.length<=sizeLine:=by
 refine⟨h.sh,bL h.de a,?_⟩;have c:=PyData.shown_le 14 (by decide) d h.lv;have f:=h.we;have e:sizeLine=16777216:=by decide
 have g:(14+2)*d.weight<=16*1000000:=Nat.mul_le_mul (by decide) (by lia);lia
def FitK(kvs:List (PyData×PyData))(W D:Nat):Prop:=PyData.showableKv kvs=true/\PyData.leavesShortKv 14 kvs=true/\PyData.weightKv kvs<=W/\PyData.depthKv kvs<=D
theorem FitK.cons{k d:PyData}{kvs:List (PyData×PyData)}{U W V D:Nat}(a:Fit k U D)(h:Fit d W D)(t:FitK kvs V D):FitK ((k,d)::kvs) (U+W+2+V) D:=by
 obtain⟨b,c,e,f⟩:=t;have g:=h.we;have i:=h.de;have j:=a.we;have l:=a.de;refine⟨?_,?_,?_,?_⟩
 ·simp only [PyData.showableKv,h.sh,a.sh,b,eW]
 ·simp only [PyData.leavesShortKv,h.lv,a.lv,c,eW]
 ·simp only [PyData.weightKv];lia
 ·simp only [PyData.depthKv];lia
theorem FitK.map{α : Type}{g f : α -> PyData}{U W D:Nat}:∀ {l:List α},(∀x∈l,Fit (g x) U D/\Fit (f x) W D)->FitK (l.map λx=>(g x,f x)) ((U+W+2)*l.length) D
 | [],_=>⟨rfl,rfl,aF _,bB _⟩
 | x::r,h=>by
  obtain⟨a,b⟩:=h x (aQ ..);have t:=FitK.map (l:=r) λy c=>h y (aP _ c);have e:(U+W+2)*(x::r).length=U+W+2+(U+W+2)*r.length:=by rw [bY,Nat.mul_add,Nat.mul_one,Nat.add_comm]
  rw [e];exact .cons a b t
theorem FitK.dict{kvs:List (PyData×PyData)}{W D:Nat}(t:FitK kvs W D):Fit (.dict kvs) W (D+1):=by
 obtain⟨a,b,c,d⟩:=t;refine⟨?_,?_,?_,?_⟩
 ·simpa only [PyData.showable] using a
 ·simpa only [PyData.leavesShort] using b
 ·simpa only [PyData.weight] using c
 ·simp only [PyData.depth];lia
def SqV(tp:Bool)(K:PySem.W.Frag)(H:Hp)(a:Addr)(xs:List V):Prop:=match tp with | true=>SqT K H a xs | false=>SqL K H a xs
def Itzg(K:PySem.W.Frag)(tp tq:Bool)(a b:Addr):It :=
 ⟨λi H => ∃xs ys x y,SqV tp K H a xs/\SqV tq K H b ys/\xs[i]? = some x/\ys[i]? = some y,
   λi H v H' => ∃p x y,v = .ref p/\H p=none/\(∀us,SqV tp K H a us->us[i]? = some x)/\(∀us,SqV tq K H b us->us[i]? = some y)/\H'=upd H p (.tup [x,y]),
   λi H => ∃xs ys,SqV tp K H a xs/\SqV tq K H b ys/\xs.length<=i⟩
section
variable{X:Cx}{elts:List Expr}{k:Nat}{tpos:Pos}
def iZipg(K:PySem.W.Frag)(tp tq:Bool)(ta:TA):TI:=λσ H R=>ta σ H λvs H1 => ∃a b,vs = [.ref a,.ref b]/\(∃xs,SqV tp K H1 a xs)/\(∃ys,SqV tq K H1 b ys)/\R (Itzg K tp tq a b) H1
theorem qWq{K:PySem.W.Frag}{c d:Bool}{f:TA}{σ : St}{H:Hp}{R:It->Hp->Prop}(h:f σ H λvs e => ∃a b,vs = [.ref a,.ref b]/\(∃xs,SqV c K e a xs)/\(∃g,SqV d K e b g)/\R (Itzg K c d a b) e):iZipg K c d f σ H R:=h
end
section
variable{K:PySem.W.Frag}{G G':Hp}
theorem Same.rd(h:Same G G'){a:Addr}{u:HO}(e:Rd G a u):Rd G' a u:=by
 rcases e with e | ⟨o,e⟩
 ·exact .inl (h _ _ e)
 ·exact .inr ⟨o,h _ _ e⟩
mutual
theorem DenX.mono(h:Same G G'):∀ {d:PyData} {v:V},DenX K G d v->DenX K G' d v
 | .none,_,e=>by simp only [DenX] at e ⊢;exact e
 | .bool _,_,e=>by simp only [DenX] at e ⊢;exact e
 | .int _,_,e=>by simp only [DenX] at e ⊢;exact e
 | .str _,_,e=>by simp only [DenX] at e ⊢;exact e
 | .list ds,_,e=>by
  simp only [DenX] at e ⊢;obtain⟨a,g,b,c,f⟩:=e;exact⟨a,g,b,h.seq c,DenXs.mono h f⟩
 | .tuple ds,_,e=>by
  simp only [DenX] at e ⊢;obtain⟨a,g,b,c,f⟩:=e;exact⟨a,g,b,h.seqT c,DenXs.mono h f⟩
 | .dict i,_,e=>by
  simp only [DenX] at e ⊢;obtain⟨a,j,b,c,f⟩:=e;exact⟨a,j,b,h.rd c,DenXk.mono h f⟩
theorem DenXs.mono(h:Same G G'):∀ {ds:List PyData} {vs:List V},DenXs K G ds vs->DenXs K G' ds vs
 | [],_,e=>by simp only [DenXs] at e ⊢;exact e
 | d::ds,_,e=>by
  simp only [DenXs] at e ⊢;obtain⟨v,r,a,b,c⟩:=e;exact⟨v,r,a,DenX.mono h b,DenXs.mono h c⟩
theorem DenXk.mono(h:Same G G'):∀ {kvs:List (PyData×PyData)} {ps:List (Key×V)},DenXk K G kvs ps->DenXk K G' kvs ps
 | [],_,e=>by simp only [DenXk] at e ⊢;exact e
 | (k,d)::r,_,e=>by
  simp only [DenXk] at e ⊢;obtain⟨a,v,q,b,c,f,g⟩:=e;exact⟨a,v,q,b,c,DenX.mono h f,DenXk.mono h g⟩
end
theorem DenXs.len:∀ {ds:List PyData} {vs:List V},DenXs K G ds vs->vs.length=ds.length
 | [],_,e=>by simp only [DenXs] at e;rw [e];rfl
 | d::ds,_,e=>by
  simp only [DenXs] at e;obtain⟨v,r,rfl,_,a⟩:=e;simp [DenXs.len a]
theorem DenXs.get:∀ {ds:List PyData} {vs:List V} {i:Nat} {v:V},DenXs K G ds vs->vs[i]? = some v -> ∃d,ds[i]? = some d/\DenX K G d v
 | [],_,_,_,e,h=>by simp only [DenXs] at e;subst e;simp at h
 | d::ds,_,0,_,e,h=>by
  simp only [DenXs] at e;obtain⟨v,r,rfl,a,b⟩:=e;cases h;exact⟨d,rfl,a⟩
 | d::ds,_,i+1,_,e,h=>by
  simp only [DenXs] at e;obtain⟨v,r,rfl,a,b⟩:=e;obtain⟨c,f,g⟩:=DenXs.get (i:=i) b (by simpa using h);exact⟨c,by simpa using f,g⟩
theorem DenX.tuple{ds:List PyData}{a:Addr}{vs:List V}(h:SqT K G a vs)(t:DenXs K G ds vs):DenX K G (.tuple ds) (.ref a):=by simp only [DenX];exact⟨a,vs,rfl,h,t⟩
theorem DenX.ofList{ds:List PyData}{v:V}(h:DenX K G (.list ds) v):∃a vs,v = .ref a/\SqL K G a vs/\DenXs K G ds vs:=by simpa only [DenX] using h
theorem DenX.ofTuple{ds:List PyData}{v:V}(h:DenX K G (.tuple ds) v):∃a vs,v = .ref a/\SqT K G a vs/\DenXs K G ds vs:=by simpa only [DenX] using h
theorem DenX.ofDict{kvs:List (PyData×PyData)}{v:V}(h:DenX K G (.dict kvs) v):∃a ps,v = .ref a/\Rd G a (.dK ps)/\DenXk K G kvs ps:=by simpa only [DenX] using h
theorem DenX.ofInt{i:Int}{v:V}(h:DenX K G (.int i) v):v = .int i:=by simpa only [DenX] using h
theorem DenX.ofStr{i:Str}{v:V}(h:DenX K G (.str i) v):v = .str i:=by simpa only [DenX] using h
theorem DenX.ofBool{i:Bool}{v:V}(h:DenX K G (.bool i) v):v = .bl i:=by simpa only [DenX] using h
theorem DenX.ofNone{v:V}(h:DenX K G .none v):v = .non:=by simpa only [DenX] using h
theorem DenXs.ofCons{d:PyData}{ds:List PyData}{vs:List V}(h:DenXs K G (d::ds) vs):∃v r,vs=v::r/\DenX K G d v/\DenXs K G ds r:=by simpa only [DenXs] using h
theorem DenXs.ofNil{vs:List V}(h:DenXs K G [] vs):vs = []:=by simpa only [DenXs] using h
end
def kindN:PyData->String
 | .none => "NoneType" | .bool _ => "bool" | .int _ => "int" | .str _ => "str" | .list _ => "list" | .tuple _ => "tuple" | .dict _ => "dict"
def yR(d:PyData)(n:String):Bool:=kindN d == n||(kindN d == "bool" && n == "int")
def up:List String :=["int","bool","str","list","tuple","dict"]
theorem qNt(K:PySem.W.Frag)(d:PyData):∀n∈up,PySem.W.kitOne K (.type (kindN d)) (.type n)=some (yR d n):=by
 intro n a;simp only [up,aV,List.not_mem_nil,or_false] at a;cases d <;> rcases a with rfl | rfl | rfl | rfl | rfl | rfl <;> rfl
section
variable{X:Cx}{pins:List (Addr×Obj)}{σ : St}{H:Hp}{s:Shared}{A:Around}{E:Value->Shared->Prop}
theorem qZ0(I:Inv X pins σ H s){d:PyData}{x:V}{u:Value}(h:DenX X.K H d x)(c:RelV x u):∃p:Heap->Prop,PySem.W.KitX X.K u (.type (kindN d)) p/\p s.heap/\u ≠ .builtin "__main__.__loader__#opaque" :=by
 cases d with
 | none=>cases h.ofNone;cases c;exact⟨_,PySem.W.kitx_none,True.intro,λz=>nomatch z⟩
 | bool b=>cases h.ofBool;cases c;exact⟨_,PySem.W.kitx_bool,True.intro,λz=>nomatch z⟩
 | int i=>cases h.ofInt;obtain⟨t,rfl⟩:=c;exact⟨_,PySem.W.kitx_int,True.intro,λz=>nomatch z⟩
 | str i=>cases h.ofStr;obtain⟨t,rfl⟩:=c;exact⟨_,PySem.W.kitx_str,True.intro,λz=>nomatch z⟩
 | list ds =>
  obtain⟨a,l,rfl,e,_⟩:=h.ofList;cases c;obtain⟨j,m,k,_⟩:=I.list e;obtain⟨o,f,g,_⟩:=k.isList;exact⟨_,PySem.W.kitx_list,⟨o,f,g⟩,λz=>nomatch z⟩
 | tuple ds =>
  obtain⟨a,l,rfl,e,_⟩:=h.ofTuple;cases c;obtain⟨j,m,k,_⟩:=I.tuple e;obtain⟨o,f,g,_⟩:=id k;exact⟨_,PySem.W.kitx_tuple,⟨o,f,g⟩,λz=>nomatch z⟩
 | dict n =>
  obtain⟨a,q,rfl,e,_⟩:=h.ofDict;cases c;obtain⟨_,r,l,_,o,v,w,f,g,_⟩:=xF I.hok e;exact⟨_,PySem.W.kitx_dict,⟨o,f,g.1⟩,λz=>nomatch z⟩
end
section
variable{X:Cx}
def rIsA(K:PySem.W.Frag):List V->Hp->VK->Prop:=λxs H Q => ∃(x:V) (d:PyData) (n:String),xs = [x,.ty n]/\DenX K H d x/\n∈up/\Q (.bl (yR d n)) H
theorem wP:CallR X (.builtin "isinstance") (rIsA X.K):=by
 intro b s σ H l m Q I r h;obtain⟨x,d,n,rfl,c,e,q⟩:=h;obtain⟨u,f,rfl,g,a⟩:=vals2 r;cases (show f=Value.type n from a);obtain⟨p,i,j,k⟩:=qZ0 I c g;exact PySem.W.kia_one i I.kIn j (qNt X.K d n e) k λtk=>⟨.bl _,H,I.tok _,rfl,q⟩
end
structure Fr where
 n:Nat
 w0:Int
 w1:Int
 pos:Int
 bx:List Int
 as:List (Int×Int)
structure Ms where
 held:List Int
 told:List Int
 flt:List (Int×Int)
 sv:Int
 bk:Int
 steps:Int
 taken:Int
 log:List (Int×Int×Int)
 st:List Fr
structure Gv where
 mean:Bool
 ws:List (List Blk)
 ch:List Int
 most:Int
abbrev K3:=Int×Int×Int
section
variable{P:Program}{w:World}
variable{A:Around}{E:Value->Shared->Prop}{s:Shared}
end
structure RA where
 self:Addr
 dx:Addr
 wa:Addr
 ba:Addr
 ca:Addr
 ta:Addr
 fa:Addr
 ga:Addr
 C:Addr
 CC:Addr
def cntL(log:List K3)(k:K3):Option Int:=if log.count k=0 then none else some (log.count k:Int)
def PrsAt(H:Hp):List V->List (Int×Int)->Prop:=Paired λv p => ∃a,v = .ref a/\H a=some (.tup [.int p.1,.int p.2])
def asD(as:List (Int×Int)):List (Key×V):=as.map λp=>((Sum.inl p.1:Key),V.int p.2)
def nowD(hd td fd mv:Addr)(st tk:Int):List (Key×V) :=[(.inr "held",.ref hd),(.inr "told",.ref td),(.inr "faults",.ref fd),(.inr "moves",.ref mv),(.inr "steps",.int st),(.inr "taken",.int tk)]
structure FA where
 fa:Addr
 wy:Addr
 bx:Addr
 as:Addr
def FrAt(H:Hp)(f:Fr)(a:FA):Prop:=H a.fa=some (.lst [.int (f.n:Int),.ref a.wy,.int f.pos,.ref a.bx,.ref a.as])/\H a.wy=some (.tup [.int f.w0,.int f.w1])/\H a.bx=some (.lst (f.bx.map V.int))/\H a.as=some (.dK (asD f.as))
structure LR where
 now:Addr
 hd:Addr
 td:Addr
 fd:Addr
 mv:Addr
 sk:Addr
 gn:Addr
 gs:List Addr
def adrs(fas:List FA):List Addr:=fas.flatMap λa =>[a.fa,a.bx,a.as]
def LR.all(l:LR)(fas:List FA):List Addr:=l.now::l.hd::l.td::l.fd::l.mv::l.sk::l.gn::(adrs fas++l.gs)
def WayAt(H:Hp)(x:Addr)(log:List K3)(i:Nat):Prop := ∃kvs:List (List Key×V),H x=some (.dT kvs)/\kvs.length<=log.length /\ ∀a b:Int,valV kvs [Sum.inl a,Sum.inl b]=(cntL log ((i:Int),a,b)).map V.int
structure LawAt(g:Gv)(l:LR)(G0 H:Hp)(m:Ms)(fas:List FA):Prop where
 now:H l.now=some (.dK (nowD l.hd l.td l.fd l.mv m.steps m.taken))
 held:H l.hd=some (.lst (m.held.map V.int))
 told:H l.td=some (.lst (m.told.map V.int))
 flt:∃fl,H l.fd=some (.lst fl)/\PrsAt H fl m.flt
 mv:H l.mv=some (.lst [.int m.sv,.int m.bk])
 sk:H l.sk=some (.lst (fas.reverse.map λa =>.ref a.fa))
 gn:H l.gn=some (.lst (l.gs.map V.ref))
 gl:l.gs.length=g.ws.length
 gw:∀i x,l.gs[i]? = some x->WayAt H x m.log i
 frs:Paired (FrAt H) m.st fas
 nd:(l.all fas).Nodup
 old:Ext [] G0 H
 ng:∀x∈l.all fas,G0 x=none
def psi(f:Fr):Nat:=if f.pos<0 then 2 else (23 - f.pos).toNat
def mu(g:Gv)(m:Ms):Nat:=(g.most - m.steps).toNat*1000+(m.st.map psi).sum
def lim(m:Ms):Nat:=10^12*2^m.steps.toNat
theorem r_seqC{t u:TS}{D:Ends}{σ : St}{H:Hp}(C:St->Hp->Prop)(c:∀ a b,C a b->u D a b)(d:(∀ a b,C a b->u D a b)->t { D with nx:=u D } σ H):tSeq t u D σ H:=d c
section
variable{g:Gv}{m:Ms}{f:Fr}{rest:List Fr}{wk:List Blk}{b:Blk}(est:m.st=f::rest)(hwk:g.ws[f.n]? = some wk)
include est hwk
variable(hne : ¬f.w1=(wk.length:Int))(hbk:wk[f.w1.toNat]? = some b)
include hne hbk
end
theorem qY9{a b:TE}{σ : St}{H:Hp}{Q:VK}(h:a σ H λx d => ∃c,x = .bl c/\if c=true then Q (.bl true) d else b σ d Q):tOrV a b σ H Q:=h
mutual
def xg:PyData->Bool
 | .list ds=>decide (ds.length<=900)&&wx ds
 | .tuple ds=>decide (ds.length<=900)&&wx ds
 | .none=>true
 | .bool _=>true
 | .int _=>true
 | .str _=>true
 | .dict _=>true
def wx:List PyData->Bool
 | []=>true
 | d::ds=>xg d&&wx ds
end
def zt:PyData->Bool
 | .int _=>true
 | _=>false
def fromD(lo hi:Int):PyData->Bool
 | .int n=>decide (lo<=n)&&decide (n<hi)
 | _=>false
def wordD:PyData->Option (Str×List PyData)
 | .tuple (.str s::r)=>some (s,r)
 | _=>none
def qZ6(s:Str):Option (List Str):=if s = "set" then some ["box","number"] else if s = "add" then some ["box","box"] else if s = "tell" then some ["box"] else if s = "call" then some ["work"] else if s = "save" then some ["box"] else if s = "back" then some ["box"] else none
def endN(s:Str):Option Nat:=if s = "out" then some 0 else if s = "go" then some 1 else if s = "fork" then some 2 else none
def partD(works:Int)(k:Str)(d:PyData):Bool:=if k = "box" then fromD 0 8 d else if k = "work" then fromD 0 works d else zt d
def deedB(works:Int)(d:PyData):Bool:=match wordD d with
 | none=>false
 | some (s,ps)=>match qZ6 s with
  | none=>false
  | some ks=>decide (ps.length=ks.length)&&(ps.zip ks).all λp=>partD works p.2 p.1
def intD:PyData->Int
 | .int n=>n
 | _=>0
def endB(many:Int)(d:PyData):Bool:=match wordD d with
 | none=>false
 | some (s,ns)=>match endN s with
  | none=>false
  | some n=>decide (ns.length=n)&&ns.all (fromD 1 many)&&decide ((zf (ns.map intD)).length=ns.length)
def qW5(many works:Int)(d:PyData):Bool:=match d with
 | .tuple [.list ds,e]=>endB many e&&ds.all (deedB works)
 | _=>false
def nsD:PyData->List Int
 | .tuple [_,.tuple (_::ns)]=>ns.map intD
 | _ =>[]
def nxD(bs:List PyData)(i:Int):List Int:=if 0<=i then ((bs[i.toNat]?).map nsD).getD [] else []
open Classical in
noncomputable def workB(works:Int)(d:PyData):Bool:=match d with
 | .list bs => !bs.isEmpty&&bs.all (qW5 bs.length works)&&decide (∀j:Nat,j<bs.length->Reach (nxD bs) 0 (j:Int))
 | _=>false
def vn(K:PySem.W.Frag):Sp:=λvs H Q _ => ∃(x:V) (d:PyData),vs = [x]/\DenX K H d x/\Q (.bl (zt d)) H
def qJp(K:PySem.W.Frag):Sp:=λvs H Q _ => ∃(x:V) (d:PyData) (lo hi:Int),vs = [x,.int lo,.int hi]/\DenX K H d x/\Q (.bl (fromD lo hi d)) H
theorem qHu(d:PyData):zt d=(yR d "int" && !yR d "bool"):=by cases d <;> rfl
theorem qKy{d:PyData}(h:zt d=true):∃n,d = .int n:=by cases d <;> first | exact⟨_,rfl⟩ | cases h
theorem qNx{lo hi:Int}{d:PyData}(h:zt d=false):fromD lo hi d=false:=by cases d <;> first | rfl | cases h
theorem qKu{d:PyData}(h:yR d "list" = true):∃ds,d = .list ds:=by cases d <;> first | exact⟨_,rfl⟩ | (revert h;decide) | cases h
theorem wz{K:PySem.W.Frag}{G:Hp}{Q:VK}{a:Addr}{bs:List Bool}(h:G a=some (.lst (bs.map V.bl)))(q:Q (.bl (bs.all id)) G):rAllB K [.ref a] G Q:=⟨a,bs,rfl,SqL.of h,q⟩
theorem jz{K:PySem.W.Frag}{G:Hp}{lo hi:Int}:∀ {ds:List PyData} {vs:List V},DenXs K G ds vs->ds.all (fromD lo hi)=true->vs=(ds.map intD).map V.int
 | [],_,e,_=>e.ofNil
 | d::ds,_,e,h=>by
  obtain⟨v,r,rfl,a,b⟩:=e.ofCons;rw [List.all_cons,aO] at h;rw [jz b h.2];cases d <;> first | (have a:=a.ofInt;subst a;rfl) | (have c:=h.1;cases c)
theorem qVm{t u:TS}{D:Ends}{σ : St}{H:Hp}(h:∀N:St->Hp->Prop,Nx N (u D)->t ⟨N,D.rt,D.bk,D.ct⟩ σ H):tSeq t u D σ H:=h _ λ_ _ h=>h
theorem qYc{a:TT}{A B:TS}{D:Ends}{σ : St}{H:Hp}(h:∀b d:St->Hp->Prop,Nx b (A D)->Nx d (B D)->a σ H λc e=>if c=true then b σ e else d σ e):tIfS a A B D σ H:=h _ _ (λ_ _ h=>h) λ_ _ h=>h
theorem qNy{lo hi:Int}{d:PyData}(h:fromD lo hi d=true):d = .int (intD d)/\lo<=intD d/\intD d<hi:=by
 cases d with
 | int n =>
  have h:(decide (lo<=n)&&decide (n<hi))=true:=h;rw [aO,decide_eq_true_eq,decide_eq_true_eq] at h;exact⟨rfl,h⟩
 | _=>cases h
theorem qXf{d:PyData}(h:zt d=true):d = .int (intD d):=by cases d <;> first | rfl | cases h
def bare(wk:List Blk):List Blk:=wk.map λb=>⟨[],b.ns⟩
open Classical in
theorem qZb{works:Int}{bs:List PyData}{c:Prop} [Decidable c] (a:(!bs.isEmpty)=true)(b:bs.all (qW5 bs.length works)=true)(h:c ↔ ∀j:Nat,j<bs.length->Reach (nxD bs) 0 (j:Int)):workB works (.list bs)=decide c:=by
 unfold workB;simp only [a,b,dG];rw [cM,decide_eq_true_iff,decide_eq_true_iff];exact h.symm
end L2
namespace L2
open PySem PySem.Spec PyProof.Rows PyProof
section
variable{X:Cx}
def qYl(K:PySem.W.Frag):List V->Hp->VK->Prop:=λxs H Q => ∃(x:V) (d:PyData),xs = [x]/\DenX K H d x/\(d.hasDict=false\/(∃ds,d = .list ds)\/d = .dict [])/\d.showable=true/\d.depth<=100/\d.shown.length<=sizeLine/\Q (.str d.shown) H
theorem qPe{k:Nat}(n:Room k X.A):CallR X (.builtin "repr") (qYl X.K):=by
 intro G s σ H Y Z Q I r h;obtain⟨x,d,rfl,f,J,v,R,p,q⟩:=h;have hu:=n.un;cases d with
 | list ds =>
  obtain⟨a,w,rfl,_,_⟩:=f.ofList;exact qPd n _ _ _ _ _ _ _ I r ⟨a,ds,rfl,f,v,R,p,q⟩
 | tuple ds =>
  obtain⟨a,w,rfl,_,_⟩:=f.ofTuple;obtain⟨u,rfl,c⟩:=vals1 r;cases c;have B:(PyData.tuple ds).hasDict=false:=by
   rcases J with z | ⟨_,z⟩ | z
   ·exact z
   ·cases z
   ·cases z
  obtain⟨⟨as,S⟩,_⟩:=DenX.reads I f (show RelV (.ref a) (Value.ref a) from rfl);exact repr_of_reads' S v (λz=>by rw [B] at z;cases z) n.gd (by lia) (λ_ _ e=>e) (λT u tk C=>⟨.str _,H,I.kept (t':=tk) C,⟨_,rfl⟩,q⟩) p
 | none =>
  have j:=f.ofNone;subst j;obtain⟨u,rfl,c⟩:=vals1 r;cases c;exact P.repr_of_none ⟨.str _,H,I.kept (t':=_) λ_ _ e=>e,⟨_,rfl⟩,by simpa only [PyData.shown] using q⟩
 | bool b =>
  have j:=f.ofBool;subst j;obtain⟨u,rfl,c⟩:=vals1 r;cases c;exact P.repr_of_bool ⟨.str _,H,I.kept (t':=_) λ_ _ e=>e,⟨_,rfl⟩,by simpa only [PyData.shown] using q⟩
 | int i =>
  have j:=f.ofInt;subst j;obtain⟨u,rfl,c⟩:=vals1 r;obtain⟨t,rfl⟩:=c;exact P.repr_of_int (by simpa [PyData.showable] using v) ⟨.str _,H,I.kept (t':=_) λ_ _ e=>e,⟨_,rfl⟩,by simpa only [PyData.shown] using q⟩
 | str y =>
  have j:=f.ofStr;subst j;obtain⟨u,rfl,c⟩:=vals1 r;obtain⟨t,rfl⟩:=c;exact P.repr_of_str ⟨.str _,H,I.kept (t':=_) λ_ _ e=>e,⟨_,rfl⟩,by simpa only [PyData.shown] using q⟩ (by simpa only [PyData.shown] using p)
 | dict D =>
  have B:D = []:=by
   rcases J with z | ⟨_,z⟩ | z
   ·simp [PyData.hasDict] at z
   ·cases z
   ·cases z;rfl
  subst B;obtain⟨a,ps,rfl,U,L⟩:=f.ofDict;obtain⟨u,rfl,c⟩:=vals1 r;cases c;simp only [DenXk] at L;subst L;obtain⟨z,V,w,g,o,M,ep,N,m,E,h4,O,h6⟩:=xF I.hok U;have g:w = []:=by
   unfold KV at g;cases g;rfl
  subst g;have W:M.toList = []:=by
   generalize M.toList=l at O;cases O;rfl
  refine call_repr_slot (by lia) ⟨o,N,m.1⟩ F.slot_dict_repr ?_;refine call_dict_reprK (as :=[]) (d:=0) (ps :=[]) N m.1 E V (by simp) (by rw [W];exact .nil) n.gd (λb _=>Clear.nil b) (show X.A.units+1+(0+1)<cLine by lia) (λ_ _ e=>e) (λT u tk C=>⟨_,_,rfl,?_⟩) ?_
  ·exact⟨.str _,H,I.kept (t':=tk) C,⟨_,rfl⟩,by simpa only [PyData.shown,PyData.shownKv] using q⟩
  ·simpa only [PyData.shown,PyData.shownKv] using p
end
section
variable{P:Program}{w:World}{A:Around}{E:Value->Shared->Prop}{s:Shared}{d:Addr}{o:Obj}{es:Array DictEntry}{ep:Nat}{key:Value}{hh:Int}
theorem qS3(b:∀e∈es,e.hash≠hh):placesWithHash es.size (λi=>es[i]?.map (·.hash)) hh = []:=by
 unfold placesWithHash;rw [List.filter_eq_nil_iff];intro i a;have a:=bF.mp a;show ¬((es[i]?.map (·.hash)) == some hh)=true;rw [bK a];simp [b es[i] (Array.getElem_mem a)]
theorem qSx{Q:Option Nat->Shared->Prop}(i:s.heap.get? d=some o)(hd:o.data = .dict es ep)(c:∀x t,key ≠ .str x t)(j:∀e∈es,e.hash≠hh)(f:∀e∈es,(e.key == key)=false)(h:Q none s):wpAny (model P w) A (dictFind d key hh) Q E s:=by
 unfold dictFind;refine bM ?_;refine aA (gC i hd ?_);have g:=qS3 j;have b:(es.any λe=>e.key == key&&e.hash != hh)=false:=by
  rw [Array.any_eq_false'];intro e k;simp [f e k]
 cases key with
 | str x t=>exact absurd rfl (c x t)
 | ref a =>
  simp only [g,fV];rw [if_neg (by simp [carriedByValue]),if_neg (by rw [b];exact aL),if_neg (show ¬(([]:List Value) == [Value.ref a])=true from aL)];unfold tableMayTell;refine aA ?_;show wpAny _ _ (pure false) _ _ s;refine aC ?_;rw [if_neg (by simp)];refine aA (aC ?_);exact aC h
 | _ =>
  simp only [g,fV];rw [if_pos (by simp [carriedByValue])];unfold dictWalkPlain;refine aA (aC ?_);exact aC h
theorem qTv{r:Value}{Q:Unit->Shared->Prop}(a:s.heap.get? d=some o)(h:o.ExactDict)(hd:o.data = .dict es ep)(hz:es.size<=sizeLine)(b:∀x t,key ≠ .str x t)(j:∀e∈es,e.hash≠hh)(c:∀e∈es,(e.key == key)=false)(hash:∀(k:Value->Shared->Prop) (i:Int->Shared->Prop),(∀tk,i hh { s with toks:=tk })->wpAny (model P w) A.in1 (pyHash key) i k s)(l:∀f tk g,Heap.SameBut d s.heap f->f.get? d=some g->g.ExactDict->g.data = .dict (es.push ⟨hh,key,r⟩) (ep+1)->Q () { s with heap:=f,toks:=tk }):wpAny (model P w) A (setItem (.ref d) key r) Q E s:=by
 have ty:s.TypeIs (.ref d) "dict" :=⟨o,a,h.1⟩;unfold setItem;refine bM ?_;refine aA (wpAny_sequenceKey ty (by decide) ?_)
 refine aA (cS (name:=Str.ofString "__setitem__") ty slot_dict_setitem
  (bX slot_dict_setitem ty entry_dict_setitem ?_ (args_dict_setitem _ _ _)))
 show wpAny _ _ (Builtin.Dict.notOrdered "__setitem__" ⟨[.ref d,key,r],[]⟩ >>= _) _ _ s;refine aA (eI ty ?_);show wpAny _ _ (dictSet d key r >>= _) _ _ s;refine aA ?_;unfold dictSet;refine bM ?_;refine aA (hash _ _ λtk=>?_);unfold dictSetHashed;refine bM ?_;refine aA (qSx (s :={ s with toks:=tk }) a hd b j c ?_);refine aA (cV (wpAny_updateDictKeys (hz:=hz) (s :={ s with toks:=tk }) a hd ?_));exact aC ⟨.none,rfl,aC (l _ _ _ (bR ..) (bZ _ a (Obj.isFreed_of_dict (gJ hd _))) (h.mapDictKeys _) (gJ hd _))⟩
end
def entO(ks vs:List V):HO :=.ext λa h=>(a == sysModules)=false /\ ∃o es ep,h.get? a=some o/\o.ExactDict/\o.data = .dict es ep/\Vals ks (es.toList.map (·.key))/\Vals vs (es.toList.map (·.val))
theorem qSz{P:Program}{w:World}{H:Hp}{h:Heap}{a:Addr}{b vs:List V}{o:Obj}{es:Array DictEntry}{ep:Nat}(d:(a == sysModules)=false)(c:h.get? a=some o)(f:o.ExactDict)(g:o.data = .dict es ep)(i:Vals b (es.toList.map (·.key)))(j:Vals vs (es.toList.map (·.val))):ObjOk P w H h a (entO b vs):=by
 refine⟨⟨d,o,es,ep,c,f,g,i,j⟩,⟨o,c⟩,λm n q k=>?_⟩;obtain⟨l,o,es,ep,e,r⟩:=q;exact⟨l,o,es,ep,k o e,r⟩
def SmallK(kvs:List (Key×V)):Prop := ∀p∈kvs,∃i:Int,p.1=Sum.inl i /\ -100<=i/\i<=100
theorem iA{P:Program}{w:World}:∀ {es:List DictEntry} {vs:List (Key×Value)} {kvs:List (Key×V)},Pairs (zY P w) es vs->KV kvs vs->SmallK kvs->Vals (kvs.map λp=>kV p.1) (es.map (·.key))/\Vals (kvs.map (·.2)) (es.map (·.val)) /\ ∀e∈es,∃i t,e.key = .int i t /\ -100<=i/\i<=100 /\ ∃p∈kvs,p.1=Sum.inl i
 | _,_,_,.nil,r,_=>by
  cases r;exact⟨.nil,.nil,λe he=>absurd he (by simp)⟩
 | _,_,_,@Pairs.cons _ _ _ _ _ q s es vs n u x,r,o=>by
  cases r with
  | @cons a b as bs c z =>
   obtain⟨k,v⟩:=a;obtain⟨c,f⟩:=c;obtain⟨A,B,C⟩:=iA x z λp g=>o p (aP _ g);obtain⟨i,d,D,E⟩:=o (k,v) (aQ ..);have d:k=Sum.inl i:=d;have c:k=s.1:=c;rw [<-c,d,vq] at n;rcases yU n with ⟨j,t,h,l⟩ | ⟨y,t,h,l⟩
   ·cases h;subst d;refine⟨.cons ⟨t,l⟩ A,.cons (show RelV v q.val by rw [u];exact f) B,λe he=>?_⟩;rcases aV.mp he with rfl | he
    ·exact⟨i,t,l,D,E,_,aQ ..,rfl⟩
    ·obtain⟨F,G,H,I,J,p,g,m⟩:=C e he;exact⟨F,G,H,I,J,p,aP _ g,m⟩
   ·cases h
theorem iB{i:Int}(a : -100<=i)(b:i<=100):hashInt i=if i = -1 then -2 else i:=by
 have h:∀k:Fin 201,hashInt ((k.val:Int) - 100)=if ((k.val:Int) - 100) = -1 then -2 else ((k.val:Int) - 100):=by decide +kernel
 have:=h ⟨(i+100).toNat,by lia⟩;simp only at this;rw [show (((i+100).toNat:Nat):Int) - 100=i by lia] at this;exact this
theorem qXl(P:Program)(w:World):(tupleKind (zY P w)).hash [Sum.inl 0] = -8753497827991233192:=by
 have h:reduceHash (Builtin.Tuple.tupleHashOf [hashInt 0]) = -8753497827991233192:=by decide +kernel
 have e:(tupleKind (zY P w)).hash [Sum.inl 0]=tupleKeyHash (zY P w) [Sum.inl 0]:=by unfold tupleKind;rfl
 rw [e];unfold tupleKeyHash;rw [bG,List.map_nil];exact h
section
variable{X:Cx}{pins:List (Addr×Obj)}{σ : St}{H:Hp}{s:Shared}{a:Addr}{y v:V}{u r:Value}{A:Around}{E:Value->Shared->Prop}{kvs:List (Key×V)}{hh:Int}
theorem iC{Q:Unit->Shared->Prop}(I:Inv X pins σ H s)(e:H a=some (.dK kvs))(S:SmallK kvs)(hl:kvs.length<=1000)(T:RelV y u)(U:RelV v r)(l:∀x t,u ≠ .str x t)(m:∀i t,u ≠ .int i t)(V:∀i:Int,-100<=i->i<=100->(∃p∈kvs,p.1=Sum.inl i)->hashInt i≠hh)(hash:∀(W:Value->Shared->Prop) (J:Int->Shared->Prop),(∀tk,J hh { s with toks:=tk })->wpAny (model X.prog X.w) A.in1 (pyHash u) J W s)(h:∀K,Inv X pins σ (upd H a (entO (kvs.map (λp=>kV p.1) ++ [y]) (kvs.map (·.2) ++ [v]))) K->Q () K):wpAny (model X.prog X.w) A (setItem (.ref a) u r) Q E s:=by
 obtain⟨z,Y,vs,c,o,n,ep,Z,hx,d,B,L,hn⟩:=ye I.hok e;obtain⟨p1,p2,M⟩:=iA L c S;have C:n.size<=sizeLine:=by
  have g:=L.length;have N:n.toList.length=n.size:=by simp
  have O:=c.length;lia
 refine qTv Z hx d C l (λk b=>?_) (λk b=>?_) hash λh' tk o' sb f D F=>h _ ?_
 ·obtain⟨i,t,g,N,O,e4⟩:=M k (Array.mem_toList_iff.mpr b);obtain⟨k',P,f2⟩:=B k b;rw [g,vq] at P;rcases yU P with ⟨j,t',R,G⟩ | ⟨y',t',R,G⟩
  ·cases G;rw [f2,R];exact V i N O e4
  ·cases G
 ·obtain⟨i,t,g,_⟩:=M k (Array.mem_toList_iff.mpr b);rw [g];exact beq_eq_false_iff_ne.mpr λq=>m i t q.symm
 ·refine xG I (by rw [e];exact True.intro) sb ⟨o',f⟩ (qSz Y f D F ?_ ?_)
  ·rw [gB,aJ];exact p1.append (.cons T .nil)
  ·rw [gB,aJ];exact p2.append (.cons U .nil)
end
def isOne:Value->Bool
 | .bool true=>true
 | _=>false
def xr(k:Key)(v:Value):Bool:=keyIs k v||(decide (k=Sum.inl 1)&&isOne v)
theorem xK{k:Key}{v:Value}(h:xr k v=true):(∃i t,k=Sum.inl i/\v=Value.int i t)\/(∃x t,k=Sum.inr x/\v=Value.str x t)\/(k=Sum.inl 1/\v = .bool true):=by
 unfold xr at h;rcases Bool.or_eq_true_iff.mp h with h | h
 ·rcases yU h with h | h
  ·exact .inl h
  ·exact .inr (.inl h)
 ·rw [aO] at h;obtain⟨b,a⟩:=h;refine .inr (.inr ⟨of_decide_eq_true b,?_⟩);unfold isOne at a;split at a
  ·rfl
  ·cases a
theorem qSl{k:Key}{v:Value}(h:keyIs k v=true):xr k v=true:=by unfold xr;rw [h];rfl
theorem iD{P:Program}{w:World}{A:Around}{E:Value->Shared->Prop}{s:Shared}{Q:Int->Shared->Prop}(h:Q 1 { s with toks:=s.toks+1 }):wpAny (model P w) A (pyHash (.bool true)) Q E s:=by
 refine PySem.W.pyHash_slot (T := "bool") rfl PySem.F.slot_bool_hash entry_int_hash (args_int_hash _) (beq_builtin_none _) (.inl rfl) ?_;exact (show wpAny _ _ (do ret (<-mkInt 1)) _ _ s from aA (wpAny_mkInt (aC ⟨_,_,rfl,h⟩)))
def vo(P:Program)(w:World):PySem.KeyKind P w Key where
 is:=xr
 hash:=keyH w
 inj:=λv a b ha hb=>by
  rcases xK ha with ⟨i,t,rfl,rfl⟩ | ⟨x,t,rfl,rfl⟩ | ⟨rfl,rfl⟩
  ·rcases xK hb with ⟨j,u,rfl,e⟩ | ⟨y,u,rfl,e⟩ | ⟨rfl,e⟩
   ·cases e;rfl
   ·cases e
   ·cases e
  ·rcases xK hb with ⟨j,u,rfl,e⟩ | ⟨y,u,rfl,e⟩ | ⟨rfl,e⟩
   ·cases e
   ·cases e;rfl
   ·cases e
  ·rcases xK hb with ⟨j,u,rfl,e⟩ | ⟨y,u,rfl,e⟩ | ⟨rfl,e⟩
   ·cases e
   ·cases e
   ·rfl
 byValue:=λk v h=>by
  rcases xK h with ⟨i,t,rfl,rfl⟩ | ⟨x,t,rfl,rfl⟩ | ⟨rfl,rfl⟩ <;> rfl
 pyHash:=λhv h=>by
  rcases xK hv with ⟨i,t,rfl,rfl⟩ | ⟨x,t,rfl,rfl⟩ | ⟨rfl,rfl⟩
  ·exact wpAny_pyHash_int h
  ·exact wpAny_pyHash_str h
  ·exact iD h
 eqBool:=λ{A E s a b u v Q} hu hv h=>by
  rcases xK hu with ⟨i,t,rfl,rfl⟩ | ⟨x,t,rfl,rfl⟩ | ⟨rfl,rfl⟩
  ·rcases xK hv with ⟨j,u,rfl,rfl⟩ | ⟨y,u,rfl,rfl⟩ | ⟨rfl,rfl⟩
   ·rw [vH] at h;exact wpAny_eqBool_int h
   ·rw [kE] at h;exact SeqAt.EqAt.int_str i t y u _ _ _ _ h
   ·rw [vH] at h;exact SeqAt.EqAt.int_bool i t true _ _ _ _ h
  ·rcases xK hv with ⟨j,u,rfl,rfl⟩ | ⟨y,u,rfl,rfl⟩ | ⟨rfl,rfl⟩
   ·rw [kF] at h;exact SeqAt.EqAt.str_int x t j u _ _ _ _ h
   ·rw [ix] at h;exact wpAny_eqBool_str h
   ·rw [kF] at h;exact SeqAt.EqAt.str_bool x t true _ _ _ _ h
  ·rcases xK hv with ⟨j,u,rfl,rfl⟩ | ⟨y,u,rfl,rfl⟩ | ⟨rfl,rfl⟩
   ·rw [vH] at h;exact SeqAt.EqAt.bool_int true j u _ _ _ _ h
   ·rw [kE] at h;exact SeqAt.EqAt.bool_str true y u _ _ _ _ h
   ·rw [vH] at h;exact SeqAt.EqAt.bool_bool true true _ _ _ _ h
 «strs» :=λk x t v h=>by
  rcases xK h with ⟨i,u,rfl,e⟩ | ⟨y,u,rfl,e⟩ | ⟨rfl,e⟩
  ·cases e
  ·cases e;unfold xr;cases v <;> simp [keyIs,Value.isStrOf,Value.isStr]
  ·cases e
theorem qFf{α : Type}{p q : α -> Bool}:∀ {l:List α},(∀x∈l,p x=q x)->l.findIdx? p=l.findIdx? q
 | [],_=>rfl
 | x::l,h=>by
  rw [List.findIdx?_cons,List.findIdx?_cons,h x (aQ ..),qFf λy a=>h y (aP _ a)]
theorem qXs{α : Type}(es:Array α)(p : α -> Bool):es.findIdx? p=es.toList.findIdx? p:=by
 obtain⟨l⟩:=es;simp
section
variable{X:Cx}{pins:List (Addr×Obj)}{σ : St}{H:Hp}{s:Shared}{a:Addr}{v:V}{r:Value}{A:Around}{E:Value->Shared->Prop}{kvs:List (Key×V)}
theorem qT5{Q:Unit->Shared->Prop}(I:Inv X pins σ H s)(e:H a=some (.dK kvs))(M:SmallK kvs)(hl:kvs.length<=1000)(y:(valV kvs (Sum.inl 1)).isSome=true)(N:RelV v r)(h:∀F,Inv X pins σ (upd H a (.dK (putK kvs (Sum.inl 1) v))) F->Q () F):wpAny (model X.prog X.w) A (setItem (.ref a) (.bool true) r) Q E s:=by
 obtain⟨z,O,G,d,o,g,P,u,J,b,j,x,K⟩:=ye I.hok e;obtain⟨p1,p2,R⟩:=iA x d M;have ty:s.TypeIs (.ref a) "dict" :=⟨o,u,J.1⟩;have S:=d.length;have m:KeysOf (vo X.prog X.w) g:=λn c=>by
  obtain⟨k,T,U⟩:=j n c;exact⟨k,qSl T,U⟩
 have f:g.findIdx? (λe=>(vo X.prog X.w).is (Sum.inl 1) e.key)=g.toList.findIdx? λe=>(zY X.prog X.w).is (Sum.inl 1) e.key:=by
  rw [qXs];refine qFf λn c=>?_;obtain⟨i,t,V,_⟩:=R n c;rw [V];have y:(vo X.prog X.w).is (Sum.inl 1) (Value.int i t)=xr (Sum.inl 1) (.int i t):=by unfold vo;rfl
  rw [y,vq];unfold xr isOne;simp
 unfold setItem;refine bM ?_;refine aA (wpAny_sequenceKey ty (by decide) ?_)
 refine aA (cS (name:=Str.ofString "__setitem__") ty slot_dict_setitem
  (bX slot_dict_setitem ty entry_dict_setitem ?_ (args_dict_setitem _ _ _)))
 show wpAny _ _ (Builtin.Dict.notOrdered "__setitem__" ⟨[.ref a,.bool true,r],[]⟩ >>= _) _ _ s;refine aA (eI ty ?_);show wpAny _ _ (dictSet a (.bool true) r >>= _) _ _ s;refine aA ?_;unfold dictSet;refine bM ?_;refine aA (iD ?_);unfold dictSetHashed;refine bM ?_;refine aA (wpAny_dictFind_of (knd:=vo X.prog X.w) (k:=Sum.inl 1) (s :={ s with toks:=s.toks+1 }) rfl u b m ?_);rw [f];cases B:g.toList.findIdx? λe=>(zY X.prog X.w).is (Sum.inl 1) e.key with
 | none =>
  exfalso;have C:=(d.val (Sum.inl 1)).isSome_eq;rw [y,<-x.find (Sum.inl 1)] at C;have:(g.toList.find? λe=>(zY X.prog X.w).is (Sum.inl 1) e.key)=none:=by
   rw [List.find?_eq_none];intro n c;have:=gM.mp B n c;simpa using this
  rw [this] at C;cases C
 | some i =>
  refine aA (cV (aA (wpAny_updateDict (s :={ s with toks:=s.toks+1 }) u b (wpAny_point ?_))));have p:(G.findIdx? λW=>decide (W.1=(Sum.inl 1:Key)))=some i:=(x.findIdx (Sum.inl 1)).symm.trans B;have L:Heap.DictOf (zY X.prog X.w) (s.heap.update a (Obj.mapDict (·.modify i λe =>{ e with val:=r }))) a (stored G (Sum.inl 1) r):=by
   refine⟨_,_,P,bZ _ u (Obj.isFreed_of_dict (Obj.data_mapDict b _)),J.mapDict _,Obj.data_mapDict b _,j.modify _ _,?_,?_⟩
   ·rw [stored,if_pos (any_of_findIdx_some p)];have:=x.modify K B r;obtain⟨l⟩:=g;simpa using this
   ·rw [stored,if_pos (any_of_findIdx_some p),keys_map_store];exact K
  have Y:∃q,(s.heap.update a (Obj.mapDict (·.modify i λe =>{ e with val:=r }))).get? a=some q:=let ⟨q,_,_,Z,_⟩:=L;⟨q,Z⟩
  have D:(putK kvs (Sum.inl 1) v).length<=sizeLine:=by
   have:=xW kvs (Sum.inl 1) v;have e:sizeLine=16777216:=by decide
   lia
  exact aC ⟨.none,rfl,aC (h _ (xG (I.tok _) (by rw [e];exact True.intro) (bR ..) Y (xx D O (d.put (Sum.inl 1) N) L)))⟩
end
end L2
namespace L2
open PySem PySem.Spec PyProof.Rows
end L2
namespace Miss
open PySem PySem.Spec PyProof.Rows
end Miss
namespace L2
open PySem PySem.Spec PyProof.Rows
theorem qWc{X:Cx}{b:List (Addr×Obj)}{σ : St}{H:Hp}{s:Shared}(I:Inv X b σ H s){a:Addr}{k:List Key}(h:SqT X.K H a (k.map kV)):(tupleKind (zY X.prog X.w)).is s.heap k a:=by
 obtain⟨c,r,⟨o,d,e,n,f⟩,_⟩:=I.tuple h;exact⟨o,c.toArray,n,d,e,f,by simpa using kN r⟩
section
variable{P:Program}{w:World}{A:Around}{E:Value->Shared->Prop}{s:Shared}{it d:Addr}{i ep:Nat}{o:Obj}{es:Array DictEntry}
theorem qSf{Q:Value->Shared->Prop}(b:(d == sysModules)=false)(a:s.heap.get? d=some o)(c:o.ExactDict)(hd:o.data = .dict es ep)
  (q:Q (.ref s.heap.objs.size) { s with heap:=s.heap.push { cls :=.type "dict_keyiterator",data :=.fields #[.ref d,.int 0 0,.int es.size 0,.int ep 0] } }) :
  wpAny (model P w) A (pyIter (.ref d)) Q E s:=by
 have ty:s.TypeIs (.ref d) "dict" :=⟨o,a,c.1⟩;refine wpAny_pyIter_slot ty F.slot_dict_iter (bX F.slot_dict_iter ty F.entry_dict_iter ?_ (F.args_dict_iter_1 _));unfold Builtin.«dict.__iter__» Builtin.Dict.dictSlotNone;refine aA (aA (eI ty ?_));show wpAny _ _ (pure (Value.ref d)) _ _ s;refine aC ?_;show wpAny _ _ (Builtin.Dict.showsAll d >>= _) _ _ s;unfold Builtin.Dict.showsAll;rw [if_neg (by rw [b];decide)];refine aA (aC (aA (gC a hd (aA (wpAny_dictEpoch a hd (aA (bV (aC ⟨_,rfl,"dict_keyiterator",_,⟨_,aT _ rfl,rfl⟩,dN.lookup,?_⟩))))))))
 simpa [rawInt] using q
theorem qP4{e:DictEntry}{Q:Option Value->Shared->Prop}(a:s.heap.IsKeyIter it d i es.size ep)(f:s.heap.get? d=some o)(hd:o.data = .dict es ep)(hi:es[i]? = some e)(q:∀h',h'.IsKeyIter it d (i+1) es.size ep->Heap.SameBut it s.heap h'->Q (some e.key) { s with heap:=h' }):wpAny (model P w) A (pyNext (.ref it)) Q E s:=by
 obtain⟨j,c,h,b⟩:=id a;unfold pyNext;refine aA (wpAny_attempt (cS (name:=Str.ofString "__next__") a.typeIs dN (bX dN a.typeIs F.entry_dict_keyiterator_next ?_ (F.args_dict_keyiterator_next_1 _))));refine aA (aC (aA (aA ?_)))
 first | refine aA (eU a.typeIs (aC (aA (gN c b ?_)))) | refine aA (fP a.typeIs (aC (aA (gN c b ?_))))
 simp only [show Builtin.Dict_items.ownsTuple "dict_keyiterator" = false by decide,dQ,if_false];show wpAny _ _ (if (Value.ref d == Value.none)=true then _ else _) _ _ s;rw [if_neg (show ¬((Value.ref d == Value.none)=true) from λz=>by cases z)];refine aA (aC (aA (gC f hd ?_)));rw [if_neg (by simp)];refine aA (aC (aA (wpAny_dictEpoch f hd ?_)));rw [if_neg (by simp)];refine aC ?_;simp only [show ¬((i:Int)<0) from by lia,if_false,cE,hi];refine aA ?_
 first | refine aA (eU a.typeIs (aC (aA (wpAny_isOneOf_keyiter a.typeIs ?_)))) | refine aA (fP a.typeIs (aC (aA (wpAny_isOneOf_keyiter a.typeIs ?_))))
 show wpAny _ _ (setField (.ref it) 1 (rawInt ((i:Int)+1)) >>= _) _ _ s;refine aA (eY c b (by simp) ?_);have st:(s.heap.update it (Obj.mapFields (·.setIfInBounds 1 (rawInt ((i:Int)+1))))).IsKeyIter it d (i+1) es.size ep:=⟨_,bZ _ c (Obj.isFreed_of_fields (Obj.data_mapFields b _)),(Obj.cls_mapFields ..).trans h,by rw [Obj.data_mapFields b];simp [rawInt]⟩;have g:=bR s.heap it (Obj.mapFields (·.setIfInBounds 1 (rawInt ((i:Int)+1))));generalize s.heap.update it (Obj.mapFields (·.setIfInBounds 1 (rawInt ((i:Int)+1))))=h' at st g ⊢;refine aA (bM (aA (wpAny_isOneOf_keyiter (s :={ s with heap:=h' }) st.typeIs ?_)))
 show wpAny _ _ (pure e.key) _ _ _;exact aC (aC ⟨_,rfl,aC (q _ st g)⟩)
theorem qSg{Q:Option Value->Shared->Prop}(hh:A.handled=none)(a:s.heap.IsKeyIter it d i es.size ep)(e:s.heap.get? d=some o)(hd:o.data = .dict es ep)(hi:es.size<=i)(q:∀h',Heap.ExtBut it s.heap h'->Q none { s with heap:=h' }):wpAny (model P w) A (pyNext (.ref it)) Q E s:=by
 obtain⟨f,b,g,c⟩:=id a;unfold pyNext;refine aA (wpAny_attempt (cS (name:=Str.ofString "__next__") a.typeIs dN (bX dN a.typeIs F.entry_dict_keyiterator_next ?_ (F.args_dict_keyiterator_next_1 _))));refine aA (aC (aA (aA ?_)))
 first | refine aA (eU a.typeIs (aC (aA (gN b c ?_)))) | refine aA (fP a.typeIs (aC (aA (gN b c ?_))))
 simp only [show Builtin.Dict_items.ownsTuple "dict_keyiterator" = false by decide,dQ,if_false];show wpAny _ _ (if (Value.ref d == Value.none)=true then _ else _) _ _ s;rw [if_neg (show ¬((Value.ref d == Value.none)=true) from λz=>by cases z)];refine aA (aC (aA (gC e hd ?_)));rw [if_neg (by simp)];refine aA (aC (aA (wpAny_dictEpoch e hd ?_)));rw [if_neg (by simp)];refine aC ?_;simp only [show ¬((i:Int)<0) from by lia,if_false,cE,Array.getElem?_eq_none hi];refine aA ?_
 first | refine aA (eU a.typeIs (aC ?_)) | refine aA (fP a.typeIs (aC ?_))
 show wpAny _ _ (setField (.ref it) 0 .none >>= _) _ _ s;refine aA (eY b c (by simp) ?_);exact ua (s0:=s) (show A.in1.handled=none from hh) (bR ..).extBut q
end
end L2
namespace L2
open PySem PySem.Spec PyProof.Rows PyProof
def Itk(d:Addr)(o:Obj)(u:HO)(ks:List V):It:=⟨λi H=>H d=some (.frz o u)/\i<ks.length,λi H x H'=>H'=H/\ks[i]? = some x,λi H=>H d=some (.frz o u)/\ks.length<=i⟩
section
variable{P:Program}{w:World}{K:PySem.W.Frag}{tg:Expr}
theorem qSv{H:Hp}{h:Heap}{d:Addr}{o:Obj}{u:HO}(ok:HOk P w H h)(e:H d=some (.frz o u)):h.get? d=some o:=(show ObjOk P w H h d (.frz o u) from ok d _ e).1
theorem qTq(d it:Addr)(o:Obj)(u:HO)(a:List V){es:Array DictEntry}{ep:Nat}(hd:o.data = .dict es ep)(r:Vals a (es.toList.map (·.key))):Turn P w K tg (Itk d o u a) [it] it (λi h=>h.IsKeyIter it d i a.length ep) where
 mem:=by simp
 obj:=λi h st b g=>by
  have e:b=it:=by simpa using g
  subst e;obtain⟨j,e,c,T⟩:=st;exact⟨j,e,λv z=>by rw [T] at z;cases z⟩
 keep:=λi h p st k=>st.at λj e=>k it (by simp) j e
 item:=by
  intro X t x y R i f s σ H E I q st A;subst t x y;obtain⟨B,C⟩:=A;have D:=qSv I.hok B;have m:es.size=a.length:=by have:=r.length;rw [aB] at this;rw [this];simp
  have S:a[i]? = some a[i]:=aD C;obtain⟨kv,n,F⟩:=r.get S;rw [aS] at n;obtain⟨U,G,rfl⟩:=Option.map_eq_some_iff.mp n;have J:es[i]? = some U:=by rw [<-bE];exact G
  obtain⟨L,M,W,N,O,Q⟩:=q it (by simp);refine qP4 (by rw [m];exact st) D hd J λp l Y=>?_;have Z:Inv X f σ H { s with heap:=p }:=I.turned (t':=s.toks) (λb j g e=>(Y.2 b g).trans e) L M N O Q;obtain⟨j,e,c,d2⟩:=id l;exact⟨_,rfl,vK (s :={ s with heap:=p }) e c d2 (by decide) ⟨a[i],H,Z,F,⟨rfl,S⟩,by rw [m] at l;exact l,λb g=>(q b g).1⟩⟩
 done:=by
  intro X t x y R i f s σ H E I q st A;subst t x y;obtain⟨B,C⟩:=A;have D:=qSv I.hok B;have m:es.size=a.length:=by have:=r.length;rw [aB] at this;rw [this];simp
  obtain⟨L,M,W,N,O,Q⟩:=q it (by simp);exact qSg (I.ok.hd R) (by rw [m];exact st) D hd (by rw [m];exact C) λp eb=>⟨rfl,I.turned (t':=s.toks) (λb j g e=>eb b j g e) L M N O Q⟩
 self:=λ_ _ _ _ _ st h=>wpAny_pyIter_keyiter st h
end
def uq(H:Hp)(a:Addr)(u:HO)(ks:List V):Prop:=H a=some u/\((∃kvs,u = .dK kvs/\ks=kvs.map λp=>kV p.1) \/ ∃vs,u=entO ks vs)
theorem qKd{P:Program}{w:World}:∀ {es:List DictEntry} {vs:List (Key×Value)} {kvs:List (Key×V)},Pairs (zY P w) es vs->KV kvs vs->Vals (kvs.map λp=>kV p.1) (es.map (·.key))
 | _,_,_,.nil,r=>by
  cases r;exact .nil
 | _,_,_,@Pairs.cons _ _ _ _ _ m g es vs f n h,r=>by
  cases r with
  | @cons a b as bs c i =>
   obtain⟨k,v⟩:=a;obtain⟨c,l⟩:=c;have c:k=g.1:=c;rw [<-c,vq] at f;refine .cons ?_ (qKd h i);rcases yU f with ⟨j,t,d,e⟩ | ⟨y,t,d,e⟩
   ·subst d;exact⟨t,e⟩
   ·subst d;exact⟨t,e⟩
section
variable{X:Cx}{tg:Expr}
def iKeys(td:TE):TI:=λσ H R=>td σ H λx H1 => ∃d u ks,x = .ref d/\uq H1 d u ks /\ ∀o,R (Itk d o u ks) (upd H1 d (.frz o u))
theorem qRj{l:Expr}{B:TE}(D:PE X l B):PI X tg l (iKeys B):=by
 intro f s σ H R I h;refine thn (D f s σ H _ I h) λv n hq_=>?_;obtain⟨x,E,r,F,G⟩:=hq_;obtain⟨d,u,y,e,⟨t,J⟩,q⟩:=G;subst e;cases F;obtain⟨o,a,i,j,c,k,g,m,A⟩:∃o a i,(d == sysModules)=false/\n.heap.get? d=some o/\o.ExactDict/\o.data = .dict a i/\Vals y (a.toList.map (·.key))/\Inv X f σ (upd E d (.frz o u)) n:=by
  rcases J with ⟨K,rfl,rfl⟩ | ⟨C,rfl⟩
  ·obtain⟨z,j,C,p,o,a,i,c,k,g,m,w,L⟩:=ye r.hok t;exact⟨o,a,i,j,c,k,g,qKd w p,r.freeze t True.intro c λM=>⟨z,j,C,p,o,a,i,c,k,g,m,w,L⟩⟩
  ·obtain⟨⟨j,o,a,i,c,k,g,m,w⟩,_⟩:=id (r.hok d _ t);exact⟨o,a,i,j,c,k,g,m,r.freeze t True.intro c λM=>qSz j c k g m w⟩
 have N:a.size=y.length:=by have:=m.length;rw [aB] at this;rw [this];simp
 refine qSf j c k g ?_;refine⟨n.heap.objs.size,[n.heap.objs.size],_,_,_,rfl,A.kept (t':=n.toks) λb P e=>aG _ e,qTq d _ o u y g m,⟨_,aT _ rfl,rfl,by rw [N];rfl⟩,λb O=>?_,q o⟩;have e:b=n.heap.objs.size:=by simpa using O
 subst e;exact A.fpOk (aF _) (A.hok.fresh (aF _))
theorem qQy{a:TE}{σ : St}{H:Hp}{R:It->Hp->Prop}(h:a σ H λx b => ∃d u c,x = .ref d/\uq b d u c /\ ∀o,R (Itk d o u c) (upd b d (.frz o u))):iKeys a σ H R:=h
end
section
variable{d:Addr}{o:Obj}{u:HO}{ks:List V}{g:TG}{σ : St}{H:Hp}
theorem qKl{j:TT}{B:TB}{Q:St->Hp->Prop}(Pv:Nat->St->Hp->Prop)(m:Pv 0 σ H)(k:∀i σ H,i<=ks.length->Pv i σ H->H d=some (.frz o u))(q:∀i x σ H (R:St->Hp->Prop),ks[i]? = some x->Pv i σ H->(∀ c f,Pv (i+1) c f->R c f)->g x σ H λa r=>j a r λb l=>if b=true then B a l R else R a l)(hd:∀ σ H,Pv ks.length σ H->Q σ H):LoopT (Itk d o u ks) g j B σ H Q:=by
 refine wF (n:=ks.length) Pv m (λi σ H h p=>⟨k i σ H (dH h) p,h⟩) (λσ H p=>⟨k _ σ H (aF _) p,aF _⟩) (λi σ H R h p s x f y=>?_) hd;obtain⟨e,t⟩:=y;subst e;exact q i x σ _ R t p s
end
mutual
def wide(n:Nat):PyData->Bool
 | .list ds=>decide (ds.length<=n)&&yx n ds
 | .tuple ds=>decide (ds.length<=n)&&yx n ds
 | .none=>true
 | .bool _=>true
 | .int _=>true
 | .str _=>true
 | .dict _=>true
def yx(n:Nat):List PyData->Bool
 | []=>true
 | d::ds=>wide n d&&yx n ds
end
theorem iE{n:Nat}:∀ {ds:List PyData},yx n ds=true ↔ ∀d∈ds,wide n d=true
 | []=>by simp [yx]
 | x::ds=>by simp only [yx,aO,iE (ds:=ds),aV,forall_eq_or_imp]
theorem wide_list{n:Nat}{ds:List PyData}:wide n (.list ds)=true↔ds.length<=n /\ ∀d∈ds,wide n d=true:=by
 simp only [wide,aO,decide_eq_true_eq,iE]
theorem wide_tuple{n:Nat}{ds:List PyData}:wide n (.tuple ds)=true↔ds.length<=n /\ ∀d∈ds,wide n d=true:=by
 simp only [wide,aO,decide_eq_true_eq,iE]
mutual
theorem qLl{n:Nat}(a:n<=900):∀ {d:PyData},wide n d=true->xg d=true
 | .list ds,h=>by
  simp only [wide,aO,decide_eq_true_eq] at h;simp only [xg,aO,decide_eq_true_eq];exact⟨by lia,iF a h.2⟩
 | .tuple ds,h=>by
  simp only [wide,aO,decide_eq_true_eq] at h;simp only [xg,aO,decide_eq_true_eq];exact⟨by lia,iF a h.2⟩
 | .none,_=>by simp only [xg]
 | .bool _,_=>by simp only [xg]
 | .int _,_=>by simp only [xg]
 | .str _,_=>by simp only [xg]
 | .dict _,_=>by simp only [xg]
theorem iF{n:Nat}(a:n<=900):∀ {ds:List PyData},yx n ds=true->wx ds=true
 | [],_=>by simp only [wx]
 | d::ds,h=>by
  simp only [yx,aO] at h;simp only [wx,aO];exact⟨qLl a h.1,iF a h.2⟩
end
mutual
theorem qJg{n m:Nat}(a:n<=m):∀ {d:PyData},wide n d=true->wide m d=true
 | .list ds,h=>by
  simp only [wide,aO,decide_eq_true_eq] at h ⊢;exact⟨by lia,iG a h.2⟩
 | .tuple ds,h=>by
  simp only [wide,aO,decide_eq_true_eq] at h ⊢;exact⟨by lia,iG a h.2⟩
 | .none,_=>by simp only [wide]
 | .bool _,_=>by simp only [wide]
 | .int _,_=>by simp only [wide]
 | .str _,_=>by simp only [wide]
 | .dict _,_=>by simp only [wide]
theorem iG{n m:Nat}(a:n<=m):∀ {ds:List PyData},yx n ds=true->yx m ds=true
 | [],_=>by simp only [yx]
 | d::ds,h=>by
  simp only [yx,aO] at h ⊢;exact⟨qJg a h.1,iG a h.2⟩
end
theorem DenX.bool{K:PySem.W.Frag}{H:Hp}{b:Bool}:DenX K H (.bool b) (.bl b):=by simp only [DenX]
theorem qZm{a b:Bool}{H:Hp}{Q:VK}(q:Q (.bl (!decide (a=b))) H):rNe (.bl a) (.bl b) H Q:=⟨rfl,by
 rw [show decide (V.bl a=V.bl b)=decide (a=b) from decide_eq_decide.mpr ⟨λz=>V.bl.inj z,λz=>by rw [z]⟩];exact q⟩
def OddAt(K:PySem.W.Frag)(H:Hp)(kds vds:List PyData)(x:V):Prop := ∃a ks vs,x = .ref a/\H a=some (entO ks vs)/\DenXs K H kds ks/\DenXs K H vds vs
def ur(K:PySem.W.Frag)(H:Hp)(d:PyData)(x:V):Prop:=DenX K H d x \/ ∃kvs,d = .dict kvs/\OddAt K H (kvs.map (·.1)) (kvs.map (·.2)) x /\ ∃k∈kvs.map (·.1),zt k=false
section
variable{X:Cx}{pins:List (Addr×Obj)}{σ : St}{H:Hp}{s:Shared}{A:Around}{E:Value->Shared->Prop}
theorem qW3{a:Addr}{b vs:List V}(I:Inv X pins σ H s)(e:H a=some (entO b vs)):(a == sysModules)=false /\ ∃o es ep,s.heap.get? a=some o/\o.ExactDict/\o.data = .dict es ep/\Vals b (es.toList.map (·.key))/\Vals vs (es.toList.map (·.val)):=by
 obtain⟨h,_⟩:=id (I.hok a _ e);exact h
theorem qZw(I:Inv X pins σ H s){d:PyData}{x:V}{u:Value}(h:ur X.K H d x)(b:RelV x u):∃p:Heap->Prop,PySem.W.KitX X.K u (.type (kindN d)) p/\p s.heap/\u ≠ .builtin "__main__.__loader__#opaque" :=by
 rcases h with h | ⟨c,rfl,⟨a,i,j,rfl,e,_,_⟩,_⟩
 ·exact qZ0 I h b
 ·cases b;obtain⟨_,o,k,l,f,g,_⟩:=qW3 I e;exact⟨_,PySem.W.kitx_dict,⟨o,f,g.1⟩,λz=>nomatch z⟩
theorem qK1{k:Nat}(n:Room k X.A){Q:VK}(I:Inv X pins σ H s){a:Addr}{o:Obj}{es:Array DictEntry}{ep:Nat}{kvs:List (PyData×PyData)}(g:s.heap.get? a=some o)(h:o.ExactDict)(hd:o.data = .dict es ep)(d:(a == sysModules)=false)(i:RdXs X.prog X.w s.heap (es.toList.map (·.key)) (kvs.map (·.1)))(j:RdXs X.prog X.w s.heap (es.toList.map (·.val)) (kvs.map (·.2)))(z:(PyData.dict kvs).showable=true)(B:(PyData.dict kvs).depth<=100)(v:(PyData.dict kvs).shown.length<=sizeLine)(q:Q (.str (PyData.dict kvs).shown) H):wpAny (model X.prog X.w) X.A (call (.builtin "repr") [.ref a]) (EP X pins σ Q) X.xe s:=by
 have T:=n.un;obtain⟨⟨C,D⟩,i⟩:=i;obtain⟨⟨ds,rd⟩,j⟩:=j;have r:Reads s.heap (.ref a) (.dict kvs) (a::C++ds) :=.dict g h.1 hd D rd;have E:(dictText (PyData.shownKv kvs)).length<=sizeLine:=by simpa only [PyData.shown] using v
 obtain⟨G,J⟩:=PyData.showableKv_split kvs (by simpa [PyData.showable] using z);have c:∀ {t:Str},(∃p∈PyData.shownKv kvs,t.length<=p.length)->t.length<=sizeLine:=λ{t} ⟨p,K,L⟩=>bL L (bL (dictText_mem_le K) E);obtain⟨U,M,N⟩:=i G λt l=>c (PyData.shownKv_key_le kvs t l);obtain⟨V,O,P⟩:=j J λt l=>c (PyData.shownKv_val_le kvs t l);have x:=PyData.depthAll_keys_le kvs;have y:=PyData.depthAll_vals_le kvs;have f:=(M.mono x).append (O.mono y);have m:=gF r (by simp only [PyData.depth];lia) f;have R:PyData.depthKv kvs+1<=100:=by simpa only [PyData.depth] using B
 refine call_repr_slot (by lia) ⟨o,g,h.1⟩ F.slot_dict_repr ?_;refine call_dict_reprK g h.1 hd d m (ReprEntriesK.of_two _ _ _ (N.more_le (λb f=>bA _ f) x) (P.more_le (λb f=>aZ _ f) y)) n.gd (λb _=>Clear.nil b) (show X.A.units+1+(PyData.depthKv kvs+1)<cLine by lia) (λ_ _ e=>e) (λW u tk S=>⟨_,_,rfl,?_⟩) ?_
 ·refine⟨.str _,H,I.kept (t':=tk) S,⟨_,rfl⟩,?_⟩;simpa only [PyData.shown,PyData.shownKv_eq] using q
 ·simpa only [PyData.shown,PyData.shownKv_eq] using v
end
section
variable{X:Cx}
def rIsT(K:PySem.W.Frag):List V->Hp->VK->Prop:=λxs H Q => ∃(x:V) (d:PyData) (n:String),xs = [x,.ty n]/\ur K H d x/\n∈up/\Q (.bl (yR d n)) H
theorem qO9:CallR X (.builtin "isinstance") (rIsT X.K):=by
 intro b s σ H l m Q I r h;obtain⟨x,d,n,rfl,c,e,q⟩:=h;obtain⟨u,f,rfl,g,a⟩:=vals2 r;cases (show f=Value.type n from a);obtain⟨p,i,j,k⟩:=qZw I c g;exact PySem.W.kia_one i I.kIn j (qNt X.K d n e) k λtk=>⟨.bl _,H,I.tok _,rfl,q⟩
def qYk(K:PySem.W.Frag):List V->Hp->VK->Prop:=λxs H Q => ∃(x:V) (d:PyData),xs = [x]/\ur K H d x/\(d.hasDict=false\/(∃ds,d = .list ds) \/ ∃kvs,d = .dict kvs)/\d.showable=true/\d.depth<=100/\d.shown.length<=sizeLine/\Q (.str d.shown) H
theorem qI2{k:Nat}(e:Room k X.A):CallR X (.builtin "repr") (qYk X.K):=by
 intro B s σ H O P Q I r h;obtain⟨x,d,rfl,c,E,f,g,i,q⟩:=h;rcases c with c | ⟨b,rfl,⟨a,R,F,rfl,j,l,G⟩,_⟩
 ·by_cases C:∃b,d = .dict b
  ·obtain⟨b,rfl⟩:=C;obtain⟨a,S,rfl,j,l⟩:=c.ofDict;obtain⟨u,rfl,m⟩:=vals1 r;cases m;obtain⟨z,n,F,p,o,J,L,t,v,w,D,y,T⟩:=xF I.hok j;obtain⟨M,N⟩:=DenXk.reads I l p y;exact qK1 e I t v w n M N f g i q
  ·exact qPe e _ _ _ _ _ _ _ I r ⟨x,d,rfl,c,E.imp id (λz=>z.imp id λz=>absurd z C),f,g,i,q⟩
 ·obtain⟨u,rfl,m⟩:=vals1 r;cases m;obtain⟨n,o,J,L,t,v,w,D,y⟩:=qW3 I j;exact qK1 e I t v w n (DenXs.reads I l D) (DenXs.reads I G y) f g i q
def DPutO(K:PySem.W.Frag)(H:Hp)(a:Addr)(y v:V)(H':Hp):Prop := ∃kvs,H a=some (.dK kvs)/\SmallK kvs/\kvs.length<=900 /\
 ((∃k:Key,y=kV k/\H'=upd H a (.dK (putK kvs k v)))\/(y = .bl true/\(valV kvs (Sum.inl 1)).isSome=true/\H'=upd H a (.dK (putK kvs (Sum.inl 1) v))) \/
  ((y = .non\/(y = .bl true/\valV kvs (Sum.inl 1)=none) \/ ∃p,y = .ref p/\SqT K H p [.int 0])/\H'=upd H a (entO ((kvs.map λp=>kV p.1) ++ [y]) (kvs.map (·.2) ++ [v]))))
theorem qSs{P:Program}{w:World}{A:Around}{E:Value->Shared->Prop}{s:Shared}{Q:Int->Shared->Prop}(h:∀tk,Q 0xFCA86420 { s with toks:=tk }):wpAny (model P w) A (pyHash .none) Q E s:=by
 exact PySem.W.pyHash_slot (T := "NoneType") rfl PySem.F.slot_NoneType_hash PySem.F.entry_NoneType_hash (PySem.F.args_NoneType_hash_1 _) (beq_builtin_none _) (.inl rfl) (aA (aC (aA (wpAny_mkInt (aC ⟨_,_,rfl,h _⟩)))))
theorem qQa{kvs:List (Key×V)}{i:Int}(h:∃p∈kvs,p.1=Sum.inl i):valV kvs (Sum.inl i)≠none:=by
 obtain⟨p,a,e⟩:=h;intro z;have:=xu (Sum.inl i:Key) kvs;rw [z] at this;have b:(kvs.any λc=>decide (c.1=(Sum.inl i:Key)))=true:=dE.mpr ⟨p,a,decide_eq_true e⟩;rw [b] at this;cases this
theorem qPb{b:List (Addr×Obj)}{σ : St}{H q:Hp}{s:Shared}{a:Addr}{y v:V}{u r:Value}{A:Around}{E:Value->Shared->Prop}{Q:Unit->Shared->Prop}(t:A.units+1<cLine)(I:Inv X b σ H s)(g:DPutO X.K H a y v q)(c:RelV y u)(d:RelV v r)(h:∀x,Inv X b σ q x->Q () x):wpAny (model X.prog X.w) A (setItem (.ref a) u r) Q E s:=by
 have B:sizeLine=16777216:=by decide
 obtain⟨C,e,n,J,⟨k,rfl,rfl⟩ | ⟨rfl,o,rfl⟩ | ⟨D,rfl⟩⟩:=g
 ·exact QC t I (DPut.k e (by lia)) c d h
 ·cases c;exact qT5 I e n (by lia) o d h
 ·rcases D with rfl | ⟨rfl,o⟩ | ⟨p,rfl,F⟩
  ·cases c;refine iC (y :=.non) (hh:=0xFCA86420) I e n (by lia) rfl d (λ_ _ z=>nomatch z) (λ_ _ z=>nomatch z) (λi f j _=>?_) (λ_ _ l=>qSs l) h;rw [iB f j];split <;> lia
  ·cases c;refine iC (y :=.bl true) (hh:=1) I e n (by lia) rfl d (λ_ _ z=>nomatch z) (λ_ _ z=>nomatch z) (λi f j G=>?_) (λ_ _ l=>iD (l _)) h;rw [iB f j];intro z;have:i=1:=by
    split at z <;> lia
   subst this;exact qQa G o
  ·cases c;refine iC (y :=.ref p) (hh := -8753497827991233192) I e n (by lia) rfl d (λ_ _ z=>nomatch z) (λ_ _ z=>nomatch z) (λi f j _=>?_) (λ_ _ l=>?_) h
   ·rw [iB f j];split <;> lia
   ·have m:=qWc I (k :=[Sum.inl 0]) F;refine (tupleKind (zY X.prog X.w)).pyHash (eQ t) m ?_;rw [qXl];exact l _
def qVk(K:PySem.W.Frag)(td ty tv:TE):TS:=λD σ H=>tv σ H λv H1=>td σ H1 λx H2=>ty σ H2 λy H3 => ∃a H4,x = .ref a/\DPutO K H3 a y v H4/\D.nx σ H4
theorem qNb{o i b:Expr}{f ty j:TE}{e d:Pos}(k:X.A.units+1<cLine)(l:PE X o f)(hi:PE X i ty)(m:PE X b j)(n:swapsWith b (some (.Subscript o i d)) e.line X.env=pure false):PS X (.Assign [.Subscript o i d] b e) (qVk X.K f ty j):=by
 intro c s σ H D I h;refine wpAny_Assign_Subscript (thn (m c s σ H _ I h) λr p hq_=>?_) n;obtain⟨v,q,t,w,z⟩:=hq_;refine thn (l c p σ q _ t z) λu B hq_=>?_;obtain⟨x,C,E,F,G⟩:=hq_;refine thn (hi c B σ C _ E G) λQ R hq_=>?_;obtain⟨y,S,J,L,a,M,N,g,O⟩:=hq_;subst N;obtain rfl:u=Value.ref a:=F;exact qPb k J g L w λT P=>⟨σ,M,P,O⟩
theorem qR1{K:PySem.W.Frag}{b ty c:TE}{D:Ends}{σ : St}{H:Hp}(h:c σ H λv e=>b σ e λx f=>ty σ f λy g => ∃a d,x = .ref a/\DPutO K g a y v d/\D.nx σ d):qVk K b ty c D σ H:=h
end
end L2
namespace L2
open PySem PySem.Spec PyProof.Rows
end L2
namespace L2
open PySem PySem.Spec PyProof.Rows PyProof
theorem ut:∀(a b:List Int),PyData.eqv (intsD a) (intsD b)=decide (a=b):=by
 have h:∀(a b:List Int),PyData.eqvAll (a.map .int) (b.map .int)=decide (a=b):=by
  intro a
  induction a with
  | nil =>
   intro b;cases b <;> simp [PyData.eqvAll]
  | cons x a d =>
   intro b;cases b with
   | nil=>simp [PyData.eqvAll]
   | cons y b =>
    simp only [bG,PyData.eqvAll,PyData.eqv,d b];by_cases c:x=y
    ·subst c;simp
    ·simp [c]
 intro a b;show PyData.eqv (.list (a.map .int)) (.list (b.map .int))=_;simp only [PyData.eqv,h]
def riseB(ns:List Int):Bool:=decide (ns.Pairwise (· < ·))
def yS(m:Nat)(bz:List Int)(d:PyData):Bool:=match d with
 | .list ds=>ds.all (fromD 0 m)&&riseB (ds.map intD)&&bz.all λy=>decide (y∈ds.map intD)
 | _=>false
def keysB(ks bx:List Int):Bool:=ks.all (λy=>decide (y∈bx))&&bx.all λy=>decide (y∈ks)
def planB(m:Nat)(bx:List Int)(bz:Int->List Int)(d:PyData):Bool:=match d with
 | .dict kvs=>kvs.all (λp=>zt p.1)&&keysB (kvs.map λp=>intD p.1) bx&&kvs.all λp=>yS m (bz (intD p.1)) p.2
 | _=>false
def qJr(K:PySem.W.Frag):Sp:=λvs H Q _ => ∃(wa:Addr) (v:V) (d:PyData) (ws:List (List Blk)) (n:Nat) (wk:List Blk) (x:Int),vs = [.ref wa,.int n,.int x,v]/\Den K H (yF ws) (.ref wa)/\WsOk ws/\ws[n]? = some wk/\DenX K H d v/\wide 60 d=true /\
 ∀H',Ext [] H H'->Q (.bl (yS wk.length (busyL ws n wk x) d)) H'
theorem qN6{ns c:List Int}(d:c.Perm (zf ns))(f:c.Pairwise (· <= ·)):decide (ns=c)=riseB ns:=by
 have e:c.Pairwise (· < ·):=(f.and (d.nodup_iff.mpr (ud ns))).imp λ{a b} z=>by obtain⟨g,h⟩:=z;lia
 unfold riseB;refine decide_eq_decide.mpr ⟨λz=>by rw [z];exact e,λz=>?_⟩;exact xp z e λy=>by rw [d.mem_iff,yt]
def RdS(H G:Hp):Prop := ∀a u,Rd H a u->Rd G a u
section
variable{K:PySem.W.Frag}{G G':Hp}
theorem RdS.seq(h:RdS G G'){a:Addr}{xs:List V}(e:SqL K G a xs):SqL K G' a xs:=e.imp (h _ _) id
theorem RdS.seqT(h:RdS G G'){a:Addr}{xs:List V}(e:SqT K G a xs):SqT K G' a xs:=e.imp (h _ _) id
theorem RdS.frz{d:Addr}{o:Obj}{u:HO}(hd:G d=some u)(f:∀b g,u ≠ .frz b g):RdS G (upd G d (.frz o u)):=λa v e=>by
 by_cases c:a=d
 ·subst c;rcases e with e | ⟨b,e⟩
  ·rw [hd] at e;cases e;exact .inr ⟨o,zC⟩
  ·rw [hd] at e;cases e;exact absurd rfl (f _ _)
 ·rcases e with e | ⟨b,e⟩
  ·exact .inl (by rw [zD c];exact e)
  ·exact .inr ⟨b,by rw [zD c];exact e⟩
mutual
theorem DenX.monoR(h:RdS G G'):∀ {d:PyData} {v:V},DenX K G d v->DenX K G' d v
 | .none,_,e=>by simp only [DenX] at e ⊢;exact e
 | .bool _,_,e=>by simp only [DenX] at e ⊢;exact e
 | .int _,_,e=>by simp only [DenX] at e ⊢;exact e
 | .str _,_,e=>by simp only [DenX] at e ⊢;exact e
 | .list ds,_,e=>by
  simp only [DenX] at e ⊢;obtain⟨a,g,b,c,f⟩:=e;exact⟨a,g,b,h.seq c,DenXs.monoR h f⟩
 | .tuple ds,_,e=>by
  simp only [DenX] at e ⊢;obtain⟨a,g,b,c,f⟩:=e;exact⟨a,g,b,h.seqT c,DenXs.monoR h f⟩
 | .dict i,_,e=>by
  simp only [DenX] at e ⊢;obtain⟨a,j,b,c,f⟩:=e;exact⟨a,j,b,h _ _ c,DenXk.monoR h f⟩
theorem DenXs.monoR(h:RdS G G'):∀ {ds:List PyData} {vs:List V},DenXs K G ds vs->DenXs K G' ds vs
 | [],_,e=>by simp only [DenXs] at e ⊢;exact e
 | d::ds,_,e=>by
  simp only [DenXs] at e ⊢;obtain⟨v,r,a,b,c⟩:=e;exact⟨v,r,a,DenX.monoR h b,DenXs.monoR h c⟩
theorem DenXk.monoR(h:RdS G G'):∀ {kvs:List (PyData×PyData)} {ps:List (Key×V)},DenXk K G kvs ps->DenXk K G' kvs ps
 | [],_,e=>by simp only [DenXk] at e ⊢;exact e
 | (k,d)::r,_,e=>by
  simp only [DenXk] at e ⊢;obtain⟨a,v,q,b,c,f,g⟩:=e;exact⟨a,v,q,b,c,DenX.monoR h f,DenXk.monoR h g⟩
end
end
def PlanT(K:PySem.W.Frag)(H:Hp)(d:PyData)(x:V):Prop:=(DenX K H d x/\yR d "dict" = false) \/
 (∃kvs a ps,d = .dict kvs/\x = .ref a/\H a=some (.dK ps)/\DenXk K H kvs ps/\(ps.map (·.1)).Nodup/\ps.length<=40 /\ ∀p∈ps,∀i:Int,p.1=Sum.inl i -> -1<=i/\i<=100) \/
 ∃kvs,d = .dict kvs/\OddAt K H (kvs.map (·.1)) (kvs.map (·.2)) x/\(∃k∈kvs.map (·.1),zt k=false)/\kvs.length<=40
theorem PlanT.thing{K:PySem.W.Frag}{H:Hp}{d:PyData}{x:V}(h:PlanT K H d x):ur K H d x:=by
 rcases h with ⟨h,_⟩ | ⟨b,a,c,rfl,rfl,f,g,_⟩ | ⟨b,e,h,i,_⟩
 ·exact .inl h
 ·refine .inl ?_;simp only [DenX];exact⟨a,c,rfl,.inl f,g⟩
 ·exact .inr ⟨b,e,h,i⟩
theorem PlanT.mono{K:PySem.W.Frag}{H G:Hp}{d:PyData}{x:V}(h:PlanT K H d x)(s:Same H G):PlanT K G d x:=by
 rcases h with ⟨h,z⟩ | ⟨b,a,g,c,f,i,j,k⟩ | ⟨b,e,⟨a,l,m,c,f,n,o⟩,p⟩
 ·exact .inl ⟨h.mono s,z⟩
 ·exact .inr (.inl ⟨b,a,g,c,f,s _ _ i,j.mono s,k⟩)
 ·exact .inr (.inr ⟨b,e,⟨a,l,m,c,s _ _ f,n.mono s,o.mono s⟩,p⟩)
def iH(d:PyData):Prop := ∀kvs,d = .dict kvs -> ∀p∈kvs,wide 60 p.2=true
def qJo(K:PySem.W.Frag):Sp:=λvs H Q _ => ∃(wa:Addr) (v:V) (d:PyData) (ws:List (List Blk)) (n:Nat) (wk:List Blk),vs = [.ref wa,.int n,v]/\Den K H (yF ws) (.ref wa)/\WsOk ws/\ws[n]? = some wk/\PlanT K H d v/\iH d /\
 ∀H',Ext [] H H'->Q (.bl (planB wk.length (boxes wk) (busyL ws n wk) d)) H'
theorem qHx{lo hi:Int}{ds:List PyData}(h:ds.all (fromD lo hi)=true):ds=(ds.map intD).map .int /\ ∀y∈ds.map intD,lo<=y/\y<hi:=by
 rw [bO] at h;refine⟨?_,λy b=>?_⟩
 ·rw [dS]
  conv=>lhs;rw [<-List.map_id ds]
  exact gU λd a=>(qNy (h d a)).1
 ·obtain⟨d,a,rfl⟩:=aW.mp b;exact (qNy (h d a)).2
theorem vA{α : Type}{p : α -> Bool}{xs:List α}{i:Nat}{x : α}(h:xs[i]? = some x):(xs.take (i+1)).map p=(xs.take i).map p ++ [p x]:=by rw [zd h,aJ];rfl
theorem vB{α : Type}{p : α -> Bool}{xs:List α}:(xs.map p).all id=xs.all p:=by rw [List.all_map];rfl
section
variable{K:PySem.W.Frag}{G:Hp}
theorem qXk(k:Key):DenX K G (kD k) (kV k):=by
 cases k with
 | inl i=>exact (by simp only [kD,DenX];rfl)
 | inr s=>exact (by simp only [kD,DenX];rfl)
theorem DenXk.keys:∀ {kvs:List (PyData×PyData)} {ps:List (Key×V)},DenXk K G kvs ps->DenXs K G (kvs.map (·.1)) (ps.map λp=>kV p.1)/\kvs.map (·.1)=ps.map λp=>kD p.1
 | [],ps,h=>by
  simp only [DenXk] at h;subst h;exact⟨.nil,rfl⟩
 | (k,d)::r,ps,h=>by
  simp only [DenXk] at h;obtain⟨a,v,q,rfl,rfl,f,b⟩:=h;obtain⟨c,e⟩:=DenXk.keys b;exact⟨.cons (qXk a) c,by rw [bG,bG,e]⟩
theorem DenXk.at:∀ {kvs:List (PyData×PyData)} {ps:List (Key×V)} {j:Nat} {k:Key} {v:V},DenXk K G kvs ps->ps[j]? = some (k,v) -> ∃d,kvs[j]? = some (kD k,d)/\DenX K G d v
 | [],ps,j,k,v,h,e=>by
  simp only [DenXk] at h;subst h;simp at e
 | (c,d)::r,ps,j,k,v,h,e=>by
  simp only [DenXk] at h;obtain⟨f,g,q,rfl,rfl,a,b⟩:=h;cases j with
  | zero =>
   simp only [List.getElem?_cons_zero,Option.some.injEq,Prod.mk.injEq] at e;obtain⟨rfl,rfl⟩:=e;exact⟨d,rfl,a⟩
  | succ j=>exact DenXk.at (j:=j) b (by simpa using e)
theorem DenXk.len{kvs:List (PyData×PyData)}{ps:List (Key×V)}(h:DenXk K G kvs ps):kvs.length=ps.length:=by
 have:=congrArg List.length h.keys.2;simpa using this
end
theorem qNm{ps:List (Key×V)}(h:((ps.map λp=>kD p.1).all zt)=true):ps.map (·.1)=(ps.map λp=>intD (kD p.1)).map Sum.inl:=by
 rw [bO] at h;rw [dS];refine gU λp a=>?_;have:=h (kD p.1) (aW.mpr ⟨p,a,rfl⟩);obtain⟨k,v⟩:=p;cases k with
 | inl i=>rfl
 | inr s=>cases this
theorem qGy{ns e bx:List Int}(d:ns.Perm e)(f:ns.Pairwise (· <= ·))(g:e.Nodup)(h:bx.Pairwise (· < ·)):decide (ns=bx)=keysB e bx:=by
 have i:ns.Pairwise (· < ·):=(f.and (d.nodup_iff.mpr g)).imp λ{a b} z=>by obtain⟨l,m⟩:=z;lia
 unfold keysB;rw [cM,decide_eq_true_iff,aO,bO,bO];constructor
 ·rintro rfl;exact⟨λy c=>decide_eq_true (d.mem_iff.mpr c),λy c=>decide_eq_true (d.mem_iff.mp c)⟩
 ·rintro⟨j,k⟩;exact xp i h λy=>⟨λc=>of_decide_eq_true (j y (d.mem_iff.mp c)),λc=>d.mem_iff.mpr (of_decide_eq_true (k y c))⟩
theorem qKi{a:List Int}(h:(a.map (Sum.inl:Int->Key)).Nodup):a.Nodup:=by
 induction a with
 | nil=>exact .nil
 | cons x a b =>
  rw [bG,dA] at h;rw [dA];exact⟨λz=>h.1 (aW.mpr ⟨x,z,rfl⟩),b h.2⟩
theorem qGp{m:Nat}{bx:List Int}{bz:Int->List Int}{d:PyData}(h:yR d "dict" = false):planB m bx bz d=false:=by
 cases d <;> first | rfl | cases h
theorem qKv{d:PyData}(h:yR d "dict" = true):∃kvs,d = .dict kvs:=by cases d <;> first | exact⟨_,rfl⟩ | (revert h;decide) | cases h
theorem qOc{m:Nat}{bx:List Int}{bz:Int->List Int}{kvs:List (PyData×PyData)}(h:(kvs.map (·.1)).all zt=false):planB m bx bz (.dict kvs)=false:=by
 unfold planB;rw [List.all_map] at h;simp only [show (kvs.all λp=>zt p.1)=false from h,cR]
def qJn(K:PySem.W.Frag):Sp:=λvs H Q _ => ∃(oa:Addr) (v:V) (d:PyData) (ws:List (List Blk)) (n:Nat) (wk:List Blk) (as:List Addr),vs = [.ref oa,.int wk.length,v]/\PlanAt H oa (boxes wk) as (tightLs ws n wk)/\WsOk ws/\ws[n]? = some wk/\PlanT K H d v/\iH d /\
 ∀H',Ext [] H H'->Q (.bl (planB wk.length (boxes wk) (busyL ws n wk) d)) H'
theorem qW7{ps:List (Key×V)}{j:Nat}{k:Key}{v:V}(a:(ps.map (·.1)).Nodup)(h:ps[j]? = some (k,v)):valV ps k=some v:=by
 induction ps generalizing j with
 | nil=>simp at h
 | cons p ps f =>
  rw [bG,dA] at a;obtain⟨c,g⟩:=p;cases j with
  | zero =>
   simp only [List.getElem?_cons_zero,Option.some.injEq,Prod.mk.injEq] at h;obtain⟨rfl,rfl⟩:=h;simp [valV]
  | succ j =>
   have d:ps[j]? = some (k,v):=by simpa using h
   have b : ¬c=k:=λe=>a.1 (by
    show c∈_;rw [e]
    exact aW.mpr ⟨(k,v),aM d,rfl⟩)
   have:=f a.2 d;simpa [valV,fM,b] using this
theorem qZ9{K:PySem.W.Frag}{H:Hp}{kvs:List (PyData×PyData)}{ps:List (Key×V)}{bx:List Int}{b:Int}(h:DenXk K H kvs ps)(g:(ps.map (·.1)).Nodup)(i:ps.map (·.1)=(kvs.map λp=>intD p.1).map Sum.inl)(c:keysB (kvs.map λp=>intD p.1) bx=true)(l:b∈bx):∃(j:Nat) (v:V) (d:PyData),valV ps (Sum.inl b)=some v/\kvs[j]? = some (PyData.int b,d)/\DenX K H d v:=by
 unfold keysB at c;rw [aO,bO,bO] at c;have m:(Sum.inl b:Key)∈ps.map (·.1):=by
  rw [i];exact aW.mpr ⟨b,of_decide_eq_true (c.2 b l),rfl⟩
 obtain⟨p,n,e⟩:=aW.mp m;obtain⟨j,o,f⟩:=bI n;obtain⟨k,v⟩:=p;have e:k=Sum.inl b:=e;subst e;have a:ps[j]? = some (Sum.inl b,v):=by rw [aD o,f]
 obtain⟨d,q,r⟩:=h.at a;exact⟨j,v,d,qW7 g a,q,r⟩
theorem qRg{m:Nat}{bx:List Int}{bz:Int->List Int}{kvs:List (PyData×PyData)}{j:Nat}{b:Int}{d:PyData}(h:kvs[j]? = some (.int b,d))(hi:yS m (bz b) d=false):planB m bx bz (.dict kvs)=false:=by
 unfold planB;have:(kvs.all λp=>yS m (bz (intD p.1)) p.2)=false:=by
  rw [List.all_eq_false];exact⟨_,aM h,by simp [intD,hi]⟩
 simp only [this,Bool.and_false]
theorem qNc{m:Nat}{bx:List Int}{bz:Int->List Int}{kvs:List (PyData×PyData)}(a:(kvs.map (·.1)).all zt=true)(f:keysB (kvs.map λp=>intD p.1) bx=true)(g:∀b∈bx,∀d,(.int b,d)∈kvs->yS m (bz b) d=true):planB m bx bz (.dict kvs)=true:=by
 unfold planB;rw [List.all_map] at a;simp only [show (kvs.all λp=>zt p.1)=true from a,f,dG];rw [bO];intro p c;have e:=f;unfold keysB at e;rw [aO,bO] at e;rw [bO] at a;obtain⟨k,d⟩:=p;have h:=qXf (a (k,d) c);refine g (intD k) (of_decide_eq_true (e.1 (intD k) (aW.mpr ⟨(k,d),c,rfl⟩))) d ?_;rw [<-h];exact c
theorem qOz{kvs:List (PyData×PyData)}{b:Int}{d d':PyData}{j:Nat}(g:(kvs.map λp=>intD p.1).Nodup)(h:kvs[j]? = some (.int b,d))(h':(.int b,d')∈kvs):d'=d:=by
 obtain⟨i,a,c⟩:=bI h';have f:(kvs.map λp=>intD p.1)[i]? = some b:=by rw [aS,aD a,c];rfl
 have k:(kvs.map λp=>intD p.1)[j]? = some b:=by rw [aS,h];rfl
 have e:i=j:=(List.getElem?_inj (aE.mp f).1 g).mp (f.trans k.symm);subst e;rw [aD a,c] at h;cases h;rfl
end L2
namespace L2
open PySem PySem.W PyProof.Rows
end L2
namespace L2
open PySem PySem.Spec PyProof.Rows
structure PlanF(ws:List (List Blk))(n:Nat)(wk:List Blk)(bs:List Int)(f:Int->List Int):Prop where
 perm:bs.Perm (boxes wk)
 rise:∀b∈bs,(f b).Pairwise (· < ·)
 rg:∀b∈bs,∀y∈f b,0<=y/\y<(wk.length:Int)
 busy:∀b∈bs,∀y,BusyP ws n wk b y->y∈f b
structure PlI(H:Hp)(t d lf:Addr)(ws:List (List Blk))(n:Nat)(wk:List Blk)(ls rs bs:List Int)(as:List Addr)(f:Int->List Int)(k:Nat)(G:Hp):Prop where
 tape:Tape G t k
 ext:Ext [t] H G
 left:G lf=some (.lst (ls.map V.int))
 plan:PlanAt G d bs as (bs.map f)
 fd:H d=none
 fl:H lf=none
 fa:∀a∈as,H a=none
 nl:lf∉as
 nd:lf≠d
 perm:(bs++rs).Perm (boxes wk)
 rise:∀b∈bs,(f b).Pairwise (· < ·)
 rg:∀b∈bs,∀y∈f b,0<=y/\y<(wk.length:Int)
 busy:∀b∈bs,∀y,BusyP ws n wk b y->y∈f b
theorem PlanAt.keep{G b:Hp}{d:Addr}{bs:List Int}{as:List Addr}{c:List (List Int)}(h:PlanAt G d bs as c)(k:∀a∈d::as,∀o,G a=some o->b a=some o):PlanAt b d bs as c:=⟨k d (aQ ..) _ h.dict,h.lists.mono λa e o=>k a (aP _ e) o,h.len,h.nd,h.nda⟩
section
variable{H:Hp}{t d lf:Addr}{ws:List (List Blk)}{n:Nat}{wk:List Blk}{ls rs bs:List Int}{as:List Addr}{f:Int->List Int}{k k':Nat}{G G':Hp}
theorem PlI.keep(h:PlI H t d lf ws n wk ls rs bs as f k G)(c:∃o,H t=some o)(e:Ext [t] G G')(T:Tape G' t k'):PlI H t d lf ws n wk ls rs bs as f k' G':=by
 obtain⟨o,c⟩:=c;have g:∀a,H a=none->a≠t:=λa b z=>by rw [z,c] at b;cases b
 refine⟨T,h.ext.trans e,e _ _ (by simpa using g _ h.fl) h.left,h.plan.keep λa b o q=>e _ _ ?_ q,h.fd,h.fl,h.fa,h.nl,h.nd,h.perm,h.rise,h.rg,h.busy⟩;rcases aV.mp b with z | z
 ·subst z;simpa using g _ h.fd
 ·simpa using g _ (h.fa a z)
theorem PlI.grown(h:PlI H t d lf ws n wk ls rs bs as f k G)(a:∃o,H t=some o)(e:Ext [] G G'):PlI H t d lf ws n wk ls rs bs as f k G':=h.keep a (e.mono (by simp)) (h.tape.ext e (by simp))
theorem PlI.popped(h:PlI H t d lf ws n wk ls rs bs as f k G)(i:∃o,H t=some o)(g:List Int):PlI H t d lf ws n wk g rs bs as f k (upd G lf (.lst (g.map V.int))):=by
 obtain⟨o,i⟩:=i;have j:t≠lf:=λz=>by have:=h.fl;rw [<-z,i] at this;cases this
 refine⟨?_,λb u l e=>?_,zC,h.plan.keep λa m o q=>?_,h.fd,h.fl,h.fa,h.nl,h.nd,h.perm,h.rise,h.rg,h.busy⟩
 ·obtain⟨a,b,c,p,r⟩:=h.tape;exact⟨a,b,c,by rw [zD j];exact p,r⟩
 ·rw [zD (zF e h.fl)];exact h.ext b u l e
 ·rw [zD];exact q;rcases aV.mp m with z | z
  ·rw [z];exact dF h.nd
  ·exact λy=>h.nl (y▸z)
theorem PlI.put{m works x:Int}{ns:List Int}{i:Addr}{rs':List Int}(h:PlI H t d lf ws n wk ls rs bs as f k G)(C:∃o,H t=some o)(e:Ext [] G G')(j:G i=none)(D:G' i=some (.lst (ns.map V.int)))(E:rs.Perm (x::rs'))(r:x∉bs)(F:ns.Pairwise (· < ·))(I:∀y∈ns,0<=y/\y<(wk.length:Int))(J:∀y,BusyP ws n wk x y->y∈ns):PlI H t d lf ws n wk ls rs' (bs ++ [x]) (as ++ [i]) (λy=>if y=x then ns else f y) k (upd G' d (.dK (putK (planK bs as) (Sum.inl x) (.ref i)))):=by
 have K:=h.plan.snoc e j D r;have em:bs.map (λy=>if y=x then ns else f y)=bs.map f:=gU λb g=>by
  show (if b=x then ns else f b)=f b;exact if_neg λ(z:b=x)=>r (z▸g)
 obtain⟨o,s⟩:=id C;have v:t≠d:=λz=>by have:=h.fd;rw [<-z,s] at this;cases this
 have w:H i=none:=h.ext.none (by
  intro z;have z:i=t:=by simpa using z
  obtain⟨a,b,c,A,_⟩:=h.tape
  rw [z,A] at j;cases j) j
 have B:∀b∈bs ++ [x],(b∈bs/\b≠x)\/b=x:=λb g=>by
  rcases aK.mp g with z | z
  ·exact .inl ⟨z,λy=>r (y▸z)⟩
  ·exact .inr (by simpa using z)
 refine⟨?_,λb u g q=>?_,?_,?_,h.fd,h.fl,λa L=>?_,?_,h.nd,?_,λb g=>?_,λb g=>?_,λb g=>?_⟩
 ·obtain⟨a,b,c,A,M⟩:=h.tape;exact⟨a,b,c,by rw [zD v];exact e _ _ (by simp) A,M⟩
 ·rw [zD (zF q h.fd)];exact e _ _ (by simp) (h.ext b u g q)
 ·rw [zD h.nd];exact e _ _ (by simp) h.left
 ·rw [aJ,em,List.map_singleton,if_pos rfl];exact K
 ·rcases aK.mp L with z | z
  ·exact h.fa a z
  ·rw [show a=i by simpa using z];exact w
 ·intro z;rcases aK.mp z with z | z
  ·exact h.nl z
  ·have z:lf=i:=by simpa using z
   rw [<-z,h.left] at j;cases j
 ·rw [eZ];exact (List.Perm.append_left bs E.symm).trans h.perm
 ·rcases B b g with ⟨l,p⟩ | z
  ·simp only [if_neg p];exact h.rise b l
  ·simp only [if_pos z];exact F
 ·rcases B b g with ⟨l,p⟩ | z
  ·simp only [if_neg p];exact h.rg b l
  ·simp only [if_pos z];exact I
 ·rcases B b g with ⟨l,p⟩ | z
  ·simp only [if_neg p];exact h.busy b l
  ·simp only [if_pos z];rw [z];exact J
end
section
variable{H:Hp}{d:Addr}{us us':List V}
variable{ds ds':List Deed}
end
mutual
theorem DenE.off{H:Hp}{t:Addr}{x:Int}{r:List V}(j:H t=some (.lst (.int x::r))):∀ {d:PyData} {v:V},noI d=true->DenE H d v->DenE (wo [t] H) d v
 | .none,_,_,e=>by simp only [DenE] at e ⊢;exact e
 | .bool _,_,_,e=>by simp only [DenE] at e ⊢;exact e
 | .int _,_,_,e=>by simp only [DenE] at e ⊢;exact e
 | .str _,_,_,e=>by simp only [DenE] at e ⊢;exact e
 | .list ds,_,f,e=>by
  simp only [DenE] at e ⊢;obtain⟨a,k,l,c,g⟩:=e;simp only [noI,aO] at f;refine⟨a,k,l,?_,DenEL.off j f.1 g⟩;rw [zc]
  ·exact c
  ·intro h;have h:=aH.mp h;subst h;rw [j] at c;cases c;cases ds with
   | nil=>have:=g.ofNil;cases this
   | cons d ds =>
    obtain⟨v,n,m,b,_⟩:=g.ofCons;cases m;cases d with
    | int i=>simp at f
    | none=>simp only [DenE] at b;cases b
    | bool=>simp only [DenE] at b;cases b
    | str=>simp only [DenE] at b;cases b
    | list=>simp only [DenE] at b;obtain⟨_,_,z,_⟩:=b;cases z
    | tuple=>simp only [DenE] at b;obtain⟨_,_,z,_⟩:=b;cases z
    | dict=>simp only [DenE] at b
 | .tuple ds,_,f,e=>by
  simp only [DenE] at e ⊢;obtain⟨a,k,l,c,g⟩:=e;simp only [noI] at f;refine⟨a,k,l,?_,DenEL.off j f g⟩;rw [zc]
  ·exact c
  ·intro h;have h:=aH.mp h;subst h;rw [j] at c;cases c
 | .dict _,_,_,e=>by simp only [DenE] at e
theorem DenEL.off{H:Hp}{t:Addr}{x:Int}{r:List V}(b:H t=some (.lst (.int x::r))):∀ {ds:List PyData} {vs:List V},noIs ds=true->DenEL H ds vs->DenEL (wo [t] H) ds vs
 | [],_,_,e=>by simp only [DenEL] at e ⊢;exact e
 | d::ds,_,a,e=>by
  simp only [DenEL] at e ⊢;simp only [noIs,aO] at a;obtain⟨v,r,c,f,g⟩:=e;exact⟨v,r,c,DenE.off b a.1 f,DenEL.off b a.2 g⟩
end
theorem Tape.worksE{H:Hp}{t:Addr}{k:Nat}{d:List (List Blk)}{v:V}(T:Tape H t k)(h:DenE H (yF d) v):DenE (wo [t] H) (yF d) v:=by
 obtain⟨a,b,c,e,_⟩:=T;exact DenE.off e (qS4 d) h
end L2
namespace L2
open PySem PySem.Spec PyProof.Rows PyProof
def qQ4(K:PySem.W.Frag):Sp:=λvs H Q _ => ∃(t oa:Addr) (k:Nat) (ws:List (List Blk)) (n:Nat) (wk:List Blk) (as':List Addr),vs = [.ref t,.ref oa,.int wk.length]/\Tape H t k/\k+200<=2^40/\PlanAt H oa (boxes wk) as' (tightLs ws n wk)/\t∉as'/\WsOk ws/\ws[n]? = some wk /\
 ∀(d:Addr) (bs:List Int) (as:List Addr) (f:Int->List Int) (H':Hp),H d=none->(∀a∈as,H a=none)->Tape H' t (k+200)->Ext [t] H H'->PlanAt H' d bs as (bs.map f)->PlanF ws n wk bs f->Q (.ref d) H'
def LpO(H:Hp)(t oa d lf:Addr)(ws:List (List Blk))(n:Nat)(wk:List Blk)(k:Nat)(μ : Nat)(σ':St)(G:Hp):Prop := ∃(ls bs:List Int) (as:List Addr) (f:Int->List Int) (kk:Nat) (o5 o6 o7:Option V),μ = ls.length /\ σ' = [some (.ref t),some (.ref oa),some (.int wk.length),some (.ref d),some (.ref lf),o5,o6,o7]/\kk+20*ls.length<=k+200/\PlI H t d lf ws n wk ls ls bs as f kk G
theorem PlanAt.keepT{H G:Hp}{t d:Addr}{k:Nat}{bs:List Int}{as:List Addr}{g:List (List Int)}(h:PlanAt H d bs as g)(T:Tape H t k)(j:t∉as)(e:Ext [t] H G):PlanAt G d bs as g:=by
 have f:d ∉ [t]:=λz=>by
  obtain⟨a,b,c,i,_⟩:=T;rw [<-aH.mp z,h.dict] at i;cases i
 exact⟨e _ _ f h.dict,h.lists.mono λa l o m=>e _ _ (λz=>j (by rw [<-aH.mp z];exact l)) m,h.len,h.nd,h.nda⟩
theorem PlanAt.growE{H G:Hp}{d:Addr}{bs:List Int}{as:List Addr}{b:List (List Int)}(h:PlanAt H d bs as b)(e:Ext [] H G):PlanAt G d bs as b:=⟨e _ _ (by simp) h.dict,h.lists.mono λa f o c=>e _ _ (by simp) c,h.len,h.nd,h.nda⟩
theorem PlanAt.list{H:Hp}{d:Addr}{bs:List Int}{as:List Addr}{f:Int->List Int}{b:Int}(h:PlanAt H d bs as (bs.map f))(k:bs.Nodup)(l:b∈bs):∃a,a∈as/\valV (planK bs as) (Sum.inl b)=some (.ref a)/\H a=some (.lst ((f b).map V.int)):=by
 obtain⟨j,g,m⟩:=bI l;have e:bs[j]? = some b:=by rw [aD g,m]
 have c:j<as.length:=by rw [h.len];exact g
 obtain⟨o,i,n⟩:=h.lists.get (aD c);rw [aS,e] at i;cases i;exact⟨_,cL c,ww k e (aD c),n⟩
def qYp:List V->Hp->VK->Prop:=λxs H Q => ∃l items more,xs = [.ref l]/\H l=some (.lst items)/\PairsAt H items more/\more.length<=1000 /\ ∀d,H d=none->Q (.ref d) (upd H d (.dK (yj [] more)))
theorem iI{X:Cx}(L:X.calm=true):CallR X (.type "dict") qYp:=by
 intro c s σ H S U Q I r h;obtain⟨l,items,more,rfl,t,M,V,q⟩:=h;obtain⟨u,rfl,N⟩:=vals1 r;cases N;have v:=I.ok.hd L;have O:sizeLine=16777216:=by decide
 refine callType_codes (Q₁ :=λk f =>k = .ref s.heap.objs.size/\f = { s with heap:=s.heap.push { cls :=.type "dict",data :=.dict #[] } }) F.kt_called_dict (F.kt_typeCall_dict_1 _) F.entry_dict_init (kt_code_dict_new _ ⟨rfl,rfl⟩) ?_;rintro k f ⟨rfl,rfl⟩;have g:H s.heap.objs.size=none:=I.hok.fresh (aF _);have w:=I.laid (a:=s.heap.objs.size) (o :=.dK []) (h':=s.heap.push { cls :=.type "dict",data :=.dict #[] }) (t':=s.toks) (λ_ _ q=>aG _ q) (aF _) (uL s.heap I.big);have D:(⟨s.heap.push { cls :=.type "dict",data :=.dict #[] },s.gens,s.drawn,s.toks,s.os⟩:Shared).TypeIs (.ref s.heap.objs.size) "dict" :=⟨_,aT _ rfl,rfl⟩;have m:l≠s.heap.objs.size:=λz=>by rw [z,g] at t;cases t
 have j:(upd H s.heap.objs.size (.dK [])) l=some (.lst items):=by rw [zD m];exact t
 have p:PairsAt (upd H s.heap.objs.size (.dK [])) items more:=PairsAt.mono (λb W q=>(Ext.laid (ts :=[]) g) _ _ (by simp) q) M;generalize E:upd H s.heap.objs.size (.dK [])=G at w j p;have x:G s.heap.objs.size=some (.dK []):=by rw [<-E];exact zC
 generalize P:s.heap.objs.size=d at *;obtain⟨y,n,Y,B,_⟩:=w.lst j;refine⟨D,F.args_dict_init_2 _ _,?_⟩;unfold Builtin.«dict.__init__»;refine aA ?_;unfold Builtin.Dict.selfAndRest;refine aA (eI D ?_);show wpAny _ _ (pure (d,[Value.ref l])) _ _ _;refine aC ?_;show wpAny _ _ (Builtin.Dict.updateFrom "dict.__init__" d (.ref l) [] .none) _ _ _;unfold Builtin.Dict.updateFrom;refine aA (fS (T := "list") ⟨_,B,rfl⟩ ?_);rw [if_pos (by decide)];refine aA (Miss.no_keys (show X.A.in1.in1.handled=none from v) B λh' tk J=>?_);have C:Inv X c σ G { s with heap:=h',toks:=tk }:=w.kept J;show wpAny _ _ (if true=true then _ else _) _ _ _
 rw [if_pos rfl];refine aA (cV ?_);refine aA (fL (l:=l) (items:=y.toArray) ⟨_,J _ _ B,rfl,n,rfl⟩ ?_);have R:Inv X c σ G { s with heap:=h'.push { cls :=.type "list_iterator",data :=.fields #[.ref l,.int 0 0] },toks:=tk }:=C.kept (t':=tk) λb Z e=>aG _ e;refine aC ⟨fF Miss.plain_loop _,?_⟩;refine kZ (i:=0) v (show X.A.in1.handled=none from v) R ⟨_,aT _ rfl,rfl,rfl⟩ (C.fpOk (aF _) (C.hok.fresh (aF _))) j x m p (by show 0+more.length<=sizeLine;lia) λs' K=>?_;rw [<-E,iy] at K;exact⟨rfl,.ref d,_,K,rfl,q d g⟩
theorem qUx{K:PySem.W.Frag}{a:Addr}{xs:List V}{g:TG}{f:TS}{D:Ends}{σ : St}{H:Hp}(Pv:Nat->St->Hp->Prop)(k:Pv 0 σ H)(l:∀i σ H,i<=xs.length->Pv i σ H->SqT K H a xs)(n:∀i x σ H,xs[i]? = some x->Pv i σ H -> ∀(N B C:St->Hp->Prop) (R:VK),Nx N (Pv (i+1))->Nx C (Pv (i+1))->NxV R D.rt->g x σ H λb e=>f ⟨N,R,B,C⟩ b e)(hd:∀ σ H,Pv xs.length σ H->D.nx σ H):∃W:Nat->Nat->St->Hp->Prop,(∃m,W 0 m σ H) /\ ∀i m σ H,W i m σ H ->
   ((Itt K a).stop i H/\D.nx σ H)\/((Itt K a).go i H /\ ∃N:St->Hp->Prop,(∀ c d,N c d -> ∃j,j<m/\W (i+1) j c d) /\ ∀x d,(Itt K a).yld i H x d->g x σ d λb e=>f { D with nx:=N,ct:=N,bk:=D.nx } b e) :=
 qXn Pv k l (λi x σ H o p=>n i x σ H o p _ _ _ _ (λ_ _ h=>h) (λ_ _ h=>h) (λ_ _ h=>h)) hd
end L2
namespace L2
open PySem PySem.Spec PyProof.Rows
section
variable{X:Cx}
def rTupL(K:PySem.W.Frag):List V->Hp->VK->Prop:=λxs H Q => ∃(a:Addr) (ys:List V),xs = [.ref a]/\SqL K H a ys /\ ∀p,H p=none->Q (.ref p) (upd H p (.tup ys))
theorem qT9:CallR X (.type "tuple") (rTupL X.K):=by
 intro f s σ H p t Q I r h;obtain⟨a,j,rfl,l,q⟩:=h;obtain⟨u,rfl,m⟩:=vals1 r;cases m;obtain⟨c,g,n,v⟩:=I.list l;have w:=g.length;refine call_tuple_list n.isList (λd k=>?_) (by rw [aR];lia);have i:s.heap.get? d.objs.size=none:=by
  cases e:s.heap.get? d.objs.size with
  | none=>rfl
  | some o=>exact absurd (aX (k _ o e)) (fT _)
 exact⟨.ref d.objs.size,_,I.laidN (t':=s.toks) (o :=.tup j) (λb o e=>aG _ (k b o e)) i ⟨by lia,c,g,IsTup.new _ _⟩,rfl,q _ (I.hok.gone i)⟩
end
end L2
namespace L2
open PySem PySem.Spec PyProof.Rows PyProof
theorem qKa{α : Type}(xs:List α)(f:Nat->Nat)(a:∀k,k<xs.length->f k=xs.length - 1 - k):(List.range xs.length).filterMap (λk=>xs[f k]?)=xs.reverse:=by
 have e:(List.range xs.length).map (λk=>xs[f k]?)=xs.reverse.map some:=by
  refine List.ext_getElem (by simp) λi b g=>?_;have c:i<xs.length:=by simpa using b
  rw [List.getElem_map,List.getElem_map,List.getElem_range,List.getElem_reverse,a i c];exact aD _
 have d:(List.range xs.length).filterMap (λk=>xs[f k]?)=((List.range xs.length).map (λk=>xs[f k]?)).filterMap id:=by rw [List.filterMap_map];rfl
 rw [d,e,List.filterMap_map];exact List.filterMap_some
theorem qU3(its:List Value):slicePick its.toArray none none (some (-1))=its.reverse.toArray:=by
 have a : ¬((-1:Int)>0):=by lia
 unfold slicePick sliceBounds;simp only [Option.getD_some,a,if_false,aR];unfold sliceRange;simp only [a,if_false];have b:(if ((its.length:Int) - 1 > -1) then ((its.length:Int) - 1 - -1 - -1 - 1) / (- -1) else 0).toNat=its.length:=by
  split
  ·rw [show (- -1:Int)=1 from rfl,Int.ediv_one];lia
  ·lia
 rw [b,List.filterMap_map]
 congr 1
 have e:((λx=>its.toArray[x]?)∘λk:Nat=>((its.length:Int) - 1 + -1*(k:Int)).toNat)=λk:Nat=>its[((its.length:Int) - 1 + -1*(k:Int)).toNat]? :=by
  funext k
  simp only [Function.comp,eJ]
 rw [e];exact qKa its (λk=>((its.length:Int) - 1 + -1*(k:Int)).toNat) λk c=>by show ((its.length:Int) - 1 + -1*(k:Int)).toNat=_;lia
section
variable{X:Cx}
def rRev(K:PySem.W.Frag)(x:V)(H:Hp)(Q:VK):Prop := ∃a xs,x = .ref a/\((SqL K H a xs /\ ∀p,H p=none->Q (.ref p) (upd H p (.lst xs.reverse)))\/(SqT K H a xs /\ ∀p,H p=none->Q (.ref p) (upd H p (.tup xs.reverse))))
def tRev(K:PySem.W.Frag)(te tt:TE):TE:=λσ H Q=>te σ H λx H1=>tt σ H1 λy H2=>y = .int (-1)/\rRev K x H2 Q
theorem qMq{P:Program}{w:World}{A:Around}{E:Value->Shared->Prop}{s:Shared}{c:Addr}{vs:Value}{n:Nat}{Q:Int×Int×Nat->Shared->Prop}(d:s.heap.IsSliceOf c .none .none vs)(ps:IsPart vs (some (-1)))(h:Q ((n:Int) - 1,-1,n) s):wpAny (model P w) A (Builtin.Slice.sliceApplied (.ref c) (pure (n:Int))) Q E s:=by
 obtain⟨os,a,f,b⟩:=id d;unfold Builtin.Slice.sliceApplied Builtin.Slice.sliceFields;refine aA (aA (wpAny_field a b (x :=.none) rfl (aA (wpAny_field a b (x :=.none) rfl (aA (wpAny_field a b (x:=vs) rfl (aC ?_)))))));refine aA (HT.slicePart_ ps ?_);show wpAny _ _ (if ((-1:Int) == 0)=true then _ else _) _ _ s;rw [if_neg (by decide)];refine aA (HT.slicePart_ .none (aA (HT.slicePart_ .none (aA (aC ?_)))));show wpAny _ _ (match Builtin.Slice.sliceAdjust none none (-1) (n:Int) with | (lo,g)=>pure (lo,(-1:Int),Builtin.Slice.slicePlaces lo g (-1))) _ _ s;rw [show Builtin.Slice.sliceAdjust none none (-1) (n:Int)=((n:Int) - 1,-1) from rfl]
 show wpAny _ _ (pure ((n:Int) - 1,(-1:Int),Builtin.Slice.slicePlaces ((n:Int) - 1) (-1) (-1))) _ _ s;have e:Builtin.Slice.slicePlaces ((n:Int) - 1) (-1) (-1)=n:=by
  unfold Builtin.Slice.slicePlaces;have i : ¬((-1:Int)>0):=by lia
  simp only [i,if_false];split
  ·rw [show (- -1:Int)=1 from rfl,Int.ediv_one];lia
  ·lia
 rw [e];exact aC h
theorem qPt{P:Program}{w:World}{A:Around}{E:Value->Shared->Prop}{s:Shared}{t c:Addr}{its:List Value}{vs:Value}{Q:Value->Shared->Prop}(b:IsTup s.heap t its.toArray)(l:s.heap.IsSliceOf c .none .none vs)(ps:IsPart vs (some (-1)))
  (h:Q (.ref s.heap.objs.size) { s with heap:=s.heap.push { cls :=.type "tuple",data :=.seq its.reverse.toArray } })
  (d:its.length<=sizeLine):wpAny (model P w) A (getItem (.ref t) (.ref c)) Q E s:=by
 have a:sizeOk (.seq its.reverse.toArray):=by
  show its.reverse.toArray.size<=sizeLine;rw [aR,gW];exact d
 obtain⟨os,f,g,n⟩:=id l;have i:s.TypeIs (.ref c) "slice" :=⟨os,f,g⟩;unfold getItem
 try with_reducible refine bM ?_
 first | refine aA (aC ?_) | skip
 refine aA (wpAny_sequenceKey b.typeIs (by decide) ?_)
 refine aA (cS (name:=Str.ofString "__getitem__") b.typeIs cN
  (bX cN b.typeIs PyProof.Rows.entry_tuple_getitem ?_ (PyProof.Rows.args_tuple_getitem _ _)))
 show wpAny _ _ (Builtin.Tuple.tupleItemsOf (.ref t) >>= _) _ _ s;refine aA (PyProof.Rows.tupleItemsOf_ b ?_);refine aA (fS i ?_);rw [if_pos (by decide)];refine aA (qMq l ps ?_);show wpAny _ _ (if (((its.toArray.size:Int) - 1) == 0&&(-1:Int) == 1&&its.toArray.size == its.toArray.size)=true then _ else _) _ _ s;have j : ¬((((its.toArray.size:Int) - 1) == 0&&(-1:Int) == 1&&its.toArray.size == its.toArray.size)=true):=by
  intro q;rw [aO,aO] at q;exact absurd q.1.2 (by decide)
 rw [if_neg j];have e:((List.range its.toArray.size).filterMap λ(m:Nat)=>its.toArray[((its.toArray.size:Int) - 1+(m:Int)*(-1)).toNat]?).toArray=its.reverse.toArray:=by
  congr 1
  simp only [aR,eJ];exact qKa its (λk=>((its.length:Int) - 1+(k:Int)*(-1)).toNat) λk o=>by show ((its.length:Int) - 1+(k:Int)*(-1)).toNat=_;lia
 rw [e]
 first
  | exact aA (m:=Builtin.Tuple.tupleExact _) (bV (aC ⟨_,rfl,aC h⟩) a)
  | exact aA (m:=Builtin.Tuple.tupleExact _) (bV (aA (aC (aC ⟨_,rfl,aC h⟩))) a)
  | exact aA (aA (m:=Builtin.Tuple.tupleExact _) (bV (aC (aC ⟨_,rfl,aC h⟩)) a))
  | exact aA (aA (m:=Builtin.Tuple.tupleExact _) (bV (aC ⟨_,rfl,aC h⟩) a))
theorem qYu{e st:Expr}{t u:TE}{z k:Pos}(D:PE X e t)(E:PE X st u):PE X (.Subscript e (.Slice none none (some st) z) k) (tRev X.K t u):=by
 intro c s σ H Q I h;refine Subscript_ (thn (D c s σ H _ I h) λv F hq_=>?_);obtain⟨x,G,J,L,M⟩:=hq_;refine wpAny_Slice ?_;show wpAny _ _ (pure Value.none) _ _ _;refine aC ?_;show wpAny _ _ (pure Value.none) _ _ _;refine aC ?_;rw [evalPart_some];refine thn (E c F σ G _ J M) λT d hq_=>?_;obtain⟨y,N,O,P,l⟩:=hq_;obtain⟨rfl,a,B,rfl,l⟩:=l;obtain⟨tk,rfl⟩:=P;cases L;have f:Inv X c σ N { d with heap:=d.heap.push { cls :=.type "slice",data :=.fields #[.none,.none,.int (-1) tk] } }:=O.kept (t':=d.toks) λb C q=>aG _ q;have R:(d.heap.push { cls :=.type "slice",data :=.fields #[.none,.none,.int (-1) tk] }).IsSliceOf d.heap.objs.size .none .none (.int (-1) tk):=Heap.IsSliceOf.new ..
 show wpAny (model X.prog X.w) X.A (subscriptTail e (.Slice none none (some st) z) (.ref a) (.ref d.heap.objs.size)) (EP X c σ Q) X.xe { d with heap:=d.heap.push { cls :=.type "slice",data :=.fields #[.none,.none,.int (-1) tk] } };generalize S:({ d with heap:=d.heap.push { cls :=.type "slice",data :=.fields #[.none,.none,.int (-1) tk] } }:Shared)=s4 at f ⊢;have g:s4.heap.IsSliceOf d.heap.objs.size .none .none (.int (-1) tk):=by rw [<-S];exact R
 rcases l with ⟨m,q⟩ | ⟨m,q⟩
 ·obtain⟨n,r,i,p⟩:=f.list m;have j:=r.length;refine tail_any (ops :=[.ref a,.ref d.heap.objs.size]) i.isList.typeIs slot_list_getitem.lookup ?_ (by with_unfolding_all rfl);refine wpAny_getItem_list_slice i.isList g .none .none (.int _ _) (by simp) ?_ (by rw [aR] <;> lia);rw [qU3];refine⟨.ref s4.heap.objs.size,_,f.laid (t':=s4.toks) (o :=.lst B.reverse) (λb C q=>aG _ q) (aF _) ?_,rfl,q _ (f.hok.fresh (aF _))⟩;exact⟨by rw [gW];exact p,_,0,r.reverse,aT _ rfl⟩
 ·obtain⟨n,r,i,p⟩:=f.tuple m;have j:=r.length;refine tail_any (ops :=[.ref a,.ref d.heap.objs.size]) i.typeIs cN.lookup ?_ (by with_unfolding_all rfl);refine qPt i g (.int _ _) ?_ (by lia);refine⟨.ref s4.heap.objs.size,_,f.laid (t':=s4.toks) (o :=.tup B.reverse) (λb C q=>aG _ q) (aF _) ?_,rfl,q _ (f.hok.fresh (aF _))⟩;exact⟨by rw [gW];exact p,_,r.reverse,IsTup.new _ _⟩
def rTupA(K:PySem.W.Frag):List V->Hp->VK->Prop:=λxs H Q => ∃(a:Addr) (ys:List V),xs = [.ref a]/\((SqL K H a ys /\ ∀p,H p=none->Q (.ref p) (upd H p (.tup ys)))\/(SqT K H a ys/\Q (.ref a) H))
theorem qTa:CallR X (.type "tuple") (rTupA X.K):=by
 intro b s σ H f d Q I r h;obtain⟨a,e,rfl,⟨c,q⟩ | ⟨c,q⟩⟩:=h
 ·exact qT9 b s σ H _ d Q I r ⟨a,e,rfl,c,q⟩
 ·exact qMm b s σ H _ d Q I r ⟨a,e,rfl,c,q⟩
end
theorem FitS.tuple{ds:List PyData}{W D:Nat}(t:FitS ds W D):Fit (.tuple ds) W (D+1):=by
 obtain⟨a,b,c,d⟩:=t;refine⟨?_,?_,?_,?_⟩
 ·simpa only [PyData.showable] using a
 ·simpa only [PyData.leavesShort] using b
 ·simpa only [PyData.weight] using c
 ·simp only [PyData.depth];lia
theorem DenXs.app{K:PySem.W.Frag}{H:Hp}:∀ {a b:List PyData} {us vs:List V},DenXs K H a us->DenXs K H b vs->DenXs K H (a++b) (us++vs)
 | [],b,us,vs,h,t=>by rw [h.ofNil];exact t
 | d::a,b,us,vs,h,t=>by
  obtain⟨v,r,rfl,c,e⟩:=h.ofCons;exact .cons c (DenXs.app e t)
structure BentOk(n W D:Nat)(d:PyData):Prop where
 wi:wide n d=true
 ft:Fit d W D
theorem DenX.none'{K:PySem.W.Frag}{H:Hp}:DenX K H .none .non:=by simp only [DenX]
theorem DenX.int'{K:PySem.W.Frag}{H:Hp}{i:Int}:DenX K H (.int i) (.int i):=by simp only [DenX]
theorem DenX.str'{K:PySem.W.Frag}{H:Hp}{i:Str}:DenX K H (.str i) (.str i):=by simp only [DenX]
theorem DenX.dict0{K:PySem.W.Frag}{H:Hp}{a:Addr}(h:H a=some (.dK [])):DenX K H (.dict []) (.ref a):=by
 simp only [DenX];exact⟨a,[],rfl,.inl h,by simp only [DenXk]⟩
section
variable{X:Cx}{es:List Expr}{te:TE}{t:TA}
theorem paK{c:Const}{j:Nat}{p:Pos}(h:PE X (.Constant c j p) te)(a:PA X es t):PA X (.Constant c j p::es) (tCons te t):=zA h a
theorem paL{xs:List Expr}{p:Pos}(h:PE X (.List xs p) te)(a:PA X es t):PA X (.List xs p::es) (tCons te t):=zA h a
theorem paT{xs:List Expr}{j:Nat}{p:Pos}(h:PE X (.Tuple xs j p) te)(a:PA X es t):PA X (.Tuple xs j p::es) (tCons te t):=zA h a
theorem paD{a:List (Option Expr)}{xs:List Expr}{p:Pos}(h:PE X (.Dict a xs p) te)(b:PA X es t):PA X (.Dict a xs p::es) (tCons te t):=zA h b
theorem paN{x:Str}{p:Pos}(h:PE X (.Name x p) te)(a:PA X es t):PA X (.Name x p::es) (tCons te t):=zA h a
theorem paS{a b:Expr}{p:Pos}(h:PE X (.Subscript a b p) te)(c:PA X es t):PA X (.Subscript a b p::es) (tCons te t):=zA h c
theorem paC{a:Expr}{bs:List Expr}{k:List Keyword}{p:Pos}(h:PE X (.Call a bs k p) te)(b:PA X es t):PA X (.Call a bs k p::es) (tCons te t):=zA h b
theorem paB{a b:Expr}{o:Operator}{p:Pos}(h:PE X (.BinOp a o b p) te)(c:PA X es t):PA X (.BinOp a o b p::es) (tCons te t):=zA h c
end
theorem Tape.same{H d:Hp}{t:Addr}{k:Nat}(h:Tape H t k)(e:Same H d):Tape d t k:=by
 obtain⟨a,b,c,f,g⟩:=h;exact⟨a,b,c,e _ _ f,g⟩
theorem Tape.some{H:Hp}{t:Addr}{k:Nat}(h:Tape H t k){p:Addr}(d:H p=none):p ∉ [t]:=λz=>by
 obtain⟨a,b,c,e,_⟩:=h;rw [aH.mp z,e] at d;cases d
section
variable{X:Cx}
structure PEx(X:Cx)(e:Expr)(t:TE):Prop where
 h:PE X e t
structure PSx(X:Cx)(st:Stmt)(t:TS):Prop where
 h:PS X st t
structure PSsx(X:Cx)(ss:List Stmt)(t:TS):Prop where
 h:PSs X ss t
theorem psx{st:Stmt}{t:TS}(h:PS X st t):PSx X st t:=⟨h⟩
theorem zo{st:Stmt}{rest:List Stmt}{t u:TS}(a:PSx X st t)(b:PSsx X rest u):PSsx X (st::rest) (tSeq t u):=⟨zG a.h b.h⟩
theorem zy{st:Stmt}{t:TS}(a:PSx X st t):PSsx X [st] t:=⟨zI a.h⟩
theorem yz{c:Expr}{a b:List Stmt}{e:TT}{t u:TS}{d:Pos}(f:PT X c e)(g:PSsx X a t)(i:PSs X b u):PSx X (.If c a b d) (tIfS e t u):=⟨zn f g.h i⟩
theorem qU8{es:List Expr}{i:Nat}{x:Str}{c:TE}{a p b:Pos}(d:X.N.Nodup)(hi:X.N[i]? = some x)(e:Loc X.env.scope x)(f:PEx X (.List es p) c)(g:X.fn x=true\/X.env.scope.names.lookup x=some .local:=by first | exact .inl rfl | exact .inr rfl | assumption):PSx X (.Assign [.Name x a] (.List es p) b) (tAsg c (gName i)):=⟨zN d hi e f.h rfl g⟩
end
theorem qZ1{m:Int}(h:m.natAbs<10^13):BentOk 5 1000 8 (.int m):=by
 refine⟨by simp only [wide],(Fit.of (n:=0) (D:=0) ?_ ?_ ?_).mono (by lia) (by lia)⟩
 ·simp only [tame,decide_eq_true_eq];exact h
 ·simp only [cells];lia
 ·simp only [PyData.depth];lia
section
variable{K:PySem.W.Frag}{G:Hp}{t a:Addr}{k:Nat}{d:PyData}{ds:List PyData}{Q:VK}{n W D:Nat}
theorem qZf{a b:TE}{σ : St}{H:Hp}(h:a σ H λx c=>b σ c λy d=>y = .int (-1)/\rRev K x d Q):tRev K a b σ H Q:=h
end
def ElOk(d:PyData):Prop:=wide 60 d=true/\Fit d 150 9
def ValOk(d:PyData):Prop:=wide 60 d=true/\Fit d 10000 10
theorem ElOk.val{d:PyData}(h:ElOk d):ValOk d:=⟨h.1,h.2.mono (by lia) (by lia)⟩
theorem vC{i:Int}(h:i.natAbs<10^13):ElOk (.int i):=by
 have:=qZ1 h;exact⟨qJg (by lia) this.wi,(Fit.of (n:=0) (D:=0) (by simp only [tame,decide_eq_true_eq];exact h) (by simp only [cells];lia) (by simp only [PyData.depth];lia)).mono (by lia) (by lia)⟩
theorem xA{d:PyData}(h:wide 60 d=true/\d.showable=true/\d.leavesShort 14=true/\d.weight<=150/\d.depth<=9):ElOk d:=⟨h.1,h.2.1,h.2.2.1,h.2.2.2.1,h.2.2.2.2⟩
theorem qV0{ds:List PyData}{W D:Nat}(h:∀x∈ds,Fit x W D):FitS ds ((W+1)*ds.length) D:=by
 have:=FitS.map (f:=id) (l:=ds) h
 rwa [List.map_id] at this
theorem uu{ds:List PyData}(h:∀x∈ds,ElOk x)(b:ds.length<=60):ValOk (.list ds)/\ValOk (.tuple ds):=by
 have c:=qV0 λx a=>(h x a).2;have d:(150+1)*ds.length<=10000:=by lia
 exact⟨⟨wide_list.mpr ⟨b,λx a=>(h x a).1⟩,c.list.mono d (by lia)⟩,⟨wide_tuple.mpr ⟨b,λx a=>(h x a).1⟩,c.tuple.mono d (by lia)⟩⟩
structure DSt(K:PySem.W.Frag)(G:Hp)(N:Nat)(ps:List (Key×V))(kvs:List (PyData×PyData)):Prop where
 den:DenXk K G kvs ps
 nd:(ps.map (·.1)).Nodup
 len:ps.length<=N
 rg:∀p∈ps,∀i:Int,p.1=Sum.inl i -> -1<=i/\i<=100
 ok:∀p∈kvs,Fit p.1 100 10/\ValOk p.2
theorem DSt.mono{K:PySem.W.Frag}{G a:Hp}{N:Nat}{ps:List (Key×V)}{kvs:List (PyData×PyData)}(h:DSt K G N ps kvs)(s:Same G a):DSt K a N ps kvs:=⟨h.den.mono s,h.nd,h.len,h.rg,h.ok⟩
structure FineT(d:PyData):Prop where
 thin:iH d
 kd:d.hasDict=false\/(∃ds,d = .list ds) \/ ∃kvs,d = .dict kvs
 sh:d.showable=true
 de:d.depth<=100
 le:d.shown.length<=sizeLine
theorem uv{kvs:List (PyData×PyData)}(h:∀p∈kvs,Fit p.1 100 10/\ValOk p.2)(m:kvs.length<=40):FineT (.dict kvs):=by
 have c:FitK kvs ((100+10000+2)*kvs.length) 10:=by
  have:=FitK.map (g:=λp:PyData×PyData=>p.1) (f:=λp=>p.2) (l:=kvs) (U:=100) (W:=10000) (D:=10) λx a=>⟨(h x a).1,(h x a).2.2⟩;simpa using this
 obtain⟨d,i,j⟩:=c.dict.shown (by lia) (by lia);refine⟨λb e p k=>?_,.inr (.inr ⟨kvs,rfl⟩),d,i,j⟩;cases e;exact (h p k).2.1
theorem iJ{d:PyData}{W D:Nat}(h:Fit d W D)(a:W<=1000000)(b:D<=100)(c:d.hasDict=false \/ ∃ds,d = .list ds)(f:yR d "dict" = false):FineT d:=by
 obtain⟨g,i,j⟩:=h.shown a b;refine⟨λk e=>?_,c.imp id .inl,g,i,j⟩;subst e;cases f
theorem DSt.plan{K:PySem.W.Frag}{H:Hp}{a:Addr}{N:Nat}{ps:List (Key×V)}{kvs:List (PyData×PyData)}(h:DSt K H N ps kvs)(b:H a=some (.dK ps))(d:N<=40):PlanT K H (.dict kvs) (.ref a)/\FineT (.dict kvs):=by
 have e:=h.len;have c:=h.den.len;exact⟨.inr (.inl ⟨kvs,a,ps,rfl,rfl,b,h.den,h.nd,by lia,h.rg⟩),uv h.ok (by lia)⟩
theorem DenXk.vals{K:PySem.W.Frag}{G:Hp}:∀ {kvs:List (PyData×PyData)} {ps:List (Key×V)},DenXk K G kvs ps->DenXs K G (kvs.map (·.2)) (ps.map (·.2))
 | [],ps,h=>by
  simp only [DenXk] at h;subst h;exact .nil
 | (k,d)::r,ps,h=>by
  simp only [DenXk] at h;obtain⟨c,v,q,rfl,rfl,a,b⟩:=h;exact .cons a (DenXk.vals b)
theorem DenXk.cons{K:PySem.W.Frag}{G:Hp}{kvs:List (PyData×PyData)}{ps:List (Key×V)}{k:Key}{d:PyData}{v:V}(a:DenX K G d v)(b:DenXk K G kvs ps):DenXk K G ((kD k,d)::kvs) ((k,v)::ps):=by
 simp only [DenXk];exact⟨k,v,ps,rfl,rfl,a,b⟩
theorem DenXk.ofCons{K:PySem.W.Frag}{G:Hp}{kvs:List (PyData×PyData)}{ps:List (Key×V)}{k:Key}{v:V}(h:DenXk K G kvs ((k,v)::ps)):∃d r,kvs=(kD k,d)::r/\DenX K G d v/\DenXk K G r ps:=by
 cases kvs with
 | nil=>simp only [DenXk] at h;cases h
 | cons x r =>
  obtain⟨c,d⟩:=x;simp only [DenXk] at h;obtain⟨f,g,q,e,rfl,a,b⟩:=h;cases e;exact⟨d,r,rfl,a,b⟩
theorem DenXk.nil{K:PySem.W.Frag}{G:Hp}:DenXk K G [] []:=by simp only [DenXk]
theorem qO3{K:PySem.W.Frag}{G:Hp}{k:Key}{d:PyData}{v:V}(hd:DenX K G d v):∀ {ps:List (Key×V)} {kvs:List (PyData×PyData)},DenXk K G kvs ps -> ∃a,DenXk K G a (ps.map λb=>if b.1=k then (b.1,v) else b) /\ ∀p∈a,p∈kvs\/p=(kD k,d)
 | [],kvs,h=>⟨kvs,h,λp hp =>.inl hp⟩
 | (e,n)::ps,kvs,h=>by
  obtain⟨j,r,rfl,l,m⟩:=h.ofCons;obtain⟨f,g,i⟩:=qO3 (k:=k) hd m;by_cases c:e=k
  ·subst c;refine⟨(kD e,d)::f,?_,λp hp=>?_⟩
   ·rw [bG,if_pos rfl];exact .cons hd g
   ·rcases aV.mp hp with rfl | hp
    ·exact .inr rfl
    ·exact (i p hp).imp (aP _) id
  ·refine⟨(kD e,j)::f,?_,λp hp=>?_⟩
   ·rw [bG,if_neg c];exact .cons l g
   ·rcases aV.mp hp with rfl | hp
    ·exact .inl (aQ ..)
    ·exact (i p hp).imp (aP _) id
theorem qO2{K:PySem.W.Frag}{G:Hp}{k:Key}{d:PyData}{v:V}(hd:DenX K G d v):∀ {ps:List (Key×V)} {kvs:List (PyData×PyData)},DenXk K G kvs ps->DenXk K G (kvs ++ [(kD k,d)]) (ps ++ [(k,v)])
 | [],kvs,h=>by
  cases kvs with
  | nil=>exact .cons hd .nil
  | cons x r=>obtain⟨a,b⟩:=x;simp only [DenXk] at h;obtain⟨_,_,_,e,_⟩:=h;cases e
 | (g,i)::ps,kvs,h=>by
  obtain⟨j,r,rfl,c,f⟩:=h.ofCons;exact .cons c (qO2 hd f)
theorem qHz{K:PySem.W.Frag}{G:Hp}{f:Key×V->Bool}:∀ {ps:List (Key×V)} {kvs:List (PyData×PyData)},DenXk K G kvs ps -> ∃a,DenXk K G a (ps.filter f) /\ ∀p∈a,p∈kvs
 | [],kvs,h=>⟨kvs,h,λp hp=>hp⟩
 | (e,k)::ps,kvs,h=>by
  obtain⟨g,r,rfl,i,j⟩:=h.ofCons;obtain⟨b,c,d⟩:=qHz (f:=f) j;rw [cT];split
  ·exact⟨(kD e,g)::b,.cons i c,λp hp=>by
    rcases aV.mp hp with rfl | hp
    ·exact aQ ..
    ·exact aP _ (d p hp)⟩
  ·exact⟨b,c,λp hp=>aP _ (d p hp)⟩
theorem qKw{k:Key}{v:V}(ps:List (Key×V)):(ps.map λa=>if a.1=k then (a.1,v) else a).map (·.1)=ps.map (·.1):=by
 rw [dS];exact gU λp _=>by
  show (if p.1=k then (p.1,v) else p).1=p.1;split <;> rfl
theorem DSt.put{K:PySem.W.Frag}{G:Hp}{N:Nat}{ps:List (Key×V)}{kvs:List (PyData×PyData)}{k:Key}{d:PyData}{v:V}(h:DSt K G N ps kvs)(hd:DenX K G d v)(n:ValOk d)(o:Fit (kD k) 100 10)(r:∀i:Int,k=Sum.inl i -> -1<=i/\i<=100):∃c,DSt K G (N+1) (putK ps k v) c:=by
 have x:=h.len;unfold putK;split
 ·obtain⟨c,s,t⟩:=qO3 (k:=k) hd h.den;refine⟨c,s,by rw [qKw];exact h.nd,by rw [aB];lia,λp hp i f=>?_,λp hp=>?_⟩
  ·have u:p.1∈ps.map (·.1):=by rw [<-qKw (k:=k) (v:=v) ps];exact aW.mpr ⟨p,hp,rfl⟩
   obtain⟨q,g,j⟩:=aW.mp u;exact h.rg q g i (j.trans f)
  ·rcases t p hp with hp | rfl
   ·exact h.ok p hp
   ·exact⟨o,n⟩
 ·rename_i l;refine⟨_,qO2 (k:=k) hd h.den,?_,by rw [aI,bN];lia,λp hp i f=>?_,λp hp=>?_⟩
  ·rw [aJ,cF];refine⟨h.nd,by simp,λa w b m e=>?_⟩;have m:b=k:=by simpa using m
   subst m;subst e;obtain⟨q,g,j⟩:=aW.mp w;exact l (dE.mpr ⟨q,g,decide_eq_true j⟩)
  ·rcases aK.mp hp with hp | hp
   ·exact h.rg p hp i f
   ·have hp:p=(k,v):=by simpa using hp
    subst hp;exact r i f
  ·rcases aK.mp hp with hp | hp
   ·exact h.ok p hp
   ·have hp:p=(kD k,d):=by simpa using hp
    subst hp;exact⟨o,n⟩
theorem DSt.drop{K:PySem.W.Frag}{G:Hp}{N:Nat}{ps:List (Key×V)}{kvs:List (PyData×PyData)}{k:Key}(h:DSt K G N ps kvs):∃a,DSt K G N (dropK ps k) a:=by
 have c:=h.len;unfold dropK;obtain⟨a,d,e⟩:=qHz (f:=λg=>decide (g.1≠k)) h.den;exact⟨a,d,h.nd.sublist (List.filter_sublist.map _),bL (bC _ _) c,λp b=>h.rg p (bQ.mp b).1,λp b=>h.ok p (e p b)⟩
theorem DSt.odd{K:PySem.W.Frag}{G H:Hp}{a:Addr}{N:Nat}{ps:List (Key×V)}{kvs:List (PyData×PyData)}{kd d:PyData}{y v:V}(h:DSt K G N ps kvs)(s:Same G H)(j:N<=39)(b:DenX K H kd y)(hd:DenX K H d v)(c:ValOk d)(e:Fit kd 100 10)(f:zt kd=false)(g:H a=some (entO ((ps.map λp=>kV p.1) ++ [y]) (ps.map (·.2) ++ [v]))):PlanT K H (.dict (kvs ++ [(kd,d)])) (.ref a)/\FineT (.dict (kvs ++ [(kd,d)])):=by
 have k:=h.len;have i:=h.den.len;refine⟨.inr (.inr ⟨_,rfl,⟨a,_,_,rfl,g,?_,?_⟩,⟨kd,by simp,f⟩,by rw [aI,bN];lia⟩),uv (λp hp=>?_) (by rw [aI,bN];lia)⟩
 ·rw [aJ];exact (h.den.keys.1.mono s).app (.cons b .nil)
 ·rw [aJ];exact (h.den.vals.mono s).app (.cons hd .nil)
 ·rcases aK.mp hp with hp | hp
  ·exact h.ok p hp
  ·have hp:p=(kd,d):=by simpa using hp
   subst hp;exact⟨e,c⟩
theorem ux:∀ {more acc:List (Key×V)},((acc++more).map (·.1)).Nodup->yj acc more=acc++more
 | [],acc,_=>by rw [cH];rfl
 | (k,v)::more,acc,h=>by
  have a:valV acc k=none:=by
   cases z:valV acc k with
   | none=>rfl
   | some u =>
    exfalso;have:=xu k acc;rw [z] at this;obtain⟨q,b,c⟩:=dE.mp this;rw [aJ,cF] at h;exact h.2.2 k (aW.mpr ⟨q,b,of_decide_eq_true c⟩) k (by simp) rfl
  show yj (putK acc k v) more=_;rw [uK v a,ux (by simpa using h)];simp
def qQ8(K:PySem.W.Frag):Sp:=λvs H Q _ => ∃(t pd:Addr) (k:Nat) (m:Int) (bs:List Int) (as:List Addr) (f:Int->List Int),vs = [.ref t,.ref pd,.int m]/\Tape H t k/\k+10<=2^40/\PlanAt H pd bs as (bs.map f)/\t∉as/\bs.Nodup/\bs.length<=8/\(∀b∈bs,0<=b/\b<8)/\(∀b∈bs,(f b).length<=12 /\ ∀y∈f b,0<=y/\y<12)/\1<=m/\m<=12 /\
 ∀(r:V) (d:PyData) (H':Hp),Tape H' t (k+10)->Ext [t] H H'->PlanT K (wo [t] H') d r->FineT d->Q r H'
theorem uy{a:List Int}(h:a.Nodup):(a.map (Sum.inl:Int->Key)).Nodup:=by
 induction a with
 | nil=>exact .nil
 | cons x a b =>
  rw [dA] at h;rw [bG,dA];refine⟨λz=>?_,b h.2⟩;obtain⟨y,c,e⟩:=aW.mp z;cases e;exact h.1 c
theorem uz{ts:List Addr}{H:Hp}{a:Addr}{o:HO}(h:a∈ts):Same (wo ts H) (wo ts (upd H a o)):=λb x e=>by
 unfold wo at e ⊢;split at e
 ·cases e
 ·rename_i d;have c:b≠a:=λz=>d (by rw [z];exact h);rw [if_neg d,zD c];exact e
theorem kA{t fd:Addr}{H:Hp}:Same (wo [t,fd] H) (wo [t] H):=λb x e=>by
 unfold wo at e ⊢;split at e
 ·cases e
 ·rename_i a;rw [if_neg (λz=>a (by rw [aH.mp z];simp))];exact e
theorem Ext.same2{t fd:Addr}{G a:Hp}(e:Ext [t] G a):Same (wo [t,fd] G) (wo [t,fd] a):=(e.mono (us :=[t,fd]) (by simp)).same
theorem qVy{K:PySem.W.Frag}{G:Hp}{f:Int->List Int}:∀ {bs:List Int} {as:List Addr},ListsAt G as (bs.map f)->DenXk K G (bs.map λb=>(PyData.int b,intsD (f b))) (planK bs as)
 | [],as,h=>by
  have c:=h.len;cases as with
  | nil=>exact .nil
  | cons _ _=>simp at c
 | b::bs,as,h=>by
  cases h with
  | @cons a _ e _ g i =>
   refine DenXk.cons (k:=Sum.inl b) (d:=intsD (f b)) ?_ (qVy i);exact (Den.list (SqL.of g) (DenL.ofInts _)).x
theorem wQ{ns:List Int}(h:∀y∈ns,-100<=y/\y<=100)(a:ns.length<=60):ValOk (intsD ns):=(uu (ds:=ns.map .int) (λx b=>by
 obtain⟨y,c,rfl⟩:=aW.mp b;have:=h y c
 exact vC (by lia)) (by simpa using a)).1
theorem iK{i:Int}(h:i.natAbs<10^13):Fit (.int i) 100 10:=(Fit.of (n:=0) (D:=0) (by simp only [tame,decide_eq_true_eq];exact h) (by simp only [cells];lia) (by simp only [PyData.depth];lia)).mono (by lia) (by lia)
theorem iL{K:PySem.W.Frag}{H:Hp}{t fd:Addr}{bs:List Int}{as:List Addr}{f:Int->List Int}(l:ListsAt H as (bs.map f))(d:as.length=bs.length)(m:bs.Nodup)(x:bs.length<=8)(h:∀b∈bs,0<=b/\b<8)(n:∀b∈bs,(f b).length<=12 /\ ∀y∈f b,0<=y/\y<12)(q:t∉as)(hd:fd∉as):DSt K (wo [t,fd] H) 8 (planK bs as) (bs.map λb=>(PyData.int b,intsD (f b))):=by
 have r:=yY d;refine⟨qVy (l.mono λa j o s=>?_),?_,by lia,λp g i u=>?_,λp g=>?_⟩
 ·rw [zc (λz=>?_)]
  ·exact s
  ·rcases aV.mp z with z | z
   ·exact q (z▸j)
   ·exact hd ((aH.mp z)▸j)
 ·rw [yw d];exact uy m
 ·have k:(Sum.inl i:Key)∈(planK bs as).map (·.1):=u▸aW.mpr ⟨p,g,rfl⟩;rw [yw d] at k;obtain⟨b,c,e⟩:=aW.mp k;cases e;have:=h _ c;lia
 ·obtain⟨b,c,rfl⟩:=aW.mp g;have A:=h b c;have v:=n b c;exact⟨iK (by lia),wQ (λy w=>by have:=v.2 y w;lia) (by lia)⟩
theorem vD{α β : Type}{F : α -> β -> Prop}{a c:List α}{b d:List β}(h:Paired F a b)(t:Paired F c d):Paired F (a++c) (b++d):=by
 induction h with
 | nil=>exact t
 | cons r _ e=>exact .cons r e
theorem qOk{bs:List Int}{as:List Addr}(a:as.length=bs.length)(d:∀b∈bs,0<=b/\b<8):SmallK (planK bs as):=λp e=>by
 have c:p.1∈(planK bs as).map (·.1):=aW.mpr ⟨p,e,rfl⟩;rw [yw a] at c;obtain⟨b,f,g⟩:=aW.mp c;have:=d b f;exact⟨b,g.symm,by lia,by lia⟩
theorem SmallK.drop{ps:List (Key×V)}{k:Key}(h:SmallK ps):SmallK (dropK ps k):=λp a=>h p (bQ.mp a).1
theorem qPz{s:Str}(h:(PyData.str s).showable=true/\(PyData.str s).leavesShort 14=true/\(PyData.str s).weight<=100/\(PyData.str s).depth<=10):Fit (kD (Sum.inr s)) 100 10:=⟨h.1,h.2.1,h.2.2.1,h.2.2.2⟩
theorem iM{d:PyData}(h:d.showable=true/\d.leavesShort 14=true/\d.weight<=100/\d.depth<=10):Fit d 100 10:=⟨h.1,h.2.1,h.2.2.1,h.2.2.2⟩
theorem qR3{b ty:TE}{σ : St}{H:Hp}{Q:VK}(h:b σ H λx c => ∃a,x = .ref a/\IsD c a/\ty σ c λy d => ∃kvs k v,d a=some (.dK kvs)/\y=kV k/\valV kvs k=some v/\Q v (upd d a (.dK (dropK kvs k)))):QH b ty σ H Q:=h
theorem xh{K:PySem.W.Frag}{G:Hp}(ns:List Int):DenXs K G (ns.map .int) (ns.map V.int):=by
 induction ns with
 | nil=>exact .nil
 | cons x ns a=>exact .cons DenX.int' a
theorem qPu{H:Hp}{k:Nat}{xs:List V}{l t:Addr}(e:H l=some (.tup xs))(T:Tape H t k):l ∉ [t]:=λz=>by
 obtain⟨a,b,c,d,_⟩:=T;rw [<-aH.mp z,e] at d;cases d
section
variable{X:Cx}
theorem qRn:OpR X (compareOp .IsNot) (λx y H Q => ∃b c,x = .bl b/\y = .bl c/\Q (.bl (!decide (b=c))) H):=by
 intro a s σ H x y v u Q I d e h;obtain⟨b,c,rfl,rfl,q⟩:=h;cases d;cases e;cases b <;> cases c
 ·exact aA (m:=isSame (Value.bool false) (Value.bool false)) (aC (aC ⟨.bl false,H,I,rfl,q⟩))
 ·exact aA (m:=isSame (Value.bool false) (Value.bool true)) (aC (aC ⟨.bl true,H,I,rfl,q⟩))
 ·exact aA (m:=isSame (Value.bool true) (Value.bool false)) (aC (aC ⟨.bl true,H,I,rfl,q⟩))
 ·exact aA (m:=isSame (Value.bool true) (Value.bool true)) (aC (aC ⟨.bl false,H,I,rfl,q⟩))
end
theorem kB(xs:List V)(n:Nat):cutV xs none (some (n:Int))=xs.take n:=by
 unfold cutV;rw [HT.sIx_none,HT.sIx_nat,List.drop_zero,Nat.sub_zero];by_cases h:n<=xs.length
 ·rw [Nat.min_eq_left h]
 ·rw [gQ (by lia),cB (aF _),cB (by lia)]
theorem iN(xs:List V)(n:Nat):cutV xs (some (n:Int)) none=xs.drop n:=by
 unfold cutV;rw [HT.sIx_none,HT.sIx_nat];by_cases h:n<=xs.length
 ·rw [Nat.min_eq_left h,cB (by simp)]
 ·rw [gQ (by lia),Nat.sub_self,List.take_zero,List.drop_of_length_le (by lia)]
theorem qRf{m works:Int}{i:List (List Blk)}{n:Nat}{a:List Blk}{bs:List Int}{f:Int->List Int}(l:WorkOk m works a)(h:PlanF i n a bs f):planB a.length (boxes a) (busyL i n a) (.dict (bs.map λb=>(PyData.int b,intsD (f b))))=true:=by
 refine qNc ?_ ?_ ?_
 ·rw [dS,bO];intro x j;obtain⟨b,_,rfl⟩:=aW.mp j;rfl
 ·unfold keysB;rw [dS,show ((λp:PyData×PyData=>intD p.1)∘λb=>(PyData.int b,intsD (f b)))=λb=>b from rfl,List.map_id',aO,bO,bO];exact⟨λy c=>decide_eq_true (h.perm.mem_iff.mp c),λy c=>decide_eq_true (h.perm.mem_iff.mpr c)⟩
 ·intro b q d o;obtain⟨r,g,e⟩:=aW.mp o;cases e;show yS a.length (busyL i n a b) (.list ((f b).map .int))=true;unfold yS;have k:((f b).map PyData.int).map intD=f b:=by rw [dS];exact List.map_id' _
  simp only [k,aO,bO];refine⟨⟨λx j=>?_,decide_eq_true (h.rise b g)⟩,λy c=>decide_eq_true (h.busy b g y ((wu l).mp c))⟩;obtain⟨y,c,rfl⟩:=aW.mp j;have:=h.rg b g y c;simp only [fromD,aO,decide_eq_true_eq];exact this
theorem PlanF.ok{m works:Int}{i:List (List Blk)}{n:Nat}{a:List Blk}{bs:List Int}{f:Int->List Int}(d:WorkOk m works a)(o:m<=12)(h:PlanF i n a bs f):bs.Nodup/\bs.length<=8/\(∀b∈bs,0<=b/\b<8) /\ ∀b∈bs,(f b).length<=12 /\ ∀y∈f b,0<=y/\y<12:=by
 have j:=vg a;have k:=d.len;refine⟨h.perm.nodup_iff.mpr ((yl a).imp λh=>by lia),by rw [h.perm.length_eq];lia,λb c=>uo d (h.perm.mem_iff.mp c),λb c=>?_⟩;have e:=h.rise b c;have g:=h.rg b c;refine⟨?_,λy l=>by have:=g y l;lia⟩;have:=vj (e.imp λh=>by lia) (e.imp λh=>by lia) g;lia
def ThingOk(K:PySem.W.Frag)(H:Hp)(t:Addr)(x:V):Prop := ∃d,PlanT K (wo [t] H) d x/\FineT d
theorem ThingOk.mono{K:PySem.W.Frag}{H G:Hp}{t:Addr}{x:V}(h:ThingOk K H t x)(e:Ext [t] H G):ThingOk K G t x:=by
 obtain⟨d,a,b⟩:=h;exact⟨d,a.mono e.same,b⟩
theorem vE{K:PySem.W.Frag}{H:Hp}{t:Addr}{x:V}{d:PyData}(h:DenX K (wo [t] H) d x)(b:yR d "dict" = false)(a:d.hasDict=false/\d.showable=true/\d.leavesShort 14=true/\d.weight<=1000/\d.depth<=10):ThingOk K H t x:=⟨d,.inl ⟨h,b⟩,iJ (W:=1000) (D:=10) ⟨a.2.1,a.2.2.1,a.2.2.2.1,a.2.2.2.2⟩ (by lia) (by lia) (.inl a.1) b⟩
theorem qOo{K:PySem.W.Frag}{H:Hp}{t d:Addr}{bs:List Int}{as:List Addr}{f:Int->List Int}(h:PlanAt H d bs as (bs.map f))(a:d≠t)(c:t∉as)(e:bs.Nodup)(g:bs.length<=8)(i:∀b∈bs,0<=b/\b<8)(j:∀b∈bs,(f b).length<=12 /\ ∀y∈f b,0<=y/\y<12):PlanT K (wo [t] H) (.dict (bs.map λb=>(PyData.int b,intsD (f b)))) (.ref d)/\FineT (.dict (bs.map λb=>(PyData.int b,intsD (f b)))):=by
 have D:=(iL (K:=K) (fd:=d) h.lists h.len e g i j c h.nda).mono kA;exact D.plan (by rw [zc (by simpa using a)];exact h.dict) (by lia)
theorem qRl{X:Cx}{i:Int}{a:Nat}{p q b:Pos}:PE X (.Dict [some (.Constant (.int i) a p)] [.List [] q] b) (tDisp [(tC (.int i),tLst tNil)]):=qWz (qU9 zE (zW zB) qWx) rfl rfl (List.cons_ne_nil _ _) (Nat.le_of_ble_eq_true rfl)
theorem qOr{X:Cx}{x g:Str}{b ts:TE}{j c a k l m n o q r s h ps t d e f:Pos}{u v w y z A:Nat}(i:∀p,PE X (.Name x p) b)(B:PE X (.Call (.Name g ps) [.Name x a] [] h) ts):PEx X (.List [.Name x j,.Dict [] [] k,.List [] l,.Constant .none u m,.Tuple [] v n,.Constant (.int 0) w o,.Constant (.bool true) y q,.Constant (.str (Str.ofString "")) z r,.List [.Name x c] s,.Call (.Name g ps) [.Name x a] [] h,.Dict [some (.Constant (.int 0) A t)] [.List [] d] e] f)
   (tLst (tCons b (tCons kP (tCons (tLst tNil) (tCons (tC .non) (tCons (tTup tNil) (tCons (tC (.int 0)) (tCons (tC (.bl true)) (tCons (tC (.str (Str.ofString ""))) (tCons (tLst (tCons b tNil)) (tCons ts (tCons (tDisp [(tC (.int 0),tLst tNil)]) tNil)))))))))))):=by
 constructor
 with_reducible refine zW ?_
 with_reducible refine paN (i _) ?_
 with_reducible refine paD wX ?_
 with_reducible refine paL (zW zB) ?_
 with_reducible refine paK vy ?_
 with_reducible refine paT (zm zB) ?_
 with_reducible refine paK zE ?_
 with_reducible refine paK zk ?_
 with_reducible refine paK yB ?_
 with_reducible refine paL (zW (paN (i _) zB)) ?_
 with_reducible refine paC B ?_
 with_reducible refine paD qRl ?_
 with_reducible exact zB
theorem qWu{a:List (TE×TE)}{σ : St}{H:Hp}{Q:VK}(h:∀p,H p=none->xz a σ (upd H p (.dK [])) λps b=>b p=some (.dK []) /\ ∃kvs:List (Key×V),ps=kvs.map (λc=>(kV c.1,c.2))/\kvs.length<=15/\Q (.ref p) (upd b p (.dK (yj [] kvs)))):tDisp a σ H Q:=h
theorem qZi{tk a:TE}{r:List (TE×TE)}{σ : St}{H:Hp}{Q:List (V×V)->Hp->Prop}(h:tk σ H λx b=>a σ b λy c=>xz r σ c λps d=>Q ((x,y)::ps) d):xz ((tk,a)::r) σ H Q:=h
theorem qZh{σ : St}{H:Hp}{Q:List (V×V)->Hp->Prop}(h:Q [] H):xz [] σ H Q:=h
theorem qUz{kvs:List (PyData×PyData)}(h:∀p∈kvs,Fit p.1 100 10/\ValOk p.2)(c:kvs.length<=8):Fit (.dict kvs) 90000 11:=by
 have b:FitK kvs ((100+10000+2)*kvs.length) 10:=by
  have:=FitK.map (g:=λp:PyData×PyData=>p.1) (f:=λp=>p.2) (l:=kvs) (U:=100) (W:=10000) (D:=10) λx a=>⟨(h x a).1,(h x a).2.2⟩;simpa using this
 exact b.dict.mono (by lia) (by lia)
theorem qP3{K:PySem.W.Frag}{H:Hp}{t d q:Addr}{bs:List Int}{as:List Addr}{f:Int->List Int}(h:PlanAt H d bs as (bs.map f))(a:d≠t)(c:t∉as)(i:bs.Nodup)(g:bs.length<=8)(j:∀b∈bs,0<=b/\b<8)(k:∀b∈bs,(f b).length<=12 /\ ∀y∈f b,0<=y/\y<12)(l:H q=some (.lst [.ref d]))(e:q ∉ [t]):ThingOk K H t (.ref q):=by
 have D:=(iL (K:=K) (fd:=d) h.lists h.len i g j k c h.nda).mono kA;have m:DenX K (wo [t] H) (.dict (bs.map λb=>(PyData.int b,intsD (f b)))) (.ref d):=by
  simp only [DenX];exact⟨d,_,rfl,.inl (by rw [zc (by simpa using a)];exact h.dict),D.den⟩
 refine⟨.list [.dict (bs.map λb=>(PyData.int b,intsD (f b)))],.inl ⟨.list (SqL.of (by rw [zc e];exact l)) (.cons m .nil),rfl⟩,iJ (W:=90001) (D:=12) ?_ (by lia) (by lia) (.inr ⟨_,rfl⟩) rfl⟩;exact (FitS.cons (qUz D.ok (by rw [aB];exact g)) (FitS.nil _)).list
theorem qP7{K:PySem.W.Frag}{H:Hp}{t q:Addr}{nx:List Int}(b:H q=some (.lst (nx.map V.int)))(a:q ∉ [t])(h:∀y∈nx,-100<=y/\y<=100)(c:nx.length<=60):ThingOk K H t (.ref q):=by
 refine⟨intsD nx,.inl ⟨.list (SqL.of (by rw [zc a];exact b)) (xh nx),rfl⟩,iJ (wQ h c).2 (by lia) (by lia) (.inr ⟨_,rfl⟩) rfl⟩
theorem qMi{K:PySem.W.Frag}{H:Hp}{t q:Addr}(c:H q=some (.dK []))(a:q ∉ [t]):ThingOk K H t (.ref q):=⟨.dict [],.inr (.inl ⟨[],q,[],rfl,rfl,by rw [zc a];exact c,.nil,by simp,by simp,λp b=>absurd b (by simp)⟩),uv (λp b=>absurd b (by simp)) (by simp)⟩
theorem qRp{K:PySem.W.Frag}{H:Hp}{t q r:Addr}(e:H q=some (.dK [(Sum.inl 0,.ref r)]))(b:q ∉ [t])(f:H r=some (.lst []))(c:r ∉ [t]):ThingOk K H t (.ref q):=by
 have g:ValOk (.list []):=(xA (d :=.list []) (by decide +kernel)).val;refine⟨.dict [(.int 0,.list [])],.inr (.inl ⟨_,q,_,rfl,rfl,by rw [zc b];exact e,DenXk.cons (k:=Sum.inl 0) (.list (SqL.of (by rw [zc c];exact f)) .nil) .nil,by simp,by simp,λp a i h=>?_⟩),uv (λp a=>?_) (by simp)⟩
 ·have a:p=(Sum.inl 0,V.ref r):=by simpa using a
  subst a;cases h;lia
 ·have a:p=(PyData.int 0,PyData.list []):=by simpa using a
  subst a;exact⟨iK (by decide),g⟩
end L2
namespace L2
open PySem PySem.Spec PyProof.Rows
end L2
local macro_rules | `(tactic| walk_at "qa") => `(tactic| first | refine L2.r_op ?_ | refine L2.qZq ?_ | refine L2.yN ?_ | refine L2.qZg ?_ | refine L2.kf ?_ | refine L2.xa ?_)
local macro_rules | `(tactic| walk_at "qb") => `(tactic| first | refine L2.kg ?_ | refine L2.kh ?_ | refine L2.yr ?_ | refine L2.ki ?_ | refine L2.wE ?_ | refine L2.vW ?_ | refine L2.kj ?_ | refine L2.km ?_ | refine L2.kn ?_ | refine L2.ko ?_ | refine L2.kq ?_ | refine L2.kb ?_ | refine L2.r_u ?_ | refine L2.uP ?_ | refine L2.kr ?_ | refine L2.ku ?_ | refine L2.kw ?_ | refine L2.r_c ?_ | refine L2.ka ?_ | refine L2.vY ?_ | refine L2.ky ?_ | refine L2.uR ?_ | refine L2.uS ?_ | refine L2.kz ?_ | refine L2.jA ?_ | refine L2.jB ?_ | refine L2.jC ?_ | refine L2.jD ?_ | refine L2.jE ?_ | refine L2.jF ?_ | refine L2.jG ?_ | refine L2.jH ?_ | refine L2.jI ?_ | refine L2.jJ ?_ | refine L2.jK ?_ | refine L2.jL ?_ | refine L2.jM ?_ | refine L2.vZ ?_ | refine L2.va ?_ | refine L2.jN ?_ | refine L2.jO ?_ | refine L2.jP ?_ | refine L2.xZ (by with_unfolding_all rfl) ?_ | refine L2.zR (by assumption) (by with_unfolding_all rfl) ?_ | refine L2.zw (by assumption) (by with_unfolding_all rfl) ?_)
local macro_rules | `(tactic| left) => `(tactic| repeat (with_reducible first | refine L2.Qd ?_ | walk_at "qa" | refine L2.yH (by assumption) ?_ | refine L2.jQ (by assumption) ?_ | refine L2.wA0 ?_ | walk_at "qb"))
namespace Fs
open PySem L2
def top(i:Nat):Stmt:=PySem.Challenge.pw_fewsaves_k20_plans_or_not.main.body.getD i (.Pass ⟨0,0,0,0⟩)
abbrev sDraw:Stmt:=top 24
section
variable{P:Program}{w:World}{K:PySem.W.Frag}{mg:Str->Option Value}{base:Heap}
theorem scDraw:FnScope ["_law_tape_here","_law_many_here","_law_found","_law_once","_law_twice"] ["_law_tape_here","_law_many_here"] (zU sDraw):=⟨rfl,rfl,rfl,by decide +kernel,rfl,by decide +kernel,by decide +kernel⟩
theorem qXc{f:Addr}{fd:FuncData}(F:Fun K "_law_draw" "_law_draw" sDraw f fd):FnOk P w K mg base CX0 1 f fd ["_law_tape_here","_law_many_here"] xI:=by
 refine F.ok scDraw (λv H Q E h=>?_) (λx A l s H v Q E N h=>?_)
 ·obtain⟨t,k,n,rfl,_⟩:=h;rfl
 ·obtain⟨t,k,n,rfl,⟨a,b,c,m,p,d,e,y,z⟩,O,j,B,q⟩:=h
  refine⟨_,zG (zn (zV wV (zM zX (pv 0) zE (λ_ _=>rfl)) zE (zQ _))
    (zG (zN (i:=2) scDraw.nd rfl (Or.inl rfl) (zL xT (zM zX (pv 0) zE (λ_ _=>rfl)) (pv 1)))
    (zG (wU (zL oE (zM zX (pv 0) zE (λ_ _=>rfl)) (pv 1)) (oD (pv 0) zE oh))
    (zI (zP (pv 2))))) zh)
   (zG (wU (zL zl (zM zX (pv 0) zE (λ_ _=>rfl)) zE) (oD (pv 0) zE oh))
   (zG (zN (i:=3) scDraw.nd rfl (Or.inl rfl) (zL xT (zL vN (zL zl (zM zX (pv 0) zE (λ_ _=>rfl)) (zL vM zE (zM zX (pv 0) zE (λ_ _=>rfl)))) zE) zE))
   (zG (zN (i:=4) scDraw.nd rfl (Or.inl rfl) (zL xT (zL vM (zL zl (pv 3) (zM zX (pv 0) zE (λ_ _=>rfl))) (zL zl (zL zl (zL xT (pv 3) zE) zE) (zM zX (pv 0) zE (λ_ _=>rfl)))) zE))
   (zI (zP (zL xT (zL oE (zL xT (zL zl (zL vM (pv 4) zE) (pv 3)) zE) zE) (pv 1))))))),?_⟩
  dsimp only [zb];have R:SqL K H t [.int a,.int b,.int c]:=SqL.of m;left;refine ite2 (λg=>?_) (λg=>?_)
  ·left;refine xJ j ?_;left;refine Qc j (by lia) ?_;left;refine Qe (n:=0) m rfl ?_;left;exact q _ _ (fY _ (by lia)) (fG _ j) ⟨a / n,b,c,zC,Int.ediv_nonneg p (by lia),d,e,y,by lia⟩ (.put (by simp)) (λb d=>zD d)
  ·left;refine Qe (n:=2) m rfl ?_;have C:SqL K (upd H t (.lst ([V.int a,V.int b,V.int c].set 2 (.int (c+1))))) t [.int a,.int b,.int (c+1)]:=SqL.of zC;left;refine wD (.inl ⟨by decide,by decide⟩) ?_;left;refine wZ (by decide) (by decide) (by lia) ?_;left;refine xJ (by decide) ?_;generalize r:(b+39373*(c+1))^(5:Int).toNat%2147483647=o;have D:0<=o:=by rw [<-r];exact fY _ (by decide)
   have G:o<2147483647:=by rw [<-r];exact fG _ (by decide)
   left;refine xJ (by decide) ?_;have I:0<=o%40009:=fY _ (by decide);have J:o%40009<40009:=fG _ (by decide);left;refine wD (.inl ⟨by lia,by lia⟩) ?_;left;refine xJ (by decide) ?_;generalize u:(o+(c+1))*(o%40009+7+(c+1))%2147483629=p2;have L:0<=p2:=by rw [<-u];exact fY _ (by decide)
   have M:p2<2147483629:=by rw [<-u];exact fG _ (by decide)
   left;refine wD (.inl ⟨by lia,by lia⟩) ?_;left;refine xJ (by decide) ?_;left;refine Qc (by decide) (by decide) ?_;left;refine xJ j ?_;exact q _ _ (fY _ (by lia)) (fG _ j) ⟨a,b,c+1,zC,p,d,e,by lia,by lia⟩ (.put (by simp)) (λb d=>zD d)
end
section
variable{P:Program}{w:World}{K:PySem.W.Frag}{mg:Str->Option Value}{base:Heap}
abbrev sTape:Stmt:=top 23
abbrev iO:Stmt:=top 26
abbrev sMany:Stmt:=top 29
theorem scTape:FnScope ["_law_script","_law_k","_law_cell"] ["_law_script","_law_k"] (zU sTape):=⟨rfl,rfl,rfl,by decide +kernel,rfl,by decide +kernel,by decide +kernel⟩
theorem qX6{f:Addr}{fd:FuncData}(F:Fun K "_law_tape" "_law_tape" sTape f fd)(m:mg "len" = none)(d:mg "abs" = none)(n:mg "int" = none):FnOk P w K mg base CX0 1 f fd ["_law_script","_law_k"] (Qf K):=by
 refine F.ok scTape (λx H Q E h=>?_) (λy A r s H x Q E B h=>?_)
 ·obtain⟨a,l,k,rfl,_⟩:=h;rfl
 ·obtain⟨a,l,k,rfl,v,C,q⟩:=h
  refine⟨_,zG (zN (i:=2) scTape.nd rfl (Or.inl rfl) (wT (zV xU (pv 1) (zO yb (by rfl) m cK (zA (pv 0) zB)) (zQ _)) (zM zX (pv 0) (pv 1) (λ_ _=>rfl)) zE))
   (zI (zP (zW (zA (zL vM (zO oO (by rfl) d PyProof.Rows.boot_abs (zA (pv 2) zB)) (zr wW (by rfl) n dD (zA (yJ qZt (zO oO (by rfl) d PyProof.Rows.boot_abs (zA (pv 2) zB)) (zL vN zE zE) (zQ _)) zB)))
    (zA (zL zl (zL zl (zL xT (pv 2) zE) (zL vM zE (pv 1))) zE) (zA zE zB)))))),?_⟩
  dsimp only [zb];have key:∀c:Int,0<=(if c<0 then -c else c):=λc=>by split <;> lia
  left;refine⟨a,_,rfl,.inl v,?_⟩;left;by_cases g:(k:Int)<((l.map V.int).length:Int)
  ·rw [decide_eq_true g];refine iteT ?_;rw [aB] at g;have z:k<l.length:=by lia
   have u:atI (l.map V.int) (k:Int)=some (.int l[k]):=by
    have:=zK (xs:=l.map V.int) (j:=k) (by rw [aS,aD z];rfl);exact this
   left;refine zR v u ?_;generalize l[k]=c;left;refine⟨_,rfl,?_⟩;left;refine⟨_,rfl,?_⟩;left;refine wZ (by decide) (by decide) (by decide) ?_;left;refine .inr ⟨_,rfl,?_⟩;refine wD (.inr ⟨by have:=bit01 (decide (10^Int.toNat 18<=if c<0 then -c else c));lia,by have:=bit01 (decide (10^Int.toNat 18<=if c<0 then -c else c));lia⟩) ?_;left;refine xJ (by decide) ?_;left;refine wD (.inl ⟨by decide,by decide⟩) ?_;left;refine⟨len2 (by show 3<=1000;decide),λt p=>q t _ p ⟨_,_,_,zC,?_,?_,?_,by decide,by decide⟩ λb o e=>?_⟩
   ·exact Int.mul_nonneg (key c) (bit01 _).1
   ·have:=fY c (show (2305843009213693951:Int)≠0 by decide);lia
   ·have:=fG c (show (0:Int)<2305843009213693951 by decide);lia
   ·rw [zD (zF e p)];exact e
  ·rw [decide_eq_false g];refine iteF ?_;left;refine⟨_,rfl,?_⟩;left;refine⟨_,rfl,?_⟩;left;refine wZ (by decide) (by decide) (by decide) ?_;left;refine .inr ⟨_,rfl,?_⟩;refine wD (.inr ⟨by have:=bit01 (decide (10^Int.toNat 18<=if 0<0 then -0 else 0));lia,by have:=bit01 (decide (10^Int.toNat 18<=if 0<0 then -0 else 0));lia⟩) ?_;left;refine xJ (by decide) ?_;left;refine wD (.inl ⟨by decide,by decide⟩) ?_;left;refine⟨len2 (by show 3<=1000;decide),λt p=>q t _ p ⟨_,_,_,zC,?_,?_,?_,by decide,by decide⟩ λb o e=>?_⟩
   ·exact Int.mul_nonneg (key 0) (bit01 _).1
   ·have:(0:Int)%2305843009213693951=0:=rfl;lia
   ·have:(0:Int)%2305843009213693951=0:=rfl;lia
   ·rw [zD (zF e p)];exact e
theorem qY1:FnScope ["_law_tape_here"] ["_law_tape_here"] (zU sMany):=⟨rfl,rfl,rfl,by decide +kernel,rfl,by decide +kernel,by decide +kernel⟩
theorem qX9{f:Addr}{fd:FuncData}(F:Fun K "_law_many" "_law_many" sMany f fd)(a:mg "int" = none)(b:Has P w K mg base "_law_draw" 1 ["_law_tape_here","_law_many_here"] xI):FnOk P w K mg base CX0 2 f fd ["_law_tape_here"] Qg:=by
 refine F.ok qY1 (λo H Q E h=>?_) (λr A d s H o Q E e h=>?_)
 ·obtain⟨t,k,rfl,_⟩:=h;rfl
 ·obtain⟨t,k,rfl,u,G,q⟩:=h
  refine⟨_,zI (zP (zM zX (zW (zA (zL zl zE (zH b e (aF _) (zA (pv 0) (zA zE zB)))) (zA (zL zl zE (zH b e (aF _) (zA (pv 0) (zA zE zB)))) zB)))
   (zr wW (by rfl) a dD (zA (yJ zq (zH b e (aF _) (zA (pv 0) (zA zE zB))) zE (zQ _)) zB)) (λ_ _=>rfl))),?_⟩
  dsimp only [zb];left;refine za u (by lia) (by decide) (by decide) λr1 I J L v x _=>?_;left;refine za v (by lia) (by decide) (by decide) λr2 M N O i y _=>?_;left;refine⟨len2 (by show 2<=1000;decide),λp g=>?_⟩;have z:p≠t:=i.ne g;left;refine za (i.ext (.laid (ts :=[]) g) (by simp)) (by lia) (by decide) (by decide) λB j R S l C D=>?_;left;refine zv ?_;left;refine .inr ⟨_,rfl,?_⟩;have m:Ext [t] H j:=(x.trans y).trans ((Ext.laid g).trans C);have n:SqL K j p [V.int (1+r1),V.int (7+r2)]:=SqL.of (by rw [D p z,zC]);cases c:decide (B=0) with
  | true=>exact zR n rfl (q _ _ (by lia) (by lia) l m)
  | false=>exact zR n rfl (q _ _ (by lia) (by lia) l m)
theorem qTx:FnScope ["_law_tape_here"] ["_law_tape_here"] (zU iO):=⟨rfl,rfl,rfl,by decide +kernel,rfl,by decide +kernel,by decide +kernel⟩
theorem qRr{f:Addr}{fd:FuncData}(F:Fun K "_law_number" "_law_number" iO f fd)(b:Has P w K mg base "_law_draw" 1 ["_law_tape_here","_law_many_here"] xI):FnOk P w K mg base CX0 2 f fd ["_law_tape_here"] Qh:=by
 refine F.ok qTx (λi H Q E h=>?_) (λj A c s H i Q E d h=>?_)
 ·obtain⟨t,k,rfl,_⟩:=h;rfl
 ·obtain⟨t,k,rfl,l,L,q⟩:=h
  refine⟨_,zI (zP (zM zX (zW (zA zE (zA zE (zA (uC uE zE) (zA zE (zA (zL vN zE zE) (zA (zL uD zE (zL vN zE zE))
   (zA (zL uD (zH b d (aF _) (zA (pv 0) (zA zE zB))) zE) (zA (zH b d (aF _) (zA (pv 0) (zA (zL vN zE zE) zB))) zB)))))))))
   (zH b d (aF _) (zA (pv 0) (zA zE zB))) (λ_ _=>rfl))),?_⟩
  dsimp only [zb];left;refine wZ (by decide) (by decide) (by decide) ?_;left;refine wZ (by decide) (by decide) (by decide) ?_;left;refine za l (by lia) (by decide) (by decide) λM N O R m n _=>?_;left;refine wZ (by decide) (by decide) (by decide) ?_;left;refine za m (by lia) (by decide) (by decide) λo S T r g u _=>?_;have v:o<1000000:=r;left;refine⟨len2 (by show 8<=1000;decide),λp e=>?_⟩;have x:p≠t:=g.ne e;left;refine za (g.ext (.laid (ts :=[]) e) (by simp)) (by lia) (by decide) (by decide) λa y U V z B C=>?_;have D:Ext [t] H y:=(n.trans u).trans ((Ext.laid e).trans B);have G:=SqL.of (K:=K) ((C p x).trans zC)
  have W:(10:Int)^(12:Int).toNat=1000000000000:=by decide
  have I : -((10:Int)^12) = -1000000000000:=by decide
  have J:((10:Int)^12)=1000000000000:=by decide
  rw [I,J] at q;obtain h | h | h | h | h | h | h | h:a=0\/a=1\/a=2\/a=3\/a=4\/a=5\/a=6\/a=7:=by lia
  all_goals
   subst h;refine zR G rfl (q _ _ ?_ ?_ z D)
  all_goals first | decide | lia
end
section
variable{P:Program}{w:World}{K:PySem.W.Frag}{mg:Str->Option Value}{base:Heap}
theorem xL{D:Ends}{σ : St}{k:Hp}{l d p:Addr}{vs:List V}{kvs:List (Key×V)}{ns:List Int}(S : σ[2]? = some (some (.ref l)))(T : σ[3]? = some (some (.ref d)))(N : σ[7]? = some (some (.ref p)))(B:k l=some (.lst vs))(hd:k d=some (.dK kvs))(O:k p=some (.lst (ns.map V.int)))(hz:vs.length<1000)(U:kvs.length<=900)(hn:ns.length<=2)(C:p≠l)(q:∀f i,f l=some (.lst (vs ++ [.ref p]))->f d=some (.dK i)->i.length<=kvs.length+2->Ext [l,d] k f->D.nx σ f):tSeq (tDrop (tBM K "list" uI (tVar 2) (tCons (tVar 7) tNil))) (tDrop (tBM K "dict" QZ (tVar 3) (tCons (tComp ["_law_one"] [] (.lst []) (iList K (tVar 7)) (gName 0) [] (eApp (tTup (tCons (tVar 0) (tCons (tC (.bl true)) tNil))))) tNil))) D σ k:=by
 have v:l≠d:=yq B hd (by intro z;cases z);have W:p≠d:=yq O hd (by intro z;cases z);refine Qd (kf (vY (xZ S (yD B (vW (xZ N (wE (yd B (zZ (by lia)) ?_))))))));generalize g:upd k l (.lst (vs ++ [.ref p]))=f;have P:f l=some (.lst (vs ++ [.ref p])):=by rw [<-g,zC]
 have E:f d=some (.dK kvs):=by rw [<-g,zD v.symm];exact hd
 have F:f p=some (.lst (ns.map V.int)):=by rw [<-g,zD C];exact O
 have X:Ext [l,d] k f:=by rw [<-g];exact .put (by simp)
 refine kf (vY (xZ T (Qm E (vW (uR (uS (xZ N ⟨p,rfl,⟨_,SqL.of F⟩,λm c=>?_⟩)))))));have G:p≠m:=zF F c;refine zx (xs:=ns.map V.int) (λj h t=>(∃o,h = [o])/\Ext [m] f t /\ ∃a,t m=some (.lst a)/\PairsAt t a ((ns.take j).map λn=>((Sum.inl n:Key),V.bl true)))
  ⟨⟨none,rfl⟩,.laid c,[],zC,.nil⟩ (λj h t _ ⟨_,e,_⟩=>SqL.of (e _ _ (by simpa using G) F)) ?_ ?_
 ·rintro j x h t R w ⟨⟨o,rfl⟩,e,a,y,u⟩ Y;obtain⟨n,H,rfl⟩:∃n,ns[j]? = some n/\x=V.int n:=by
   rw [aS] at w;cases z:ns[j]? with
   | none=>rw [z] at w;cases w
   | some n=>rw [z] at w;exact⟨n,rfl,(bT w).symm⟩
  left;refine iteT ?_;left;refine⟨len2 (by show 2<=1000;decide),λI r=>?_⟩;have A:m≠I:=zF y r;have Q:a.length<=2:=by
   have:=cZ u;rw [aB,aN] at this;lia
  refine⟨a,by rw [zD A];exact y,zZ (by lia),Y _ _ ⟨⟨_,rfl⟩,?_,a ++ [.ref I],zC,?_⟩⟩
  ·exact e.trans ((Ext.laid r).trans (.put (by simp)))
  ·have Z:(ns.take (j+1))=ns.take j ++ [n]:=by rw [fN,H];rfl
   rw [Z,aJ];refine Paired.snoc (PairsAt.mono (λb ys e=>?_) u) ⟨I,rfl,?_⟩
   ·rw [zD (yq e y (by intro z;cases z)),zD (zF e r)];exact e
   ·rw [zD A.symm,zC];rfl
 ·rintro h t ⟨_,e,a,y,u⟩;rw [aB,aY] at u;have J:d≠m:=zF E c;have L:l≠m:=zF P c;have s:=cZ u;rw [aB] at s;refine wE ⟨d,m,kvs,a,_,rfl,rfl,e _ _ (by simpa using J) E,y,u,len2 (by rw [aB];lia),?_⟩;have M:=kR (ns.map λn=>((Sum.inl n:Key),V.bl true)) kvs;rw [aB] at M;refine q _ _ (by rw [zD v];exact e _ _ (by simpa using L) P) zC (by lia) ?_;exact X.trans (((e.drop c).mono (by simp)).trans (.put (by simp)))
abbrev iP:Stmt:=top 25
theorem scNexts:FnScope ["_law_tape_here","_law_many_here","_law_found","_law_led","_law_k","_law_way","_law_other","_law_some"] ["_law_tape_here","_law_many_here"] (zU iP):=⟨rfl,rfl,rfl,by decide +kernel,rfl,by decide +kernel,by decide +kernel⟩
theorem qUg{f:Addr}{fd:FuncData}(F:Fun K "_law_nexts" "_law_nexts" iP f fd)(a0:mg "range" = none)(b9:mg "max" = none)(hD:Has P w K mg base "_law_draw" 1 ["_law_tape_here","_law_many_here"] xI):FnOk P w K mg base CX0 2 f fd ["_law_tape_here","_law_many_here"] (Ql K):=by
 refine F.ok scNexts (λR H Q E h=>?_) (λd3 A c7 s H R Q E hr h=>?_)
 ·obtain⟨t,k,m,rfl,_⟩:=h;rfl
 ·obtain⟨t,k,m,rfl,hT,hk,d4,d6,q⟩:=h;have hu:=yW hr
  refine⟨_,zG (vz (i:=2) (j:=3) rfl scNexts.nd rfl rfl (by decide) rfl rfl (zA (zW zB) (zA wX zB)) rfl)
   (zG (yV bU rfl (xB rfl a0 (zA (pv 1) zB)) (zJ (i:=4) scNexts.nd rfl (Or.inl rfl))
    (zG (zN (i:=5) scNexts.nd rfl (Or.inl rfl) (zH hD hr (aF _) (zA (pv 0) (zA zE zB))))
    (zG (zN (i:=6) scNexts.nd rfl (Or.inl rfl) (zL zl zE (zH hD hr (aF _) (zA (pv 0) (zA (zO (oP rfl) (by rfl) b9 PyProof.Rows.boot_max (zA zE (zA (zL uD (pv 1) zE) zB))) zB)))))
    (zG (zN (i:=7) scNexts.nd rfl (Or.inl rfl) (zM zX (zW (zA (zW (zA (zL zl (pv 4) zE) (zA (pv 6) zB))) (zA (zW (zA (pv 6) (zA (zL zl (pv 4) zE) zB))) zB))) (zL xT (pv 5) zE) (λ_ _=>rfl)))
    (zG (zn (zV zq (zL zl (pv 4) zE) (pv 1) (zQ _))
      (zI (zN (i:=7) scNexts.nd rfl (Or.inl rfl) (wT (xj (zV zq (pv 5) zE (zQ _)) (xi (zV wV (pv 1) zE (zQ _)))).pt (zW (zA (pv 6) zB)) (zW zB))))
      (zI (zn (xj (vJ (QE hu (zL zl (pv 4) zE) (pv 3))) (xi (zV xU (pv 5) zE (zQ _)))).pt
       (zI (zN (i:=7) scNexts.nd rfl (Or.inl rfl) (wT (zV zq (pv 5) zE (zQ _)) (zW (zA (pv 6) zB)) (zW zB))))
       (zI (zn (wS (zV xU (pv 5) zE (zQ _)) (wR (zV zq (pv 6) (zL zl (pv 4) zE) (zQ _)))).pt
        (zI (zN (i:=7) scNexts.nd rfl (Or.inl rfl) (zW (zA (zL zl (pv 4) zE) zB)))) zh)))))
    (zG (yZ (yc bH cP cQ xV (pv 2) (zA (pv 7) zB)))
    (zI (yZ (yc eV gZ PySem.F.type_dict_update (qS6 rfl) (pv 3)
     (zA (zp ["_law_one"] [] rfl (.of rfl) (zu (pv 7)) (λ_ _ _ _=>zJ (i:=0) (by show ((["_law_one"]:List Str)).Nodup;decide) rfl (Or.inl rfl)) (λ_ _ _ _ =>.nil) (λ_ _ _ _=>zm (zA (pv 0) (zA zk zB)))) zB))))))))))
   (zI (zP (pv 2)))),?_⟩
  dsimp only [zb,zg];left;refine⟨len2 (bB _),λl hl=>?_⟩;have a3:l≠t:=hT.ne hl;left;refine Qn λd hd=>?_;have a4:l≠d:=λz=>by rw [<-z,zC] at hd;cases hd
  rw [zD a4.symm] at hd;have a8:d≠t:=hT.ne hd;left;refine⟨_,_,rfl,?_⟩;left
  refine⟨m,rfl,by lia,by lia,wf (lo:=0) (n:=m.toNat) (λi a9 H' => ∃(T:List (List Int)) (R:List V) (O:List (Key×V)) (o4 o5 o6 o7:Option V),a9 = [some (.ref t),some (.int m),some (.ref l),some (.ref d),o4,o5,o6,o7]/\T.length=i/\(∀ns∈T,NsOk m ns) /\
   Tape H' t (k+2*i)/\Ext [t] H H'/\H' l=some (.lst R)/\DenL K (yo H [t,l,d] H') (T.map intsD) R/\H' d=some (.dK O)/\O.length<=2*i) ?_ ?_ ?_⟩
  ·refine⟨[],[],[],none,none,none,none,rfl,rfl,(λ_ h=>absurd h (by simp)),?_,?_,?_,.nil,zC,aF _⟩
   ·exact (hT.ext (ts :=[]) ((Ext.laid hl).trans (.laid (by rw [zD a4.symm];exact hd))) (by simp)).mono (by lia)
   ·exact (Ext.laid hl).trans (.laid (by rw [zD a4.symm];exact hd))
   ·rw [zD a4,zC]
  ·rintro i a9 H' hi ⟨T,R,O,o4,o5,o6,o7,rfl,b0,b3,b4,e',b5,S,c0,c8⟩ N_ B_ C_ R_ hN_ hC_ hR_;have d8:R.length=i:=by rw [S.len,aB,b0]
   left;refine za b4 (by lia) (by decide) (by decide) λr1 H1 a1 b1 T1 e1 k1=>?_;left;refine⟨_,_,rfl,?_⟩;left;refine za T1 (by lia) (by split <;> lia) (by split <;> lia) λr2 C a2 b2 T2 e2 k2=>?_;have l2:C l=some (.lst R):=by rw [k2 l a3,k1 l a3];exact b5
   have d2:C d=some (.dK O):=by rw [k2 d a8,k1 d a8];exact c0
   have c1:DenL K (yo H [t,l,d] C) (T.map intsD) R:=S.mono ((e1.trans e2).mono (by simp)).young;left;refine⟨len2 (by show 2<=1000;decide),λp1 c2=>?_⟩;left;refine⟨len2 (by show 2<=1000;decide),λp2 a5=>?_⟩;left;refine⟨len2 (by show 2<=1000;decide),λp3 b6=>?_⟩;have b7:p1≠p2:=zF zC a5;have c9:p2≠p3:=zF zC b6;have d0:p1≠p3:=zF (by rw [zD b7,zC]) b6;generalize a6:upd (upd (upd C p1 (HO.lst [V.int (0 + ↑i+1),V.int (1+r2)])) p2 (HO.lst [V.int (1+r2),V.int (0 + ↑i+1)])) p3 (HO.lst [V.ref p1,V.ref p2])=G;have c3:C p2=none:=by rw [zD b7.symm] at a5;exact a5
   have U:Ext [] C G:=by
    rw [<-a6];exact (Ext.laid c2).trans ((Ext.laid a5).trans (.laid b6))
   have q1:G p1=some (.lst ([0+(i:Int)+1,1+r2].map V.int)):=by rw [<-a6,zD d0,zD b7,zC];rfl
   have q2:G p2=some (.lst ([1+r2,0+(i:Int)+1].map V.int)):=by rw [<-a6,zD c9,zC];rfl
   have q3:SqL K G p3 [V.ref p1,V.ref p2]:=SqL.of (by rw [<-a6,zC]);have W:∀p,C p=none->p≠t/\p≠l/\p≠d:=λp u=>⟨T2.ne u,(zF l2 u).symm,(zF d2 u).symm⟩;have fin:∀(p:Addr) (ns:List Int) (H6:Hp),Ext [] G H6->H6 p=some (.lst (ns.map V.int))->C p=none->NsOk m ns -> ∀(B:Hp) (a:List (Key×V)),B l=some (.lst (R ++ [.ref p]))->B d=some (.dK a)->a.length<=O.length+2->Ext [l,d] H6 B -> ∀o4 o5 o6 o7:Option V,
     ∃(T:List (List Int)) (R:List V) (O:List (Key×V)) (p4 p5 p6 p7:Option V),[some (V.ref t),some (.int m),some (.ref l),some (.ref d),o4,o5,o6,o7] = [some (.ref t),some (.int m),some (.ref l),some (.ref d),p4,p5,p6,p7]/\T.length=i+1/\(∀ns∈T,NsOk m ns) /\
      Tape B t (k+2*(i+1))/\Ext [t] H B/\B l=some (.lst R)/\DenL K (yo H [t,l,d] B) (T.map intsD) R/\B d=some (.dK O)/\O.length<=2*(i+1):=by
    intro p ns H6 v u hn b B a J L r I o4 o5 o6 o7;obtain⟨c4,e,c5⟩:=W p hn;have b8:Ext [l,d] C B:=((U.trans v).mono (by simp)).trans I;refine⟨T ++ [ns],R ++ [.ref p],a,o4,o5,o6,o7,rfl,by rw [aI,b0];rfl,λz hz=>?_,?_,?_,J,?_,L,by lia⟩
    ·rcases aK.mp hz with y | y
     ·exact b3 z y
     ·rw [aH.mp y];exact b
    ·exact (T2.ext b8 (by simp [a3.symm,a8.symm])).mono (by lia)
    ·have E7:Ext [l,d,t] H B:=(e'.mono (by simp)).trans (((e1.trans e2).mono (by simp)).trans (b8.mono (by simp)));exact (E7.drop hl).drop hd
    ·rw [aJ];refine DenL.append (c1.mono (b8.mono (by simp)).young) (.cons (.list (SqL.of ?_) (DenL.ofInts ns)) .nil);rw [yC ((e'.trans (e1.trans e2)).none (by simpa using c4) hn) (by simp [c4,e,c5])];exact I _ _ (by simp [e,c5]) u
   have d9:1+r2<=1\/1+r2<=m - 1:=by
    by_cases c:m - 1>1
    ·rw [if_pos c] at b2;lia
    ·rw [if_neg c] at b2;lia
   have Y:=U _ _ (by simp) l2;have X:=U _ _ (by simp) d2;obtain⟨Z,N,h0,a7,c6,d1⟩:∃Z N,G Z=some (.lst (N.map V.int))/\C Z=none/\(N = [0+(i:Int)+1,1+r2]\/N = [1+r2,0+(i:Int)+1])/\atI [V.ref p1,V.ref p2] (r1%2)=some (.ref Z):=by
    have hm:=Int.emod_two_eq r1;rcases hm with c | c
    ·exact⟨p1,_,q1,c2,.inl rfl,by rw [c];rfl⟩
    ·exact⟨p2,_,q2,c3,.inr rfl,by rw [c];rfl⟩
   left;refine xJ (by decide) (zR q3 d1 ?_);left;refine zv ?_;left;have M:∀ {ns},NsOk m ns->ns.length<=2:=by
    rintro ns (h | ⟨x,h,_⟩ | ⟨x,y,h,_⟩) <;> subst h <;> simp
   refine ite2 (λg=>?_) (λg=>?_)
   ·have g:=of_decide_eq_true g;left;refine zv ?_;left;refine ite2 (λg2=>?_) (λg2=>?_)
    ·left;refine ite2 (λg3=>?_) (λg3=>?_)
     ·have g3:=of_decide_eq_true g3;left;refine⟨len2 (by first | exact bB _ | (show 1<=1000;decide)),λp u=>?_⟩;have D:C p=none:=by
       cases z:C p with
       | none=>rfl
       | some o=>rw [U _ _ (by simp) z] at u;cases u
      have v:Ext [] G (upd G p (.lst (([1+r2]:List Int).map V.int))) :=.laid u;have b:NsOk m [1+r2]:=(.inr (.inl ⟨_,rfl,by lia,by lia⟩));obtain⟨_,e,_⟩:=W p D;refine yN ?_;refine xL (l:=l) (d:=d) (p:=p) (ns :=[1+r2]) rfl rfl rfl (v _ _ (by simp) Y) (v _ _ (by simp) X) zC (by lia) (by lia) (M b) e ?_;exact λB a J L r I=>hN_ _ _ <| fin p [1+r2] _ v zC D b B a J L r I _ _ _ _
     ·left;refine⟨len2 (by first | exact bB _ | (show 1<=1000;decide)),λp u=>?_⟩;have D:C p=none:=by
       cases z:C p with
       | none=>rfl
       | some o=>rw [U _ _ (by simp) z] at u;cases u
      have v:Ext [] G (upd G p (.lst (([]:List Int).map V.int))) :=.laid u;have b:NsOk m []:=(.inl rfl);obtain⟨_,e,_⟩:=W p D;refine yN ?_;refine xL (l:=l) (d:=d) (p:=p) (ns :=[]) rfl rfl rfl (v _ _ (by simp) Y) (v _ _ (by simp) X) zC (by lia) (by lia) (M b) e ?_;exact λB a J L r I=>hN_ _ _ <| fin p [] _ v zC D b B a J L r I _ _ _ _
    ·refine iteF ?_;left;refine⟨len2 (by first | exact bB _ | (show 1<=1000;decide)),λp u=>?_⟩;have D:C p=none:=by
      cases z:C p with
      | none=>rfl
      | some o=>rw [U _ _ (by simp) z] at u;cases u
     have v:Ext [] G (upd G p (.lst (([]:List Int).map V.int))) :=.laid u;have b:NsOk m []:=(.inl rfl);obtain⟨_,e,_⟩:=W p D;refine yN ?_;refine xL (l:=l) (d:=d) (p:=p) (ns :=[]) rfl rfl rfl (v _ _ (by simp) Y) (v _ _ (by simp) X) zC (by lia) (by lia) (M b) e ?_;exact λB a J L r I=>hN_ _ _ <| fin p [] _ v zC D b B a J L r I _ _ _ _
   ·have g : ¬(0+(i:Int)+1=m):=λz=>g (decide_eq_true z);left;refine⟨d,_,rfl,DGet.k (k:=Sum.inl _) X,?_⟩;refine yr ?_;refine ite2 (λg2=>?_) (λg2=>?_)
    ·left;refine ite2 (λg3=>?_) (λg3=>?_)
     ·left;refine zv ?_;left;refine ite2 (λg4=>?_) (λg4=>?_)
      ·left;refine⟨len2 (by first | exact bB _ | (show 1<=1000;decide)),λp u=>?_⟩;have D:C p=none:=by
        cases z:C p with
        | none=>rfl
        | some o=>rw [U _ _ (by simp) z] at u;cases u
       have v:Ext [] G (upd G p (.lst (([1+r2]:List Int).map V.int))) :=.laid u;have b:NsOk m [1+r2]:=(.inr (.inl ⟨_,rfl,by lia,by lia⟩));obtain⟨_,e,_⟩:=W p D;refine yN ?_;refine xL (l:=l) (d:=d) (p:=p) (ns :=[1+r2]) rfl rfl rfl (v _ _ (by simp) Y) (v _ _ (by simp) X) zC (by lia) (by lia) (M b) e ?_;exact λB a J L r I=>hN_ _ _ <| fin p [1+r2] _ v zC D b B a J L r I _ _ _ _
      ·left;refine⟨len2 (by first | exact bB _ | (show 1<=1000;decide)),λp u=>?_⟩;have D:C p=none:=by
        cases z:C p with
        | none=>rfl
        | some o=>rw [U _ _ (by simp) z] at u;cases u
       have v:Ext [] G (upd G p (.lst (([]:List Int).map V.int))) :=.laid u;have b:NsOk m []:=(.inl rfl);obtain⟨_,e,_⟩:=W p D;refine yN ?_;refine xL (l:=l) (d:=d) (p:=p) (ns :=[]) rfl rfl rfl (v _ _ (by simp) Y) (v _ _ (by simp) X) zC (by lia) (by lia) (M b) e ?_;exact λB a J L r I=>hN_ _ _ <| fin p [] _ v zC D b B a J L r I _ _ _ _
     ·left;refine ite2 (λg5=>?_) (λg5=>?_)
      ·refine iteT ?_;left;refine⟨len2 (by first | exact bB _ | (show 1<=1000;decide)),λp u=>?_⟩;have D:C p=none:=by
        cases z:C p with
        | none=>rfl
        | some o=>rw [U _ _ (by simp) z] at u;cases u
       have v:Ext [] G (upd G p (.lst (([0+(i:Int)+1]:List Int).map V.int))) :=.laid u;have b:NsOk m [0+(i:Int)+1]:=(.inr (.inl ⟨_,rfl,by lia,by lia⟩));obtain⟨_,e,_⟩:=W p D;refine yN ?_;refine xL (l:=l) (d:=d) (p:=p) (ns :=[0+(i:Int)+1]) rfl rfl rfl (v _ _ (by simp) Y) (v _ _ (by simp) X) zC (by lia) (by lia) (M b) e ?_;exact λB a J L r I=>hN_ _ _ <| fin p [0+(i:Int)+1] _ v zC D b B a J L r I _ _ _ _
      ·left;refine zv ?_;left;refine ite2 (λg6=>?_) (λg6=>?_)
       ·left;refine⟨len2 (by first | exact bB _ | (show 1<=1000;decide)),λp u=>?_⟩;have D:C p=none:=by
         cases z:C p with
         | none=>rfl
         | some o=>rw [U _ _ (by simp) z] at u;cases u
        have v:Ext [] G (upd G p (.lst (([0+(i:Int)+1]:List Int).map V.int))) :=.laid u;have b:NsOk m [0+(i:Int)+1]:=(.inr (.inl ⟨_,rfl,by lia,by lia⟩));obtain⟨_,e,_⟩:=W p D;refine yN ?_;refine xL (l:=l) (d:=d) (p:=p) (ns :=[0+(i:Int)+1]) rfl rfl rfl (v _ _ (by simp) Y) (v _ _ (by simp) X) zC (by lia) (by lia) (M b) e ?_;exact λB a J L r I=>hN_ _ _ <| fin p [0+(i:Int)+1] _ v zC D b B a J L r I _ _ _ _
       ·have g6 : ¬(1+r2=0+(i:Int)+1):=λz=>g6 (decide_eq_true z);obtain⟨_,e,_⟩:=W Z a7;have b:NsOk m N:=by
         rcases c6 with h | h
         ·exact .inr (.inr ⟨_,_,h,by lia,by lia,by lia,by lia,by lia⟩)
         ·exact .inr (.inr ⟨_,_,h,by lia,by lia,by lia,by lia,by lia⟩)
        refine xa ?_;refine xL (l:=l) (d:=d) (p:=Z) (ns:=N) rfl rfl rfl Y X h0 (by lia) (by lia) (M b) e ?_;exact λB a J L r I=>hN_ _ _ <| fin Z N _ (λ_ _ _ h=>h) h0 a7 b B a J L r I _ _ _ _
    ·refine iteF ?_;left;refine ite2 (λg5=>?_) (λg5=>?_)
     ·refine iteT ?_;left;refine⟨len2 (by first | exact bB _ | (show 1<=1000;decide)),λp u=>?_⟩;have D:C p=none:=by
       cases z:C p with
       | none=>rfl
       | some o=>rw [U _ _ (by simp) z] at u;cases u
      have v:Ext [] G (upd G p (.lst (([0+(i:Int)+1]:List Int).map V.int))) :=.laid u;have b:NsOk m [0+(i:Int)+1]:=(.inr (.inl ⟨_,rfl,by lia,by lia⟩));obtain⟨_,e,_⟩:=W p D;refine yN ?_;refine xL (l:=l) (d:=d) (p:=p) (ns :=[0+(i:Int)+1]) rfl rfl rfl (v _ _ (by simp) Y) (v _ _ (by simp) X) zC (by lia) (by lia) (M b) e ?_;exact λB a J L r I=>hN_ _ _ <| fin p [0+(i:Int)+1] _ v zC D b B a J L r I _ _ _ _
     ·left;refine zv ?_;left;refine ite2 (λg6=>?_) (λg6=>?_)
      ·left;refine⟨len2 (by first | exact bB _ | (show 1<=1000;decide)),λp u=>?_⟩;have D:C p=none:=by
        cases z:C p with
        | none=>rfl
        | some o=>rw [U _ _ (by simp) z] at u;cases u
       have v:Ext [] G (upd G p (.lst (([0+(i:Int)+1]:List Int).map V.int))) :=.laid u;have b:NsOk m [0+(i:Int)+1]:=(.inr (.inl ⟨_,rfl,by lia,by lia⟩));obtain⟨_,e,_⟩:=W p D;refine yN ?_;refine xL (l:=l) (d:=d) (p:=p) (ns :=[0+(i:Int)+1]) rfl rfl rfl (v _ _ (by simp) Y) (v _ _ (by simp) X) zC (by lia) (by lia) (M b) e ?_;exact λB a J L r I=>hN_ _ _ <| fin p [0+(i:Int)+1] _ v zC D b B a J L r I _ _ _ _
      ·have g6 : ¬(1+r2=0+(i:Int)+1):=λz=>g6 (decide_eq_true z);obtain⟨_,e,_⟩:=W Z a7;have b:NsOk m N:=by
        rcases c6 with h | h
        ·exact .inr (.inr ⟨_,_,h,by lia,by lia,by lia,by lia,by lia⟩)
        ·exact .inr (.inr ⟨_,_,h,by lia,by lia,by lia,by lia,by lia⟩)
       refine xa ?_;refine xL (l:=l) (d:=d) (p:=Z) (ns:=N) rfl rfl rfl Y X h0 (by lia) (by lia) (M b) e ?_;exact λB a J L r I=>hN_ _ _ <| fin Z N _ (λ_ _ _ h=>h) h0 a7 b B a J L r I _ _ _ _
  ·rintro a9 H' ⟨T,R,O,o4,o5,o6,o7,rfl,b0,b3,b4,e',b5,S,c0,c8⟩;left;refine q l T H' hl (b4.mono (by lia)) e' ⟨by lia,b3⟩ (.list (SqL.of ?_) (S.mono (Qa (by simp))));rw [yC hl (by simpa using a3)];exact b5
end
section
variable{P:Program}{w:World}{K:PySem.W.Frag}{mg:Str->Option Value}{base:Heap}
abbrev iQ:Stmt:=top 27
theorem scDeeds:FnScope ["_law_tape_here","_law_most","_law_boxes_here","_law_first","_law_works_here","_law_found","_law_turn","_law_way","_law_n","_law_box","_law_other","_law_called"] ["_law_tape_here","_law_most","_law_boxes_here","_law_first","_law_works_here"] (zU iQ):=⟨rfl,rfl,rfl,by decide +kernel,rfl,by decide +kernel,by decide +kernel⟩
theorem qUk{f:Addr}{fd:FuncData}(F:Fun K "_law_deeds" "_law_deeds" iQ f fd)(b0:mg "range" = none)(b4:mg "int" = none)(c0:mg "len" = none)(hD:Has P w K mg base "_law_draw" 1 ["_law_tape_here","_law_many_here"] xI)(hN:Has P w K mg base "_law_number" 2 ["_law_tape_here"] Qh):FnOk P w K mg base CX0 3 f fd ["_law_tape_here","_law_most","_law_boxes_here","_law_first","_law_works_here"] (jy K):=by
 refine F.ok scDeeds (λR H Q E h=>?_) (λg3 A d6 s H R Q E hr h=>?_)
 ·obtain⟨t,b,k,u,first,r,bs,rfl,_⟩:=h;rfl
 ·obtain⟨t,b,k,u,first,r,bs,rfl,hT,hk,d7,d8,g4,g5,g6,g7,hb,d9,hB,q⟩:=h
  refine⟨_,zG (zN (i:=5) scDeeds.nd rfl (Or.inl rfl) (zW zB))
   (zG (yV bU rfl (xB rfl b0 (zA (zH hD hr (by decide) (zA (pv 0) (zA (zL zl zE (zM zX (zW (zA (pv 1) (zA zE zB))) (zr wW (by rfl) b4 dD (zA (yJ zq (zH hD hr (by decide) (zA (pv 0) (zA zE zB))) zE (zQ _)) zB)) (λ_ _=>rfl))) zB))) zB)) (zJ (i:=6) scDeeds.nd rfl (Or.inl rfl))
    (zG (vz (i:=7) (j:=8) rfl scDeeds.nd rfl rfl (by decide) rfl rfl (zA (zH hD hr (by decide) (zA (pv 0) (zA zE zB))) (zA (zH hN hr (by decide) (zA (pv 0) zB)) zB)) rfl)
    (zG (zN (i:=9) scDeeds.nd rfl (Or.inl rfl) (zM zX (pv 2) (zH hD hr (by decide) (zA (pv 0) (zA (zO yb (by rfl) c0 cK (zA (pv 2) zB)) zB))) (λ_ _=>rfl)))
    (zG (zN (i:=10) scDeeds.nd rfl (Or.inl rfl) (zM zX (pv 2) (zH hD hr (by decide) (zA (pv 0) (zA (zO yb (by rfl) c0 cK (zA (pv 2) zB)) zB))) (λ_ _=>rfl)))
    (zG (zN (i:=11) scDeeds.nd rfl (Or.inl rfl) (zM zX (zW (zA (zL zl (zL zl (pv 3) zE) (zH hD hr (by decide) (zA (pv 0) (zA zE zB)))) (zA (zH hD hr (by decide) (zA (pv 0) (zA (pv 4) zB))) zB))) (zr wW (by rfl) b4 dD (zA (yJ zq (zH hD hr (by decide) (zA (pv 0) (zA zE zB))) zE (zQ _)) zB)) (λ_ _=>rfl)))
    (zI (zn (xj (zV zq (pv 7) zE (zQ _)) (xi (zV xU (pv 11) (pv 4) (zQ _)))).pt
     (zI (yZ (yc bH cP cQ xV (pv 5) (zA (zm (zA yB (zA (pv 11) zB))) zB))))
     (zI (yZ (yc bH cP cQ xV (pv 5) (zA (zM zX (zW (zA (zm (zA yB (zA (pv 9) (zA (pv 8) zB)))) (zA (zm (zA yB (zA (pv 9) (zA (pv 10) zB)))) (zA (zm (zA yB (zA (pv 9) zB))) zB)))) (zL xT (pv 7) zE) (λ_ _=>rfl)) zB)))))))))))
   (zI (zP (pv 5)))),?_⟩
  dsimp only [zb,zg];left;refine⟨len2 (bB _),λl hl=>?_⟩;have a4:l≠t:=hT.ne hl;have g8:l≠b:=(zF hb hl).symm;have T0:Tape (upd H l (.lst [])) t k:=hT.ext (ts :=[]) (.laid hl) (by simp);left;refine⟨len2 (by show 2<=1000;decide),λp hp=>?_⟩;have c:p≠t:=T0.ne hp;have e:p≠l:=λz=>by rw [z,zC] at hp;cases hp
  left;refine za (T0.ext (ts :=[]) (.laid hp) (by simp)) (by lia) (by decide) (by decide) λr1 H1 a1 b1 T1 e1 k1=>?_;left;refine zv ?_;left;refine .inr ⟨_,rfl,?_⟩;have e0:SqL K H1 p [V.int u,V.int 12]:=SqL.of (by rw [k1 p c,zC]);obtain⟨mo,f0,g9,h0⟩:∃mo:Int,atI [V.int u,V.int 12] (if decide (r1=0)=true then 1 else 0)=some (.int mo)/\0<=mo/\mo<=12:=by
   cases decide (r1=0)
   ·exact⟨u,rfl,d7,d8⟩
   ·exact⟨12,rfl,by decide,by decide⟩
  refine zR e0 f0 ?_;left;refine za T1 (by lia) (by lia) (by lia) λr2 H2 a2 b2 T2 e2 k2=>?_;have l2:H2 l=some (.lst []):=by rw [k2 l a4,k1 l a4,zD e.symm,zC]
  have E2:Ext [t] H H2:=(Ext.laid hl).trans ((Ext.laid hp).trans (e1.trans e2));left
  refine⟨r2,rfl,by lia,by lia,wf (lo:=0) (n:=r2.toNat) (λi c1 H' => ∃(ds:List Deed) (R:List V) (o6 o7 o8 o9 S T:Option V),c1 = [some (.ref t),some (.int u),some (.ref b),some (.int first),some (.int r),some (.ref l),o6,o7,o8,o9,S,T]/\ds.length=i/\(∀d∈ds,wg r d) /\
   Tape H' t (k+2+10*i)/\Ext [t] H H'/\H' l=some (.lst R)/\DenEL (yo H [t,l] H') (ds.map deedD) R) ?_ ?_ ?_⟩
  ·exact⟨[],[],none,none,none,none,none,none,rfl,rfl,(λ_ h=>absurd h (by simp)),T2.mono (by lia),E2,l2,.nil⟩
  ·rintro i c1 H' hi ⟨ds,R,o6,o7,o8,o9,S,T,rfl,c2,c3,c4,Z,c5,a0⟩ N_ B_ C_ R_ hN_ hC_ hR_;have h1:R.length=i:=by rw [a0.len,aB,c2]
   left;refine za c4 (by lia) (by decide) (by decide) λr3 H3 a3 b3 T3 e3 _=>?_;left;refine Qp T3 (by lia) λn H4 n0 n1 T4 e4=>?_;left;refine⟨_,_,rfl,?_⟩;have E4:Ext [t] H' H4:=e3.trans e4;have N:b ∉ [t]:=by simpa using d9
   have d1:l ∉ [t]:=by simpa using a4
   left;refine⟨b,_,rfl,.inl (SqL.of (E4 _ _ N (Z _ _ N hb))),?_⟩;rw [aB];left;refine za T4 (by lia) (by have:=hB.one;lia) (by have:=hB.few;lia) λr5 H5 a5 b5 T5 e5 _=>?_;have E5:Ext [t] H' H5:=E4.trans e5;obtain⟨M,d2,f1⟩:=jR (ns:=bs) a5 b5;refine zR (SqL.of (E5 _ _ N (Z _ _ N hb))) f1 ?_;left;refine⟨b,_,rfl,.inl (SqL.of (E5 _ _ N (Z _ _ N hb))),?_⟩;rw [aB];left;refine za T5 (by lia) (by have:=hB.one;lia) (by have:=hB.few;lia) λr6 H6 a6 b6 T6 e6 _=>?_;have E6:Ext [t] H' H6:=E5.trans e6;obtain⟨ox,d3,f4⟩:=jR (ns:=bs) a6 b6;refine zR (SqL.of (E6 _ _ N (Z _ _ N hb))) f4 ?_;left;refine za T6 (by lia) (by decide) (by decide) λr7 H7 a7 b7 T7 e7 _=>?_
   left;refine za T7 (by lia) (by lia) (by lia) λr8 H8 a8 b8 T8 e8 _=>?_;left;refine⟨len2 (by show 2<=1000;decide),λp1 c6=>?_⟩;have f5:p1≠t:=T8.ne c6;left;refine za (T8.ext (ts :=[]) (.laid c6) (by simp)) (by lia) (by decide) (by decide) λr9 H9 a9 b9 T9 e9 k9=>?_;left;refine zv ?_;left;refine .inr ⟨_,rfl,?_⟩;have E9:Ext [t] H' H9:=(E6.trans (e7.trans e8)).trans ((Ext.laid c6).trans e9);have f6:SqL K H9 p1 [V.int (first+1+r7),V.int r8]:=SqL.of (by rw [k9 p1 f5,zC]);obtain⟨ca,f7,f8⟩:∃ca:Int,atI [V.int (first+1+r7),V.int r8] (if decide (r9=0)=true then 1 else 0)=some (.int ca)/\0<=ca:=by
    cases decide (r9=0)
    ·exact⟨_,rfl,by lia⟩
    ·exact⟨_,rfl,by lia⟩
   refine zR f6 f7 ?_;have l9:H9 l=some (.lst R):=E9 _ _ d1 c5;have U:∀(d:Deed) (H6:Hp) (p:Addr),wg r d->Ext [] H9 H6->p≠t->p≠l->DenE (yo H [t,l] H6) (deedD d) (.ref p) -> ∀o6 o7 o8 o9 S T:Option V,∃(ds:List Deed) (d4:List V) (p6 p7 p8 p9 f9 g0:Option V),[some (V.ref t),some (.int u),some (.ref b),some (.int first),some (.int r),some (.ref l),o6,o7,o8,o9,S,T] = [some (V.ref t),some (.int u),some (.ref b),some (.int first),some (.int r),some (.ref l),p6,p7,p8,p9,f9,g0]/\ds.length=i+1/\(∀d∈ds,wg r d) /\
     Tape (upd H6 l (.lst (R ++ [.ref p]))) t (k+2+10*(i+1))/\Ext [t] H (upd H6 l (.lst (R ++ [.ref p])))/\(upd H6 l (.lst (R ++ [.ref p]))) l=some (.lst d4)/\DenEL (yo H [t,l] (upd H6 l (.lst (R ++ [.ref p])))) (ds.map deedD) d4:=by
    intro d H6 p hd e6 c e c7 o6 o7 o8 o9 S T;have g1:Ext [l,t] H9 (upd H6 l (.lst (R ++ [.ref p]))):=(e6.mono (by simp)).trans (.put (by simp));have d5:Ext [l,t] H' (upd H6 l (.lst (R ++ [.ref p]))):=(E9.mono (by simp)).trans g1;refine⟨ds ++ [d],R ++ [.ref p],o6,o7,o8,o9,S,T,rfl,by rw [aI,c2];rfl,λz hz=>?_,?_,?_,zC,?_⟩
    ·rcases aK.mp hz with y | y
     ·exact c3 z y
     ·rw [aH.mp y];exact hd
    ·exact ((T9.ext e6 (by simp)).ext (ts :=[l]) (.put (by simp)) (by simpa using a4.symm)).mono (by lia)
    ·exact ((Z.mono (by simp)).trans d5).drop hl
    ·rw [aJ];exact DenEL.append (a0.mono (d5.mono (by simp)).young) (.cons (c7.mono (Ext.put (by simp)).young) .nil)
   have sz:R.length<sizeLine:=zZ (by lia);left;refine zv ?_;left;refine ite2 (λg=>?_) (λg=>?_)
   ·left;refine ite2 (λg2=>?_) (λg2=>?_)
    ·have g2:=of_decide_eq_true g2;left;refine yD l9 ?_;left;refine⟨len2 (by show 2<=1000;decide),λp hp=>?_⟩;have c:=T9.ne hp;have a:=hp;have e:p≠l:=(zF l9 hp).symm;left;refine yd (by rw [zD e.symm];exact l9) sz ?_;refine L2.yH hN_ ?_;refine U (.call ca) _ p ⟨f8,g2⟩ (.laid hp) c e (.tuple ?_ (.cons .str (.cons .int .nil))) _ _ _ _ _ _;rw [yC ((Z.trans E9).none (by simpa using c) a) (by simp [c,e]),zC]
    ·left;refine yD l9 ?_;left;refine⟨len2 (by show 3<=1000;decide),λD G=>?_⟩;left;refine⟨len2 (by show 3<=1000;decide),λx I=>?_⟩;left;refine⟨len2 (by show 2<=1000;decide),λB C=>?_⟩;left;refine⟨len2 (by show 3<=1000;decide),λs4 J=>?_⟩;have L:D≠x:=zF zC I;have W:D≠B:=zF (by rw [zD L,zC]) C;have X:x≠B:=zF zC C;have c8:D≠s4:=zF (by rw [zD W,zD L,zC]) J;have c9:x≠s4:=zF (by rw [zD X,zC]) J;have d0:B≠s4:=zF zC J;have f2:H9 x=none:=by rw [zD L.symm] at I;exact I
     have f3:H9 B=none:=by rw [zD X.symm,zD W.symm] at C;exact C
     have E0:=(Ext.laid (ts :=[]) (o :=.tup [V.str "set",.int M,.int n]) G).trans ((Ext.laid (o :=.tup [V.str "add",.int M,.int ox]) I).trans ((Ext.laid (o :=.tup [V.str "tell",.int M]) C).trans (Ext.laid (o :=.lst [V.ref D,.ref x,.ref B]) J)));have Y:=E0 _ _ (by simp) l9;have m:=hB.all _ d2;have O:=hB.all _ d3;left;refine xJ (by decide) ?_;have h3:r3%3=0\/r3%3=1\/r3%3=2:=by lia
     have q4:SqL K (upd (upd (upd (upd H9 D (.tup [V.str "set",.int M,.int n])) x (.tup [V.str "add",.int M,.int ox])) B (.tup [V.str "tell",.int M])) s4 (.lst [V.ref D,.ref x,.ref B])) s4 [V.ref D,.ref x,.ref B]:=SqL.of zC;rcases h3 with h | h | h
     ·refine zR (v:=V.ref D) q4 (by rw [h];rfl) ?_;left;have c:=T9.ne G;have a:=G;have e:D≠l:=(zF l9 G).symm;refine yd Y sz ?_;refine L2.yH hN_ ?_;refine U (.set M n) _ D ⟨m.1,m.2,n0,n1⟩ E0 c e (.tuple ?_ (.cons .str (.cons .int (.cons .int .nil)))) _ _ _ _ _ _;rw [yC ((Z.trans E9).none (by simpa using c) a) (by simp [c,e]),zD c8,zD W,zD L,zC]
     ·refine zR (v:=V.ref x) q4 (by rw [h];rfl) ?_;left;have c:=T9.ne f2;have a:=f2;have e:x≠l:=(zF l9 f2).symm;refine yd Y sz ?_;refine L2.yH hN_ ?_;refine U (.add M ox) _ x ⟨m.1,m.2,O.1,O.2⟩ E0 c e (.tuple ?_ (.cons .str (.cons .int (.cons .int .nil)))) _ _ _ _ _ _;rw [yC ((Z.trans E9).none (by simpa using c) a) (by simp [c,e]),zD c9,zD X,zC]
     ·refine zR (v:=V.ref B) q4 (by rw [h];rfl) ?_;left;have c:=T9.ne f3;have a:=f3;have e:B≠l:=(zF l9 f3).symm;refine yd Y sz ?_;refine L2.yH hN_ ?_;refine U (.tell M) _ B ⟨m.1,m.2⟩ E0 c e (.tuple ?_ (.cons .str (.cons .int .nil))) _ _ _ _ _ _;rw [yC ((Z.trans E9).none (by simpa using c) a) (by simp [c,e]),zD d0,zC]
   ·refine iteF ?_;left;refine yD l9 ?_;left;refine⟨len2 (by show 3<=1000;decide),λD G=>?_⟩;left;refine⟨len2 (by show 3<=1000;decide),λx I=>?_⟩;left;refine⟨len2 (by show 2<=1000;decide),λB C=>?_⟩;left;refine⟨len2 (by show 3<=1000;decide),λs4 J=>?_⟩;have L:D≠x:=zF zC I;have W:D≠B:=zF (by rw [zD L,zC]) C;have X:x≠B:=zF zC C;have c8:D≠s4:=zF (by rw [zD W,zD L,zC]) J;have c9:x≠s4:=zF (by rw [zD X,zC]) J;have d0:B≠s4:=zF zC J;have f2:H9 x=none:=by rw [zD L.symm] at I;exact I
    have f3:H9 B=none:=by rw [zD X.symm,zD W.symm] at C;exact C
    have E0:=(Ext.laid (ts :=[]) (o :=.tup [V.str "set",.int M,.int n]) G).trans ((Ext.laid (o :=.tup [V.str "add",.int M,.int ox]) I).trans ((Ext.laid (o :=.tup [V.str "tell",.int M]) C).trans (Ext.laid (o :=.lst [V.ref D,.ref x,.ref B]) J)));have Y:=E0 _ _ (by simp) l9;have m:=hB.all _ d2;have O:=hB.all _ d3;left;refine xJ (by decide) ?_;have h3:r3%3=0\/r3%3=1\/r3%3=2:=by lia
    have q4:SqL K (upd (upd (upd (upd H9 D (.tup [V.str "set",.int M,.int n])) x (.tup [V.str "add",.int M,.int ox])) B (.tup [V.str "tell",.int M])) s4 (.lst [V.ref D,.ref x,.ref B])) s4 [V.ref D,.ref x,.ref B]:=SqL.of zC;rcases h3 with h | h | h
    ·refine zR (v:=V.ref D) q4 (by rw [h];rfl) ?_;left;have c:=T9.ne G;have a:=G;have e:D≠l:=(zF l9 G).symm;refine yd Y sz ?_;refine L2.yH hN_ ?_;refine U (.set M n) _ D ⟨m.1,m.2,n0,n1⟩ E0 c e (.tuple ?_ (.cons .str (.cons .int (.cons .int .nil)))) _ _ _ _ _ _;rw [yC ((Z.trans E9).none (by simpa using c) a) (by simp [c,e]),zD c8,zD W,zD L,zC]
    ·refine zR (v:=V.ref x) q4 (by rw [h];rfl) ?_;left;have c:=T9.ne f2;have a:=f2;have e:x≠l:=(zF l9 f2).symm;refine yd Y sz ?_;refine L2.yH hN_ ?_;refine U (.add M ox) _ x ⟨m.1,m.2,O.1,O.2⟩ E0 c e (.tuple ?_ (.cons .str (.cons .int (.cons .int .nil)))) _ _ _ _ _ _;rw [yC ((Z.trans E9).none (by simpa using c) a) (by simp [c,e]),zD c9,zD X,zC]
    ·refine zR (v:=V.ref B) q4 (by rw [h];rfl) ?_;left;have c:=T9.ne f3;have a:=f3;have e:B≠l:=(zF l9 f3).symm;refine yd Y sz ?_;refine L2.yH hN_ ?_;refine U (.tell M) _ B ⟨m.1,m.2⟩ E0 c e (.tuple ?_ (.cons .str (.cons .int .nil))) _ _ _ _ _ _;rw [yC ((Z.trans E9).none (by simpa using c) a) (by simp [c,e]),zD d0,zC]
  ·rintro c1 H' ⟨ds,R,o6,o7,o8,o9,S,T,rfl,c2,c3,c4,Z,c5,a0⟩;left;refine q l ds H' hl (c4.mono (by lia)) Z c3 (by lia) (.list ?_ (a0.mono (Qa (by simp))));rw [yC hl (by simpa using a4)];exact c5
end
section
variable{P:Program}{w:World}{K:PySem.W.Frag}{mg:Str->Option Value}{base:Heap}
abbrev sWork:Stmt:=top 28
theorem scWork:FnScope ["_law_tape_here","_law_many_here","_law_most","_law_first","_law_works_here","_law_left","_law_size_here","_law_boxes_here","_law_found","_law_there","_law_end"] ["_law_tape_here","_law_many_here","_law_most","_law_first","_law_works_here"] (zU sWork):=⟨rfl,rfl,rfl,by decide +kernel,rfl,by decide +kernel,by decide +kernel⟩
theorem qX4{f:Addr}{fd:FuncData}(F:Fun K "_law_work" "_law_work" sWork f fd)(N:mg "range" = none)(c0:mg "list" = none)(b7:mg "len" = none)(hD:Has P w K mg base "_law_draw" 1 ["_law_tape_here","_law_many_here"] xI)
  (hX:Has P w K mg base "_law_nexts" 2 ["_law_tape_here","_law_many_here"] (Ql K)) (hE:Has P w K mg base "_law_deeds" 3 ["_law_tape_here","_law_most","_law_boxes_here","_law_first","_law_works_here"] (jy K)) :
  FnOk P w K mg base CX0 4 f fd ["_law_tape_here","_law_many_here","_law_most","_law_first","_law_works_here"] (qQ0 K):=by
 refine F.ok scWork (λvs H Q E h=>?_) (λh5 A d7 s H vs Q E hr h=>?_)
 ·obtain⟨t,k,m,r,first,d,rfl,_⟩:=h;rfl
 ·obtain⟨t,k,m,r,first,d,rfl,hT,hk,m1,m2,d8,d9,e5,e8,e9,f0,q⟩:=h
  refine⟨_,zG (zN (i:=5) scWork.nd rfl (Or.inr rfl) (zr (qJ6 hr.hd) (by rfl) c0 cI (zA (zr qMn (by rfl) N PyProof.Rows.boot_range (zA zE zB)) zB)))
   (zG (zN (i:=6) scWork.nd rfl (Or.inl rfl) (zL zl zE (zH hD hr (by decide) (zA (pv 0) (zA (zM zX (zW (zA zE (zA zE (zA zE zB)))) (zH hD hr (by decide) (zA (pv 0) (zA zE zB))) (λ_ _=>rfl)) zB)))))
   (zG (vV (i:=7) ["_law_k"] [5,0] rfl (.of rfl) scWork.nd rfl (Or.inl rfl) (xB rfl N (zA (pv 6) zB)) (λ_ _ _ _=>zJ (i:=0) (by show ((["_law_k","_law_left","_law_tape_here"]:List Str)).Nodup;decide) rfl (Or.inl rfl)) (λ_ _ _ _ =>.nil)
     (λ_ _ _ _=>qYv K rfl bH fH fI ot (pv 1) (zA (zH hD hr (by decide) (zA (pv 2) (zA (zO (Qr K rfl) (by rfl) b7 cK (zA (pv 1) zB)) zB))) zB)))
   (zG (zN (i:=8) scWork.nd rfl (Or.inl rfl) (zW zB))
   (zG (yV bU rfl (zu (zH hX hr (by decide) (zA (pv 0) (zA (pv 1) zB)))) (zJ (i:=9) scWork.nd rfl (Or.inl rfl))
    (zG (zN (i:=10) scWork.nd rfl (Or.inl rfl) (wT (zV (QW hr) (pv 9) (zW zB) (zQ _)) (zm (zA yB zB)) (wT (zV zq (zO yb (by rfl) b7 cK (zA (pv 9) zB)) zE (zQ _))
      (zm (zA yB (zA (zM zX (pv 9) zE (λ_ _=>rfl)) zB))) (zm (zA yB (zA (zM zX (pv 9) zE (λ_ _=>rfl)) (zA (zM zX (pv 9) zE (λ_ _=>rfl)) zB)))))))
    (zI (yZ (yc bH cP cQ xV (pv 8) (zA (zm (zA (zH hE hr (by decide) (zA (pv 0) (zA (pv 2) (zA (pv 7) (zA (pv 3) (zA (pv 4) zB)))))) (zA (pv 10) zB))) zB))))))
   (zI (zP (pv 8))))))),?_⟩
  dsimp only [zb,zg];left;refine⟨8,rfl,λpr f1=>?_⟩;left;refine⟨pr,8,rfl,zC,by decide,λg a9=>?_⟩;have f2:pr≠g:=zF zC a9;have b8:H g=none:=by rw [zD f2.symm] at a9;exact a9
  have b0:g≠t:=hT.ne b8;have EG:=(Ext.laid (ts :=[]) (o :=.rng 0 8) f1).trans (.laid (o :=.lst (([0,1,2,3,4,5,6,7]:List Int).map V.int)) a9);generalize hG:upd (upd H pr (.rng 0 8)) g (.lst (([0,1,2,3,4,5,6,7]:List Int).map V.int))=G at EG;have c1:upd (upd H pr (.rng 0 8)) g (.lst ((List.range 8).map λ(i:Nat)=>V.int (i:Int)))=G:=hG;have lG:G g=some (.lst (([0,1,2,3,4,5,6,7]:List Int).map V.int)):=by rw [<-hG,zC]
  have TG:=hT.ext EG (by simp)
  first | rw [c1] | erw [c1]
  clear hG c1;left;refine⟨len2 (by show 3<=1000;decide),λp Y=>?_⟩;have b4:p≠t:=TG.ne Y;have O:p≠g:=(zF lG Y).symm;left;refine za (TG.ext (ts :=[]) (.laid Y) (by simp)) (by lia) (by decide) (by decide) λr1 H1 a1 b1 T1 e1 k1=>?_;have f3:SqL K H1 p (([3,3,8]:List Int).map V.int):=SqL.of (by rw [k1 p b4,zC];rfl);obtain⟨n8,f4,f5⟩:=jR (ns :=[3,3,8]) a1 b1;have h3:3<=n8/\n8<=8:=by
   simp only [aV,List.not_mem_nil,or_false] at f4;lia
  refine zR f3 f5 ?_;left;refine za T1 (by lia) (by lia) (by lia) λr2 H2 a2 b2 T2 e2 k2=>?_;have l2:H2 g=some (.lst (([0,1,2,3,4,5,6,7]:List Int).map V.int)):=by rw [k2 g b0,k1 g b0,zD O.symm];exact lG
  have E2:Ext [t] H H2:=(EG.mono (by simp)).trans ((Ext.laid Y).trans (e1.trans e2));left;refine⟨1+r2,rfl,by lia,by lia,λC S=>?_⟩;have T:C≠t:=T2.ne S;have c2:C≠g:=(zF l2 S).symm;refine vX (lo:=0) (n:=(1+r2).toNat) (λi J u => ∃(o:Option V) (left bs:List Int),J = [o,some (.ref g),some (.ref t)]/\left.length+i=8/\bs.length=i/\(∀b∈left,0<=b/\b<8)/\(∀b∈bs,0<=b/\b<8)/\u g=some (.lst (left.map V.int))/\u C=some (.lst (bs.map V.int))/\Tape u t (k+2+i)/\Ext [t] H u) ?_ ?_ ?_
  ·refine⟨none,[0,1,2,3,4,5,6,7],[],rfl,rfl,rfl,by decide,(λ_ h=>absurd h (by simp)),?_,zC,?_,E2.trans (.laid S)⟩
   ·rw [zD c2.symm];exact l2
   ·exact T2.ext (ts :=[]) (.laid S) (by simp)
  ·rintro i J u R hi ⟨o,left,bs,rfl,f6,c4,M,c3,hL,b5,T',E'⟩ hR;left;refine iteT ?_;left;refine yD hL ?_;left;refine⟨g,_,rfl,.inl (SqL.of hL),?_⟩;rw [aB];left;refine za T' (by lia) (by lia) (by lia) λr3 H3 a3 b3 T3 e3 k3=>?_;have l3:H3 g=some (.lst (left.map V.int)):=by rw [k3 g b0];exact hL
   have f7:H3 C=some (.lst (bs.map V.int)):=by rw [k3 C T];exact b5
   obtain⟨j,rfl⟩:=cD a3;have hj:j<left.length:=by lia
   left;refine⟨g,left.map V.int,(j:Int),j,V.int left[j],rfl,rfl,l3,by lia,by lia,?_,by rw [aS,aD hj];rfl,?_⟩
   ·rw [aB];exact Qs hj
   ·refine⟨bs.map V.int,by rw [zD c2];exact f7,zZ (by rw [aB];lia),hR _ _ ?_⟩;have c5:left[j]∈left:=cL hj;refine⟨_,left.eraseIdx j,bs ++ [left[j]],rfl,?_,?_,λb hb=>M b (List.mem_of_mem_eraseIdx hb),λb hb=>?_,?_,?_,?_,?_⟩
    ·rw [List.length_eraseIdx,if_pos hj];lia
    ·rw [aI,c4];rfl
    ·rcases aK.mp hb with y | y
     ·exact c3 b y
     ·rw [aH.mp y];exact M _ c5
    ·rw [zD c2.symm,zC,jT]
    ·rw [zC,aJ];rfl
    ·exact ((T3.ext (ts :=[g]) (.put (by simp)) (by simpa using b0.symm)).ext (ts :=[C]) (.put (by simp)) (by simpa using T.symm)).mono (by lia)
    ·have c6:H C=none:=by
      cases z:H C with
      | none=>rfl
      | some o=>rw [E2 _ _ (by simpa using T) z] at S;cases S
     have E4:Ext [g,C,t] H (upd (upd H3 g (.lst ((left.map V.int).eraseIdx j))) C (.lst (bs.map V.int ++ [V.int left[j]]))):=(E'.mono (by simp)).trans ((e3.mono (by simp)).trans ((Ext.put (by simp)).trans (.put (by simp))));exact (E4.drop b8).drop c6
  ·rintro J H3 ⟨o,left,bs,rfl,f6,c4,M,c3,hL,b5,T3,E3⟩;have hB:BsOk bs:=⟨by lia,by lia,c3⟩;left;refine⟨len2 (bB _),λl hl=>?_⟩;have Z:l≠t:=T3.ne hl;have c7:l≠C:=(zF b5 hl).symm;have c8:H l=none:=E3.none (by simpa using Z) hl;left;refine⟨t,_,m,rfl,T3.ext (ts :=[]) (.laid hl) (by simp),by lia,m1,m2,λnl nx H4 f8 T4 e4 c9 f9=>?_⟩;obtain⟨a,vs,ea,g0,d0⟩:=f9.ofList;cases ea;have h6:nl≠l:=(zF zC f8).symm;have d1:=d0.len;rw [aB] at d1;have h7:(nx.length:Int)=m:=c9.1;have l4:H4 l=some (.lst []):=e4 _ _ (by simpa using Z) zC;have E4:Ext [t] H H4:=E3.trans ((Ext.laid hl).trans e4);have a0:Same (yo (upd H3 l (.lst [])) [t] H4) (yo (upd H3 l (.lst [])) [l,t] H4):=Qb (H0:=H) (by simp [zC])
   have b9:=Same.seq a0 g0;have d2:=d0.mono a0;have g1:H4 C=some (.lst (bs.map V.int)):=e4 _ _ (by simpa using T) (by rw [zD c7.symm];exact b5)
   refine⟨nl,rfl,⟨vs,yo_same.seq b9⟩,wc (xs:=vs) (λi J u => ∃(X:List Blk) (U:List V) (o9 v:Option V),J = [some (.ref t),some (.int m),some (.int r),some (.int first),some (.int d),some (.ref g),some (.int (1+r2)),some (.ref C),some (.ref l),o9,v]/\X.length=i /\
    (∀b∈X,BlkOk m d b/\b.ds.length<=12)/\Tape u t (k+45+140*i)/\Ext [l,t] H4 u/\u l=some (.lst U)/\DenEL (yo H [l,t] u) (X.map blkD) U) ?_ ?_ ?_ ?_⟩
   ·exact⟨[],[],none,none,rfl,rfl,(λ_ h=>absurd h (by simp)),T4.mono (by lia),.refl _ _,l4,.nil⟩
   ·rintro i J u hi ⟨X,U,o9,v,rfl,b6,a4,T',e',a5,L⟩;exact yo_same.seq (Same.seq e'.young b9)
   ·rintro i x J u hx ⟨X,U,o9,v,rfl,b6,a4,T',e',a5,L⟩ N_ B_ C_ R_ hN_ hC_ hR_;obtain⟨dd,a6,g2⟩:=d2.get hx;have hi:i<vs.length:=(aE.mp hx).1;obtain⟨ns,g3,rfl⟩:∃ns,nx[i]? = some ns/\dd=intsD ns:=by
     rw [aS] at a6;cases z:nx[i]? with
     | none=>rw [z] at a6;cases a6
     | some n=>rw [z] at a6;exact⟨n,rfl,(bT a6).symm⟩
    have d3:NsOk m ns:=c9.2 ns (aM g3);obtain⟨c,zs,rfl,hc,g4⟩:=g2.ofList;have g5:=g4.ints;subst g5;have h4:U.length=i:=by rw [L.len,aB,b6]
    have g6:SqL K u c (ns.map V.int):=yo_same.seq (Same.seq e'.young hc)
    have a7:∀(I:Addr) (H6:Hp),Ext [] u H6->u I=none->DenE (yo H [l,t] H6) (endD ns) (.ref I) -> ∀D:Ends,(∀(W:Hp) (o9 v:Option V),(∃(X:List Blk) (U:List V) (p9 g7:Option V),[some (V.ref t),some (.int m),some (.int r),some (.int first),some (.int d),some (.ref g),some (.int (1+r2)),some (.ref C),some (.ref l),o9,v] = [some (.ref t),some (.int m),some (.int r),some (.int first),some (.int d),some (.ref g),some (.int (1+r2)),some (.ref C),some (.ref l),p9,g7]/\X.length=i+1 /\
      (∀b∈X,BlkOk m d b/\b.ds.length<=12)/\Tape W t (k+45+140*(i+1))/\Ext [l,t] H4 W/\W l=some (.lst U)/\DenEL (yo H [l,t] W) (X.map blkD) U)->D.nx [some (V.ref t),some (.int m),some (.int r),some (.int first),some (.int d),some (.ref g),some (.int (1+r2)),some (.ref C),some (.ref l),o9,v] W) ->
      tDrop (tBM K "list" uI (tVar 8) (tCons (tTup (tCons (tCall (jy K) [] E0 (tCons (tVar 0) (tCons (tVar 2) (tCons (tVar 7) (tCons (tVar 3) (tCons (tVar 4) tNil)))))) (tCons (tVar 10) tNil))) tNil)) D [some (V.ref t),some (.int m),some (.int r),some (.int first),some (.int d),some (.ref g),some (.int (1+r2)),some (.ref C),some (.ref l),some (.ref c),some (.ref I)] H6:=by
     intro I H6 e6 B g8 D hD;have l6:=e6 _ _ (by simp) a5;left;refine yD l6 ?_;left;refine⟨t,C,_,r,first,d,bs,rfl,T'.ext e6 (by simp),by lia,d8,d9,e5,e8,e9,f0,e6 _ _ (by simp) (e' _ _ (by simp [T,c7.symm]) g1),T,hB,λdl ds W g9 T7 e7 h0 d4 h1=>?_⟩;have l7:=e7 _ _ (by simpa using Z) l6;have h8:dl≠l:=(zF l6 g9).symm;have EH:Ext [l,t] H H6:=(E4.mono (by simp)).trans (e'.trans (e6.mono (by simp)));have d5:DenE (yo H [l,t] W) (.list (ds.map deedD)) (.ref dl):=(h1.mono (Qb (H0:=H) (us :=[l,t]) (by simp [l6]))).mono (qTm EH (by simp));left;refine⟨len2 (by show 2<=1000;decide),λp Y=>?_⟩;have O:p≠l:=(zF l7 Y).symm;have b4:p≠t:=T7.ne Y
     left;refine yd (by rw [zD O.symm];exact l7) (zZ (by lia)) ?_;refine hD _ _ _ ⟨X ++ [⟨ds,ns⟩],U ++ [.ref p],_,_,rfl,by rw [aI,b6];rfl,λb hb=>?_,?_,?_,zC,?_⟩
     ·rcases aK.mp hb with y | y
      ·exact a4 b y
      ·rw [aH.mp y];exact⟨⟨d3,h0,bL d4 (by decide)⟩,d4⟩
     ·exact ((T7.ext (ts :=[]) (.laid Y) (by simp)).ext (ts :=[l]) (.put (by simp)) (by simpa using Z.symm)).mono (by lia)
     ·exact e'.trans ((e6.mono (by simp)).trans ((e7.mono (by simp)).trans ((Ext.laid Y).trans (.put (by simp)))))
     ·have E7:Ext [l,t] W (upd (upd W p (.tup [.ref dl,.ref I])) l (.lst (U ++ [.ref p]))):=(Ext.laid Y).trans (.put (by simp));have d6:Ext [l,t] H6 (upd (upd W p (.tup [.ref dl,.ref I])) l (.lst (U ++ [.ref p]))):=(e7.mono (by simp)).trans E7;rw [aJ];refine DenEL.append (L.mono ((e6.mono (by simp)).trans d6).young) (.cons (.tuple ?_ (.cons (d5.mono E7.young) (.cons (g8.mono d6.young) .nil))) .nil);rw [yC ((EH.trans (e7.mono (by simp))).none (by simp [O,b4]) Y) (by simp [O,b4]),zD O,zC]
    have nT:∀ {I:Addr},u I=none->I≠t/\I≠l/\H I=none:=λ{I} h=>by
     have a1:=T'.ne h;have a2:=(zF a5 h).symm;exact⟨a1,a2,((E4.mono (us :=[l,t]) (by simp)).trans e').none (by simp [a1,a2]) h⟩
    left;refine⟨len2 (bB _),λe0 h2=>?_⟩;have E0:Ext [] u (upd u e0 (.lst [])) :=.laid h2;have a8:SqL K (upd u e0 (.lst [])) c (ns.map V.int):=Same.seq (λb o h=>E0 b o (by simp) h) g6;rcases d3 with h | ⟨x,h,_⟩ | ⟨x,y,h,_⟩
    ·subst h;refine⟨intsD [],.list [],.list a8 (DenL.ofInts []),.list (SqL.of zC) .nil,rfl,rfl,?_⟩;left;refine iteT ?_;left;refine⟨len2 (by show 1<=1000;decide),λI B=>?_⟩;have e:=E0.none (by simp) B;obtain⟨z1,z2,z3⟩:=nT e;refine yN (a7 I _ (E0.trans (.laid B)) e (.tuple ?_ (.cons .str .nil)) _ λW o9 v h=>hN_ _ _ h);rw [yC z3 (by simp [z1,z2]),zC]
    ·subst h;refine⟨intsD [x],.list [],.list a8 (DenL.ofInts [x]),.list (SqL.of zC) .nil,rfl,rfl,?_⟩;left;refine iteF ?_;left;refine⟨c,_,rfl,.inl a8,?_⟩;left;refine zv ?_;left;refine iteT ?_;left;refine⟨len2 (by show 2<=1000;decide),λI B=>?_⟩;have e:=E0.none (by simp) B;obtain⟨z1,z2,z3⟩:=nT e;refine yN (a7 I _ (E0.trans (.laid B)) e (.tuple ?_ (.cons .str (.cons .int .nil))) _ λW o9 v h=>hN_ _ _ h);rw [yC z3 (by simp [z1,z2]),zC]
    ·subst h;refine⟨intsD [x,y],.list [],.list a8 (DenL.ofInts [x,y]),.list (SqL.of zC) .nil,rfl,rfl,?_⟩;left;refine iteF ?_;left;refine⟨c,_,rfl,.inl a8,?_⟩;left;refine zv ?_;left;refine iteF ?_;left;refine⟨len2 (by show 3<=1000;decide),λI B=>?_⟩;have e:=E0.none (by simp) B;obtain⟨z1,z2,z3⟩:=nT e;refine yN (a7 I _ (E0.trans (.laid B)) e (.tuple ?_ (.cons .str (.cons .int (.cons .int .nil)))) _ λW o9 v h=>hN_ _ _ h);rw [yC z3 (by simp [z1,z2]),zC]
   ·rintro J u ⟨X,U,o9,v,rfl,b6,a4,T',e',a5,L⟩;left;have EH:Ext [l,t] H u:=(E4.mono (by simp)).trans e';exact q l X U u c8 Z (T'.mono (by lia)) (EH.drop c8) ⟨by lia,λb hb=>(a4 b hb).1⟩ (λb hb=>(a4 b hb).2) a5 L
end
section
variable{P:Program}{w:World}{K:PySem.W.Frag}{mg:Str->Option Value}{base:Heap}
abbrev sSize:Stmt:=top 30
theorem qY0:FnScope ["_law_works_here"] ["_law_works_here"] (zU sSize):=⟨rfl,rfl,rfl,by decide +kernel,rfl,by decide +kernel,by decide +kernel⟩
theorem qX8{f:Addr}{fd:FuncData}(F:Fun K "_law_size" "_law_size" sSize f fd)(m:mg "sum" = none)(B:mg "len" = none):FnOk P w K mg base CX0 1 f fd ["_law_works_here"] (js K):=by
 have C:((["_law_deeds_here","_law_end"]:List Str)).Nodup:=by decide
 refine F.ok qY0 (λD H Q E h=>?_) (λa6 A Y s H D Q E hr h=>?_)
 ·obtain⟨wa,Z,rfl,_⟩:=h;rfl
 ·obtain⟨wa,Z,rfl,hW,a4,I,q⟩:=h
  refine⟨_,zI (zP (zO (qLd hr.hd) (by rfl) m PyProof.Rows.boot_sum (zA (zp ["_law_work_here"] [] rfl (.of rfl) (zu (pv 0)) (λ_ _ _ _=>zJ (i:=0) (by show ((["_law_work_here"]:List Str)).Nodup;decide) rfl (Or.inl rfl)) (λ_ _ _ _ =>.nil)
   (λ_ _ _ _=>zO (sumK K rfl hr.hd) (by rfl) m PyProof.Rows.boot_sum (zA (zp ["_law_deeds_here","_law_end"] [] rfl (.of rfl) (wh K rfl (pv 0)) (λ_ _ _ _=>xb (n:=2) K rfl rfl (ze (zJ (i:=0) C rfl (Or.inl rfl)) (ze (zJ (i:=1) C rfl (Or.inl rfl)) yI))) (λ_ _ _ _ =>.nil) (λ_ _ _ _=>zO (Qr K rfl) (by rfl) B cK (zA (pv 0) zB))) zB))) zB))),?_⟩
  dsimp only [zb,zg];obtain⟨a7,D,ea,J,L⟩:=hW.ofList;cases ea;have a8:D.length=Z.length:=by rw [L.len,aB]
  left;refine⟨wa,rfl,⟨D,J⟩,λl U=>?_⟩;refine zx (xs:=D) (λi a G => ∃(k:Option V) (r:List Int),a = [k]/\Ext [l] H G/\G l=some (.lst (r.map V.int))/\r.length=i) ?_ ?_ ?_ ?_
  ·exact⟨none,[],rfl,.laid U,zC,rfl⟩
  ·rintro i a G hi ⟨k,r,rfl,y,e,hn⟩;exact (y.drop U).toSame.seq J
  ·rintro i v a G R hv ⟨k,r,rfl,y,e,hn⟩ hR;obtain⟨dd,t,u⟩:=L.get hv;obtain⟨wk,M,rfl⟩:=zj t;have a9:i<Z.length:=(aE.mp M).1;obtain⟨wb,bs,rfl,N,o⟩:=u.ofList;have b0:bs.length=wk.length:=by rw [o.len,aB]
   have b1:=I wk (aM M);have EG:=y.drop U;left;refine iteT ?_;left;refine⟨wb,rfl,⟨bs,EG.toSame.seq N⟩,λW g=>?_⟩;have b2:l≠W:=zF e g;refine zx (xs:=bs) (λj a O => ∃(k X:Option V) (p:List Int),a = [k,X]/\Ext [W] G O/\O W=some (.lst (p.map V.int))/\p.length=j) ?_ ?_ ?_ ?_
   ·exact⟨none,none,[],rfl,.laid g,zC,rfl⟩
   ·rintro j a O hj ⟨k,X,p,rfl,z,d,hm⟩;exact (z.drop g).toSame.seq (EG.toSame.seq N)
   ·rintro j v a O R hv ⟨k,X,p,rfl,z,d,hm⟩ hR;obtain⟨dd,t,u⟩:=o.get hv;obtain⟨b,hb,rfl⟩:=zj t;have b3:j<wk.length:=(aE.mp hb).1;obtain⟨c,cs,rfl,hc,a0⟩:=u.ofTuple;obtain⟨vd,q1,rfl,a1,a2⟩:=a0.ofCons;obtain⟨ve,q2,rfl,b4,x⟩:=a2.ofCons;have x:=x.ofNil;subst x;obtain⟨dl,S,rfl,a3,a5⟩:=a1.ofList;have T:=EG.trans (z.drop g);refine yO (T.toSame.seqT hc) rfl ?_;left;refine iteT ?_;left;refine⟨dl,S,rfl,.inl (T.toSame.seq a3),?_⟩;refine⟨_,d,zZ (by rw [aB];lia),hR _ _ ⟨_,_,p ++ [(S.length:Int)],rfl,z.trans (.put (by simp)),?_,by simp [hm]⟩⟩;rw [zC,aJ];rfl
   ·rintro a O ⟨k,X,p,rfl,z,d,hm⟩;left;refine⟨W,p,rfl,SqL.of d,?_⟩;have T:=z.drop g;refine⟨_,T _ _ (by simp) e,zZ (by rw [aB];lia),hR _ _ ⟨_,r ++ [p.sum],rfl,(y.trans (T.mono (by simp))).trans (.put (by simp)),?_,by simp [hn]⟩⟩;rw [zC,aJ];rfl
  ·rintro a G ⟨k,r,rfl,y,e,hn⟩;left;refine⟨l,r,rfl,SqL.of e,?_⟩;exact q _ G (y.drop U)
end
section
variable{P:Program}{w:World}{K:PySem.W.Frag}{mg:Str->Option Value}{base:Heap}
abbrev sSlim:Stmt:=top 31
theorem qXz:FnScope ["_law_works_here"] ["_law_works_here"] (zU sSlim):=⟨rfl,rfl,rfl,by decide +kernel,rfl,by decide +kernel,by decide +kernel⟩
theorem qL5(xs:List V)(n:Nat):cutV xs none (some (n:Int))=xs.take n:=by
 unfold cutV;rw [HT.sIx_none,HT.sIx_nat,List.drop_zero,Nat.sub_zero];by_cases h:n<=xs.length
 ·rw [Nat.min_eq_left h]
 ·rw [gQ (by lia),cB (aF _),cB (by lia)]
theorem qV5(xs:List V)(n:Nat):cutV xs (some (n:Int)) none=xs.drop n:=by
 unfold cutV;rw [HT.sIx_none,HT.sIx_nat];by_cases h:n<=xs.length
 ·rw [Nat.min_eq_left h,cB (by rw [cC];lia)]
 ·rw [gQ (by lia),Nat.sub_self,List.take_zero,List.drop_of_length_le (by lia)]
theorem dtake{G:Hp}:∀ {ds:List PyData} {vs:List V} (n:Nat),DenEL G ds vs->DenEL G (ds.take n) (vs.take n)
 | [],vs,n,h=>by have:=h.ofNil;subst this;simpa using DenEL.nil
 | d::ds,vs,0,h=>by simpa using DenEL.nil
 | d::ds,vs,n+1,h=>by
  obtain⟨v,r,rfl,a,b⟩:=h.ofCons;exact .cons a (dtake n b)
theorem ddrop{G:Hp}:∀ {ds:List PyData} {vs:List V} (n:Nat),DenEL G ds vs->DenEL G (ds.drop n) (vs.drop n)
 | [],vs,n,h=>by have:=h.ofNil;subst this;simpa using DenEL.nil
 | d::ds,vs,0,h=>h
 | d::ds,vs,n+1,h=>by
  obtain⟨v,r,rfl,b,a⟩:=h.ofCons;exact ddrop n a
theorem qX7{f:Addr}{fd:FuncData}(F:Fun K "_law_slim" "_law_slim" sSlim f fd)(b6:Has P w K mg base "_law_size" 1 ["_law_works_here"] (js K)):FnOk P w K mg base CX0 2 f fd ["_law_works_here"] (qQ2 K):=by
 have a6:((["_law_deeds_here","_law_end"]:List Str)).Nodup:=by decide
 refine F.ok qXz (λvs H Q E h=>?_) (λd2 A b7 s H vs Q E hr h=>?_)
 ·obtain⟨wa,D,rfl,_⟩:=h;rfl
 ·obtain⟨wa,D,rfl,hW,t,q⟩:=h
  refine⟨_,zG (zn (zV kI (zH b6 hr (by decide) (zA (pv 0) zB)) zE (zQ _)) (zI (zP (pv 0))) zh)
   (zI (zP (zL xD (yM xC (pv 0) yK (yL zE)) (zp ["_law_work_here"] [] rfl (.of rfl) (zu (yM xC (pv 0) (yL zE) yK)) (λ_ _ _ _=>zJ (i:=0) (by show ((["_law_work_here"]:List Str)).Nodup;decide) rfl (Or.inl rfl)) (λ_ _ _ _ =>.nil)
    (λ_ _ _ _=>zp ["_law_deeds_here","_law_end"] [] rfl (.of rfl) (wh K rfl (pv 0)) (λ_ _ _ _=>xb (n:=2) K rfl rfl (ze (zJ (i:=0) a6 rfl (Or.inl rfl)) (ze (zJ (i:=1) a6 rfl (Or.inl rfl)) yI))) (λ_ _ _ _ =>.nil) (λ_ _ _ _=>zm (zA (yM (qTu K rfl) (pv 0) yK (yL zE)) (zA (pv 1) zB)))))))),?_⟩
  dsimp only [zb,zg];obtain⟨d3,vs,ea,a7,X⟩:=hW.ofList;cases ea;have b8:vs.length=D.length:=by rw [X.len,aB]
  have d1:=t.few;left;refine⟨wa,D,rfl,hW.den,t.few,λw hw=>by obtain⟨m,h1,h2,h3⟩:=t.all w hw;have:=h3.len;lia,λr H1 e1=>?_⟩;left;refine ite2 (λ_=>?_) (λ_=>?_)
  ·left;exact q wa D H1 e1 (hW.mono e1.toSame) t rfl
  ·left;refine⟨1,rfl,?_⟩;refine⟨wa,vs,rfl,e1.toSame.seq a7,λl1 b9=>?_⟩;rw [show (1:Int)=((1:Nat):Int) from rfl,qL5];have e2:Ext [] H1 (upd H1 l1 (.lst (vs.take 1))) :=.laid b9;have T:upd H1 l1 (.lst (vs.take 1)) l1=some (.lst (vs.take 1)):=zC;generalize upd H1 l1 (.lst (vs.take 1))=H2 at e2 T ⊢;left;refine⟨1,rfl,?_⟩;left;refine⟨wa,vs,rfl,(e1.trans e2).toSame.seq a7,λl2 c0=>?_⟩;rw [show (1:Int)=((1:Nat):Int) from rfl,qV5];have e3:Ext [] H2 (upd H2 l2 (.lst (vs.drop 1))) :=.laid c0;have k:upd H2 l2 (.lst (vs.drop 1)) l2=some (.lst (vs.drop 1)):=zC;generalize upd H2 l2 (.lst (vs.drop 1))=H3 at e3 k ⊢;have E3:=e1.trans (e2.trans e3);have c1:DenEL H ((D.drop 1).map workD) (vs.drop 1):=by rw [List.map_drop];exact ddrop 1 X
   have Y:(vs.drop 1).length=(D.drop 1).length:=by rw [cC,cC,b8]
   refine⟨l2,rfl,⟨_,SqL.of k⟩,λl hl=>?_⟩;have c2:l2≠l:=zF k hl;refine zx (xs:=vs.drop 1) (λi e G => ∃(L:Option V) (us:List V),e = [L]/\Ext [l] H3 G/\G l=some (.lst us)/\DenEL (wo [l] G) (((D.drop 1).take i).map λw=>workD (w.map slimB)) us) ?_ ?_ ?_ ?_
   ·exact⟨none,[],rfl,.laid hl,zC,.nil⟩
   ·rintro i e G hi ⟨L,us,rfl,eG,u,g⟩;exact SqL.of (eG _ _ (by simpa using c2) k)
   ·rintro i v e G R hv ⟨L,us,rfl,eG,u,g⟩ hR;obtain⟨dd,Z,a0⟩:=c1.get hv;obtain⟨wk,a1,rfl⟩:=zj Z;have c3:i<(D.drop 1).length:=(aE.mp a1).1;rw [cC] at c3;obtain⟨wb,bs,rfl,a8,U⟩:=a0.ofList;have c4:bs.length=wk.length:=by rw [U.len,aB]
    obtain⟨m,d4,d5,c5⟩:=t.all wk (fJ (aM a1));have d6:=c5.len;have EG:=eG.drop hl;have M:=E3.trans EG;have a9:us.length=i:=by rw [g.len,aB,aN,cC];lia
    left;refine iteT ?_;left;refine⟨wb,rfl,⟨bs,M.toSame.seq a8⟩,λx B=>?_⟩;have a2:l≠x:=zF u B;refine zx (xs:=bs) (λj e p => ∃(L o1:Option V) (ts:List V),e = [L,o1]/\Ext [x] G p/\p x=some (.lst ts)/\DenEL (wo [l,x] p) ((wk.take j).map λb=>blkD (slimB b)) ts) ?_ ?_ ?_ ?_
    ·exact⟨none,none,[],rfl,.laid B,zC,.nil⟩
    ·rintro j e p hj ⟨L,o1,ts,rfl,e4,d,C⟩;exact (e4.drop B).toSame.seq (M.toSame.seq a8)
    ·rintro j v e p R hv ⟨L,o1,ts,rfl,e4,d,C⟩ hR;obtain⟨dd,Z,a0⟩:=U.get hv;obtain⟨b,hb,rfl⟩:=zj Z;have d7:j<wk.length:=(aE.mp hb).1;obtain⟨c,cs,rfl,hc,c6⟩:=a0.ofTuple;obtain⟨vd,q1,rfl,c7,c8⟩:=c6.ofCons;obtain⟨ve,q2,rfl,c9,a3⟩:=c8.ofCons;have a3:=a3.ofNil;subst a3;obtain⟨dl,I,rfl,Y,b0⟩:=c7.ofList;have E4:=M.trans (e4.drop B);have d8:ts.length=j:=by rw [C.len,aB,aN];lia
     refine yO (E4.toSame.seqT hc) rfl ?_;left;refine iteT ?_;left;refine⟨2,rfl,?_⟩;refine⟨dl,I,rfl,E4.toSame.seq Y,λJ a4=>?_⟩;rw [show (2:Int)=((2:Nat):Int) from rfl,qL5];have N:p l=some (.lst us):=e4 _ _ (by simpa using a2) u;have n5:J≠l:=(zF N a4).symm;have a5:J≠x:=(zF d a4).symm;left;refine⟨len2 (by show 2<=1000;decide),λO S=>?_⟩;have d0:J≠O:=zF zC S;have b1:O≠l:=(zF (o :=.lst us) (by rw [zD n5.symm];exact N) S).symm;have W:O≠x:=(zF (o :=.lst ts) (by rw [zD a5.symm];exact d) S).symm;have e5:Ext [] p (upd (upd p J (.lst (I.take 2))) O (.tup [.ref J,ve])):=(Ext.laid a4).trans (.laid S);refine⟨ts,e5 _ _ (by simp) d,zZ (by lia),hR _ _ ⟨_,_,ts ++ [.ref O],rfl,e4.trans ((e5.mono (by simp)).trans (.put (by simp))),zC,?_⟩⟩
     rw [zd hb,aJ];have eF:Ext [l,x] p (upd (upd (upd p J (.lst (I.take 2))) O (.tup [.ref J,ve])) x (.lst (ts ++ [.ref O]))):=(e5.mono (by simp)).trans (.put (by simp));have b2:Same H (wo [l,x] (upd (upd (upd p J (.lst (I.take 2))) O (.tup [.ref J,ve])) x (.lst (ts ++ [.ref O])))):=λa o z=>by
      have b3:a≠l:=λy=>by rw [y] at z;have:=E3 _ _ (by simp) z;rw [hl] at this;cases this
      have b4:a≠x:=λy=>by rw [y] at z;have:=M _ _ (by simp) z;rw [B] at this;cases this
      rw [zc (by simp [b3,b4])];exact eF _ _ (by simp [b3,b4]) (E4 _ _ (by simp) z)
     refine DenEL.append (C.mono eF.same) (.cons (.tuple (vs :=[.ref J,ve]) ?_ (.cons (.list (vs:=I.take 2) ?_ ?_) (.cons (c9.mono b2) .nil))) .nil)
     ·rw [zc (by simp [b1,W]),zD W,zC]
     ·rw [zc (by simp [n5,a5]),zD a5,zD d0,zC]
     ·show DenEL _ ((b.ds.take 2).map deedD) _;rw [gG];exact dtake 2 (b0.mono b2)
    ·rintro e p ⟨L,o1,ts,rfl,e4,d,C⟩;rw [c4,aY] at C;have E4:=e4.drop B;have N:=E4 _ _ (by simp) u;refine⟨us,N,zZ (by lia),hR _ _ ⟨_,us ++ [.ref x],rfl,(eG.trans (E4.mono (by simp))).trans (.put (by simp)),zC,?_⟩⟩;have hs:Same (wo [l] p) (wo [l] (upd p l (.lst (us ++ [.ref x])))):=(Ext.put (ts :=[l]) (by simp)).same;rw [zd a1,aJ];refine DenEL.append ((g.mono (E4.mono (us :=[l]) (by simp)).same).mono hs) (.cons (.list (vs:=ts) ?_ ?_) .nil)
     ·rw [zc (by simpa using a2.symm),zD a2.symm];exact d
     ·rw [dS];exact (C.mono (qWk (by intro z hz;simp at hz;simp [hz]))).mono hs
   ·rintro e G ⟨L,us,rfl,eG,u,g⟩;rw [Y,aY] at g;have EG:=eG.drop hl;have a9:us.length=(D.drop 1).length:=by rw [g.len,aB]
    rw [cC] at a9;refine⟨l1,l,vs.take 1,us,rfl,rfl,(e3.trans EG) _ _ (by simp) T,u,len2 (by rw [aN];lia),λlr b5=>?_⟩;have EF:Ext [] H (upd G lr (.lst (vs.take 1++us))):=(E3.trans EG).trans (.laid b5);refine q lr (wq D) _ EF (.list zC ?_) (qWe t) (ug D);unfold wq;rw [aJ,gG,dS];exact DenEL.append ((dtake 1 X).mono EF.toSame) ((g.mono (xY _ _)).mono (Ext.laid (ts :=[]) b5).toSame)
end
section
variable{P:Program}{w:World}{K:PySem.W.Frag}{mg:Str->Option Value}{base:Heap}
abbrev iR:Stmt:=top 32
theorem scWorks:FnScope ["_law_tape_here","_law_most","_law_works_here","_law_found","_law_first","_law_many_here"] ["_law_tape_here","_law_most"] (zU iR):=⟨rfl,rfl,rfl,by decide +kernel,rfl,by decide +kernel,by decide +kernel⟩
theorem qUd{f:Addr}{fd:FuncData}(F:Fun K "_law_works" "_law_works" iR f fd)(Y:mg "range" = none)(b5:mg "int" = none)(hD:Has P w K mg base "_law_draw" 1 ["_law_tape_here","_law_many_here"] xI)
  (hM:Has P w K mg base "_law_many" 2 ["_law_tape_here"] Qg) (hW:Has P w K mg base "_law_work" 4 ["_law_tape_here","_law_many_here","_law_most","_law_first","_law_works_here"] (qQ0 K)) (hS:Has P w K mg base "_law_slim" 2 ["_law_works_here"] (qQ2 K)) :
  FnOk P w K mg base CX0 5 f fd ["_law_tape_here","_law_most"] (qMz K):=by
 refine F.ok scWorks (λvs H Q E h=>?_) (λd2 A c2 s H vs Q E hr h=>?_)
 ·obtain⟨t,k,g,rfl,_⟩:=h;rfl
 ·obtain⟨t,k,g,rfl,hT,hk,Z,a0,q⟩:=h
  refine⟨_,zG (zN (i:=2) scWorks.nd rfl (Or.inl rfl) (zM zX (zW (zA (zL zl zE (zH hD hr (by decide) (zA (pv 0) (zA zE zB)))) (zA (zL zl zE (zH hD hr (by decide) (zA (pv 0) (zA zE zB)))) zB)))
    (zr wW (by rfl) b5 dD (zA (yJ zq (zH hD hr (by decide) (zA (pv 0) (zA zE zB))) zE (zQ _)) zB)) (λ_ _=>rfl)))
   (zG (zN (i:=3) scWorks.nd rfl (Or.inl rfl) (zW zB))
   (zG (yV bU rfl (xB rfl Y (zA (pv 2) zB)) (zJ (i:=4) scWorks.nd rfl (Or.inl rfl))
    (zG (zN (i:=5) scWorks.nd rfl (Or.inl rfl) (wT (zV xU (pv 2) zE (zQ _)) (zH hM hr (by decide) (zA (pv 0) zB)) (zL zl zE (zH hD hr (by decide) (zA (pv 0) (zA zE zB))))))
    (zI (yZ (yc bH cP cQ xV (pv 3) (zA (zH hW hr (by decide) (zA (pv 0) (zA (pv 5) (zA (pv 1) (zA (pv 4) (zA (pv 2) zB)))))) zB))))))
   (zI (zP (zH hS hr (by decide) (zA (pv 3) zB)))))),?_⟩
  dsimp only [zb];left;refine za hT (by lia) (by decide) (by decide) λr1 H1 a1 b1 T1 e1 _=>?_;left;refine za T1 (by lia) (by decide) (by decide) λr2 H2 a2 b2 T2 e2 _=>?_;left;refine⟨len2 (by show 2<=1000;decide),λp hp=>?_⟩;have np:p≠t:=T2.ne hp;left;refine za (T2.ext (.laid (ts :=[]) hp) (by simp)) (by lia) (by decide) (by decide) λr3 H3 a3 b3 T3 e3 k3=>?_;left;refine zv ?_;left;refine .inr ⟨_,rfl,?_⟩;have e4:Ext [t] H H3:=(e1.trans e2).trans ((Ext.laid hp).trans e3);have hL:SqL K H3 p [V.int (1+r1),V.int (5+r2)]:=SqL.of (by rw [k3 p np,zC]);obtain⟨n,d3,d4,en⟩:∃n:Int,1<=n/\n<=10/\atI [V.int (1+r1),V.int (5+r2)] (if decide (r3=0)=true then (1:Int) else 0)=some (.int n):=by
   cases c:decide (r3=0) with
   | true=>exact⟨5+r2,by lia,by lia,rfl⟩
   | false=>exact⟨1+r1,by lia,by lia,rfl⟩
  refine zR hL en ?_;clear en hL k3 e3 hp np;left;refine⟨len2 (bB _),λl hl=>?_⟩;have D:l≠t:=T3.ne hl;have c3:H l=none:=e4.none (by simpa using D) hl;left
  refine⟨n,rfl,by lia,by lia,wf (lo:=0) (n:=n.toNat) (λi a5 G => ∃(d:List Addr) (ws:List (List Blk)) (o4 o5:Option V),a5 = [some (.ref t),some (.int g),some (.int n),some (.ref l),o4,o5]/\d.length=i/\(∀w∈ws,∃m:Int,1<=m/\m<=12/\WorkOk m n w)/\(∀w∈ws,∀b∈w,b.ds.length<=12) /\
   l∉d/\(∀a∈d,H a=none/\a≠t)/\d.Nodup/\Tape G t (k+3+2003*i)/\Ext [l,t] H3 G/\G l=some (.lst (d.map V.ref))/\WorksE (yo H (l::t::d) G) G d ws) ?_ ?_ ?_⟩
  ·exact⟨[],[],_,_,rfl,rfl,by simp,by simp,by simp,by simp,.nil,T3.ext (ts :=[]) (.laid hl) (by simp),.laid hl,zC,.nil⟩
  ·rintro i a5 G hi ⟨d,ws,o4,o5,rfl,b6,a6,a4,a7,a8,b7,T',e',I,hA⟩ N_ B_ C_ R_ hN_ hC_ hR_;have d5:i<10:=by lia
   have EH:Ext [l,t] H G:=(e4.mono (by simp)).trans e';left;have b8:∀(m:Int) (W u:Hp) (a:Addr) (w1:List Blk) (bs:List V),1<=m->m<=12->Ext [t] G W->W a=none->a≠t->Tape u t (k+3+2003*(i+1))->Ext [t] W u->WorkOk m n w1->(∀b∈w1,b.ds.length<=12)->u a=some (.lst bs)->DenEL (yo W [a,t] u) (w1.map blkD) bs -> ∀o4 o5:Option V,
     u l=some (.lst (d.map V.ref)) /\ ∃(B:List Addr) (a9:List (List Blk)) (c4 c5:Option V),[some (V.ref t),some (.int g),some (.int n),some (.ref l),o4,o5] = [some (V.ref t),some (.int g),some (.int n),some (.ref l),c4,c5]/\B.length=i+1/\(∀w∈a9,∃m:Int,1<=m/\m<=12/\WorkOk m n w)/\(∀w∈a9,∀b∈w,b.ds.length<=12) /\
     l∉B/\(∀a∈B,H a=none/\a≠t)/\B.Nodup/\Tape (upd u l (.lst (d.map V.ref ++ [V.ref a]))) t (k+3+2003*(i+1))/\Ext [l,t] H3 (upd u l (.lst (d.map V.ref ++ [V.ref a])))/\(upd u l (.lst (d.map V.ref ++ [V.ref a]))) l=some (.lst (B.map V.ref))/\WorksE (yo H (l::t::B) (upd u l (.lst (d.map V.ref ++ [V.ref a])))) (upd u l (.lst (d.map V.ref ++ [V.ref a]))) B a9:=by
    intro m W u a w1 bs Z a0 X ha C T6 e6 J L M v o4 o5;have l5:W l=some (.lst (d.map V.ref)):=X _ _ (by simpa using D) I;have l6:u l=some (.lst (d.map V.ref)):=e6 _ _ (by simpa using D) l5;have b0:a≠l:=(zF l5 ha).symm;have N:G a=none:=X.none (by simpa using C) ha;have c6:H a=none:=EH.none (by simp [b0,C]) N;have b9:a∉d:=λhm=>by
     obtain⟨j,hj,e⟩:=bI hm;obtain⟨_,c7,_,O,_⟩:=hA.get (i:=j) (a:=a) (by rw [aD hj,e]);rw [N] at O;cases O
    have E6:Ext [l,t] G (upd u l (.lst (d.map V.ref ++ [V.ref a]))):=(X.mono (by simp)).trans ((e6.mono (by simp)).trans (.put (by simp)));refine⟨l6,d ++ [a],ws ++ [w1],o4,o5,rfl,by rw [aI,b6];rfl,?_,?_,by simp [a7,b0.symm],?_,?_,?_,e'.trans E6,by rw [zC,aJ];rfl,?_⟩
    ·intro w hw;rcases aK.mp hw with z | z
     ·exact a6 w z
     ·rw [aH.mp z];exact⟨m,Z,a0,J⟩
    ·intro w hw;rcases aK.mp hw with z | z
     ·exact a4 w z
     ·rw [aH.mp z];exact L
    ·intro b hb;rcases aK.mp hb with z | z
     ·exact a8 b z
     ·rw [aH.mp z];exact⟨c6,C⟩
    ·exact cF.mpr ⟨b7,by simp,by intro x hx y hy;simp at hy;subst hy;intro e;subst e;exact b9 hx⟩
    ·exact T6.ext (ts :=[l]) (.put (by simp)) (by simpa using D.symm)
    ·have key:Same (yo H (l::t::d) G) (yo H (l::t::(d ++ [a])) (upd u l (.lst (d.map V.ref ++ [V.ref a])))):=λb o e=>by
      obtain⟨h1,h2,h3⟩:=wC e;have nb:b≠a:=λz=>by rw [z,N] at h3;cases h3
      have c8:b ∉ [l,t]:=λz=>h2 (by rcases aV.mp z with z | z <;> simp_all)
      rw [yC h1 (λz=>h2 (by
       rcases aV.mp z with z | z
       ·simp [z]
       ·rcases aV.mp z with z | z
        ·simp [z]
        ·rcases aK.mp z with z | z
         ·simp [z]
         ·exact absurd (by simpa using z) nb))]
      exact E6 _ _ c8 h3
     refine (hA.mono key λb hb o e=>?_).snoc (bs:=bs) ?_ (v.mono λb o e=>?_)
     ·have R:b≠l:=λz=>a7 (z▸hb);exact E6 _ _ (by simp [R,(a8 b hb).2]) e
     ·rw [zD b0];exact M
     ·obtain⟨h1,h2,h3⟩:=wC e;have R:b≠l:=λz=>by rw [z,l5] at h1;cases h1
      have b4:b≠t:=λz=>h2 (by simp [z]);have c9:b≠a:=λz=>h2 (by simp [z]);have c0:G b=none:=X.none (by simpa using b4) h1
      rw [yC (EH.none (by simp [R,b4]) c0) (by
       intro z;rcases aV.mp z with z | z
       ·exact R z
       ·rcases aV.mp z with z | z
        ·exact b4 z
        ·rcases aK.mp z with z | z
         ·obtain⟨j,hj,e⟩:=bI z;obtain⟨_,c7,_,O,_⟩:=hA.get (i:=j) (a:=b) (by rw [aD hj,e]);rw [c0] at O;cases O
         ·exact c9 (by simpa using z)),zD R]
      exact h3
   refine ite2 (λd0=>?_) (λd0=>?_)
   ·left;refine Qp T' (by lia) λm W S T T5 X=>?_;left;refine yD (X _ _ (by simpa using D) I) ?_;left;refine⟨t,_,m,g,_,n,rfl,T5,by lia,S,T,Z,a0,by lia,by lia,by lia,by lia,λa w1 bs u ha C T6 e6 J L M v=>?_⟩;obtain⟨l6,U⟩:=b8 m W u a w1 bs S T X ha C (T6.mono (by lia)) e6 J L M v _ _;left;exact yd l6 (zZ (by rw [aB];lia)) (hN_ _ _ U)
   ·left;refine za T' (by lia) (by decide) (by decide) λr W S T T5 X _=>?_;left;refine yD (X _ _ (by simpa using D) I) ?_;left;refine⟨t,_,1+r,g,_,n,rfl,T5,by lia,by lia,by lia,Z,a0,by lia,by lia,by lia,by lia,λa w1 bs u ha C T6 e6 J L M v=>?_⟩;obtain⟨l6,U⟩:=b8 (1+r) W u a w1 bs (by lia) (by lia) X ha C (T6.mono (by lia)) e6 J L M v _ _;left;exact yd l6 (zZ (by rw [aB];lia)) (hN_ _ _ U)
  ·rintro a5 G ⟨d,ws,o4,o5,rfl,b6,a6,a4,a7,a8,b7,T',e',I,hA⟩;left;have d6:=hA.len;refine⟨l,ws,rfl,.list I (qOf hA yo_same),⟨by rw [show ((ws.length:Nat):Int)=n by lia];exact a6,by lia,by lia⟩,λl2 d1 H4 e6 dW c1 _=>?_⟩;left;exact q l2 d1 H4 (T'.ext (ts :=[]) e6 (by simp) |>.mono (by lia)) (((e4.mono (by simp)).trans e' |>.drop c3).trans (e6.mono (by simp))) dW c1
end
section
variable{P:Program}{w:World}{K:PySem.W.Frag}{mg:Str->Option Value}{base:Heap}
abbrev sLed:Stmt:=top 1
theorem scLed:FnScope ["starts","nexts","seen","due","place"] ["starts","nexts"] (zU sLed):=⟨rfl,rfl,rfl,by decide +kernel,rfl,by decide +kernel,by decide +kernel⟩
theorem qRu{f:Addr}{fd:FuncData}(F:Fun K "led_to" "led_to" sLed f fd)(r:mg "list" = none):FnOk P w K mg base CX0 1 f fd ["starts","nexts"] (qVi K):=by
 refine F.ok scLed (λvs H Q E h=>?_) (λb0 A Z s H vs Q E hr h=>?_)
 ·obtain⟨st,R,g,m,u,B,rfl,_⟩:=h;rfl
 ·obtain⟨st,R,g,m,u,B,rfl,a0,a1,C,hm,a2,b1,q⟩:=h;have hu:=yW hr
  refine⟨_,zG (zN (i:=2) scLed.nd rfl (Or.inl rfl) wX)
   (zG (zN (i:=3) scLed.nd rfl (Or.inl rfl) (zr vQ (by rfl) r cI (zA (pv 0) zB)))
   (zG (uA bU (kJ (pv 3) (λ_=>rfl))
    (zG (zN (i:=4) scLed.nd rfl (Or.inl rfl) (uH bH fH fI kM (pv 3)))
    (zI (zn (vJ (kO hu (pv 4) (pv 2)))
     (zG (xX hu (pv 2) (pv 4) zk rfl)
     (zI (yZ (yc bH fQ fR uJ (pv 3) (zA (QI hu (pv 1) (pv 4) (zW zB) ⟨rfl,rfl,rfl,rfl⟩) zB)))))
     zh))))
   (zI (zP (pv 2))))),?_⟩
  dsimp only [zb,zg];left;have b2:=C.len;have few:∀x,(nxt g x).length<=2:=λx=>(xP C x).few;refine Qn λd hd=>?_;left;have E0:Ext [] H (upd H d (.dK [])) :=.laid hd;refine⟨st,_,rfl,.inl (E0.toSame.seq a0),λe D=>?_⟩;have n:d≠e:=zF zC D;have o:H e=none:=E0.none (by simp) D;left;have a3:LedI H st R d e g B [] B (upd (upd H d (.dK [])) e (.lst (B.map V.int))):=by
   refine⟨E0.trans (.laid D),?_,zC,List.nodup_nil,(λ_ h=>absurd h (by simp)),λx j=>?_,(λ_ h=>absurd h (by simp)),λs hs =>.inr hs,bB _,by lia⟩
   ·rw [zD n,zC];rfl
   ·exact⟨x,j,.refl⟩
  refine⟨LedW H st R d e g B,⟨_,[],B,none,rfl,rfl,a3⟩,?_⟩;rintro μ S G ⟨b,due,o4,rfl,rfl,I⟩;refine xZ (v :=.ref e) rfl ⟨!(due.map V.int).isEmpty,.inl ⟨_,SqL.of I.hdu,rfl⟩,?_⟩;rcases List.eq_nil_or_concat due with h | ⟨a,y,h⟩
  ·subst h;refine iteF ?_;left;exact q d b G hd I.ext I.hd I.nod I.end_
  ·have h:due=a ++ [y]:=by rw [h,List.concat_eq_append]
   have he:(!(due.map V.int).isEmpty)=true:=by rw [h];simp
   rw [he];refine iteT ⟨λS G => ∃m',m'<(g.length - cnt (λx=>decide (x∈b)) g.length)*3+due.length/\LedW H st R d e g B m' S G,λ_ _ h=>h,?_⟩;obtain⟨s0,J,L⟩:=I.rd y (by rw [h];simp);obtain⟨y0,y1⟩:=L.range C (a2 s0 J);have hc:=wI (λx=>decide (x∈b)) g.length;have a4:due.length=a.length+1:=by rw [h];simp
   have b3:=I.fewd;have b4:=I.few;left;refine yD I.hdu ?_;refine⟨e,due.map V.int,.int y,rfl,rfl,I.hdu,by rw [h];simp,?_⟩;have M:(due.map V.int).dropLast=a.map V.int:=by rw [h];simp
   rw [M];have d1:upd G e (.lst (a.map V.int)) d=some (.dK (b.map λk=>((Sum.inl k:Key),V.bl true))):=by rw [zD n];exact I.hd
   have e1:Ext [] H (upd G e (.lst (a.map V.int))):=((I.ext.mono (us :=[e]) (by simp)).trans (.put (by simp))).drop o;have u1:upd G e (.lst (a.map V.int)) e=some (.lst (a.map V.int)):=zC;generalize upd G e (.lst (a.map V.int))=H1 at *;left;refine⟨d,_,rfl,DGet.k (k:=Sum.inl y) d1,?_⟩;rw [jt];by_cases N:y∈b
   ·rw [if_pos N];refine yr (iteF ?_);left;refine⟨_,by rw [a4];exact eS _,b,a,_,rfl,rfl,e1,d1,u1,I.nod,I.rk,λx j=>I.rd x (by rw [h];exact bA _ j),λk hk c l=>?_,?_,I.few,by lia⟩
    ·rcases I.clo k hk c l with z | z
     ·exact .inl z
     ·rw [h] at z;rcases aK.mp z with z | z
      ·exact .inr z
      ·rw [aH.mp z];exact .inl N
    ·intro s1 O;rcases I.one s1 O with z | z
     ·exact .inl z
     ·rw [h] at z;rcases aK.mp z with z | z
      ·exact .inr z
      ·rw [aH.mp z];exact .inl N
   ·rw [if_neg N];refine yr (iteT ?_);left;refine⟨d,_,rfl,DPut.k (k:=Sum.inl y) d1 (zZ (by rw [aB];lia)),?_⟩;have T:putK (b.map λk=>((Sum.inl k:Key),V.bl true)) (Sum.inl y) (V.bl true)=(b ++ [y]).map λk=>((Sum.inl k:Key),V.bl true):=by
     rw [uK _ (by rw [jt,if_neg N]),aJ];rfl
    rw [T];have d2:upd H1 d (.dK ((b ++ [y]).map λk=>((Sum.inl k:Key),V.bl true))) d=some (.dK ((b ++ [y]).map λk=>((Sum.inl k:Key),V.bl true))):=zC;have Y:Ext [] H (upd H1 d (.dK ((b ++ [y]).map λk=>((Sum.inl k:Key),V.bl true)))):=((e1.mono (us :=[d]) (by simp)).trans (.put (by simp))).drop hd;have u2:upd H1 d (.dK ((b ++ [y]).map λk=>((Sum.inl k:Key),V.bl true))) e=some (.lst (a.map V.int)):=by rw [zD n.symm];exact u1
    generalize upd H1 d (.dK ((b ++ [y]).map λk=>((Sum.inl k:Key),V.bl true)))=H2 at *;obtain⟨a5,U,a6⟩:=a1;obtain⟨c,a7,a8⟩:=a6 y y0 (by lia);left;refine yD u2 ?_;left;refine⟨R,rfl,.inl ⟨a5,.inl (Y _ _ (by simp) U)⟩,?_⟩;left;refine⟨len2 (bB _),λe0 a9=>?_⟩;have W:Ext [] H2 (upd H2 e0 (.lst [])) :=.laid a9;refine⟨some (.ref c),?_,?_⟩
    ·have:=DGet.k (k:=Sum.inl y) ((Y.trans W) _ _ (by simp) U);rw [a7] at this;exact this
    left;have b5:=few y;have X:∀x,x∈b->x∈b ++ [y]:=λx j=>bA _ j;have b6:=uT (p:=λx=>decide (x∈b)) (q:=λx=>decide (x∈b ++ [y])) (x:=y) (λi hi=>decide_eq_true (X i (of_decide_eq_true hi))) (decide_eq_true (by simp)) (decide_eq_false N) g.length y0 (by lia);have b7:=wI (λx=>decide (x∈b ++ [y])) g.length;refine⟨e,c,a.map V.int,(nxt g y).map V.int,rfl,rfl,W _ _ (by simp) u2,(Y.trans W) _ _ (by simp) a8,len2 (by rw [aB,aB];lia),?_⟩;refine⟨_,?_,b ++ [y],a++nxt g y,_,rfl,rfl,?_,?_,?_,?_,?_,?_,?_,?_,?_,?_⟩
    ·rw [aI];lia
    ·exact (((Y.trans W).mono (us :=[e]) (by simp)).trans (.put (by simp))).drop o
    ·rw [zD n];exact W _ _ (by simp) d2
    ·rw [zC,aJ]
    ·rw [cF];refine⟨I.nod,by simp,λx j z hz=>?_⟩;rw [aH.mp hz];rintro rfl;exact N j
    ·intro x j;rcases aK.mp j with z | z
     ·exact I.rk x z
     ·rw [aH.mp z];exact⟨s0,J,L⟩
    ·intro x j;rcases aK.mp j with z | z
     ·exact I.rd x (by rw [h];exact bA _ z)
     ·exact⟨s0,J,.step L z⟩
    ·intro k hk c' l;rcases aK.mp hk with z | z
     ·rcases I.clo k z c' l with t | t
      ·exact .inl (bA _ t)
      ·rw [h] at t;rcases aK.mp t with t | t
       ·exact .inr (bA _ t)
       ·exact .inl (aZ _ t)
     ·rw [aH.mp z] at l;exact .inr (aZ _ l)
    ·intro s1 O;rcases I.one s1 O with t | t
     ·exact .inl (bA _ t)
     ·rw [h] at t;rcases aK.mp t with t | t
      ·exact .inr (bA _ t)
      ·exact .inl (aZ _ t)
    ·rw [aI,bN];lia
    ·rw [aI];lia
structure LedT(H:Hp)(d du:Addr)(N:Pl->List Pl)(starts U ks due:List Pl)(H':Hp):Prop where
 ext:Ext [] H H'
 hd:H' d=some (.dT (trueD ks))
 hdu:∃vs,H' du=some (.lst vs)/\PlsAt H' vs due
 nod:ks.Nodup
 rk:∀x∈ks,∃s∈starts,RT N s x
 rd:∀x∈due,∃s∈starts,RT N s x
 clo:∀k∈ks,∀c∈N k,c∈ks\/c∈due
 one:∀s∈starts,s∈ks\/s∈due
 fewd:due.length<=8000+8000*ks.length
def LedWT(H:Hp)(st nd d du:Addr)(N:Pl->List Pl)(starts U:List Pl)(μ : Nat)(σ':St)(H':Hp):Prop := ∃(ks due:List Pl) (o4:Option V),μ = (U.length - ks.length)*8001+due.length /\ σ' = [some (.ref st),some (.ref nd),some (.ref d),some (.ref du),o4]/\LedT H d du N starts U ks due H'
theorem LedT.end_{H e:Hp}{d f:Addr}{N:Pl->List Pl}{a U b:List Pl}(h:LedT H d f N a U b [] e)(x:Pl):x∈b ↔ ∃s∈a,RT N s x:=by
 have key:∀s∈a,∀y,RT N s y->y∈b:=by
  intro s c y r
  induction r with
  | refl=>exact (h.one s c).elim id λz=>absurd z (by simp)
  | step _ g i=>exact (h.clo _ i _ g).elim id λz=>absurd z (by simp)
 exact⟨h.rk x,λ⟨s,c,r⟩=>key s c x r⟩
theorem qRt{f:Addr}{fd:FuncData}(F:Fun K "led_to" "led_to" sLed f fd)(Y:mg "list" = none):FnOk P w K mg base CX0 1 f fd ["starts","nexts"] (qVh K):=by
 refine F.ok scLed (λvs H Q E h=>?_) (λd6 A b6 s H vs Q E hr h=>?_)
 ·obtain⟨st,nd,D,a,U,N,rfl,_⟩:=h;rfl
 ·obtain⟨st,nd,D,a,U,N,rfl,b7,b8,b9,a6,a7,hN,hU,d7,q⟩:=h;have hu:=yW hr
  refine⟨_,zG (zN (i:=2) scLed.nd rfl (Or.inl rfl) kQ)
   (zG (zN (i:=3) scLed.nd rfl (Or.inl rfl) (zr vQ (by rfl) Y cI (zA (pv 0) zB)))
   (zG (uA bU (kJ (pv 3) (λ_=>rfl))
    (zG (zN (i:=4) scLed.nd rfl (Or.inl rfl) (uH bH fH fI kM (pv 3)))
    (zI (zn (vJ (kO hu (pv 4) (pv 2)))
     (zG (xX hu (pv 2) (pv 4) zk rfl)
     (zI (yZ (yc bH fQ fR uJ (pv 3) (zA (QI hu (pv 1) (pv 4) (zW zB) ⟨rfl,rfl,rfl,rfl⟩) zB)))))
     zh))))
   (zI (zP (pv 2))))),?_⟩
  dsimp only [zb,zg];left;refine (show ∀p,H p=none->_ from λd hd=>?_);left;have E0:Ext [] H (upd H d (.dT [])) :=.laid hd;refine⟨st,_,rfl,.inl (E0.toSame.seq b7),λb Z=>?_⟩;have G:d≠b:=zF zC Z;have L:H b=none:=E0.none (by simp) Z;left;have c0:LedT H d b N a U [] a (upd (upd H d (.dT [])) b (.lst D)):=by
   have e:Ext [] H (upd (upd H d (.dT [])) b (.lst D)):=E0.trans (.laid Z);refine⟨e,?_,⟨D,zC,b8.mono e.tk⟩,List.nodup_nil,(λ_ h=>absurd h (by simp)),λx n=>⟨x,n,.refl⟩,(λ_ h=>absurd h (by simp)),λs hs =>.inr hs,by simp;lia⟩;rw [zD G,zC];rfl
  refine⟨LedWT H st nd d b N a U,⟨_,[],a,none,rfl,rfl,c0⟩,?_⟩;rintro μ u r ⟨g,due,o4,rfl,rfl,I⟩;obtain⟨c4,j,a0⟩:=I.hdu;refine xZ (v :=.ref b) rfl ⟨!c4.isEmpty,.inl ⟨_,SqL.of j,rfl⟩,?_⟩;rcases List.eq_nil_or_concat due with h | ⟨l,y,h⟩
  ·subst h;cases a0;refine iteF ?_;left;exact q d g r hd I.ext I.hd I.nod I.end_
  ·have h:due=l ++ [y]:=by rw [h,List.concat_eq_append]
   rw [h] at a0;obtain⟨o,v,rfl,a8,vb,rfl,c5⟩:=a0.last;have he:(!(o ++ [V.ref vb]).isEmpty)=true:=by simp
   rw [he];refine iteT ⟨λu r => ∃m',m'<(U.length - g.length)*8001+due.length/\LedWT H st nd d b N a U m' u r,λ_ _ h=>h,?_⟩;obtain⟨s0,a1,a2⟩:=I.rd y (by rw [h];simp);have c6:=a2.within a7 (a6 s0 a1);have M:∀x∈g,x∈U:=λx n=>by
    obtain⟨s1,c7,r1⟩:=I.rk x n;exact r1.within a7 (a6 s1 c7)
   have d8:=xm I.nod M;have c8:due.length=l.length+1:=by rw [h];simp
   have d9:=I.fewd;have e4:=a8.len;left;refine yD j ?_;refine⟨b,o ++ [V.ref vb],.ref vb,rfl,rfl,j,by simp,?_⟩;rw [List.dropLast_concat];have d1:upd r b (.lst o) d=some (.dT (trueD g)):=by rw [zD G];exact I.hd
   have e1:Ext [] H (upd r b (.lst o)):=((I.ext.mono (us :=[b]) (by simp)).trans (.put (by simp))).drop L;have u1:upd r b (.lst o) b=some (.lst o):=zC;have a3:TK r (upd r b (.lst o)) :=.put (by intro ys z;rw [j] at z;cases z);have B:=a8.mono a3;have m:=a3 _ _ c5;generalize upd r b (.lst o)=H1 at d1 e1 u1 a3 B m ⊢;left;refine⟨d,_,rfl,DGet.t (k:=plK y) d1 m,?_⟩;rw [wm];by_cases hy:y∈g
   ·rw [if_pos hy];refine yr (iteF ?_);left;refine⟨_,by rw [c8];exact eS _,g,l,_,rfl,rfl,e1,d1,⟨o,u1,B⟩,I.nod,I.rk,λx n=>I.rd x (by rw [h];exact bA _ n),λk hk c C=>?_,λs hs=>?_,by lia⟩
    ·rcases I.clo k hk c C with z | z
     ·exact .inl z
     ·rw [h] at z;rcases aK.mp z with z | z
      ·exact .inr z
      ·rw [aH.mp z];exact .inl hy
    ·rcases I.one s hs with z | z
     ·exact .inl z
     ·rw [h] at z;rcases aK.mp z with z | z
      ·exact .inr z
      ·rw [aH.mp z];exact .inl hy
   ·rw [if_neg hy];refine yr (iteT ?_);left;refine⟨d,_,rfl,DPut.t (k:=plK y) d1 m (vc (by unfold trueD;rw [aB];lia)),?_⟩;have a9:putK (trueD g) (plK y) (V.bl true)=trueD (g ++ [y]):=by
     rw [uK _ (by rw [wm,if_neg hy])];unfold trueD;rw [aJ];rfl
    rw [a9];have d2:upd H1 d (.dT (trueD (g ++ [y]))) d=some (.dT (trueD (g ++ [y]))):=zC;have e2:Ext [] H (upd H1 d (.dT (trueD (g ++ [y])))):=((e1.mono (us :=[d]) (by simp)).trans (.put (by simp))).drop hd;have u2:upd H1 d (.dT (trueD (g ++ [y]))) b=some (.lst o):=by rw [zD G.symm];exact u1
    have a4:TK H1 (upd H1 d (.dT (trueD (g ++ [y])))) :=.put (by intro ys z;rw [d1] at z;cases z);have O:=B.mono a4;have S:=a4 _ _ m;generalize upd H1 d (.dT (trueD (g ++ [y])))=H2 at d2 e2 u2 a4 O S ⊢;have b0:=b9.mono e2;obtain⟨c9,a5,d0⟩:=b0;have T:(g ++ [y]).Nodup:=by
     rw [cF];refine⟨I.nod,by simp,λx n z hz=>?_⟩;rw [aH.mp hz];rintro rfl;exact hy n
    have b1:=xm (l2:=U) T λx n=>by
     rcases aK.mp n with z | z
     ·exact M x z
     ·rw [aH.mp z];exact c6
    rw [aI,bN] at b1;have e5:=hN y;left;refine yD u2 ?_;left;refine⟨nd,rfl,.inr ⟨c9,.inl a5⟩,?_⟩;left;refine⟨len2 (bB _),λW d4=>?_⟩;have J:Ext [] H2 (upd H2 W (.lst [])) :=.laid d4;have u3:=J _ _ (by simp) u2;have d3:=J _ _ (by simp) d2;have b2:=O.mono J.tk;have EE:Ext [] H (upd H2 W (.lst [])):=e2.trans J;have b3:upd H2 W (.lst []) W=some (.lst []):=zC;have b4:∀(c:Addr) (cvs:List V) (H3:Hp),H3=upd H2 W (.lst [])->H3 c=some (.lst cvs)->PlsAt H3 cvs (N y) -> ∀R:St->Hp->Prop,(∀ u r,(∃m',m'<(U.length - g.length)*8001+due.length/\LedWT H st nd d b N a U m' u r)->R u r) -> ∀o4:Option V,
      oq (.ref b) [.ref c] H3 (λ_ H4=>R [some (.ref st),some (.ref nd),some (.ref d),some (.ref b),o4] H4):=by
     rintro c cvs H3 rfl hc b5 R hR o4;have e6:=b5.len;refine⟨b,c,o,cvs,rfl,rfl,u3,hc,by rw [dX];lia,hR _ _ ?_⟩;have d5:TK (upd H2 W (.lst [])) (upd (upd H2 W (.lst [])) b (.lst (o++cvs))) :=.put (by intro ys z;rw [u3] at z;cases z);refine⟨_,?_,g ++ [y],l++N y,_,rfl,rfl,?_,?_,⟨o++cvs,zC,(b2.append b5).mono d5⟩,T,?_,?_,?_,?_,?_⟩
     ·rw [aI,aI,bN];lia
     ·exact ((EE.mono (us :=[b]) (by simp)).trans (.put (by simp))).drop L
     ·rw [zD G];exact d3
     ·intro x n;rcases aK.mp n with z | z
      ·exact I.rk x z
      ·rw [aH.mp z];exact⟨s0,a1,a2⟩
     ·intro x n;rcases aK.mp n with z | z
      ·exact I.rd x (by rw [h];exact bA _ z)
      ·exact⟨s0,a1,.step a2 z⟩
     ·intro k hk c' C;rcases aK.mp hk with z | z
      ·rcases I.clo k z c' C with t | t
       ·exact .inl (bA _ t)
       ·rw [h] at t;rcases aK.mp t with t | t
        ·exact .inr (bA _ t)
        ·exact .inl (aZ _ t)
      ·rw [aH.mp z] at C;exact .inr (aZ _ C)
     ·intro s hs;rcases I.one s hs with t | t
      ·exact .inl (bA _ t)
      ·rw [h] at t;rcases aK.mp t with t | t
       ·exact .inr (bA _ t)
       ·exact .inl (aZ _ t)
     ·rw [aI,aI,bN];lia
    have X:=J.tk _ _ S;rcases d0 y with ⟨z1,z2⟩ | ⟨c,cvs,c1,c2,c3⟩
    ·refine⟨none,?_,?_⟩
     ·have:=DGet.t (k:=plK y) (J _ _ (by simp) a5) X;rw [z1] at this;exact this
     left;exact b4 W [] _ rfl b3 (by rw [z2];exact .nil) _ (λ_ _ z=>z) _
    ·refine⟨some (.ref c),?_,?_⟩
     ·have:=DGet.t (k:=plK y) (J _ _ (by simp) a5) X;rw [c1] at this;exact this
     left;exact b4 c cvs _ rfl (J _ _ (by simp) c2) (c3.mono J.tk) _ (λ_ _ z=>z) _
theorem qXa{f:Addr}{fd:FuncData}(F:Fun K "led_to" "led_to" sLed f fd)(a:mg "list" = none):FnOk P w K mg base CX0 1 f fd ["starts","nexts"] (ju K) :=
 ⟨λd H Q E h=>h.elim ((qRu (P:=P) (w:=w) (base:=base) F a).len d H Q E) ((qRt (P:=P) (w:=w) (base:=base) F a).len d H Q E),
   λA b s H c e d Q E g i j k h=>h.elim ((qRu F a).run A b s H c e d Q E g i j k) ((qRt F a).run A b s H c e d Q E g i j k)⟩
end
section
variable{P:Program}{w:World}{K:PySem.W.Frag}{mg:Str->Option Value}{base:Heap}
abbrev iS:Stmt:=top 10
abbrev iT:Stmt:=top 11
theorem qTw:FnScope ["deed","box"] ["deed","box"] (zU iS):=⟨rfl,rfl,rfl,by decide +kernel,rfl,by decide +kernel,by decide +kernel⟩
theorem qWh:FnScope ["deed","box"] ["deed","box"] (zU iT):=⟨rfl,rfl,rfl,by decide +kernel,rfl,by decide +kernel,by decide +kernel⟩
theorem vp{a b:TE}{σ : St}{H:Hp}{Q:VK}(h:a σ H λx d => ∃c,x = .bl c/\if c=true then b σ d Q else Q (.bl false) d):tAndV a b σ H Q:=h
theorem qZj{a b:TE}{σ : St}{H:Hp}{Q:VK}(h:a σ H λx d => ∃c,x = .bl c/\if c=true then Q (.bl true) d else b σ d Q):tOrV a b σ H Q:=h
theorem vF{K:PySem.W.Frag}{H:Hp}{d:Deed}{v:V}(h:Den K H (deedD d) v):∃p,v = .ref p/\SqT K H p (V.str (dword d)::(dargs d).map V.int):=by
 rw [deed_is] at h;obtain⟨p,i,rfl,e,a⟩:=h.ofTuple;obtain⟨j,k,rfl,b,c⟩:=a.ofCons;have f:=b.ofStr;have g:=c.ints;subst f g;exact⟨p,rfl,e⟩
theorem vG(d:Deed):atI (V.str (dword d)::(dargs d).map V.int) ((1:Nat):Int)=some (V.int (darg d)):=by
 obtain⟨r,a⟩:=qPa d;rw [a];exact zK rfl
theorem qRq{f b:Addr}{fd:FuncData}(F:Fun K "writes_box" "writes_box" iS f fd)(c:mg "WRITING" = some (.ref b))(e:Writing K b):FnOk P w K mg base CX0 1 f fd ["deed","box"] (xq wrB K):=by
 refine F.ok qTw (λj H Q E h=>?_) (λk A g s H j Q E m h=>?_)
 ·obtain⟨v,d,x,rfl,_⟩:=h;rfl
 ·obtain⟨v,d,x,rfl,l,q⟩:=h;refine⟨_,zI (zP (xR (yJ xt (zM yg (pv 0) zE (λ_ _=>rfl)) (kG (v :=.ref b) rfl c rfl) rfl) (xN (yJ zq (zM yg (pv 0) zE (λ_ _=>rfl)) (pv 1) (zQ _))))),?_⟩;dsimp only [zb];obtain⟨p,rfl,i⟩:=vF l;left;refine vp ?_;left;refine zw i (show atI _ ((0:Nat):Int)=some (V.str (dword d)) from zK rfl) ?_;left;refine⟨b,[V.str "set",.str "add"],rfl,.inr (.inr e),rfl,rfl,?_⟩;rw [if_neg aL,deed_in];refine⟨_,rfl,?_⟩;have a:=q H (.refl _ _);unfold wrB at a;cases hw:(wr d).isSome with
  | true =>
   rw [hw] at a;refine iteT ?_;left;refine zw i (vG d) ?_;left;exact zv a
  | false =>
   rw [hw] at a;exact iteF a
theorem qUf{f b:Addr}{fd:FuncData}(F:Fun K "reads_box" "reads_box" iT f fd)(c:mg "READING" = some (.ref b))(e:qTj K b):FnOk P w K mg base CX0 1 f fd ["deed","box"] (xq rdB K):=by
 refine F.ok qWh (λk H Q E h=>?_) (λl A g s H k Q E t h=>?_)
 ·obtain⟨v,d,x,rfl,_⟩:=h;rfl
 ·obtain⟨v,d,x,rfl,m,q⟩:=h;refine⟨_,zI (zP (xR (yJ xt (zM yg (pv 0) zE (λ_ _=>rfl)) (kG (v :=.ref b) rfl c rfl) rfl) (xN (yJ xt (pv 1) (yM vP (pv 0) (yL zE) yK) rfl)))),?_⟩;dsimp only [zb];obtain⟨p,rfl,j⟩:=vF m;left;refine vp ?_;left;refine zw j (show atI _ ((0:Nat):Int)=some (V.str (dword d)) from zK rfl) ?_;left;refine⟨b,[V.str "add",.str "tell"],rfl,.inr (.inr e),rfl,rfl,?_⟩;rw [if_neg aL,qT1];refine⟨_,rfl,?_⟩;cases hw:ue d with
  | true =>
   refine iteT ?_;left;refine⟨1,rfl,?_⟩;left;refine⟨p,_,rfl,j,?_,λn i=>?_⟩
   ·intro h;have:=h.1;revert this;have r:(V.str (dword d)::(dargs d).map V.int).length=(dargs d).length+1:=by simp
    have:=(qL3 d).1;rw [r];unfold HT.sIx;simp
    try lia
   rw [cut1];refine⟨n,(dargs d).map V.int,rfl,.inr (SqT.of zC),rfl,wH _,?_⟩;rw [if_neg aL,wG];have a:=q _ (Ext.laid (o :=.tup ((dargs d).map V.int)) i);unfold rdB at a;rw [hw] at a;exact a
  | false =>
   have a:=q H (.refl _ _);unfold rdB at a;rw [hw] at a;exact iteF a
end
section
variable{P:Program}{w:World}{K:PySem.W.Frag}{mg:Str->Option Value}{base:Heap}
theorem qV4(xs:List V)(n:Nat):cutV xs none (some (n:Int))=xs.take n:=by
 unfold cutV;rw [HT.sIx_none,HT.sIx_nat,List.drop_zero,Nat.sub_zero];by_cases h:n<=xs.length
 ·rw [Nat.min_eq_left h]
 ·rw [gQ (by lia),cB (aF _),cB (by lia)]
theorem DenL.taken{K:PySem.W.Frag}{G:Hp}:∀ {ds:List PyData} {vs:List V} (n:Nat),DenL K G ds vs->DenL K G (ds.take n) (vs.take n)
 | [],vs,n,h=>by have:=h.ofNil;subst this;simpa using DenL.nil
 | d::ds,vs,0,h=>by simpa using DenL.nil
 | d::ds,vs,n+1,h=>by
  obtain⟨v,r,rfl,a,b⟩:=h.ofCons;exact .cons a (DenL.taken n b)
def iU(K:PySem.W.Frag):Sp:=λvs H Q _ => ∃(v:V) (ds:List Deed) (x:Int),vs = [v,.int x]/\Den K H (.list (ds.map deedD)) v/\ds.length<=100 /\
 ∀(l:Addr) (us:List V) (H':Hp),H l=none->Ext [] H H'->H' l=some (.lst us)->DenL K H' ((till x ds).map deedD) us->Q (.ref l) H'
abbrev sTill:Stmt:=top 12
theorem scTill:FnScope ["deeds","box","at","deed"] ["deeds","box"] (zU sTill):=⟨rfl,rfl,rfl,by decide +kernel,rfl,by decide +kernel,by decide +kernel⟩
theorem qX5{f:Addr}{fd:FuncData}(F:Fun K "till_write" "till_write" sTill f fd)(p:mg "enumerate" = none)(r:mg "list" = none)(I:Has P w K mg base "writes_box" 1 ["deed","box"] (xq wrB K)):FnOk P w K mg base CX0 2 f fd ["deeds","box"] (iU K):=by
 refine F.ok scTill (λW H Q E h=>?_) (λX A J s H W Q E Y h=>?_)
 ·obtain⟨v,C,x,rfl,_⟩:=h;rfl
 ·obtain⟨v,C,x,rfl,u,m,q⟩:=h
  refine⟨_,zG (yV bU rfl (vU rfl p (zA (pv 0) zB)) (xS (n:=2) rfl (ze (zJ (i:=2) scTill.nd rfl (Or.inl rfl)) (ze (zJ (i:=3) scTill.nd rfl (Or.inl rfl)) yI)))
    (zI (zn (yE K rfl (zH I Y (by decide) (zA (pv 3) (zA (pv 1) zB))) (λ_=>rfl)) (zI (zP (yM xC (pv 0) yK (yL (zL zl (pv 2) zE))))) zh)))
   (zI (zP (zr vQ (by rfl) r cI (zA (pv 0) zB)))),?_⟩
  dsimp only [zb,zg];obtain⟨a,c,rfl,g,j⟩:=u.ofList;have L:c.length=C.length:=by rw [j.len,aB]
  left;refine⟨a,rfl,⟨c,g⟩,Qk (xs:=c) (λi k t => ∃(D G:Option V),k = [some (.ref a),some (.int x),D,G]/\Ext [] H t /\ ∀e∈C.take i,wrB x e=false) ?_ ?_ ?_ ?_⟩
  ·exact⟨_,_,rfl,.refl _ _,by simp⟩
  ·rintro i k t Z ⟨D,G,rfl,o,b⟩;exact o.toSame.seq g
  ·rintro i y k t pt hy ⟨D,G,rfl,o,b⟩ M;obtain⟨dd,N,O⟩:=j.get hy;obtain⟨d,u,rfl⟩:=zj N;have Z:i<C.length:=(aE.mp u).1;have T:Ext [] t (upd t pt (.tup [.int i,y])) :=.laid M;refine yO (SqT.of zC) rfl ?_;have B:=o.trans T;generalize upd t pt (.tup [.int i,y])=H2 at T B ⊢;left;refine⟨y,d,x,rfl,O.mono B.toSame,λH3 R=>?_⟩;refine⟨wrB x d,rfl,?_⟩;cases hw:wrB x d with
   | true =>
    refine iteT ?_;left;refine⟨(i:Int)+1,rfl,?_⟩;refine⟨a,c,rfl,(B.trans R).toSame.seq g,λl m=>?_⟩;rw [show (i:Int)+1=((i+1:Nat):Int) by lia,qV4];have S:=B.trans R;refine q l _ _ (S.none (by simp) m) (S.trans (.laid m)) zC ?_;rw [qHh b u hw,gG];exact DenL.taken _ (j.mono (S.trans (.laid m)).toSame)
   | false =>
    refine iteF ?_;left;refine⟨_,_,rfl,B.trans R,λe U=>?_⟩;rw [zd u] at U;rcases aK.mp U with z | z
    ·exact b e z
    ·rw [aH.mp z];exact hw
  ·rintro k t ⟨D,G,rfl,o,b⟩;rw [L,aY] at b;left;refine⟨a,c,rfl,.inl (o.toSame.seq g),λl m=>?_⟩;refine q l _ _ (o.none (by simp) m) (o.trans (.laid m)) zC ?_;rw [qJi b];exact j.mono (o.trans (.laid m)).toSame
end
section
variable{P:Program}{w:World}{K:PySem.W.Frag}{mg:Str->Option Value}{base:Heap}
abbrev iV:Stmt:=top 14
theorem scBegins:FnScope ["works","number","at","box","deeds","end","met"] ["works","number","at","box"] (zU iV):=⟨rfl,rfl,rfl,by decide +kernel,rfl,by decide +kernel,by decide +kernel⟩
theorem qO0{m:Int}{ns:List Int}(h:NsOk m ns):∃a:Str,endD ns = .tuple (.str a::ns.map .int)/\True:=by
 rcases h with z | ⟨x,z,_⟩ | ⟨x,y,z,_⟩ <;> subst z
 ·exact⟨_,rfl,True.intro⟩
 ·exact⟨_,rfl,True.intro⟩
 ·exact⟨_,rfl,True.intro⟩
theorem qNk{H:Hp}{A:Addr}{o:List (List Blk)}{n a:Nat}{b:Blk}(B:Den K H (yF o) (.ref A))(e:blkAt o ((n:Int),(a:Int))=some b):∃(vs bs:List V) (k l:Addr) (dl:Addr) (c:List V) (m:V),SqL K H A vs/\atI vs (n:Int)=some (.ref k)/\SqL K H k bs/\atI bs (a:Int)=some (.ref l)/\SqT K H l [.ref dl,m]/\SqL K H dl c/\DenL K H (b.ds.map deedD) c/\Den K H (endD b.ns) m:=by
 rw [wM] at e;cases hw:o[n]? with
 | none=>rw [hw] at e;cases e
 | some w1 =>
  rw [hw] at e;have e:w1[a]? = some b:=e;obtain⟨C,vs,D,p,g⟩:=B.ofList;cases D;obtain⟨F,q,r⟩:=g.get' (i:=n) (d:=workD w1) (by rw [aS,hw];rfl);obtain⟨k,bs,rfl,s,h⟩:=r.ofList;obtain⟨G,t,u⟩:=h.get' (i:=a) (d:=blkD b) (by rw [aS,e];rfl);obtain⟨l,I,rfl,E,v⟩:=u.ofTuple;obtain⟨J,L,rfl,w,x⟩:=v.ofCons;obtain⟨m,M,rfl,y,f⟩:=x.ofCons;have f:=f.ofNil;subst f;obtain⟨dl,c,rfl,z,j⟩:=w.ofList;exact⟨vs,bs,k,l,dl,c,m,p,zK q,s,zK t,E,z,j,y⟩
theorem qS0{f:Addr}{fd:FuncData}(F:Fun K "begins_met" "begins_met" iV f fd)(b0:mg "any" = none)(b9:Has P w K mg base "till_write" 2 ["deeds","box"] (iU K))(c0:Has P w K mg base "writes_box" 1 ["deed","box"] (xq wrB K)):FnOk P w K mg base CX0 3 f fd ["works","number","at","box"] (qN4 K):=by
 refine F.ok scBegins (λvs H Q E h=>?_) (λd2 A c1 s H vs Q E hr h=>?_)
 ·obtain⟨wa,ws,n,b,x,rfl,_⟩:=h;rfl
 ·obtain⟨wa,ws,n,a,x,rfl,hW,c2,c3,q⟩:=h
  refine⟨_,zG (wU (zM zX (zM zX (pv 0) (pv 1) (λ_ _=>rfl)) (pv 2) (λ_ _=>rfl)) (xS (n:=2) rfl (ze (zJ (i:=4) scBegins.nd rfl (Or.inl rfl)) (ze (zJ (i:=5) scBegins.nd rfl (Or.inl rfl)) yI))))
   (zG (vV (i:=6) ["deed"] [] rfl (.of rfl) scBegins.nd rfl (Or.inl rfl) (zu (zH b9 hr (by decide) (zA (pv 4) (zA (pv 3) zB)))) (λ_ _ _ _=>zJ (i:=0) (by show ((["deed"]:List Str)).Nodup;decide) rfl (Or.inl rfl)) (λ_ _ _ _ =>.cons (zV zq (zM (xl K rfl) (pv 0) zE (λ_ _=>rfl)) yB (zQ _)) .nil) (λ_ _ _ _=>zm (zA (zM (xl K rfl) (pv 0) zE (λ_ _=>rfl)) (zA zE zB))))
   (zG (zn (xM (yE K rfl (zO (jk hr.hd) (by rfl) b0 fZ (zA (zp ["deed"] [3] rfl (.of rfl) (zu (pv 4)) (λ_ _ _ _=>zJ (i:=0) (by show ((["deed","box"]:List Str)).Nodup;decide) rfl (Or.inl rfl)) (λ_ _ _ _ =>.nil) (λ_ _ _ _=>zH c0 hr (by decide) (zA (pv 0) (zA (pv 1) zB)))) zB)) (λ_=>rfl)))
    (zI (yZ (yc bH fQ fR uJ (pv 6) (zA (zp ["to"] [1] rfl (.of rfl) (kH (yM vP (pv 5) (yL zE) yK)) (λ_ _ _ _=>zJ (i:=0) (by show ((["to","number"]:List Str)).Nodup;decide) rfl (Or.inl rfl)) (λ_ _ _ _ =>.nil) (λ_ _ _ _=>zm (zA (pv 1) (zA (pv 0) zB)))) zB)))) zh)
   (zI (zP (pv 6))))),?_⟩
  dsimp only [zb,zg];obtain⟨b,hb⟩:=mem_places.mp c3;obtain⟨m,n',w1,d3,d4,hm,d5,d6,I⟩:=c2.blk hb;obtain⟨vs,bs,wb,pb,dl,b1,ve,s1,s2,s3,s4,s5,s6,s7,s8⟩:=qNk hW hb;left;refine zR s1 s2 ?_;left;refine zR s3 s4 ?_;refine yO s5 rfl ?_;left;have d7:=I.few;refine⟨.ref dl,b.ds,x,rfl,.list s6 s7,by lia,λlt b2 H1 d8 e1 J L=>?_⟩;have M:b2.length=(till x b.ds).length:=by rw [L.len,aB]
  have d1:=wp x b.ds;refine⟨lt,rfl,⟨_,SqL.of J⟩,λl hl=>?_⟩;have b3:lt≠l:=zF J hl;refine zx (xs:=b2) (λj g G => ∃(D:Option V) (us:List V),g = [D]/\Ext [l] H1 G/\G l=some (.lst us)/\PlsAt G us ((((till x b.ds).take j).filterMap yQ).map λc=>(c,0))) ?_ ?_ ?_ ?_
  ·exact⟨none,[],rfl,.laid hl,zC,.nil⟩
  ·rintro j g G hj ⟨D,us,rfl,eG,o,r⟩;exact SqL.of (eG _ _ (by simpa using b3) J)
  ·rintro j y g G R hy ⟨D,us,rfl,eG,o,r⟩ hR;obtain⟨dd,a3,a4⟩:=L.get hy;obtain⟨d,hd,rfl⟩:=zj a3;obtain⟨p,rfl,hp⟩:=vF a4;have b4:=(eG.drop hl).toSame.seqT hp;have c4:j<(till x b.ds).length:=(aE.mp hd).1;have a5:=r.len;have b5:=eR yQ ((till x b.ds).take j);rw [aN] at b5;rw [aB] at a5;have N:((till x b.ds).take (j+1)).filterMap yQ=((till x b.ds).take j).filterMap yQ ++ [d].filterMap yQ:=by rw [zd hd,dL]
   left;refine zw b4 (show atI _ ((0:Nat):Int)=some (V.str (dword d)) from zK rfl) ?_;left;refine uQ ?_;rw [qL2];left;cases hw:wn d with
   | true =>
    refine iteT (iteT ?_);left;refine zw b4 (vG d) ?_;left;refine⟨len2 (by show 2<=1000;decide),λW v=>?_⟩;have B:W≠l:=(zF o v).symm;have tk:TK G (upd (upd G W (.tup [.int (darg d),.int 0])) l (.lst (us ++ [.ref W]))):=(Ext.laid v).tk.trans (.put (by intro ys z;rw [zD B.symm,o] at z;cases z));refine⟨us,by rw [zD B.symm];exact o,zZ (by lia),hR _ _ ⟨_,us ++ [.ref W],rfl,eG.trans ((Ext.laid v).trans (.put (by simp))),zC,?_⟩⟩;rw [N,bW,qTb d hw,aJ];exact (r.mono tk).append (.one (by rw [zD B,zC]))
   | false =>
    refine iteF (iteF (hR _ _ ⟨_,us,rfl,eG,o,?_⟩));have hn:yQ d=none:=by
     unfold wn at hw;cases z:yQ d with
     | none=>rfl
     | some y=>rw [z] at hw;cases hw
    rw [N,bW,hn,fV,cH];exact r
  ·rintro g G ⟨D,us,rfl,eG,o,r⟩;rw [M,aY] at r;have EG:Ext [] H G:=e1.trans (eG.drop hl);have a6:H l=none:=e1.none (by simp) hl;have a5:=r.len;have b5:=eR yQ (till x b.ds);rw [aB] at a5;left;have b6:=EG.toSame.seq s6;refine⟨dl,rfl,⟨_,b6⟩,λlc O=>?_⟩;have d9:l≠lc:=zF o O;refine zx (xs:=b1) (λj g S => ∃(D:Option V),g = [D,some (.int x)]/\Ext [lc] G S/\S lc=some (.lst (((b.ds.take j).map (wrB x)).map V.bl))) ?_ ?_ ?_ ?_
   ·exact⟨none,rfl,.laid O,zC⟩
   ·rintro j g S hj ⟨D,rfl,e2,u⟩;exact (e2.drop O).toSame.seq b6
   ·rintro j y g S R hy ⟨D,rfl,e2,u⟩ hR;obtain⟨dd,a3,a4⟩:=s7.get hy;obtain⟨d,hd,rfl⟩:=zj a3;have c4:j<b.ds.length:=(aE.mp hd).1;left;refine iteT ?_;left;refine⟨y,d,x,rfl,a4.mono (EG.trans (e2.drop O)).toSame,λH3 X=>?_⟩;refine⟨_,X _ _ (by simp) u,zZ (by rw [aB,aB,aN];lia),hR _ _ ⟨_,rfl,e2.trans ((X.mono (by simp)).trans (.put (by simp))),?_⟩⟩;rw [zC,zd hd,aJ,aJ];rfl
   ·rintro g S ⟨D,rfl,e2,u⟩;have b7:b1.length=b.ds.length:=by rw [s7.len,aB]
    rw [b7,aY] at u;left;refine⟨lc,b.ds.map (wrB x),rfl,SqL.of u,?_⟩;refine⟨wrote x b.ds,?_,?_⟩
    ·have e:(b.ds.map (wrB x)).any id=wrote x b.ds:=by unfold wrote;rw [List.any_map];rfl
     rw [e];rfl
    have T:Ext [] G S:=e2.drop O;have a7:=T _ _ (by simp) o;have a0:=r.mono T.tk;have a1:metOf ws x ((n:Int),(a:Int))=metB x n b:=by unfold metOf;rw [hb]
    cases hw:wrote x b.ds with
    | true =>
     refine iteF ?_;left;refine q l us S a6 (EG.trans T) a7 ?_;rw [a1];unfold metB;rw [hw,if_pos rfl,cH];exact a0
    | false =>
     refine iteT ?_;left;refine yD a7 ?_;left;obtain⟨wd,c5,_⟩:=qO0 I.ns;rw [c5] at s8;obtain⟨en,e0,rfl,c6,c7⟩:=s8.ofTuple;obtain⟨v3,r3,rfl,c8,c9⟩:=c7.ofCons;have X:=c8.ofStr;subst X;have e4:=c9.ints;subst e4;have e5:=I.ns.few;refine⟨1,rfl,?_⟩;left;refine⟨en,_,rfl,(EG.trans T).toSame.seqT c6,?_,λp hp=>?_⟩
     ·intro h;have:=h.1;revert this;have hn:(V.str wd::b.ns.map V.int).length=b.ns.length+1:=by simp
      rw [hn];unfold HT.sIx;simp
      try lia
     rw [cut1];have X:Ext [] S (upd S p (.tup (b.ns.map V.int))) :=.laid hp;have a8:=X _ _ (by simp) a7;have a2:=a0.mono X.tk;have Y:upd S p (.tup (b.ns.map V.int)) p=some (.tup (b.ns.map V.int)):=zC;generalize upd S p (.tup (b.ns.map V.int))=G3 at X a8 a2 Y ⊢;refine⟨p,rfl,⟨_,SqT.of Y⟩,λle Z=>?_⟩;have d0:p≠le:=zF Y Z;have e6:l≠le:=zF a8 Z;refine qNp (xs:=b.ns.map V.int) (λj g U => ∃(D:Option V) (ts:List V),g = [D,some (.int n)]/\Ext [le] G3 U/\U le=some (.lst ts)/\PlsAt U ts ((b.ns.take j).map λt=>((n:Int),t))) ?_ ?_ ?_ ?_
     ·exact⟨none,[],rfl,.laid Z,zC,.nil⟩
     ·rintro j g U hj ⟨D,ts,rfl,e4,k,C⟩;exact SqT.of (e4 _ _ (by simpa using d0) Y)
     ·rintro j y g U R hy ⟨D,ts,rfl,e4,k,C⟩ hR;obtain⟨t,ht,rfl⟩:=zj hy;have hj:j<b.ns.length:=(aE.mp ht).1;have M:=C.len;rw [aB,aN] at M;left;refine iteT ?_;left;refine⟨len2 (by show 2<=1000;decide),λW v=>?_⟩;have B:W≠le:=(zF k v).symm;have tk:TK U (upd (upd U W (.tup [.int n,.int t])) le (.lst (ts ++ [.ref W]))):=(Ext.laid v).tk.trans (.put (by intro ys z;rw [zD B.symm,k] at z;cases z));refine⟨ts,by rw [zD B.symm];exact k,zZ (by lia),hR _ _ ⟨_,ts ++ [.ref W],rfl,e4.trans ((Ext.laid v).trans (.put (by simp))),zC,?_⟩⟩;rw [zd ht,aJ];exact (C.mono tk).append (.one (by rw [zD B,zC]))
     ·rintro g U ⟨D,ts,rfl,e4,k,C⟩;rw [aB,aY] at C;have M:=C.len;rw [aB] at M;have a9:=e4.drop Z;have b8:=a9 _ _ (by simp) a8;left;refine⟨l,le,us,ts,rfl,rfl,b8,k,len2 (by lia),?_⟩;left;have tk:TK U (upd U l (.lst (us++ts))) :=.put (by intro ys z;rw [b8] at z;cases z);refine q l (us++ts) _ a6 ?_ zC ?_
      ·exact ((((EG.trans T).trans (X.trans a9)).mono (us :=[l]) (by simp)).trans (.put (by simp))).drop a6
      ·rw [a1];unfold metB;rw [hw,if_neg aL];exact ((a2.mono a9.tk).append C).mono tk
end
section
variable{P:Program}{w:World}{K:PySem.W.Frag}{mg:Str->Option Value}{base:Heap}
def yT(ws:List (List Blk))(n:Nat):List Pl:=(List.range n).flatMap λ(n:Nat)=>(List.range ((ws[n]?).getD []).length).map λ(a:Nat)=>((n:Int),(a:Int))
theorem qIr{b:List (List Blk)}{n:Nat}{w:List Blk}(h:b[n]? = some w):yT b (n+1)=yT b n++(List.range w.length).map λ(a:Nat)=>((n:Int),(a:Int)):=by
 unfold yT;rw [eK,fA];simp [h]
theorem qU2(n a:Nat):((List.range (a+1)).map λ(a:Nat)=>((n:Int),(a:Int)))=((List.range a).map λ(a:Nat)=>((n:Int),(a:Int))) ++ [((n:Int),(a:Int))]:=by
 rw [eK,aJ];rfl
theorem r_seqC{t u:TS}{D:Ends}{σ : St}{H:Hp}(C:St->Hp->Prop)(c:∀ a b,C a b->u D a b)(d:(∀ a b,C a b->u D a b)->t { D with nx:=u D } σ H):tSeq t u D σ H:=d c
theorem qZo{d ty e:TE}{σ : St}{H:Hp}{Q:VK}(h:d σ H λx f => ∃a,x = .ref a/\IsD f a/\ty σ f λy g=>e σ g λz c => ∃kvs k b,y = .ref b/\c a=some (.dT kvs)/\c b=some (.tup (k.map kV))/\kvs.length<sizeLine /\
 (∀v,valV kvs k=some v->Q v c)/\(valV kvs k=none->Q z (upd c a (.dT (putK kvs k z))))):qVb d ty e σ H Q:=h
theorem qV2(g:List (List Blk))(n a:Nat)(s:n<g.length):(yT g n++(List.range a).map λ(a:Nat)=>((n:Int),(a:Int))).Nodup:=by
 have d:∀(k l:Nat),((List.range l).map λ(a:Nat)=>((k:Int),(a:Int))).Nodup:=λk l=>List.Pairwise.map _ (λx y h z=>h (by have:=(Prod.mk.inj z).2;lia)) List.nodup_range;have f:∀(k:Nat) (p:Pl),p∈yT g k->p.1<(k:Int):=λk p q=>by
  obtain⟨j,r,h⟩:=cG.mp q;obtain⟨b,_,rfl⟩:=aW.mp h;have:=bF.mp r;show (j:Int)<k;lia
 have all:∀k:Nat,(yT g k).Nodup:=by
  intro k
  induction k with
  | zero=>exact List.nodup_nil
  | succ k o =>
   unfold yT at o ⊢;rw [eK,fA,cF];refine⟨o,by simpa using d k _,λx m y i e=>?_⟩;have c:=f k x m;simp only [gD,List.flatMap_nil,cH] at i;obtain⟨b,_,rfl⟩:=aW.mp i;rw [e] at c;have c:(k:Int)<k:=c;lia
 rw [cF];refine⟨all n,d n a,λx m y i e=>?_⟩;have c:=f n x m;obtain⟨b,_,rfl⟩:=aW.mp i;rw [e] at c;have c:(n:Int)<n:=c;lia
abbrev iW:Stmt:=top 15
theorem scAwait:FnScope ["works","box","readers","behind","number","work","at","deeds","end","place"] ["works","box"] (zU iW):=⟨rfl,rfl,rfl,by decide +kernel,rfl,by decide +kernel,by decide +kernel⟩
theorem qUn{f:Addr}{fd:FuncData}(F:Fun K "awaiting" "awaiting" iW f fd)(a7:mg "enumerate" = none)(f4:mg "any" = none)(j0:Has P w K mg base "till_write" 2 ["deeds","box"] (iU K))(j1:Has P w K mg base "reads_box" 1 ["deed","box"] (xq rdB K))
  (j2:Has P w K mg base "begins_met" 3 ["works","number","at","box"] (qN4 K)) (j3:Has P w K mg base "led_to" 1 ["starts","nexts"] (ju K)):FnOk P w K mg base CX0 4 f fd ["works","box"] (qQ9 K):=by
 refine F.ok scAwait (λvs H Q E h=>?_) (λm9 A j4 s H vs Q E hr h=>?_)
 ·obtain⟨wa,l,x,rfl,_⟩:=h;rfl
 ·obtain⟨wa,l,x,rfl,hW,a5,q⟩:=h;have hu:=yW hr
  refine⟨_,zG (zN (i:=2) scAwait.nd rfl (Or.inl rfl) (zW zB))
   (zG (zN (i:=3) scAwait.nd rfl (Or.inl rfl) kQ)
   (zG (yV bU rfl (vU rfl a7 (zA (pv 0) zB)) (xS (n:=2) rfl (ze (zJ (i:=4) scAwait.nd rfl (Or.inl rfl)) (ze (zJ (i:=5) scAwait.nd rfl (Or.inl rfl)) yI)))
    (zI (yV bU rfl (vU rfl a7 (zA (pv 5) zB)) (xS (n:=2) rfl (ze (zJ (i:=6) scAwait.nd rfl (Or.inl rfl)) (ze (xS (n:=2) rfl (ze (zJ (i:=7) scAwait.nd rfl (Or.inl rfl)) (ze (zJ (i:=8) scAwait.nd rfl (Or.inl rfl)) yI))) yI)))
     (zG (zn (yE K rfl (zO (jk hr.hd) (by rfl) f4 fZ (zA (zp ["deed"] [1] rfl (.of rfl) (zu (zH j0 hr (by decide) (zA (pv 7) (zA (pv 1) zB)))) (λ_ _ _ _=>zJ (i:=0) (by show ((["deed","box"]:List Str)).Nodup;decide) rfl (Or.inl rfl)) (λ_ _ _ _ =>.nil) (λ_ _ _ _=>zH j1 hr (by decide) (zA (pv 0) (zA (pv 1) zB)))) zB)) (λ_=>rfl))
      (zI (yZ (yc bH cP cQ xV (pv 2) (zA (zm (zA (pv 4) (zA (pv 6) zB))) zB)))) zh)
     (zI (yV bU rfl (zu (zH j2 hr (by decide) (zA (pv 0) (zA (pv 4) (zA (pv 6) (zA (pv 1) zB)))))) (zJ (i:=9) scAwait.nd rfl (Or.inl rfl))
      (zI (yZ (yc bH cP cQ xV (qUc hu (pv 3) (pv 9) (zW zB) ⟨rfl,rfl,rfl,rfl⟩) (zA (zm (zA (pv 4) (zA (pv 6) zB))) zB))))))))))
   (zI (zP (zH j3 hr (by decide) (zA (pv 2) (zA (pv 3) zB))))))),?_⟩
  dsimp only [zb,zg];left;refine⟨len2 (bB _),λrd f5=>?_⟩;left;refine (show ∀p,_=none->_ from λt b8=>?_);left;have b9:rd≠t:=zF zC b8;have f6:H t=none:=by rw [zD b9.symm] at b8;exact b8
  have E1:Ext [] H (upd (upd H rd (.lst [])) t (.dT [])):=(Ext.laid f5).trans (.laid b8);have c0:upd (upd H rd (.lst [])) t (.dT []) rd=some (.lst []):=by rw [zD b9,zC]
  have f7:upd (upd H rd (.lst [])) t (.dT []) t=some (.dT []):=zC;generalize upd (upd H rd (.lst [])) t (.dT [])=I at E1 c0 f7 ⊢;obtain⟨n0,vs,ea,f8,f9⟩:=hW.ofList;cases ea;have j5:vs.length=l.length:=by rw [f9.len,aB]
  have m6:=qHp a5;have B:∀ {G:Hp},Ext [rd,t] I G->Ext [] H G:=λ{G} e=>(((E1.mono (us :=[rd,t]) (by simp)).trans e).drop f5).drop f6
  refine⟨wa,rfl,⟨vs,E1.toSame.seq f8⟩,Qo (xs:=vs) (λn o G => ∃(g:List V) (o4 o5 o6 o7 o8 N:Option V),o = [some (.ref wa),some (.int x),some (.ref rd),some (.ref t),o4,o5,o6,o7,o8,N]/\Ext [rd,t] I G/\G rd=some (.lst g)/\PlsAt G g ((yT l n).filter (yG l x)) /\
   NexB G t (yX l x (yT l n)) (λc=>I c=none) (22*(yT l n).length)) ?_ ?_ ?_ ?_⟩
  ·refine⟨[],_,_,_,_,_,_,rfl,.refl _ _,c0,.nil,[],f7,bB _,λp =>.inl ⟨rfl,rfl⟩,λp q c h=>?_⟩;cases h
  ·rintro n o G hn ⟨g,o4,o5,o6,o7,o8,N,rfl,eG,c1,X,hN⟩;exact (B eG).toSame.seq f8
  ·rintro n y o G pt hy ⟨g,o4,o5,o6,o7,o8,N,rfl,eG,c1,X,hN⟩ O N_ B_ C_ R_ hN_ hC_ hR_;obtain⟨dd,a8,d3⟩:=f9.get hy;obtain⟨wk,a6,rfl⟩:=zj a8;obtain⟨wb,bs,rfl,g0,c5⟩:=d3.ofList;have j6:bs.length=wk.length:=by rw [c5.len,aB]
   obtain⟨m,n1,n2,g1⟩:=a5.all wk (aM a6);have n3:=g1.len;have g2:∀p∈yT l n,p∈places l:=λp hp=>by
    unfold yT at hp;unfold places;obtain⟨k,hk,h⟩:=cG.mp hp;have n4:n<l.length:=(aE.mp a6).1;exact cG.mpr ⟨k,bF.mpr (by have:=bF.mp hk;lia),h⟩
   have e2:Ext [] G (upd G pt (.tup [.int n,.ref wb])) :=.laid O;refine yO (SqT.of zC) rfl ?_;have d4:Ext [rd,t] I (upd G pt (.tup [.int n,.ref wb])):=eG.trans (e2.mono (by simp));have g3:=e2 _ _ (by simp) c1;have c6:=X.mono e2.tk;have g4:=hN.mono e2 (by simp) (by simp) e2.tk;generalize upd G pt (.tup [.int n,.ref wb])=G2 at e2 d4 g3 c6 g4 ⊢;left
   refine⟨wb,rfl,⟨bs,(B d4).toSame.seq g0⟩,Qo (xs:=bs) (λa o G' => ∃(g:List V) (o6 o7 o8 N:Option V),o = [some (.ref wa),some (.int x),some (.ref rd),some (.ref t),some (.int n),some (.ref wb),o6,o7,o8,N]/\Ext [rd,t] I G'/\G' rd=some (.lst g)/\PlsAt G' g ((yT l n++(List.range a).map λ(a:Nat)=>((n:Int),(a:Int))).filter (yG l x)) /\
    NexB G' t (yX l x (yT l n++(List.range a).map λ(a:Nat)=>((n:Int),(a:Int)))) (λc=>I c=none) (22*(yT l n++(List.range a).map λ(a:Nat)=>((n:Int),(a:Int))).length)) ?_ ?_ ?_ ?_⟩
   ·refine⟨g,_,_,_,_,rfl,d4,g3,?_,?_⟩
    ·simpa using c6
    ·simpa using g4
   ·rintro a o G' ha ⟨g,o6,o7,o8,N,rfl,e',c2,C,Y⟩;exact (B e').toSame.seq g0
   ·rintro a v o G' d5 hv ⟨g,o6,o7,o8,N,rfl,e',c2,C,Y⟩ g5 N_ B_ C_ R_ hN_ hC_ hR_;obtain⟨dd,a8,j7⟩:=c5.get hv;obtain⟨b,hb,rfl⟩:=zj a8;have g6:=g1.blk b (aM hb);obtain⟨pb,cs,rfl,hc,j8⟩:=j7.ofTuple;obtain⟨vd,q1,rfl,g7,j9⟩:=j8.ofCons;obtain⟨ve,q2,rfl,n5,a9⟩:=j9.ofCons;have a9:=a9.ofNil;subst a9;have c7:blkAt l ((n:Int),(a:Int))=some b:=by rw [wM,a6];exact hb
    have k0:((n:Int),(a:Int))∈places l:=mem_places.mpr ⟨b,c7⟩;generalize d6:(yT l n++(List.range a).map λ(a:Nat)=>((n:Int),(a:Int)))=J at C Y;have d7:∀p∈J,p∈places l:=λp hp=>by
     rw [<-d6] at hp;rcases aK.mp hp with z | z
     ·exact g2 p z
     ·obtain⟨a',k1,rfl⟩:=aW.mp z;have n6:a<wk.length:=(aE.mp hb).1;have n7:=bF.mp k1;exact mem_places.mpr ⟨wk[a'],by rw [wM,a6];exact aD (by lia)⟩
    have n8:=C.len;have e3:Ext [] G' (upd G' d5 (.tup [.int a,.ref pb])) :=.laid g5;refine yO (SqT.of zC) rfl ?_;have c3:Ext [rd,t] I (upd G' d5 (.tup [.int a,.ref pb])):=e'.trans (e3.mono (by simp));have g8:=e3 _ _ (by simp) c2;have c8:=C.mono e3.tk;have g9:=Y.mono e3 (by simp) (by simp) e3.tk;generalize upd G' d5 (.tup [.int a,.ref pb])=G3 at e3 c3 g8 c8 g9 ⊢;left;refine yO ((B c3).toSame.seqT hc) rfl ?_
    with_reducible refine L2.vZ ?_
    with_reducible refine L2.yN ?_
    with_reducible refine L2.vZ ?_
    with_reducible refine L2.yN ?_
    with_reducible refine L2.va ?_
    with_reducible refine L2.va ?_
    have c9:yT l n++(List.range (a+1)).map (λ(a:Nat)=>((n:Int),(a:Int)))=J ++ [((n:Int),(a:Int))]:=by rw [qU2,<-eZ,d6]
    have n9:J.length<=300:=by
     have:=xm (l1:=J) (l2:=places l) (by rw [<-d6];exact qV2 l n a (aE.mp a6).1) d7;lia
    with_reducible refine r_seqC (λo G => ∃(g:List V),o = [some (.ref wa),some (.int x),some (.ref rd),some (.ref t),some (.int n),some (.ref wb),some (.int a),some vd,some ve,N]/\Ext [rd,t] I G/\G rd=some (.lst g)/\PlsAt G g ((J ++ [((n:Int),(a:Int))]).filter (yG l x))/\NexB G t (yX l x J) (λc=>I c=none) (22*J.length)) ?_ (λhC=>?_)
    ·rintro o G4 ⟨g,rfl,e4,k2,h0,k3⟩;left;refine⟨wa,l,n,a,x,rfl,hW.mono (B e4).toSame,a5,k0,λlm us H5 k4 Z d0 h5=>?_⟩;have k5:Ext [rd,t] I H5:=e4.trans (Z.mono (by simp));have o1:=jn a5 x ((n:Int),(a:Int));have k6:=h5.len
     refine⟨lm,rfl,⟨_,SqL.of d0⟩,wc (xs:=us) (λj o G => ∃(N:Option V),o = [some (.ref wa),some (.int x),some (.ref rd),some (.ref t),some (.int n),some (.ref wb),some (.int a),some vd,some ve,N]/\Ext [rd,t] I G/\G lm=some (.lst us)/\PlsAt G us (metOf l x ((n:Int),(a:Int)))/\G rd=some (.lst g)/\PlsAt G g ((J ++ [((n:Int),(a:Int))]).filter (yG l x)) /\
      NexB G t (yf l x J ((n:Int),(a:Int)) ((metOf l x ((n:Int),(a:Int))).take j)) (λc=>I c=none/\c≠lm) (22*J.length+j)) ?_ ?_ ?_ ?_⟩
     ·refine⟨_,rfl,k5,d0,h5,Z _ _ (by simp) k2,h0.mono Z.tk,?_⟩;rw [List.take_zero,qLj];obtain⟨L,z⟩:=k3;refine⟨L,Z _ _ (by simp) z.at_,z.few,λp=>?_,z.one⟩;rcases z.all p with y | ⟨c,vs,h1,h2,h3,h4⟩
      ·exact .inl y
      ·exact .inr ⟨c,vs,h1,⟨h2,zF h3 k4⟩,Z _ _ (by simp) h3,h4.mono Z.tk⟩
     ·rintro j o G hj ⟨N,rfl,e6,T,a0,b0,a1,S⟩;exact SqL.of T
     ·rintro j v o G hv ⟨N,rfl,e6,T,a0,b0,a1,L,S⟩ N_ B_ C_ R_ hN_ hC_ hR_;obtain⟨r,hr,rb,rfl,k7⟩:=a0.get hv;have k8:j<(metOf l x ((n:Int),(a:Int))).length:=(aE.mp hr).1;have o2:=S.few;left;refine qZo ?_;left;refine⟨t,rfl,.inr ⟨L,.inl S.at_⟩,?_⟩;left;refine⟨len2 (bB _),λe0 U=>?_⟩;have e7:Ext [] G (upd G e0 (.lst [])) :=.laid U;have D:=S.mono e7 (by simp) (by simp) e7.tk;have a2:upd G e0 (.lst []) e0=some (.lst []):=zC;have d8:I e0=none:=by
       by_cases z1:e0=rd
       ·rw [z1,b0] at U;cases U
       ·by_cases z2:e0=t
        ·rw [z2,S.at_] at U;cases U
        ·exact e6.none (by simp [z1,z2]) U
      have d9:e0≠lm:=(zF T U).symm;have a3:=e7 _ _ (by simp) T;have e1:=e7 _ _ (by simp) b0;have b1:=a0.mono e7.tk;have b2:=a1.mono e7.tk;have f0:Ext [rd,t] I (upd G e0 (.lst [])):=e6.trans (e7.mono (by simp));have d1:=e7.tk _ _ k7;have k9:∀(p:Pl) (c:Addr),valV L (plK p)=some (.ref c)->c≠e0:=λp c hc=>by
       rcases S.all p with z | ⟨c',o3,h1,_,h3,_⟩
       ·rw [z.1] at hc;cases hc
       ·rw [h1] at hc;cases hc;exact zF h3 U
      generalize upd G e0 (.lst [])=G7 at e7 D a2 a3 e1 b1 b2 f0 d1 ⊢;have put:∀(M:Hp) (kv:List (List Key×V)) (c:Addr) (u:List V),NexK M t (yf l x J ((n:Int),(a:Int)) ((metOf l x ((n:Int),(a:Int))).take j)) (λc=>I c=none/\c≠lm) (22*J.length+j+1) kv->valV kv (plK r)=some (.ref c)->M c=some (.lst u)->PlsAt M u (yf l x J ((n:Int),(a:Int)) ((metOf l x ((n:Int),(a:Int))).take j) r)->Ext [rd,t] I M->M lm=some (.lst us)->PlsAt M us (metOf l x ((n:Int),(a:Int)))->M rd=some (.lst g)->PlsAt M g ((J ++ [((n:Int),(a:Int))]).filter (yG l x)) ->
        ∀(pt:Addr),M pt=none -> ∀N:Option V,u.length<100000/\(∃(l0:Option V),[some (V.ref wa),some (.int x),some (.ref rd),some (.ref t),some (.int n),some (.ref wb),some (.int a),some vd,some ve,N] = [some (V.ref wa),some (.int x),some (.ref rd),some (.ref t),some (.int n),some (.ref wb),some (.int a),some vd,some ve,l0]/\Ext [rd,t] I (upd (upd M pt (.tup [.int n,.int a])) c (.lst (u ++ [.ref pt])))/\(upd (upd M pt (.tup [.int n,.int a])) c (.lst (u ++ [.ref pt]))) lm=some (.lst us)/\PlsAt (upd (upd M pt (.tup [.int n,.int a])) c (.lst (u ++ [.ref pt]))) us (metOf l x ((n:Int),(a:Int)))/\(upd (upd M pt (.tup [.int n,.int a])) c (.lst (u ++ [.ref pt]))) rd=some (.lst g)/\PlsAt (upd (upd M pt (.tup [.int n,.int a])) c (.lst (u ++ [.ref pt]))) g ((J ++ [((n:Int),(a:Int))]).filter (yG l x)) /\
         NexB (upd (upd M pt (.tup [.int n,.int a])) c (.lst (u ++ [.ref pt]))) t (yf l x J ((n:Int),(a:Int)) ((metOf l x ((n:Int),(a:Int))).take (j+1))) (λc=>I c=none/\c≠lm) (22*J.length+(j+1))):=by
       intro M kv c u hK hc l3 h6 e8 h7 h8 l4 h9 pt O N;have e9:Ext [] M (upd M pt (.tup [.int n,.int a])) :=.laid O;have l5:=hK.mono e9 (by simp) (by simp) e9.tk;have i0:=e9 _ _ (by simp) l3;have i1:=l5.app (p:=((n:Int),(a:Int))) (pt:=pt) hc i0 (h6.mono e9.tk) zC;have a4:I c=none/\c≠lm:=by
        rcases hK.all r with z | ⟨c',_,h1,h2,_⟩
        ·rw [z.1] at hc;cases hc
        ·rw [h1] at hc;cases hc;exact h2
       have tk:TK M (upd (upd M pt (.tup [.int n,.int a])) c (.lst (u ++ [.ref pt]))):=e9.tk.trans (.put (by intro ys z;rw [i0] at z;cases z));have l6:rd≠c:=λz=>by rw [<-z,c0] at a4;cases a4.1
       have p0:=h6.len;have m7:(yf l x J ((n:Int),(a:Int)) ((metOf l x ((n:Int),(a:Int))).take j) r).length<=22*J.length+22:=by
        unfold yf;rw [aI,aB];have h1:=jp a5 x r J;have h2:=bC (λy=>decide (y=r)) ((metOf l x ((n:Int),(a:Int))).take j);rw [aN] at h2;lia
       refine⟨by lia,N,rfl,?_,?_,h8.mono tk,?_,h9.mono tk,?_⟩
       ·exact ((e8.trans (e9.mono (by simp))).mono (us :=[c,rd,t]) (by simp)).trans (.put (by simp)) |>.drop a4.1
       ·rw [zD a4.2.symm];exact e9 _ _ (by simp) h7
       ·rw [zD l6];exact e9 _ _ (by simp) l4
       ·rw [zd hr,qJ8];exact⟨kv,i1⟩
      refine⟨L,plK r,rb,rfl,D.at_,d1,vc (by lia),λv hv=>?_,λhv=>?_⟩
      ·rcases D.all r with z | ⟨c,u,h1,h2,h3,h4⟩
       ·rw [z.1] at hv;cases hv
       ·rw [h1] at hv;cases hv;refine yD h3 ?_;left;refine⟨len2 (by show 2<=1000;decide),λpt O=>?_⟩;obtain⟨i2,b3⟩:=put G7 L c u ⟨D.at_,by have:=D.few;lia,D.all,D.one⟩ h1 h3 h4 f0 a3 b1 e1 b2 pt O _;left;exact yd (Ext.laid (ts :=[]) O _ _ (by simp) h3) (vc (by lia)) (hN_ _ _ b3)
      ·have l7:=D.new hv a2 ⟨d8,d9⟩ k9;have l8:e0≠t:=yq a2 D.at_ (by intro z;cases z);have i3:TK G7 (upd G7 t (.dT (putK L (plK r) (.ref e0)))) :=.put (by intro ys z;rw [D.at_] at z;cases z);have f1:upd G7 t (.dT (putK L (plK r) (.ref e0))) e0=some (.lst []):=by rw [zD l8];exact a2
       have l9:yf l x J ((n:Int),(a:Int)) ((metOf l x ((n:Int),(a:Int))).take j) r = []:=by
        rcases D.all r with z | ⟨c,u,h1,_⟩
        ·exact z.2
        ·rw [h1] at hv;cases hv
       have m0:lm≠t:=yq a3 D.at_ (by intro z;cases z);refine yD f1 ?_;left;refine⟨len2 (by show 2<=1000;decide),λpt O=>?_⟩;obtain⟨i2,b3⟩:=put _ _ e0 [] l7 (by rw [vR,if_pos rfl]) f1 (by rw [l9];exact .nil) (f0.trans (.put (by simp))) (by rw [zD m0];exact a3) (b1.mono i3) (by rw [zD b9];exact e1) (b2.mono i3) pt O _;left;exact yd (xs :=[]) (Ext.laid (ts :=[]) O _ _ (by simp) f1) (vc (by simp)) (hN_ _ _ b3)
     ·rintro o G ⟨N,rfl,e6,T,a0,b0,a1,S⟩;rw [k6,aY,qJ9] at S;refine L2.yH hN_ ?_;refine⟨g,_,_,_,_,rfl,e6,b0,?_,?_⟩
      ·rw [c9];exact a1
      ·rw [c9];obtain⟨L,z⟩:=S;refine⟨L,z.at_,?_,λp=>?_,z.one⟩
       ·have:=z.few;rw [aI,bN];lia
       ·rcases z.all p with y | ⟨c,vs,h1,h2,h3,h4⟩
        ·exact .inl y
        ·exact .inr ⟨c,vs,h1,h2.1,h3,h4⟩
    ·have i4:yG l x ((n:Int),(a:Int))=readB x b:=by unfold yG;rw [c7]
     have p1:=g6.few;have m8:=wp x b.ds;left;refine⟨vd,b.ds,x,rfl,g7.mono (B c3).toSame,by lia,λlt i5 H4 i2 e4 b4 b5=>?_⟩;have m1:i5.length=(till x b.ds).length:=by rw [b5.len,aB]
     refine⟨lt,rfl,⟨_,SqL.of b4⟩,λlc c4=>?_⟩;have m2:lt≠lc:=zF b4 c4;refine zx (xs:=i5) (λj o G => ∃(o0:Option V),o = [o0,some (.int x)]/\Ext [lc] H4 G/\G lc=some (.lst ((((till x b.ds).take j).map (rdB x)).map V.bl))) ?_ ?_ ?_ ?_
     ·exact⟨none,rfl,.laid c4,zC⟩
     ·rintro j o G hj ⟨o0,rfl,Z,W⟩;exact SqL.of (Z _ _ (by simpa using m2) b4)
     ·rintro j y o G R hy ⟨o0,rfl,Z,W⟩ hR;obtain⟨dd,a8,d3⟩:=b5.get hy;obtain⟨d,hd,rfl⟩:=zj a8;have k8:j<(till x b.ds).length:=(aE.mp hd).1;left;refine iteT ?_;left;refine⟨y,d,x,rfl,d3.mono (Z.drop c4).toSame,λH6 e6=>?_⟩;refine⟨_,e6 _ _ (by simp) W,zZ (by rw [aB,aB,aN];lia),hR _ _ ⟨_,rfl,Z.trans ((e6.mono (by simp)).trans (.put (by simp))),?_⟩⟩;rw [zC,zd hd,aJ,aJ];rfl
     ·rintro o G ⟨o0,rfl,Z,W⟩;rw [m1,aY] at W;have b6:Ext [] G3 G:=e4.trans (Z.drop c4);have b7:=b6 _ _ (by simp) g8;have d2:=c8.mono b6.tk;have i6:=g9.mono b6 (by simp) (by simp) b6.tk;have i7:Ext [rd,t] I G:=c3.trans (b6.mono (by simp));have m3:=bC (yG l x) J;left;refine⟨lc,(till x b.ds).map (rdB x),rfl,SqL.of W,?_⟩;refine⟨readB x b,?_,?_⟩
      ·have e:((till x b.ds).map (rdB x)).any id=readB x b:=by unfold readB;rw [List.any_map];rfl
       rw [e];rfl
      cases hw:readB x b with
      | true =>
       refine iteT ?_;left;refine yD b7 ?_;left;refine⟨len2 (by show 2<=1000;decide),λp2 f2=>?_⟩;have f3:p2≠rd:=(zF b7 f2).symm
       with_reducible refine L2.wE ?_
       refine yd (xs:=g) (by rw [zD f3.symm];exact b7) (zZ (by lia)) ?_;have tk:TK G (upd (upd G p2 (.tup [.int n,.int a])) rd (.lst (g ++ [.ref p2]))):=(Ext.laid f2).tk.trans (.put (by intro ys z;rw [zD f3.symm,b7] at z;cases z));have e6:Ext [rd] G (upd (upd G p2 (.tup [.int n,.int a])) rd (.lst (g ++ [.ref p2]))):=(Ext.laid f2).trans (.put (by simp));have i8:∀z ∈ [rd],¬I z=none:=λz hz y=>by
        have e:z=rd:=by simpa using hz
        rw [e,c0] at y;cases y
       refine hC _ _ ⟨g ++ [.ref p2],rfl,i7.trans (e6.mono (by simp)),zC,?_,i6.mono e6 (by simpa using b9.symm) i8 tk⟩;rw [cA,cT,if_pos (by rw [i4,hw]),eL];exact (d2.mono tk).append (.one (by rw [zD f3,zC]))
      | false =>
       refine iteF ?_
       with_reducible refine L2.xa ?_
       refine hC _ _ ⟨g,rfl,i7,b7,?_,i6⟩;rw [cA,cT,if_neg (by rw [i4,hw];exact aL),eL,cH];exact d2
   ·rintro o G' ⟨g,o6,o7,o8,N,rfl,e',c2,C,Y⟩;rw [j6] at C Y;rw [<-qIr a6] at C Y;left;exact⟨g,_,_,_,_,_,_,rfl,e',c2,C,Y⟩
  ·rintro o G ⟨g,o4,o5,o6,o7,o8,N,rfl,eG,c1,X,hN⟩;rw [j5] at X hN;have X:PlsAt G g ((places l).filter (yG l x)):=X;have hN:NexB G t (yX l x (places l)) (λc=>I c=none) (22*(places l).length):=hN;have m3:=bC (yG l x) (places l);left;refine .inr ⟨rd,t,g,(places l).filter (yG l x),places l,yX l x (places l),rfl,SqL.of c1,X,hN.toT,λp hp=>(bQ.mp hp).1,λp hp z hz=>(mem_behind.mp hz).1,λp=>by have:=jp a5 x p (places l);lia,by lia,by lia,λd ks H' hd Z m4 i9 m5=>?_⟩;exact q d ks H' ((B eG).none (by simp) hd) ((B eG).trans Z) m4 i9 λp=>by rw [m5,qTh]
end
section
variable{P:Program}{w:World}{K:PySem.W.Frag}{mg:Str->Option Value}{base:Heap}
abbrev iX:Stmt:=top 35
theorem qTy:FnScope ["_law_deed","_law_box"] ["_law_deed","_law_box"] (zU iX):=⟨rfl,rfl,rfl,by decide +kernel,rfl,by decide +kernel,by decide +kernel⟩
def isAdd:Deed->Bool
 | .add _ _=>true
 | _=>false
def iY:Deed->Bool
 | .tell _=>true
 | _=>false
theorem qTn(d:Deed):decide (dword d = "add")=isAdd d:=by
 cases d with
 | add _ _=>exact decide_eq_true rfl
 | set _ _=>exact decide_eq_false (show ¬("set" : Str) = "add" by decide)
 | call _=>exact decide_eq_false (show ¬("call" : Str) = "add" by decide)
 | tell _=>exact decide_eq_false (show ¬("tell" : Str) = "add" by decide)
 | save _=>exact decide_eq_false (show ¬("save" : Str) = "add" by decide)
 | back _=>exact decide_eq_false (show ¬("back" : Str) = "add" by decide)
theorem qPn(d:Deed):decide (dword d = "tell")=iY d:=by
 cases d with
 | tell _=>exact decide_eq_true rfl
 | set _ _=>exact decide_eq_false (show ¬("set" : Str) = "tell" by decide)
 | call _=>exact decide_eq_false (show ¬("call" : Str) = "tell" by decide)
 | add _ _=>exact decide_eq_false (show ¬("add" : Str) = "tell" by decide)
 | save _=>exact decide_eq_false (show ¬("save" : Str) = "tell" by decide)
 | back _=>exact decide_eq_false (show ¬("back" : Str) = "tell" by decide)
theorem qVx(x:Int)(d:Deed):rdB x d=(isAdd d&&decide (x∈dargs d)||(iY d&&decide (darg d=x))):=by
 cases d with
 | tell b =>
  show (true&&decide (x ∈ [b]))=(false&&_||(true&&decide (b=x)));rw [dG,cR,Bool.false_or,dG];have:(x ∈ [b])↔b=x:=by simp [eq_comm]
  simp only [this]
 | add b o=>show (true&&_)=(true&&_||(false&&_));simp [dargs]
 | set b o=>rfl
 | call b=>rfl
 | save b=>rfl
 | back b=>rfl
theorem qRs{f:Addr}{fd:FuncData}(F:Fun K "_law_reads" "_law_reads" iX f fd):FnOk P w K mg base CX0 1 f fd ["_law_deed","_law_box"] (xq rdB K):=by
 refine F.ok qTy (λr H Q E h=>?_) (λt A i s H r Q E C h=>?_)
 ·obtain⟨v,d,x,rfl,_⟩:=h;rfl
 ·obtain⟨v,d,x,rfl,u,q⟩:=h
  refine⟨_,zI (zP (qZr (xR (yJ zq (zM yg (pv 0) zE (λ_ _=>rfl)) yB (zQ _)) (xN (yJ xt (pv 1) (yM vP (pv 0) (yL zE) yK) rfl)))
   (xN (xR (yJ zq (zM yg (pv 0) zE (λ_ _=>rfl)) yB (zQ _)) (xN (yJ zq (zM yg (pv 0) zE (λ_ _=>rfl)) (pv 1) (zQ _))))))),?_⟩
  dsimp only [zb];obtain⟨p,rfl,j⟩:=vF u;have a:∀c,Ext [] H c->(isAdd d&&decide (x∈dargs d))=false -> ∀k:VK,(∀c,Ext [] H c->k (.bl (rdB x d)) c)->tAndV (tOp rEq (tOp (rIxT K) (tVar 0) (tC (V.int 0))) (tC (V.str "tell"))) (tOp rEq (tOp (rIxT K) (tVar 0) (tC (V.int 1))) (tVar 1)) [some (.ref p),some (.int x)] c k:=by
   intro c m l k y;have e:=m.toSame.seqT j;refine vp ?_;left;refine zw e (show atI _ ((0:Nat):Int)=some (V.str (dword d)) from zK rfl) ?_;left;refine uQ ?_;rw [qPn];refine⟨_,rfl,?_⟩;have b:=y c m;rw [qVx,l,Bool.false_or] at b;cases hw:iY d with
   | true =>
    rw [hw] at b;refine iteT ?_;left;refine zw e (vG d) ?_;left;exact zv b
   | false =>
    rw [hw] at b;exact iteF b
  left;refine qZj (vp ?_);left;refine zw j (show atI _ ((0:Nat):Int)=some (V.str (dword d)) from zK rfl) ?_;left;refine uQ ?_;rw [qTn];refine⟨_,rfl,?_⟩;cases hw:isAdd d with
  | true =>
   refine iteT ?_;left;refine⟨1,rfl,?_⟩;left;refine⟨p,_,rfl,j,?_,λz g=>?_⟩
   ·intro h;have:=h.1;revert this;have B:(V.str (dword d)::(dargs d).map V.int).length=(dargs d).length+1:=by simp
    have:=(qL3 d).1;rw [B];unfold HT.sIx;simp
    try lia
   rw [cut1];refine⟨z,(dargs d).map V.int,rfl,.inr (SqT.of zC),rfl,wH _,?_⟩;rw [if_neg aL,wG];refine⟨_,rfl,?_⟩;cases n:decide (x∈dargs d) with
   | true =>
    refine iteT ?_;have b:=q _ (Ext.laid (o :=.tup ((dargs d).map V.int)) g);rw [qVx,hw,n] at b;exact b
   | false =>
    refine iteF ?_;exact a _ (.laid g) (by rw [n,Bool.and_false]) _ q
  | false =>
   refine iteF ?_;refine⟨_,rfl,iteF ?_⟩;exact a H (.refl _ _) (by rw [hw];rfl) _ q
end
section
variable{P:Program}{w:World}{K:PySem.W.Frag}{mg:Str->Option Value}{base:Heap}
structure GoI(H:Hp)(d du:Addr)(ws:List (List Blk))(x:Int)(p0:Pl)(ks due:List Pl)(H':Hp):Prop where
 ext:Ext [] H H'
 hd:H' d=some (.dT (trueD ks))
 hdu:∃vs,H' du=some (.lst vs)/\PlsAt H' vs due
 nod:ks.Nodup
 rk:∀y∈ks,RT (metOf ws x) p0 y
 rd:∀y∈due,RT (metOf ws x) p0 y
 clo:∀k∈ks,yG ws x k=false /\ ∀c∈metOf ws x k,c∈ks\/c∈due
 one:p0∈ks\/p0∈due
 fewd:due.length<=1+22*ks.length
theorem GoI.end_{H f:Hp}{d g:Addr}{a:List (List Blk)}{x:Int}{b:Pl}{c:List Pl}(h:GoI H d g a x b c [] f):askB a x b=false:=by
 have key:∀y,RT (metOf a x) b y->y∈c:=by
  intro y r
  induction r with
  | refl=>exact h.one.elim id λz=>absurd z (by simp)
  | step _ i j=>exact ((h.clo _ j).2 _ i).elim id λz=>absurd z (by simp)
 rw [gE];intro k;obtain⟨q,r,e⟩:=askB_iff.mp k;rw [(h.clo q (key q r)).1] at e;cases e
abbrev iZ:Stmt:=top 37
theorem scIsAsked:FnScope ["_law_works_here","_law_number_here","_law_block","_law_box","_law_met","_law_waiting","_law_place","_law_deeds_here","_law_end","_law_open_yet","_law_deed"] ["_law_works_here","_law_number_here","_law_block","_law_box"] (zU iZ):=⟨rfl,rfl,rfl,by decide +kernel,rfl,by decide +kernel,by decide +kernel⟩
def GoW(H:Hp)(wa d du:Addr)(ws:List (List Blk))(x:Int)(n b:Nat)(μ : Nat)(σ':St)(H':Hp):Prop := ∃(ks due:List Pl) (o6 o7 o8 o9 o10:Option V),μ = ((places ws).length - ks.length)*24+due.length /\
 σ' = [some (.ref wa),some (.int n),some (.int b),some (.int x),some (.ref d),some (.ref du),o6,o7,o8,o9,o10]/\GoI H d du ws x ((n:Int),(b:Int)) ks due H'
theorem qOx{f:Addr}{fd:FuncData}(F:Fun K "_law_is_asked" "_law_is_asked" iZ f fd)(h8:Has P w K mg base "_law_reads" 1 ["_law_deed","_law_box"] (xq rdB K)):FnOk P w K mg base CX0 2 f fd ["_law_works_here","_law_number_here","_law_block","_law_box"] (qJq K):=by
 refine F.ok scIsAsked (λvs H Q E h=>?_) (λk4 A h9 s H vs Q E hr h=>?_)
 ·obtain⟨wa,O,n,b,x,rfl,_⟩:=h;rfl
 ·obtain⟨wa,O,n,b,x,rfl,hW,c5,f5,q⟩:=h;have hu:=yW hr
  refine⟨_,zG (vz (i:=4) (j:=5) rfl scIsAsked.nd rfl rfl (by decide) rfl rfl (zA kQ (zA (zW (zA (zm (zA (pv 1) (zA (pv 2) zB))) zB)) zB)) rfl)
   (zG (uA bU (zV (xk hr) (pv 5) (zW zB) (zQ _))
    (zG (zN (i:=6) scIsAsked.nd rfl (Or.inr rfl) (uH bH fH fI kM (pv 5)))
    (zI (zn (vJ (kO hu (pv 6) (pv 4)))
     (zG (xX hu (pv 4) (pv 6) zk rfl)
     (zG (wU (zM zX (zM zX (pv 0) (zM yg (pv 6) zE (λ_ _=>rfl)) (λ_ _=>rfl)) (zM yg (pv 6) zE (λ_ _=>rfl)) (λ_ _=>rfl)) (xS (n:=2) rfl (ze (zJ (i:=7) scIsAsked.nd rfl (Or.inl rfl)) (ze (zJ (i:=8) scIsAsked.nd rfl (Or.inl rfl)) yI))))
     (zG (zN (i:=9) scIsAsked.nd rfl (Or.inl rfl) zk)
     (zG (yV bU rfl (zu (pv 7)) (zJ (i:=10) scIsAsked.nd rfl (Or.inl rfl))
      (zG (zn (xj (yE K rfl (pv 9) (λ_=>rfl)) (xi (yE K rfl (zH h8 hr (by decide) (zA (pv 10) (zA (pv 3) zB))) (λ_=>rfl)))).pt (zI (zP zk)) zh)
      (zG (zn (xj (yE K rfl (pv 9) (λ_=>rfl)) (xi (zV zq (zM yg (pv 10) zE (λ_ _=>rfl)) yB (zQ _)))).pt (zI (yZ (yc bH cP cQ xV (pv 5) (zA (zm (zA (zM yg (pv 10) zE (λ_ _=>rfl)) (zA zE zB))) zB)))) zh)
      (zI (zn (xj (zV xt (zM yg (pv 10) zE (λ_ _=>rfl)) (zm (zA yB (zA yB zB))) rfl) (xi (zV zq (zM yg (pv 10) zE (λ_ _=>rfl)) (pv 3) (zQ _)))).pt (zI (zN (i:=9) scIsAsked.nd rfl (Or.inl rfl) zk)) zh)))))
     (zI (zn (yE K rfl (pv 9) (λ_=>rfl)) (zI (yZ (yc bH fQ fR uJ (pv 5) (zA (zp ["_law_to"] [6] rfl (.of rfl) (kH (yM vP (pv 8) (yL zE) yK)) (λ_ _ _ _=>zJ (i:=0) (by show ((["_law_to","_law_place"]:List Str)).Nodup;decide) rfl (Or.inl rfl)) (λ_ _ _ _ =>.nil) (λ_ _ _ _=>zm (zA (zM (xl K rfl) (pv 1) zE (λ_ _=>rfl)) (zA (pv 0) zB)))) zB)))) zh))))))
     zh))))
   (zI (zP zk))),?_⟩
  dsimp only [zb,zg];left;refine (show ∀p,_=none->_ from λd hd=>?_);left;refine⟨len2 (by show 2<=1000;decide),λp hp=>?_⟩;left;refine⟨len2 (by show 1<=1000;decide),λa c6=>?_⟩;have e0:Ext [] H (upd H d (.dT [])) :=.laid hd;have E1:Ext [] H (upd (upd (upd H d (.dT [])) p (.tup [.int n,.int b])) a (.lst [.ref p])):=e0.trans ((Ext.laid hp).trans (.laid c6));have i0:p≠a:=zF zC c6;have b5:H a=none:=(e0.trans (.laid hp)).none (by simp) c6;have f6:d≠p:=zF zC hp;have b6:d≠a:=zF (o :=.dT []) (by rw [zD f6,zC]) c6;refine⟨_,_,rfl,?_⟩;have k2:=qHp c5;have f7:GoI H d a O x ((n:Int),(b:Int)) [] [((n:Int),(b:Int))] (upd (upd (upd H d (.dT [])) p (.tup [.int n,.int b])) a (.lst [.ref p])):=by
   refine⟨E1,by rw [zD b6,zD f6,zC];rfl,⟨[.ref p],zC,.one (by rw [zD i0,zC])⟩,List.nodup_nil,(λ_ h=>absurd h (by simp)),λy hy=>by rw [aH.mp hy];exact .refl,(λ_ h=>absurd h (by simp)),.inr (aH.mpr rfl),by simp⟩
  generalize upd (upd (upd H d (.dT [])) p (.tup [.int n,.int b])) a (.lst [.ref p])=H1 at f7 ⊢;left;refine⟨GoW H wa d a O x n b,⟨_,[],_,_,_,_,_,_,rfl,rfl,f7⟩,?_⟩;rintro μ l H' ⟨S,due,o6,o7,o8,o9,M,rfl,rfl,I⟩;obtain⟨k5,f8,i1⟩:=I.hdu;left;refine⟨len2 (bB _),λf9 g0=>?_⟩;have e2:Ext [] H' (upd H' f9 (.lst [])) :=.laid g0;have T:=e2 _ _ (by simp) f8;have a4:=i1.mono e2.tk;have g1:=e2 _ _ (by simp) I.hd;have b7:=I.ext.trans e2;refine⟨wj due,.list [],.list (SqL.of T) a4.den,.list (SqL.of zC) .nil,qKb due,rfl,?_⟩;rw [if_pos rfl,qIy];generalize upd H' f9 (.lst [])=H2 at e2 T a4 g1 b7 ⊢;left;rcases List.eq_nil_or_concat due with h | ⟨J,y,h⟩
  ·subst h;rw [decide_eq_true rfl];refine iteF ?_;left;have U:=q H2 b7;rw [I.end_] at U;exact U
  ·have h:due=J ++ [y]:=by rw [h,List.concat_eq_append]
   rw [decide_eq_false (by rw [h];simp)];rw [h] at a4;obtain⟨B,v,rfl,g2,vb,rfl,i2⟩:=a4.last;refine iteT ⟨λl H' => ∃m',m'<((places O).length - S.length)*24+due.length/\GoW H wa d a O x n b m' l H',λ_ _ h=>h,?_⟩;have c7:=I.rd y (by rw [h];simp);have g3:∀p∈places O,∀q∈metOf O x p,q∈places O:=λp _ q U=>qS8 c5 U;have g4:=c7.within g3 f5;have d2:∀z∈S,z∈places O:=λz hz=>(I.rk z hz).within g3 f5;have k6:=xm I.nod d2;have i3:due.length=J.length+1:=by rw [h];simp
   have k7:=I.fewd;have k8:=g2.len;left;refine yD T ?_;refine⟨a,B ++ [V.ref vb],.ref vb,rfl,rfl,T,by simp,?_⟩;rw [List.dropLast_concat];have d3:upd H2 a (.lst B) d=some (.dT (trueD S)):=by rw [zD b6];exact g1
   have e3:Ext [] H (upd H2 a (.lst B)):=((b7.mono (us :=[a]) (by simp)).trans (.put (by simp))).drop b5;have u3:upd H2 a (.lst B) a=some (.lst B):=zC;have e9:TK H2 (upd H2 a (.lst B)) :=.put (by intro ys z;rw [T] at z;cases z);have b8:=g2.mono e9;have a5:=e9 _ _ i2;generalize upd H2 a (.lst B)=H3 at d3 e3 u3 e9 b8 a5 ⊢;left;refine⟨d,_,rfl,DGet.t (k:=plK y) d3 a5,?_⟩;rw [wm];by_cases hy:y∈S
   ·rw [if_pos hy];refine yr (iteF ?_);left;refine⟨_,by rw [i3];exact eS _,S,J,_,_,_,_,_,rfl,rfl,e3,d3,⟨B,u3,b8⟩,I.nod,I.rk,λz hz=>I.rd z (by rw [h];exact bA _ hz),λk hk=>⟨(I.clo k hk).1,λc b9=>?_⟩,?_,by lia⟩
    ·rcases (I.clo k hk).2 c b9 with z | z
     ·exact .inl z
     ·rw [h] at z;rcases aK.mp z with z | z
      ·exact .inr z
      ·rw [aH.mp z];exact .inl hy
    ·rcases I.one with z | z
     ·exact .inl z
     ·rw [h] at z;rcases aK.mp z with z | z
      ·exact .inr z
      ·rw [aH.mp z];exact .inl hy
   ·rw [if_neg hy];refine yr (iteT ?_);left;refine⟨d,_,rfl,DPut.t (k:=plK y) d3 a5 (vc (by unfold trueD;rw [aB];lia)),?_⟩;have g5:putK (trueD S) (plK y) (V.bl true)=trueD (S ++ [y]):=by
     rw [uK _ (by rw [wm,if_neg hy])];unfold trueD;rw [aJ];rfl
    rw [g5];have d4:upd H3 d (.dT (trueD (S ++ [y]))) d=some (.dT (trueD (S ++ [y]))):=zC;have e4:Ext [] H (upd H3 d (.dT (trueD (S ++ [y])))):=((e3.mono (us :=[d]) (by simp)).trans (.put (by simp))).drop hd;have u4:upd H3 d (.dT (trueD (S ++ [y]))) a=some (.lst B):=by rw [zD b6.symm];exact u3
    have f0:TK H3 (upd H3 d (.dT (trueD (S ++ [y])))) :=.put (by intro ys z;rw [d3] at z;cases z);have d5:=b8.mono f0;have a6:=f0 _ _ a5;generalize upd H3 d (.dT (trueD (S ++ [y])))=H4 at d4 e4 u4 f0 d5 a6 ⊢;have d6:(S ++ [y]).Nodup:=by
     rw [cF];refine⟨I.nod,by simp,λz hz z' i4=>?_⟩;rw [aH.mp i4];rintro rfl;exact hy hz
    have g6:=xm (l2:=places O) d6 λz hz=>by
     rcases aK.mp hz with t | t
     ·exact d2 z t
     ·rw [aH.mp t];exact g4
    rw [aI,bN] at g6;obtain⟨bk,c0⟩:=mem_places.mp g4;obtain⟨Z,ya,w1,i5,c1,k9⟩:=jm c0;subst i5;obtain⟨m,n',l0,l1,k3,hm,l3,l4,c2⟩:=c5.blk c0;obtain⟨wv,bs,wb,pb,dl,ds,ve,s1,s2,s3,s4,s5,s6,s7,s8⟩:=qNk hW c0;have g7:yG O x ((Z:Int),(ya:Int))=readB x bk:=by unfold yG;rw [c0]
    have d7:metOf O x ((Z:Int),(ya:Int))=metB x Z bk:=by unfold metOf;rw [c0]
    have l5:=jn c5 x ((Z:Int),(ya:Int));have g8:ds.length=bk.ds.length:=by rw [s7.len,aB]
    have i6:=c2.few;left;refine zw (SqT.of a6) (show atI _ ((0:Nat):Int)=some (V.int Z) from zK rfl) ?_;refine zR (e4.toSame.seq s1) s2 ?_;left;refine zw (SqT.of a6) (show atI _ ((1:Nat):Int)=some (V.int ya) from zK rfl) ?_;refine zR (e4.toSame.seq s3) s4 ?_;refine yO (e4.toSame.seqT s5) rfl ?_;left
    refine⟨dl,rfl,⟨_,e4.toSame.seq s6⟩,wc (xs:=ds) (λj l G => ∃(e:List V) (M:Option V),l = [some (.ref wa),some (.int n),some (.int b),some (.int x),some (.ref d),some (.ref a),some (.ref vb),some (.ref dl),some ve,some (.bl (!wrote x (bk.ds.take j))),M]/\Ext [] H G/\G d=some (.dT (trueD (S ++ [((Z:Int),(ya:Int))])))/\G a=some (.lst e) /\
     PlsAt G e (J++(((till x (bk.ds.take j)).filterMap yQ).map λc=>(c,0)))/\G vb=some (.tup [.int Z,.int ya])/\(till x (bk.ds.take j)).any (rdB x)=false) ?_ ?_ ?_ ?_⟩
    ·refine⟨B,_,rfl,e4,d4,u4,?_,a6,rfl⟩;simpa [till] using d5
    ·rintro j l G hj ⟨e,M,rfl,eG,b0,a0,N,c3,b1⟩;exact eG.toSame.seq s6
    ·rintro j v l G hv ⟨e,M,rfl,eG,b0,a0,N,c3,b1⟩ N_ B_ C_ R_ hN_ hC_ hR_;obtain⟨dd,i7,g9⟩:=s7.get hv;obtain⟨C,f1,rfl⟩:=zj i7;have l6:j<bk.ds.length:=(aE.mp f1).1;obtain⟨pd,rfl,h0⟩:=vF g9;have f2:=N.len;have i8:=eR yQ (till x (bk.ds.take j));have b2:=wp x (bk.ds.take j);rw [aN] at b2;rw [aI,aB] at f2;have c8:bk.ds.take (j+1)=bk.ds.take j ++ [C]:=zd f1;have a1:∀(G5:Hp) (fl:Bool) (D:Ends),Ext [] H G5->(∀u,Ext [] G5 u->D.nx [some (V.ref wa),some (.int n),some (.int b),some (.int x),some (.ref d),some (.ref a),some (.ref vb),some (.ref dl),some ve,some (.bl (fl && !wrB x C)),some (.ref pd)] u) ->
       tIfS (tAnd (tTest (tOp (rIn K false) (tOp (rIxT K) (tVar 10) (tC (V.int 0))) (tTup (tCons (tC (V.str "set")) (tCons (tC (V.str "add")) tNil))))) (tTest (tOp rEq (tOp (rIxT K) (tVar 10) (tC (V.int 1))) (tVar 3)))) (tAsg (tC (V.bl false)) (gName 9)) tNext D [some (V.ref wa),some (.int n),some (.int b),some (.int x),some (.ref d),some (.ref a),some (.ref vb),some (.ref dl),some ve,some (.bl fl),some (.ref pd)] G5:=by
      intro G5 fl D e5 hD;have h1:=e5.toSame.seqT h0
      with_reducible refine L2.wA0 ?_
      with_reducible refine L2.uP ?_
      left;refine zw h1 (show atI _ ((0:Nat):Int)=some (V.str (dword C)) from zK rfl) ?_;left;refine⟨len2 (by show 2<=1000;decide),λpt i9=>?_⟩;have g:Ext [] G5 (upd G5 pt (.tup [.str "set",.str "add"])) :=.laid i9;refine⟨pt,[V.str "set",.str "add"],rfl,.inr (SqT.of zC),rfl,rfl,?_⟩;rw [if_neg aL,deed_in];refine⟨_,rfl,?_⟩;have U:=hD _ g;have c9:=g.toSame.seqT h1;generalize upd G5 pt (.tup [.str "set",.str "add"])=u at g U c9 ⊢;unfold wrB at U;cases hw:(wr C).isSome with
      | true =>
       rw [hw] at U;refine iteT ?_;left;refine zw c9 (vG C) ?_;left;refine zv ?_;refine⟨_,rfl,?_⟩;cases hx:decide (darg C=x) with
       | true =>
        rw [hx] at U;refine iteT ?_;left;simpa using U
       | false =>
        rw [hx] at U;refine iteF ?_
        with_reducible refine L2.xa ?_
        simpa using U
      | false =>
       rw [hw] at U;refine iteF (iteF ?_)
       with_reducible refine L2.xa ?_
       simpa using U
     cases W:wrote x (bk.ds.take j) with
     | true =>
      have c1:wrote x (bk.ds.take (j+1))=true:=by rw [c8,uf,W];rfl
      have b3:till x (bk.ds.take (j+1))=till x (bk.ds.take j):=by rw [c8,jr W]
      left;refine⟨false,rfl,iteF (iteF ?_)⟩;left;refine⟨false,rfl,iteF (iteF ?_)⟩
      with_reducible refine L2.xa ?_
      refine a1 G false _ eG λu g=>hN_ _ _ ⟨e,some (.ref pd),?_,eG.trans g,g _ _ (by simp) b0,g _ _ (by simp) a0,?_,g _ _ (by simp) c3,?_⟩
      ·rw [c1];rfl
      ·rw [b3];exact N.mono g.tk
      ·rw [b3];exact b1
     | false =>
      have c1:wrote x (bk.ds.take (j+1))=wrB x C:=by rw [c8,uf,W];rfl
      have b3:till x (bk.ds.take (j+1))=till x (bk.ds.take j) ++ [C]:=by rw [c8,jq W]
      left;refine⟨true,rfl,iteT ?_⟩;left;refine⟨.ref pd,C,x,rfl,g9.mono eG.toSame,λG2 b4=>?_⟩;refine⟨rdB x C,rfl,?_⟩;cases h2:rdB x C with
      | true =>
       refine iteT ?_;left;have h3:askB O x ((n:Int),(b:Int))=true:=askB_iff.mpr ⟨_,c7,by rw [g7];unfold readB;exact dE.mpr ⟨C,qTr W f1,h2⟩⟩;have U:=q G2 (eG.trans b4);rw [h3] at U;exact U
      | false =>
       refine iteF ?_;have E2:=eG.trans b4;have c4:=b4 _ _ (by simp) b0;have X:=b4 _ _ (by simp) a0;have d8:=N.mono b4.tk;have d9:=b4 _ _ (by simp) c3;have e1:=E2.toSame.seqT h0;have e7:(till x (bk.ds.take (j+1))).any (rdB x)=false:=by rw [b3,List.any_append,b1];simp [h2]
       left;refine⟨true,rfl,iteT ?_⟩;left;refine zw e1 (show atI _ ((0:Nat):Int)=some (V.str (dword C)) from zK rfl) ?_;left;refine uQ ?_;rw [qL2];left;cases a7:wn C with
       | true =>
        refine iteT ?_;left;refine yD X ?_;left;refine zw e1 (vG C) ?_;left;refine⟨len2 (by show 2<=1000;decide),λp2 Y=>?_⟩;have a2:p2≠a:=(zF X Y).symm
        with_reducible refine L2.wE ?_
        refine yd (xs:=e) (by rw [zD a2.symm];exact X) (by rw [dX];lia) ?_;have tk:TK G2 (upd (upd G2 p2 (.tup [.int (darg C),.int 0])) a (.lst (e ++ [.ref p2]))):=(Ext.laid Y).tk.trans (.put (by intro ys z;rw [zD a2.symm,X] at z;cases z));have j0:d≠p2:=zF c4 Y;have E5:Ext [] H (upd (upd G2 p2 (.tup [.int (darg C),.int 0])) a (.lst (e ++ [.ref p2]))):=((E2.mono (us :=[a]) (by simp)).trans ((Ext.laid Y).trans (.put (by simp)))).drop b5;refine a1 _ true _ E5 λu g=>hN_ _ _ ⟨e ++ [.ref p2],some (.ref pd),?_,E5.trans g,g _ _ (by simp) (by rw [zD b6,zD j0];exact c4),g _ _ (by simp) zC,?_,g.tk _ _ (tk _ _ d9),e7⟩
        ·rw [c1];rfl
        ·rw [b3,dL,aJ,<-eZ,bW,qTb C a7];exact ((d8.mono tk).append (.one (p:=(darg C,0)) (by rw [zD a2,zC]))).mono g.tk
       | false =>
        refine iteF ?_
        with_reducible refine L2.xa ?_
        have hn:yQ C=none:=by
         unfold wn at a7;cases z:yQ C with
         | none=>rfl
         | some y=>rw [z] at a7;cases a7
        refine a1 _ true _ E2 λu g=>hN_ _ _ ⟨e,some (.ref pd),?_,E2.trans g,g _ _ (by simp) c4,g _ _ (by simp) X,?_,g _ _ (by simp) d9,e7⟩
        ·rw [c1];rfl
        ·rw [b3,dL,bW,hn,fV,cH];exact d8.mono g.tk
    ·rintro l G ⟨e,M,rfl,eG,b0,a0,N,c3,b1⟩;rw [g8,aY] at N b1 ⊢;have j1:yG O x ((Z:Int),(ya:Int))=false:=by rw [g7];exact b1
     have f2:=N.len;have i8:=eR yQ (till x bk.ds);have b2:=wp x bk.ds;rw [aI,aB] at f2;have h4:∀(u:Hp) (a8:List V),Ext [] H u->u d=some (.dT (trueD (S ++ [((Z:Int),(ya:Int))])))->u a=some (.lst a8)->PlsAt u a8 (J++metOf O x ((Z:Int),(ya:Int))) -> ∀o6 o7 o8 o9 M:Option V,
       ∃m',m'<((places O).length - S.length)*24+due.length/\GoW H wa d a O x n b m' [some (.ref wa),some (.int n),some (.int b),some (.int x),some (.ref d),some (.ref a),o6,o7,o8,o9,M] u:=by
      intro u a8 g f3 d0 c9 o6 o7 o8 o9 M;refine⟨_,?_,S ++ [((Z:Int),(ya:Int))],J++metOf O x ((Z:Int),(ya:Int)),o6,o7,o8,o9,M,rfl,rfl,g,f3,⟨a8,d0,c9⟩,d6,?_,?_,?_,?_,?_⟩
      ·rw [aI,aI,bN];lia
      ·intro z hz;rcases aK.mp hz with t | t
       ·exact I.rk z t
       ·rw [aH.mp t];exact c7
      ·intro z hz;rcases aK.mp hz with t | t
       ·exact I.rd z (by rw [h];exact bA _ t)
       ·exact .step c7 t
      ·intro k hk;rcases aK.mp hk with t | t
       ·refine⟨(I.clo k t).1,λc b9=>?_⟩;rcases (I.clo k t).2 c b9 with r | r
        ·exact .inl (bA _ r)
        ·rw [h] at r;rcases aK.mp r with r | r
         ·exact .inr (bA _ r)
         ·exact .inl (aZ _ r)
       ·rw [aH.mp t];exact⟨j1,λc b9 =>.inr (aZ _ b9)⟩
      ·rcases I.one with r | r
       ·exact .inl (bA _ r)
       ·rw [h] at r;rcases aK.mp r with r | r
        ·exact .inr (bA _ r)
        ·exact .inl (aZ _ r)
      ·rw [aI,aI,bN];lia
     left;cases W:wrote x bk.ds with
     | true =>
      refine⟨false,rfl,iteF ?_⟩
      with_reducible refine L2.xa ?_
      refine h4 G e eG b0 a0 ?_ _ _ _ _ _;rw [d7];unfold metB vh;rw [W,if_pos rfl,cH];exact N
     | false =>
      refine⟨true,rfl,iteT ?_⟩;left;refine yD a0 ?_;left;obtain⟨wd,j2,_⟩:=qO0 c2.ns;rw [j2] at s8;obtain⟨en,l7,rfl,j3,j4⟩:=s8.ofTuple;obtain⟨v3,r3,rfl,h5,j5⟩:=j4.ofCons;have j6:=h5.ofStr;subst j6;have j7:=j5.ints;subst j7;have l8:=c2.ns.few;refine⟨1,rfl,?_⟩;left;refine⟨en,_,rfl,eG.toSame.seqT j3,?_,λpp j8=>?_⟩
      ·intro hh;have:=hh.1;revert this;have hn:(V.str wd::bk.ns.map V.int).length=bk.ns.length+1:=by simp
       rw [hn];unfold HT.sIx;simp
       try lia
      rw [cut1];have e5:Ext [] G (upd G pp (.tup (bk.ns.map V.int))) :=.laid j8;have h6:=e5 _ _ (by simp) a0;have h7:=e5 _ _ (by simp) b0;have f4:=e5 _ _ (by simp) c3;have e8:=N.mono e5.tk;have a9:upd G pp (.tup (bk.ns.map V.int)) pp=some (.tup (bk.ns.map V.int)):=zC;generalize upd G pp (.tup (bk.ns.map V.int))=G5 at e5 h6 h7 f4 e8 a9 ⊢;refine⟨pp,rfl,⟨_,SqT.of a9⟩,λle d1=>?_⟩;have j9:pp≠le:=zF a9 d1;have k0:vb≠le:=zF f4 d1;refine qNp (xs:=bk.ns.map V.int) (λj l u => ∃(o0:Option V) (ts:List V),l = [o0,some (.ref vb)]/\Ext [le] G5 u/\u le=some (.lst ts)/\PlsAt u ts ((bk.ns.take j).map λt=>((Z:Int),t))) ?_ ?_ ?_ ?_
      ·exact⟨none,[],rfl,.laid d1,zC,.nil⟩
      ·rintro j l u hj ⟨o0,ts,rfl,g,L,a3⟩;exact SqT.of (g _ _ (by simpa using j9) a9)
      ·rintro j yy l u R k1 ⟨o0,ts,rfl,g,L,a3⟩ hR;obtain⟨t,ht,rfl⟩:=zj k1;have hj:j<bk.ns.length:=(aE.mp ht).1;have b2:=a3.len;rw [aB,aN] at b2;left;refine iteT ?_;left;refine zw (SqT.of (g _ _ (by simpa using k0) f4)) (show atI _ ((0:Nat):Int)=some (V.int Z) from zK rfl) ?_;left;refine⟨len2 (by show 2<=1000;decide),λp2 Y=>?_⟩;have a2:p2≠le:=(zF L Y).symm;have tk:TK u (upd (upd u p2 (.tup [.int Z,.int t])) le (.lst (ts ++ [.ref p2]))):=(Ext.laid Y).tk.trans (.put (by intro ys z;rw [zD a2.symm,L] at z;cases z));refine⟨ts,by rw [zD a2.symm];exact L,zZ (by lia),hR _ _ ⟨_,ts ++ [.ref p2],rfl,g.trans ((Ext.laid Y).trans (.put (by simp))),zC,?_⟩⟩
       rw [zd ht,aJ];exact (a3.mono tk).append (.one (by rw [zD a2,zC]))
      ·rintro l u ⟨o0,ts,rfl,g,L,a3⟩;rw [aB,aY] at a3;have b2:=a3.len;rw [aB] at b2;have E6:=g.drop d1;have d0:=E6 _ _ (by simp) h6;have f3:=E6 _ _ (by simp) h7;left;refine⟨a,le,e,ts,rfl,rfl,d0,L,by rw [dX];lia,?_⟩;have tk:TK u (upd u a (.lst (e++ts))) :=.put (by intro ys z;rw [d0] at z;cases z);refine h4 _ (e++ts) (((((eG.trans e5).trans E6).mono (us :=[a]) (by simp)).trans (.put (by simp))).drop b5) (by rw [zD b6];exact f3) zC ?_ _ _ _ _ _;rw [d7];unfold metB vh;rw [W,if_neg aL,<-eZ];exact ((e8.mono E6.tk).append a3).mono tk
end
section
variable{P:Program}{w:World}{K:PySem.W.Frag}{mg:Str->Option Value}{base:Heap}
def qZz(K:PySem.W.Frag):Sp:=λvs H Q _ => ∃(a:Addr) (wk:List Blk),vs = [.ref a]/\Den K H (workD wk) (.ref a)/\(∀b∈wk,b.ns.length<=2)/\wk.length<=12 /\
 ∀(d:Addr) (H':Hp),H d=none->Ext [] H H'->Nex H' d wk->Q (.ref d) H'
abbrev sNx:Stmt:=top 6
theorem scNx:FnScope ["work"] ["work"] (zU sNx):=⟨rfl,rfl,rfl,by decide +kernel,rfl,by decide +kernel,by decide +kernel⟩
theorem qZu{f:Addr}{fd:FuncData}(F:Fun K "nexts_of" "nexts_of" sNx f fd)(o:mg "list" = none)(r:mg "enumerate" = none):FnOk P w K mg base CX0 1 f fd ["work"] (qZz K):=by
 refine F.ok scNx (λC H Q E h=>?_) (λb4 A a0 s H C Q E hr h=>?_)
 ·obtain⟨a,w,rfl,_⟩:=h;rfl
 ·obtain⟨a,wk,rfl,hW,a1,b5,q⟩:=h;have t:((["at","deeds","end"]:List Str)).Nodup:=by decide
  refine⟨_,zI (zP (qZs ["at","deeds","end"] [] rfl (.of rfl) (vU rfl r (zA (pv 0) zB)) (λ_ _ _ _=>xb (n:=2) K rfl rfl (ze (zJ (i:=0) t rfl (Or.inl rfl)) (ze (xb (n:=2) K rfl rfl (ze (zJ (i:=1) t rfl (Or.inl rfl)) (ze (zJ (i:=2) t rfl (Or.inl rfl)) yI))) yI))) (λ_ _ _ _ =>.nil)
   (λ_ _ _ _=>pv 0) (λ_ _ _ _=>zr (jS K rfl) (by rfl) o cI (zA (yM (Qq K rfl) (pv 2) (yL zE) yK) zB)))),?_⟩
  dsimp only [zb,zg];obtain⟨a',C,ea,D,G⟩:=hW.ofList;cases ea;have a2:C.length=wk.length:=by rw [G.len,aB]
  left;refine⟨a,rfl,⟨C,D⟩,λd I=>?_⟩;refine Qi (xs:=C) (λi m g => ∃(e:List (Key×V)) (Y Z o2:Option V),m = [Y,Z,o2]/\Ext [d] H g/\g d=some (.dK e)/\e.length<=i /\ ∀k:Int,0<=k->k<i -> ∃c,valV e (Sum.inl k)=some (.ref c)/\c≠d/\g c=some (.lst ((nxt wk k).map V.int))) ?_ ?_ ?_ ?_
  ·exact⟨[],none,none,none,rfl,.laid I,zC,aF _,λk h0 J=>absurd J (by lia)⟩
  ·rintro i m g hi ⟨e,Y,Z,o2,rfl,L,j,M,N⟩;exact (L.drop I).toSame.seq D
  ·rintro i x m g pt R hx ⟨e,Y,Z,o2,rfl,L,j,M,N⟩ u hR;obtain⟨dd,a3,a4⟩:=G.get hx;obtain⟨b,hb,rfl⟩:=zj a3;have hi:i<wk.length:=(aE.mp hb).1;have O:=a1 b (aM hb);obtain⟨c,us,rfl,hc,a5⟩:=a4.ofTuple;obtain⟨v1,r1,rfl,b6,a6⟩:=a5.ofCons;obtain⟨v2,r2,rfl,S,v⟩:=a6.ofCons;have v:=v.ofNil;subst v;obtain⟨wd,a7⟩:=Qt O;rw [a7] at S;obtain⟨en,b7,rfl,a8,a9⟩:=S.ofTuple;obtain⟨v3,r3,rfl,b0,b1⟩:=a9.ofCons;have e3:=b0.ofStr;subst e3;have e4:=b1.ints;subst e4;have b2:pt≠d:=(zF j u).symm;have e1:Ext [d] H (upd g pt (.tup [.int i,.ref c])):=L.trans (.laid u);have es:Same H (upd g pt (.tup [.int i,.ref c])):=(e1.drop I).toSame
   have l:upd g pt (.tup [.int i,.ref c]) d=some (.dK e):=by rw [zD b2.symm];exact j
   have T:SqT K (upd g pt (.tup [.int i,.ref c])) pt [.int i,.ref c]:=SqT.of zC;have b3:Ext [] g (upd g pt (.tup [.int i,.ref c])) :=.laid u;generalize upd g pt (.tup [.int i,.ref c])=H1 at *;refine yO T rfl ?_;left;refine yO (es.seqT hc) rfl ?_;left;refine iteT ?_;left;refine⟨1,rfl,?_⟩;left;refine⟨en,_,rfl,es.seqT a8,?_,λp hp=>?_⟩
   ·intro h;have:=h.1;revert this;have hn:(V.str wd::b.ns.map V.int).length=b.ns.length+1:=by simp
    rw [hn];unfold HT.sIx;simp
    try lia
   have U:cutV (V.str wd::b.ns.map V.int) (some 1) none=b.ns.map V.int:=by
    match hh:b.ns,O with
    | [],_=>rfl
    | [x],_=>rfl
    | [x,y],_=>rfl
   rw [U];have b8:p≠d:=(zF l hp).symm;left;refine⟨p,_,rfl,.inr (SqT.of zC),λB W=>?_⟩;have e2:Ext [] H1 (upd (upd H1 p (.tup (b.ns.map V.int))) B (.lst (b.ns.map V.int))):=(Ext.laid hp).trans (.laid W);have X:upd (upd H1 p (.tup (b.ns.map V.int))) B (.lst (b.ns.map V.int)) B=some (.lst (b.ns.map V.int)):=zC;have n2:B≠d:=(zF (Ext.laid (ts :=[]) hp _ _ (by simp) l) W).symm;generalize upd (upd H1 p (.tup (b.ns.map V.int))) B (.lst (b.ns.map V.int))=H2 at *;refine⟨e,Sum.inl (i:Int),rfl,e2 _ _ (by simp) l,zZ (by lia),hR _ _ ⟨_,_,_,_,rfl,?_,zC,?_,λk k0 k1=>?_⟩⟩
   ·exact e1.trans ((e2.mono (by simp)).trans (.put (by simp)))
   ·have:=xW e (Sum.inl (i:Int):Key) (.ref B);lia
   ·rw [vR];by_cases z:k=(i:Int)
    ·subst z;rw [if_pos rfl];refine⟨B,rfl,n2,?_⟩;rw [zD n2,X,Qv hb]
    ·rw [if_neg (λy=>z (Sum.inl.inj y))];obtain⟨c',J,h2,h3⟩:=N k k0 (by lia);exact⟨c',J,h2,by rw [zD h2];exact (b3.trans e2) _ _ (by simp) h3⟩
  ·rintro m g ⟨e,Y,Z,o2,rfl,L,j,M,N⟩;rw [a2] at N;refine q d g I (L.drop I) ⟨e,j,λk k0 k1=>?_⟩;obtain⟨c,J,_,h3⟩:=N k k0 k1;exact⟨c,J,h3⟩
end
section
variable{P:Program}{w:World}{K:PySem.W.Frag}{mg:Str->Option Value}{base:Heap}
def NsAt(l:Addr)(H:Hp):List V->List (List Int)->Prop:=Paired λv ns => ∃b,v = .ref b/\b≠l/\H b=some (.lst (ns.map V.int))
def qQ7(K:PySem.W.Frag):Sp:=λvs H Q _ => ∃(a:Addr) (w:List Blk),vs = [.ref a]/\Den K H (workD w) (.ref a)/\(∀b∈w,b.ns.length<=2)/\w.length<=12 /\
 ∀(l:Addr) (us:List V) (H':Hp),H l=none->Ext [] H H'->H' l=some (.lst us)->NsAt l H' us (w.map Blk.ns)->Q (.ref l) H'
theorem NsAt.mono{l:Addr}{H a:Hp}{us:List V}{ns:List (List Int)}(h:NsAt l H us ns)(e:Ext [l] H a):NsAt l a us ns:=Paired.mapP h λ_ _ ⟨b,d,c,f⟩=>⟨b,d,c,e _ _ (by simpa using c) f⟩
theorem NsAt.len{l:Addr}{H:Hp}{us:List V}{ns:List (List Int)}(h:NsAt l H us ns):us.length=ns.length:=cZ h
theorem NsAt.get{l:Addr}{H:Hp}:∀ {us:List V} {d:List Blk},NsAt l H us (d.map Blk.ns) -> ∀ {x:Int},0<=x->x<d.length -> ∃c,atI us x=some (.ref c)/\H c=some (.lst ((nxt d x).map V.int)):=by
 have key:∀ {us:List V} {d:List Blk} {i:Nat} {b:Blk},NsAt l H us (d.map Blk.ns)->d[i]? = some b -> ∃c,us[i]? = some (.ref c)/\H c=some (.lst (b.ns.map V.int)):=by
  intro us d
  induction d generalizing us with
  | nil=>intro i b _ h;simp at h
  | cons q r k =>
   intro i b h e;cases h with
   | cons a t =>
    obtain⟨c,rfl,_,m⟩:=a;cases i with
    | zero=>simp at e;subst e;exact⟨c,rfl,m⟩
    | succ i =>
     obtain⟨n,g,f⟩:=k t (by simpa using e);exact⟨n,by simpa using g,f⟩
 intro us d h x o g;obtain⟨i,rfl⟩:=cD o;have j:i<d.length:=by lia
 obtain⟨c,f,p⟩:=key h (aD j);exact⟨c,zK f,by rw [Qv (aD j)];exact p⟩
abbrev sEnds:Stmt:=top 33
theorem qY2:FnScope ["_law_work_here"] ["_law_work_here"] (zU sEnds):=⟨rfl,rfl,rfl,by decide +kernel,rfl,by decide +kernel,by decide +kernel⟩
theorem qXb{f:Addr}{fd:FuncData}(F:Fun K "_law_ends" "_law_ends" sEnds f fd)(o:mg "list" = none):FnOk P w K mg base CX0 1 f fd ["_law_work_here"] (qQ7 K):=by
 refine F.ok qY2 (λB H Q E h=>?_) (λa8 A T s H B Q E hr h=>?_)
 ·obtain⟨a,w,rfl,_⟩:=h;rfl
 ·obtain⟨a,r,rfl,hW,U,a9,q⟩:=h;have C:((["_law_deeds_here","_law_end"]:List Str)).Nodup:=by decide
  refine⟨_,zI (zP (zp ["_law_deeds_here","_law_end"] [] rfl (.of rfl) (zu (pv 0)) (λ_ _ _ _=>xb (n:=2) K rfl rfl (ze (zJ (i:=0) C rfl (Or.inl rfl)) (ze (zJ (i:=1) C rfl (Or.inl rfl)) yI))) (λ_ _ _ _ =>.nil)
   (λ_ _ _ _=>zr (jS K rfl) (by rfl) o cI (zA (yM (Qq K rfl) (pv 1) (yL zE) yK) zB)))),?_⟩
  dsimp only [zb,zg];obtain⟨a',B,ea,D,G⟩:=hW.ofList;cases ea;have W:B.length=r.length:=by rw [G.len,aB]
  left;refine⟨a,rfl,⟨B,D⟩,λl I=>?_⟩;refine zx (xs:=B) (λi m e => ∃(g:List V) (O S:Option V),m = [O,S]/\Ext [l] H e/\e l=some (.lst g)/\NsAt l e g ((r.take i).map Blk.ns)) ?_ ?_ ?_ ?_
  ·exact⟨[],none,none,rfl,.laid I,zC,.nil⟩
  ·rintro i m e hi ⟨g,O,S,rfl,v,j,d⟩;exact (v.drop I).toSame.seq D
  ·rintro i x m e R hx ⟨g,O,S,rfl,v,j,d⟩ hR;have es:Same H e:=(v.drop I).toSame;obtain⟨dd,k,X⟩:=G.get hx;obtain⟨b,Y,rfl⟩:∃b,r[i]? = some b/\dd=blkD b:=by
    rw [aS] at k;cases z:r[i]? with
    | none=>rw [z] at k;cases k
    | some n=>rw [z] at k;exact⟨n,rfl,(bT k).symm⟩
   have hi:i<r.length:=(aE.mp Y).1;have J:=U b (aM Y);obtain⟨c,us,rfl,hc,Z⟩:=X.ofTuple;obtain⟨v1,r1,rfl,b0,a0⟩:=Z.ofCons;obtain⟨v2,r2,rfl,L,t⟩:=a0.ofCons;have t:=t.ofNil;subst t;obtain⟨wd,a1⟩:=Qt J;rw [a1] at L;obtain⟨en,b1,rfl,a2,a3⟩:=L.ofTuple;obtain⟨v3,r3,rfl,a4,a5⟩:=a3.ofCons;have e3:=a4.ofStr;subst e3;have e4:=a5.ints;subst e4;refine yO (es.seqT hc) rfl ?_;left;refine iteT ?_;left;refine⟨1,rfl,?_⟩;left;refine⟨en,_,rfl,es.seqT a2,?_,λp hp=>?_⟩
   ·intro h;have:=h.1;revert this;have hn:(V.str wd::b.ns.map V.int).length=b.ns.length+1:=by simp
    rw [hn];unfold HT.sIx;simp
    try lia
   have M:cutV (V.str wd::b.ns.map V.int) (some 1) none=b.ns.map V.int:=by
    match hh:b.ns,J with
    | [],_=>rfl
    | [x],_=>rfl
    | [x,y],_=>rfl
   rw [M];have a6:p≠l:=(zF j hp).symm;left;refine⟨p,_,rfl,.inr (SqT.of zC),λN u=>?_⟩;have l':upd e p (.tup (b.ns.map V.int)) l=some (.lst g):=by rw [zD a6.symm];exact j
   have n2:N≠l:=(zF l' u).symm;have a7:g.length=i:=by rw [d.len,aB,aN];lia
   refine⟨g,by rw [zD n2.symm];exact l',zZ (by lia),hR _ _ ⟨g ++ [.ref N],_,_,rfl,?_,zC,?_⟩⟩
   ·exact v.trans ((Ext.laid hp).trans ((Ext.laid u).trans (.put (by simp))))
   ·have ht:r.take (i+1)=r.take i ++ [b]:=by rw [fN,Y];rfl
    have E2:Ext [l] e (upd (upd (upd e p (.tup (b.ns.map V.int))) N (.lst (b.ns.map V.int))) l (.lst (g ++ [.ref N]))):=(Ext.laid hp).trans ((Ext.laid u).trans (.put (by simp)));rw [ht,aJ];exact Paired.snoc (d.mono E2) ⟨N,rfl,n2,by rw [zD n2,zC]⟩
  ·rintro m e ⟨g,O,S,rfl,v,j,d⟩;rw [W,aY] at d;exact q l g e I (v.drop I) j d
end
section
variable{P:Program}{w:World}{K:PySem.W.Frag}{mg:Str->Option Value}{base:Heap}
theorem anyK(K:PySem.W.Frag){X:Cx}(h:X.K=K)(hh:X.A.handled=none):CallR X (.builtin "any") (rAnyB K):=h▸jk hh
abbrev ia:Stmt:=top 13
theorem qQd:FnScope ["work","box"] ["work","box"] (zU ia):=⟨rfl,rfl,rfl,by decide +kernel,rfl,by decide +kernel,by decide +kernel⟩
theorem qOt{f:Addr}{fd:FuncData}(F:Fun K "writers" "writers" ia f fd)(u:mg "enumerate" = none)(L:mg "any" = none)(a3:Has P w K mg base "writes_box" 1 ["deed","box"] (xq wrB K)):FnOk P w K mg base CX0 2 f fd ["work","box"] (wO K):=by
 have v:((["at","deeds","end","box"]:List Str)).Nodup:=by decide
 refine F.ok qQd (λM H Q E h=>?_) (λb3 A a4 s H M Q E hr h=>?_)
 ·obtain⟨wa,z,m,B,x,rfl,_⟩:=h;rfl
 ·obtain⟨wa,z,m,B,x,rfl,hW,N,hm,q⟩:=h
  refine⟨_,zI (zP (zp ["at","deeds","end"] [1] rfl (.of rfl) (vU rfl u (zA (pv 0) zB)) (λ_ _ _ _=>xb (n:=2) K rfl rfl (ze (zJ (i:=0) v rfl (Or.inl rfl)) (ze (xb (n:=2) K rfl rfl (ze (zJ (i:=1) v rfl (Or.inl rfl)) (ze (zJ (i:=2) v rfl (Or.inl rfl)) yI))) yI)))
   (λ_ _ _ _ =>.cons (yE K rfl (zO (anyK K rfl hr.hd) (by rfl) L fZ (zA (zp ["deed"] [3] rfl (.of rfl) (wh K rfl (pv 1)) (λ_ _ _ _=>zJ (i:=0) (by show ((["deed","box"]:List Str)).Nodup;decide) rfl (Or.inl rfl)) (λ_ _ _ _ =>.nil) (λ_ _ _ _=>zH a3 hr (by decide) (zA (pv 0) (zA (pv 1) zB)))) zB)) (λ_=>rfl)) .nil) (λ_ _ _ _=>pv 0))),?_⟩
  dsimp only [zb,zg];obtain⟨a',M,ea,O,S⟩:=hW.ofList;cases ea;have a5:M.length=z.length:=by rw [S.len,aB]
  have b4:=N.len;left;refine⟨wa,rfl,⟨M,O⟩,λl T=>?_⟩;refine Qi (xs:=M) (λi a o => ∃(r o1 o2:Option V),a = [r,o1,o2,some (.int x)]/\Ext [l] H o/\o l=some (.lst ((wrTo z x i).map V.int))) ?_ ?_ ?_ ?_
  ·exact⟨none,none,none,rfl,.laid T,zC⟩
  ·rintro i a o hi ⟨r,o1,o2,rfl,U,k⟩;exact (U.drop T).toSame.seq O
  ·rintro i y a o pt R hy ⟨r,o1,o2,rfl,U,k⟩ W hR;obtain⟨dd,C,a6⟩:=S.get hy;obtain⟨b,hb,rfl⟩:=zj C;have hi:i<z.length:=(aE.mp hb).1;obtain⟨c,us,rfl,hc,a7⟩:=a6.ofTuple;obtain⟨v1,r1,rfl,a8,a9⟩:=a7.ofCons;obtain⟨v2,r2,rfl,b5,D⟩:=a9.ofCons;have D:=D.ofNil;subst D;obtain⟨dl,G,rfl,X,t⟩:=a8.ofList;have Y:=N.blk b (aM hb);have b0:pt≠l:=(zF k W).symm;have e1:Ext [l] H (upd o pt (.tup [.int i,.ref c])):=U.trans (.laid W);have es:Same H (upd o pt (.tup [.int i,.ref c])):=(e1.drop T).toSame;have Z:upd o pt (.tup [.int i,.ref c]) l=some (.lst ((wrTo z x i).map V.int)):=by rw [zD b0.symm];exact k
   have a0:SqT K (upd o pt (.tup [.int i,.ref c])) pt [.int i,.ref c]:=SqT.of zC;generalize upd o pt (.tup [.int i,.ref c])=H1 at *;refine yO a0 rfl ?_;left;refine yO (es.seqT hc) rfl ?_;left;refine⟨dl,rfl,⟨G,es.seq X⟩,λlc p=>?_⟩;have b6:l≠lc:=zF Z p;refine zx (xs:=G) (λj a I => ∃(r:Option V),a = [r,some (.int x)]/\Ext [lc] H1 I/\I lc=some (.lst (((b.ds.take j).map (wrB x)).map V.bl))) ?_ ?_ ?_ ?_
   ·exact⟨none,rfl,.laid p,zC⟩
   ·rintro j a I hj ⟨r,rfl,J,g⟩;exact (J.drop p).toSame.seq (es.seq X)
   ·rintro j y a I R2 hy ⟨r,rfl,J,g⟩ b1;obtain⟨dd,C,b2⟩:=t.get hy;obtain⟨d,hd,rfl⟩:=zj C;have b7:j<b.ds.length:=(aE.mp hd).1;left;refine iteT ?_;left;refine⟨y,d,x,rfl,(b2.mono es).mono (J.drop p).toSame,λH3 e3=>?_⟩;refine⟨_,e3 _ _ (by simp) g,zZ (by rw [aB,aB,aN];have:=Y.few;lia),b1 _ _ ⟨_,rfl,J.trans ((e3.mono (by simp)).trans (.put (by simp))),?_⟩⟩;rw [zC,zd hd,aJ,aJ];rfl
   ·rintro a I ⟨r,rfl,J,g⟩;have a1:G.length=b.ds.length:=by rw [t.len,aB]
    rw [a1,aY] at g;left;refine⟨lc,b.ds.map (wrB x),rfl,SqL.of g,?_⟩;refine⟨wrote x b.ds,?_,?_⟩
    ·have e:(b.ds.map (wrB x)).any id=wrote x b.ds:=by unfold wrote;rw [List.any_map];rfl
     rw [e];rfl
    have E2:Ext [] H1 I:=J.drop p;have a2:=E2 _ _ (by simp) Z;have hs:=qJf z x i;have b8:=xf z x i;rw [qSt hb] at hs;cases hw:wrote x b.ds with
    | true =>
     rw [hw,if_pos rfl] at hs;refine iteT (iteT ?_);left;refine⟨_,a2,zZ (by rw [aB];lia),hR _ _ ⟨_,_,_,rfl,(e1.trans (E2.mono (by simp))).trans (.put (by simp)),?_⟩⟩;rw [zC,hs,aJ];rfl
    | false =>
     rw [hw,if_neg aL] at hs;refine iteF (iteF (hR _ _ ⟨_,_,_,rfl,e1.trans (E2.mono (by simp)),?_⟩));rw [hs];exact a2
  ·rintro a o ⟨r,o1,o2,rfl,U,k⟩;rw [a5] at k;exact q l o T (U.drop T) k
end
section
variable{P:Program}{w:World}{K:PySem.W.Frag}{mg:Str->Option Value}{base:Heap}
abbrev ib:Stmt:=top 36
theorem inK(K:PySem.W.Frag){X:Cx}(h:X.K=K):OpR X (compareOp .In) (rIn K false):=h▸xt
theorem qQe:FnScope ["_law_work_here","_law_box"] ["_law_work_here","_law_box"] (zU ib):=⟨rfl,rfl,rfl,by decide +kernel,rfl,by decide +kernel,by decide +kernel⟩
theorem qOv{f:Addr}{fd:FuncData}(F:Fun K "_law_writes" "_law_writes" ib f fd)(r:mg "range" = none)(J:mg "len" = none)(L:mg "any" = none):FnOk P w K mg base CX0 1 f fd ["_law_work_here","_law_box"] (wO K):=by
 have a2:((["_law_b","_law_box","_law_work_here"]:List Str)).Nodup:=by decide
 refine F.ok qQe (λM H Q E h=>?_) (λb4 A a3 s H M Q E hr h=>?_)
 ·obtain⟨wa,u,m,B,x,rfl,_⟩:=h;rfl
 ·obtain⟨wa,u,m,B,x,rfl,hW,N,hm,q⟩:=h
  refine⟨_,zI (zP (zp ["_law_b"] [1,0] rfl (.of rfl) (xB rfl r (zA (zO yb (by rfl) J cK (zA (pv 0) zB)) zB)) (λ_ _ _ _=>zJ (i:=0) a2 rfl (Or.inl rfl))
   (λ_ _ _ _ =>.cons (yE K rfl (zO (anyK K rfl hr.hd) (by rfl) L fZ (zA (zp ["_law_one"] [1] rfl (.of rfl) (wh K rfl (zM (xl K rfl) (zM (qUv K rfl) (pv 2) (pv 0) (λ_ _=>rfl)) zE (λ_ _=>rfl))) (λ_ _ _ _=>zJ (i:=0) (by show ((["_law_one","_law_box"]:List Str)).Nodup;decide) rfl (Or.inl rfl)) (λ_ _ _ _ =>.nil)
    (λ_ _ _ _=>xR (yJ (inK K rfl) (zM (xl K rfl) (pv 0) zE (λ_ _=>rfl)) (zm (zA yB (zA yB zB))) rfl) (xN (yJ zq (zM (xl K rfl) (pv 0) zE (λ_ _=>rfl)) (pv 1) (zQ _))))) zB)) (λ_=>rfl)) .nil) (λ_ _ _ _=>pv 0))),?_⟩
  dsimp only [zb,zg];obtain⟨a',M,ea,O,S⟩:=hW.ofList;cases ea;have a4:M.length=u.length:=by rw [S.len,aB]
  have b5:=N.len;left;refine⟨wa,_,rfl,.inl O,?_⟩;left;refine⟨_,rfl,by lia,by lia,λl hl=>?_⟩;refine vX (lo:=0) (n:=(M.length:Int).toNat) (λi a H' => ∃(v:Option V),a = [v,some (.int x),some (.ref wa)]/\Ext [l] H H'/\H' l=some (.lst ((wrTo u x i).map V.int))) ?_ ?_ ?_
  ·exact⟨none,rfl,.laid hl,zC⟩
  ·rintro i a H1 R hi ⟨v,rfl,e1,T⟩ hR;have hi:i<u.length:=by lia
   obtain⟨b,hb⟩:∃b,u[i]? = some b:=⟨u[i],aD hi⟩;have U:Same H H1:=(e1.drop hl).toSame;obtain⟨y,hy,a5⟩:=S.get' (i:=i) (d:=blkD b) (by rw [aS,hb];rfl);obtain⟨c,us,rfl,hc,a6⟩:=a5.ofTuple;obtain⟨v1,r1,rfl,a7,a8⟩:=a6.ofCons;obtain⟨v2,r2,rfl,b6,C⟩:=a8.ofCons;have C:=C.ofNil;subst C;obtain⟨dl,D,rfl,W,z⟩:=a7.ofList;have X:=N.blk b (aM hb);left;refine zR (U.seq O) (show atI M (0+(i:Int))=some (.ref c) by rw [hJ];exact zK hy) ?_;left;refine zw (U.seqT hc) (show atI _ ((0:Nat):Int)=some (V.ref dl) from zK rfl) ?_;left;refine⟨dl,rfl,⟨D,U.seq W⟩,λG k=>?_⟩;have b7:l≠G:=zF T k
   refine zx (xs:=D) (λj a t => ∃(v:Option V),a = [v,some (.int x)]/\Ext [G] H1 t/\t G=some (.lst (((b.ds.take j).map (wrB x)).map V.bl))) ?_ ?_ ?_ ?_
   ·exact⟨none,rfl,.laid k,zC⟩
   ·rintro j a t hj ⟨v,rfl,I,g⟩;exact (I.drop k).toSame.seq (U.seq W)
   ·rintro j y a t R2 hy ⟨v,rfl,I,g⟩ a9;obtain⟨dd,b0,b1⟩:=z.get hy;obtain⟨d,hd,rfl⟩:=zj b0;obtain⟨p,rfl,b2⟩:=vF b1;have hp:=(I.drop k).toSame.seqT (U.seqT b2);have b8:j<b.ds.length:=(aE.mp hd).1;left;refine iteT ?_;left;refine vp ?_;left;refine zw hp (show atI _ ((0:Nat):Int)=some (V.str (dword d)) from zK rfl) ?_;left;refine⟨len2 (by show 2<=1000;decide),λpt b3=>?_⟩;have e6:Ext [] t (upd t pt (.tup [.str "set",.str "add"])) :=.laid b3;refine⟨pt,[V.str "set",.str "add"],rfl,.inr (SqT.of zC),rfl,rfl,?_⟩;rw [if_neg aL,deed_in];refine⟨_,rfl,?_⟩;have Y:=e6.toSame.seqT hp;generalize upd t pt (.tup [.str "set",.str "add"])=G6 at e6 Y ⊢
    have o:∃xs:List V,G6 G=some (.lst xs)/\xs.length<sizeLine/\R2 [some (.ref p),some (.int x)] (upd G6 G (.lst (xs ++ [.bl (wrB x d)]))):=by
     refine⟨_,e6 _ _ (by simp) g,zZ (by rw [aB,aB,aN];have:=X.few;lia),a9 _ _ ⟨_,rfl,I.trans ((e6.mono (by simp)).trans (.put (by simp))),?_⟩⟩;rw [zC,zd hd,aJ,aJ];rfl
    unfold wrB at o;cases hw:(wr d).isSome with
    | true =>
     rw [hw] at o;refine iteT ?_;left;refine zw Y (vG d) ?_;left;refine zv ?_;exact o
    | false =>
     rw [hw] at o;exact iteF o
   ·rintro a t ⟨v,rfl,I,g⟩;have Z:D.length=b.ds.length:=by rw [z.len,aB]
    rw [Z,aY] at g;left;refine⟨G,b.ds.map (wrB x),rfl,SqL.of g,?_⟩;refine⟨wrote x b.ds,?_,?_⟩
    ·have e:(b.ds.map (wrB x)).any id=wrote x b.ds:=by unfold wrote;rw [List.any_map];rfl
     rw [e];rfl
    have E2:Ext [] H1 t:=I.drop k;have a0:=E2 _ _ (by simp) T;have hs:=qJf u x i;have b9:=xf u x i;rw [qSt hb] at hs;cases hw:wrote x b.ds with
    | true =>
     rw [hw,if_pos rfl] at hs;refine iteT (iteT ?_);left;refine⟨_,a0,zZ (by rw [aB];lia),hR _ _ ⟨_,rfl,(e1.trans (E2.mono (by simp))).trans (.put (by simp)),?_⟩⟩;rw [zC,hs,aJ,hJ];rfl
    | false =>
     rw [hw,if_neg aL] at hs;refine iteF (iteF (hR _ _ ⟨_,rfl,e1.trans (E2.mono (by simp)),?_⟩));rw [hs];exact a0
  ·rintro a H' ⟨v,rfl,e',a1⟩;rw [cE,a4] at a1;exact q l H' hl (e'.drop hl) a1
end
section
variable{P:Program}{w:World}{K:PySem.W.Frag}{mg:Str->Option Value}{base:Heap}
abbrev ic:Stmt:=top 17
theorem scAwaited:FnScope ["works","number","box","waiting"] ["works","number","box"] (zU ic):=⟨rfl,rfl,rfl,by decide +kernel,rfl,by decide +kernel,by decide +kernel⟩
theorem qOy{f:Addr}{fd:FuncData}(F:Fun K "awaited" "awaited" ic f fd)(a:mg "range" = none)(j:mg "len" = none)(N:Has P w K mg base "awaiting" 4 ["works","box"] (qQ9 K)):FnOk P w K mg base CX0 5 f fd ["works","number","box"] (qJt K):=by
 refine F.ok scAwaited (λvs H Q E h=>?_) (λa3 A O s H vs Q E hr h=>?_)
 ·obtain⟨wa,o,n,r,x,rfl,_⟩:=h;rfl
 ·obtain⟨wa,o,n,r,x,rfl,hW,u,v,q⟩:=h;have hu:=yW hr
  refine⟨_,zG (zN (i:=3) scAwaited.nd rfl (Or.inr rfl) (zH N hr (by decide) (zA (pv 0) (zA (pv 2) zB))))
   (zI (zP (zp ["at"] [1,3] rfl (.of rfl) (xB rfl a (zA (zO yb (by rfl) j cK (zA (zM zX (pv 0) (pv 1) (λ_ _=>rfl)) zB)) zB)) (λ_ _ _ _=>zJ (i:=0) (by show ((["at","number","waiting"]:List Str)).Nodup;decide) rfl (Or.inl rfl)) (λ_ _ _ _ =>.cons (vJ (QE hu (zm (zA (pv 1) (zA (pv 0) zB))) (pv 2))) .nil) (λ_ _ _ _=>pv 0)))),?_⟩
  dsimp only [zb,zg];obtain⟨a',vs,ea,S,T⟩:=hW.ofList;cases ea;obtain⟨vw,U,W⟩:=T.get' (i:=n) (d:=workD r) (by rw [aS,v];rfl);obtain⟨wb,bs,rfl,X,y⟩:=W.ofList;have Y:bs.length=r.length:=by rw [y.len,aB]
  obtain⟨m,a4,a5,Z⟩:=u.all r (aM v);have a6:=Z.len;left;refine⟨wa,o,x,rfl,hW,u,λd ks H1 hd L z a2 a0=>?_⟩;left;refine zR (L.toSame.seq S) (zK U) ?_;left;refine⟨wb,_,rfl,.inl (L.toSame.seq X),?_⟩;left;refine⟨_,rfl,by lia,by lia,λl B=>?_⟩;have a7:d≠l:=zF z B;refine vX (lo:=0) (n:=(bs.length:Int).toNat) (λi e G => ∃(o0:Option V),e = [o0,some (.int n),some (.ref d)]/\Ext [l] H1 G/\G l=some (.lst ((waitTo o x n i).map V.int))) ?_ ?_ ?_
  ·exact⟨none,rfl,.laid B,zC⟩
  ·rintro i e G R hi ⟨o0,rfl,C,b⟩ hR;have hi:i<r.length:=by lia
   have a1:G d=some (.dT (trueD ks)):=(C.drop B) _ _ (by simp) z;have a8:=qOg o x n i;left;refine⟨len2 (by show 2<=1000;decide),λp hp=>?_⟩;have D:Ext [] G (upd G p (.tup [.int (n:Int),.int (0+(i:Int))])) :=.laid hp;have I:upd G p (.tup [.int (n:Int),.int (0+(i:Int))]) p=some (.tup [.int (n:Int),.int (0+(i:Int))]):=zC;have J:=D _ _ (by simp) a1;have g:=D _ _ (by simp) b;generalize upd G p (.tup [.int (n:Int),.int (0+(i:Int))])=G4 at D I J g ⊢;left;refine⟨d,_,rfl,DGet.t (k:=plK ((n:Int),0+(i:Int))) J I,?_⟩;rw [wm];have c:askB o x ((n:Int),(i:Int))=decide (((n:Int),(0+(i:Int)))∈ks):=by
    rw [cM,askB_iff,decide_eq_true_iff,a0,hJ]
   by_cases M:((n:Int),(0+(i:Int)))∈ks
   ·rw [if_pos M];refine yr (iteT (iteT ?_));left;refine⟨_,g,zZ (by rw [aB];lia),hR _ _ ⟨_,rfl,(C.trans (D.mono (by simp))).trans (.put (by simp)),?_⟩⟩;rw [zC,qGi,c,decide_eq_true M,if_pos rfl,aJ,hJ];rfl
   ·rw [if_neg M];refine yr (iteF (iteF (hR _ _ ⟨_,rfl,C.trans (D.mono (by simp)),?_⟩)));rw [g,qGi,c,decide_eq_false M,if_neg aL]
  ·rintro e G ⟨o0,rfl,C,b⟩;rw [cE,Y] at b;exact q l G (L.none (by simp) B) (L.trans (C.drop B)) b
end
section
variable{P:Program}{w:World}{K:PySem.W.Frag}{mg:Str->Option Value}{base:Heap}
abbrev ie:Stmt:=top 16
theorem scReached:FnScope ["works","number","box","nexts","starts"] ["works","number","box"] (zU ie):=⟨rfl,rfl,rfl,by decide +kernel,rfl,by decide +kernel,by decide +kernel⟩
theorem qOu{f:Addr}{fd:FuncData}(F:Fun K "reached" "reached" ie f fd)(D:mg "sorted" = none)(hX:Has P w K mg base "nexts_of" 1 ["work"] (qZz K))(a3:Has P w K mg base "writers" 2 ["work","box"] (wO K))(a4:Has P w K mg base "led_to" 1 ["starts","nexts"] (ju K)):FnOk P w K mg base CX0 3 f fd ["works","number","box"] (qJm K):=by
 have N:((["at","to","nexts"]:List Str)).Nodup:=by decide
 refine F.ok scReached (λvs H Q E h=>?_) (λc0 A a5 s H vs Q E O h=>?_)
 ·obtain⟨wa,ws,n,e,x,rfl,_⟩:=h;rfl
 ·obtain⟨wa,ws,n,e,x,rfl,hW,a6,S,q⟩:=h;have hu:=yW O
  refine⟨_,zG (zN (i:=3) scReached.nd rfl (Or.inr rfl) (zH hX O (by decide) (zA (zM zX (pv 0) (pv 1) (λ_ _=>rfl)) zB)))
   (zG (qYr (i:=4) ["at","to"] [3] rfl (.of rfl) scReached.nd rfl (Or.inl rfl) (zu (zH a3 O (by decide) (zA (zM zX (pv 0) (pv 1) (λ_ _=>rfl)) (zA (pv 2) zB)))) (λ_ _ _ _=>zJ (i:=0) N rfl (Or.inl rfl)) (λ_ _ _ _ =>.nil)
    (λ_ _ _ _=>wh K rfl (xy hu (pv 2) (pv 0) (λ_ _=>rfl))) (λ_ _ _ _=>zJ (i:=1) N rfl (Or.inl rfl)) (λ_ _ _ _ =>.nil) (λ_ _ _ _=>pv 1))
   (zI (zP (zO (wN O.hd) (by rfl) D bJ (zA (zH a4 O (by decide) (zA (pv 4) (zA (pv 3) zB))) zB))))),?_⟩
  dsimp only [zb,zg];obtain⟨a',vs,ea,T,a7⟩:=hW.ofList;cases ea;obtain⟨vw,U,I⟩:=a7.get' (i:=n) (d:=workD e) (by rw [aS,S];rfl);obtain⟨wb,bs,rfl,c1,b9⟩:=I.ofList;obtain⟨m,c2,W,g⟩:=a6.all e (aM S);have c3:=g.len;left;refine zR T (zK U) ?_;left;refine⟨wb,e,rfl,I,λb hb=>(g.blk b hb).ns.few,by lia,λnd H1 c4 e1 X=>?_⟩;left;refine zR (e1.toSame.seq T) (zK U) ?_;left;refine⟨wb,e,m,_,x,rfl,I.mono e1.toSame,g,W,λlw H2 c5 e2 p=>?_⟩;left;refine⟨lw,rfl,⟨_,SqL.of p⟩,λl M=>?_⟩;have a8:lw≠l:=zF p M;refine zx (xs:=(wrTo e x e.length).map V.int) (λi o G => ∃(o0 B:Option V),o = [o0,B,some (.ref nd)]/\Ext [l] H2 G/\G l=some (.lst ((((wrTo e x e.length).take i).flatMap (nxt e)).map V.int))) ?_ ?_ ?_ ?_
  ·exact⟨none,none,rfl,.laid M,zC⟩
  ·rintro i o G hi ⟨o0,B,rfl,J,t⟩;exact SqL.of (J _ _ (by simpa using a8) p)
  ·rintro i v o G R hv ⟨o0,B,rfl,J,t⟩ hR;obtain⟨y,hy,rfl⟩:=zj hv;obtain⟨k,rfl,hk,c6⟩:=mem_wrTo.mp (aM hy);obtain⟨c7,a9,b0⟩:=X.mono e2;obtain⟨c,b1,Y⟩:=b0 k (by lia) (by lia);have b2:c≠l:=zF Y M;have b3:=(J.drop M) _ _ (by simp) a9;have Z:=(J.drop M) _ _ (by simp) Y;left;refine iteT ?_;unfold bNext;left;refine⟨nd,.ref c,rfl,?_,?_⟩
   ·have:=DGet.k (k:=Sum.inl (k:Int)) b3;rw [b1] at this;exact this
   have a0:=vi (nxt e) (λa=>(xP g a).few) ((wrTo e x e.length).take i);have b4:=xf e x e.length;have c8:=(xP g (k:Int)).few;rw [aN] at a0;refine⟨c,rfl,⟨_,SqL.of Z⟩,?_⟩;refine zx (xs:=(nxt e (k:Int)).map V.int) (λj o G2 => ∃(B:Option V),o = [some (.int k),B,some (.ref nd)]/\Ext [l] G G2/\G2 l=some (.lst ((((wrTo e x e.length).take i).flatMap (nxt e)++(nxt e (k:Int)).take j).map V.int))) ?_ ?_ ?_ ?_
   ·exact⟨_,rfl,.refl _ _,by rw [t,List.take_zero,cH]⟩
   ·rintro j o G2 hj ⟨B,rfl,L,u⟩;exact SqL.of (L _ _ (by simpa using b2) Z)
   ·rintro j v o G2 R2 hv ⟨B,rfl,L,u⟩ b5;obtain⟨z,hz,rfl⟩:=zj hv;left;refine iteT ?_;left;refine⟨_,u,zZ (by rw [aB,aI,aN];lia),b5 _ _ ⟨_,rfl,L.trans (.put (by simp)),?_⟩⟩;rw [zC,zd hz,<-eZ,aJ,aJ,aJ];rfl
   ·rintro o G2 ⟨B,rfl,L,u⟩;rw [aB,aY] at u;refine hR _ _ ⟨_,_,rfl,J.trans L,?_⟩;rw [u,zd hy,fA,gD,List.flatMap_nil,cH]
  ·rintro o G ⟨o0,B,rfl,J,t⟩;rw [aB,aY] at t;have E3:=J.drop M;have a0:=vi (nxt e) (λa=>(xP g a).few) (wrTo e x e.length);have b4:=xf e x e.length;left;refine .inl ⟨l,nd,e,m,_,yp e x,rfl,SqL.of t,X.mono (e2.trans E3),g,W,λs hs=>?_,by unfold yp;lia,λd ks H4 hd L b6 C a1=>?_⟩
   ·obtain⟨y,_,b7⟩:=cG.mp hs;have:=(xP g y).range s b7;exact⟨by lia,this.2⟩
   left;refine⟨d,ks,_,rfl,b6,by rw [dS];rfl,?_,λls ns a2 hp b8=>?_⟩
   ·have:ks.length<=((List.range e.length).map λ(i:Nat)=>(i:Int)).length:=xm C λy hy=>by
     obtain⟨s,hs,r⟩:=(a1 y).mp hy;obtain⟨z,_,hz⟩:=cG.mp hs;have h1:=(xP g z).range s hz;have:=r.range g ⟨by lia,h1.2⟩;exact aW.mpr ⟨y.toNat,bF.mpr (by lia),by lia⟩
    rw [aB,cO] at this;lia
   have EF:Ext [] H H4:=e1.trans ((e2.trans E3).trans L);exact q ls ns _ (EF.none (by simp) a2) (EF.trans (.laid a2)) zC b8 (hp.symm.nodup C) λy=>by rw [hp.mem_iff,a1]
end
section
variable{P:Program}{w:World}{K:PySem.W.Frag}{mg:Str->Option Value}{base:Heap}
abbrev ig:Stmt:=top 38
theorem scBehind:FnScope ["_law_work_here","_law_box","_law_found","_law_nexts_here","_law_block","_law_turn"] ["_law_work_here","_law_box"] (zU ig):=⟨rfl,rfl,rfl,by decide +kernel,rfl,by decide +kernel,by decide +kernel⟩
theorem qRz{f:Addr}{fd:FuncData}(F:Fun K "_law_behind" "_law_behind" ig f fd)(L:mg "range" = none)(a6:mg "len" = none)(a0:mg "list" = none)(a7:mg "set" = none)(a1:mg "sorted" = none)
  (b4:Has P w K mg base "_law_ends" 1 ["_law_work_here"] (qQ7 K)) (b5:Has P w K mg base "_law_writes" 1 ["_law_work_here","_law_box"] (wO K)):FnOk P w K mg base CX0 2 f fd ["_law_work_here","_law_box"] (qN3 K):=by
 refine F.ok scBehind (λvs H Q E h=>?_) (λc9 A b6 s H vs Q E hr h=>?_)
 ·obtain⟨wa,a,m,C,x,rfl,_⟩:=h;rfl
 ·obtain⟨wa,a,m,C,x,rfl,hW,u,hm,q⟩:=h
  refine⟨_,zG (wU (zm (zA (zW zB) (zA (zH b4 hr (by decide) (zA (pv 0) zB)) zB))) (xS (n:=2) rfl (ze (zJ (i:=2) scBehind.nd rfl (Or.inr rfl)) (ze (zJ (i:=3) scBehind.nd rfl (Or.inl rfl)) yI))))
   (zG (yV bU rfl (zu (zH b5 hr (by decide) (zA (pv 0) (zA (pv 1) zB)))) (zJ (i:=4) scBehind.nd rfl (Or.inl rfl))
    (zI (zN (i:=2) scBehind.nd rfl (Or.inr rfl) (zL xD (pv 2) (zM zX (pv 3) (pv 4) (λ_ _=>rfl))))))
   (zG (yV bU rfl (xB rfl L (zA (zO yb (by rfl) a6 cK (zA (pv 0) zB)) zB)) (zJ (i:=5) scBehind.nd rfl (Or.inl rfl))
    (zI (yV bU rfl (zu (zr vQ (by rfl) a0 cI (zA (pv 2) zB))) (zJ (i:=4) scBehind.nd rfl (Or.inl rfl))
     (zI (zN (i:=2) scBehind.nd rfl (Or.inr rfl) (zL xD (pv 2) (zp ["_law_to"] [2] rfl (.of rfl) (zu (zM zX (pv 3) (pv 4) (λ_ _=>rfl))) (λ_ _ _ _=>zJ (i:=0) (by show ((["_law_to","_law_found"]:List Str)).Nodup;decide) rfl (Or.inl rfl)) (λ_ _ _ _ =>.cons (zV (Qu K rfl) (pv 0) (pv 1) rfl) .nil) (λ_ _ _ _=>pv 0))))))))
   (zI (zP (zO (wJ hr.hd) (by rfl) a1 bJ (zA (zr (wK hr.hd) (by rfl) a7 dM (zA (pv 2) zB)) zB)))))),?_⟩
  dsimp only [zb,zg];obtain⟨a',vs,ea,b7,b8⟩:=hW.ofList;cases ea;have b9:vs.length=a.length:=by rw [b8.len,aB]
  have d0:=u.len;have few:∀y,(nxt a y).length<=2:=λy=>(xP u y).few;have d1:(yp a x).length<=24:=by
   have h1:=vi (nxt a) few (wrTo a x a.length);have h2:=xf a x a.length;unfold yp;lia
  have a2:∀y,(∃s∈yp a x,Reach (nxt a) s y)->0<=y/\y<(a.length:Int):=by
   rintro y ⟨s,hs,r⟩;obtain⟨z,_,hz⟩:=cG.mp hs;have h1:=(xP u z).range s hz;have:=r.range u ⟨by lia,h1.2⟩;lia
  left;refine⟨len2 (bB _),λM c0=>?_⟩;have e0:Ext [] H (upd H M (.lst [])) :=.laid c0;have S:upd H M (.lst []) M=some (.lst []):=zC;generalize upd H M (.lst [])=H0 at e0 S ⊢;left;refine⟨wa,a,rfl,hW.mono e0.toSame,λb hb=>(u.blk b hb).ns.few,by lia,λn us H1 hn e1 c1 c2=>?_⟩;left;refine⟨len2 (by show 2<=1000;decide),λp3 c3=>?_⟩;have e2:Ext [] H1 (upd H1 p3 (.tup [.ref M,.ref n])) :=.laid c3;have T:SqT K (upd H1 p3 (.tup [.ref M,.ref n])) p3 [.ref M,.ref n]:=SqT.of zC;generalize upd H1 p3 (.tup [.ref M,.ref n])=H2 at e2 T ⊢;refine yO T rfl ?_;have a8:=e2 _ _ (by simp) c1;have a9:NsAt n H2 us (a.map Blk.ns):=c2.mono (e2.mono (by simp))
  have E2:Ext [] H H2:=e0.trans (e1.trans e2);have b0:=(e1.trans e2) _ _ (by simp) S;left;refine⟨wa,a,m,C,x,rfl,hW.mono E2.toSame,u,hm,λlw H3 d2 e3 U=>?_⟩;left;have d3:=xf a x a.length;refine⟨lw,rfl,⟨_,SqL.of U⟩,wc (xs:=(wrTo a x a.length).map V.int) (λi d G => ∃(g:Addr) (B W:Option V),d = [some (.ref wa),some (.int x),some (.ref g),some (.ref n),B,W]/\Ext [] H3 G/\G g=some (.lst ((((wrTo a x a.length).take i).flatMap (nxt a)).map V.int))) ?_ ?_ ?_ ?_⟩
  ·exact⟨M,_,_,rfl,.refl _ _,e3 _ _ (by simp) b0⟩
  ·rintro i d G hi ⟨g,B,W,rfl,eG,o⟩;exact SqL.of (eG _ _ (by simp) U)
  ·rintro i v d G hv ⟨g,B,W,rfl,eG,o⟩ N_ B_ C_ R_ hN_ hC_ hR_;obtain⟨y,hy,rfl⟩:=zj hv;obtain⟨k,rfl,hk,d4⟩:=mem_wrTo.mp (aM hy);have EG:=e3.trans eG;obtain⟨c,a3,X⟩:=(a9.mono (EG.mono (by simp))).get (x:=(k:Int)) (by lia) (by lia);have c4:=vi (nxt a) few ((wrTo a x a.length).take i);have c8:=few (k:Int);rw [aN] at c4;left;refine zR (SqL.of (EG _ _ (by simp) a8)) a3 ?_;refine⟨g,c,_,_,rfl,rfl,o,X,len2 (by rw [aB,aB];lia),λf1 a4=>?_⟩;left;refine⟨f1,_,_,rfl,eG.trans (.laid a4),?_⟩;rw [zC,zd hy,fA,aJ];simp
  ·rintro d G ⟨g,B,W,rfl,eG,o⟩;rw [aB,aY] at o;have EG:=e3.trans eG;have o:G g=some (.lst ((yp a x).map V.int)):=o;left;refine⟨wa,vs,rfl,.inl ((E2.trans EG).toSame.seq b7),?_⟩;rw [b9];left;refine⟨_,rfl,by lia,by lia,wf (lo:=0) (n:=(a.length:Int).toNat) (λt d N => ∃(g:Addr) (Fs:List Int) (B W:Option V),d = [some (.ref wa),some (.int x),some (.ref g),some (.ref n),B,W]/\Ext [] G N/\N g=some (.lst (Fs.map V.int))/\BehI (nxt a) (yp a x) a.length Fs/\Lays (nxt a) (yp a x) t Fs) ?_ ?_ ?_⟩
   ·exact⟨g,_,_,_,rfl,.refl _ _,o,.start _ _ _,.zero λ_ h=>h⟩
   ·rintro t d N ht ⟨g,Fs,B,W,rfl,e4,p,hI,hL⟩ N_ B_ C_ R_ hN_ hC_ hR_;left;refine⟨g,_,rfl,.inl (SqL.of p),λY a5=>?_⟩;have e5:Ext [] N (upd N Y (.lst (Fs.map V.int))) :=.laid a5;have D:upd N Y (.lst (Fs.map V.int)) Y=some (.lst (Fs.map V.int)):=zC;have Z:=e5 _ _ (by simp) p;generalize upd N Y (.lst (Fs.map V.int))=G2 at e5 D Z ⊢;refine⟨Y,rfl,⟨_,SqL.of D⟩,wc (xs:=Fs.map V.int) (λi d G3 => ∃(g:Addr) (e:List Int) (B:Option V),d = [some (.ref wa),some (.int x),some (.ref g),some (.ref n),B,some (.int (0+t))]/\Ext [] G2 G3/\G3 g=some (.lst (e.map V.int))/\BehI (nxt a) (yp a x) a.length e/\(∀y∈Fs,y∈e) /\ ∀b∈Fs.take i,∀c∈nxt a b,c∈e) ?_ ?_ ?_ ?_⟩
    ·exact⟨g,Fs,_,rfl,.refl _ _,Z,hI,λ_ h=>h,λb hb=>absurd hb (by simp)⟩
    ·rintro i d G3 hi ⟨g,e,B,rfl,e6,j,I,l,J⟩;exact SqL.of (e6 _ _ (by simp) D)
    ·rintro i v d G3 hv ⟨g,e,B,rfl,e6,j,I,l,J⟩ N_ B_ C_ R_ hN_ hC_ hR_;obtain⟨y,hy,rfl⟩:=zj hv;have b1:=aM hy;obtain⟨y0,y1⟩:=a2 y (hI.rk y b1);have E3:=EG.trans (e4.trans (e5.trans e6));obtain⟨c,a3,X⟩:=(a9.mono (E3.mono (by simp))).get (x:=y) y0 y1;have c5:=I.len;have c6:=wI (λx=>decide (x∈e)) a.length;have hf:=few y;left;refine zR (SqL.of (E3 _ _ (by simp) a8)) a3 ?_;refine⟨c,rfl,⟨_,SqL.of X⟩,λlc O=>?_⟩;refine zx (xs:=(nxt a y).map V.int) (λk d H3 => ∃(o0:Option V),d = [o0,some (.ref g)]/\Ext [lc] G3 H3/\H3 lc=some (.lst ((((nxt a y).take k).filter λx => !decide (x∈e)).map V.int))) ?_ ?_ ?_ ?_
     ·exact⟨none,rfl,.laid O,zC⟩
     ·rintro k d H3 hk ⟨o0,rfl,e7,h3⟩;exact SqL.of ((e7.drop O) _ _ (by simp) X)
     ·rintro k v d H3 R hv ⟨o0,rfl,e7,h3⟩ hR;obtain⟨z,hz,rfl⟩:=zj hv;have hk:k<(nxt a y).length:=(aE.mp hz).1;left;refine qYa (SqL.of ((e7.drop O) _ _ (by simp) j)) ?_;left;by_cases g2:z∈e
      ·rw [decide_eq_true g2];refine iteF (iteF (hR _ _ ⟨_,rfl,e7,?_⟩));rw [zd hz,cA];simpa [g2] using h3
      ·rw [decide_eq_false g2];refine iteT (iteT ?_);left;have d5:((((nxt a y).take k).filter λx => !decide (x∈e)).map V.int).length<=2:=by
        rw [aB];refine bL (bC _ _) ?_;rw [aN];lia
       refine⟨_,h3,zZ (by lia),hR _ _ ⟨_,rfl,e7.trans (.put (by simp)),?_⟩⟩;rw [zd hz,cA,zC];simp [g2]
     ·rintro d H3 ⟨o0,rfl,e7,h3⟩;rw [aB,aY] at h3;have b2:=e7.drop O;have d6:=bC (λx => !decide (x∈e)) (nxt a y);refine⟨g,lc,_,_,rfl,rfl,b2 _ _ (by simp) j,h3,len2 (by rw [aB,aB];lia),λf1 a4=>?_⟩;left;refine⟨f1,grow (nxt a) e y,_,rfl,e6.trans (b2.trans (.laid a4)),?_,I.grow (l y b1) few a2,λz hz=>mem_grow.mpr (.inl (l z hz)),λb hb c X=>?_⟩
      ·rw [zC];unfold grow;rw [aJ]
      ·rw [zd hy] at hb;rcases aK.mp hb with z | z
       ·exact mem_grow.mpr (.inl (J b z c X))
       ·rw [aH.mp z] at X;exact mem_grow.mpr (.inr X)
    ·rintro d G3 ⟨g,e,B,rfl,e6,j,I,l,J⟩;rw [aB,aY] at J;left;exact⟨g,e,_,_,rfl,e4.trans (e5.trans e6),j,I,hL.succ l J⟩
   ·rintro d N ⟨g,Fs,B,W,rfl,e4,p,hI,hL⟩;rw [cE] at hL;have c5:=hI.len;have c6:=wI (λx=>decide (x∈Fs)) a.length;have d7:=xo Fs;left;refine⟨g,Fs,rfl,SqL.of p,by lia,λY a5=>?_⟩;left;refine⟨Y,zf Fs,rfl,zC,by lia,λlx ns b3 hp c7=>?_⟩;have EF:Ext [] H (upd N Y (setO w (zf Fs))):=(E2.trans (EG.trans e4)).trans (.laid a5);exact q lx ns _ (EF.none (by simp) b3) (EF.trans (.laid b3)) zC c7 (hp.symm.nodup (ud Fs)) λy=>by rw [hp.mem_iff,yt,hL.all hI a2]
end
section
variable{P:Program}{w:World}{K:PySem.W.Frag}{mg:Str->Option Value}{base:Heap}
abbrev sBusy:Stmt:=top 18
theorem scBusy:FnScope ["works","number","box","waited","between"] ["works","number","box"] (zU sBusy):=⟨rfl,rfl,rfl,by decide +kernel,rfl,by decide +kernel,by decide +kernel⟩
theorem qXd{f:Addr}{fd:FuncData}(F:Fun K "busy" "busy" sBusy f fd)(C:mg "sorted" = none)(t:mg "set" = none)(a4:Has P w K mg base "awaited" 5 ["works","number","box"] (qJt K))(a5:Has P w K mg base "reached" 3 ["works","number","box"] (qJm K))(a6:Has P w K mg base "writers" 2 ["work","box"] (wO K)):FnOk P w K mg base CX0 6 f fd ["works","number","box"] (uj K):=by
 refine F.ok scBusy (λvs H Q E h=>?_) (λb9 A a7 s H vs Q E O h=>?_)
 ·obtain⟨wa,u,n,c,x,rfl,_⟩:=h;rfl
 ·obtain⟨wa,u,n,c,x,rfl,hW,D,o,q⟩:=h
  refine⟨_,zG (zN (i:=3) scBusy.nd rfl (Or.inr rfl) (zH a4 O (by decide) (zA (pv 0) (zA (pv 1) (zA (pv 2) zB)))))
   (zG (vV (i:=4) ["at"] [3] rfl (.of rfl) scBusy.nd rfl (Or.inl rfl) (zu (zH a5 O (by decide) (zA (pv 0) (zA (pv 1) (zA (pv 2) zB))))) (λ_ _ _ _=>zJ (i:=0) (by show ((["at","waited"]:List Str)).Nodup;decide) rfl (Or.inl rfl)) (λ_ _ _ _ =>.cons (zV (inK K rfl) (pv 0) (pv 1) rfl) .nil) (λ_ _ _ _=>pv 0))
   (zI (zP (zO (wJ O.hd) (by rfl) C bJ (zA (zL qYx
    (zr (wK O.hd) (by rfl) t dM (zA (zH a6 O (by decide) (zA (zM zX (pv 0) (pv 1) (λ_ _=>rfl)) (zA (pv 2) zB))) zB))
    (zr (wK O.hd) (by rfl) t dM (zA (pv 4) zB))) zB))))),?_⟩
  dsimp only [zb,zg,yu,yv];obtain⟨a',vs,ea,a8,a9⟩:=hW.ofList;cases ea;obtain⟨vw,b0,b1⟩:=a9.get' (i:=n) (d:=workD c) (by rw [aS,o];rfl);obtain⟨m,c0,I,e⟩:=D.all c (aM o);have c1:=e.len;left;refine⟨wa,u,n,c,x,rfl,hW,D,o,λla H1 c2 S T=>?_⟩;left;refine⟨wa,u,n,c,x,rfl,hW.mono S.toSame,D,o,λlr l H2 c3 U g hp hd hy=>?_⟩;have J:∀y∈l,0<=y/\y<m:=λy a=>jx e ((hy y).mp a);have c4:=vj hp hd J;have B:=U _ _ (by simp) T;left;refine⟨lr,rfl,⟨_,SqL.of g⟩,λlc p=>?_⟩;refine zx (xs:=l.map V.int) (λj r G => ∃(o0:Option V),r = [o0,some (.ref la)]/\Ext [lc] H2 G/\G lc=some (.lst (((l.take j).filter λy=>decide (y∈waitTo u x n c.length)).map V.int))) ?_ ?_ ?_ ?_
  ·exact⟨none,rfl,.laid p,zC⟩
  ·rintro j r G hj ⟨o0,rfl,L,b⟩;exact SqL.of (L _ _ (by simpa using zF g p) g)
  ·rintro j v r G R hv ⟨o0,rfl,L,b⟩ hR;obtain⟨y,a,rfl⟩:=zj hv;have c5:j<l.length:=(aE.mp a).1;have W:l.take (j+1)=l.take j ++ [y]:=by rw [fN,a];rfl
   have b2:=bC (λy=>decide (y∈waitTo u x n c.length)) (l.take j);rw [aN] at b2;left;refine⟨la,_,rfl,.inl (SqL.of (L _ _ (by simpa using zF B p) B)),rfl,wH _,?_⟩;rw [if_neg aL,wG];left;by_cases hc:y∈waitTo u x n c.length
   ·rw [decide_eq_true hc];refine iteT (iteT ?_);left;refine⟨_,b,zZ (by rw [aB];lia),hR _ _ ⟨_,rfl,L.trans (.put (by simp)),?_⟩⟩;rw [zC,W,cA,cT,decide_eq_true hc,if_pos rfl,eL,aJ];rfl
   ·rw [decide_eq_false hc];refine iteF (iteF (hR _ _ ⟨_,rfl,L,?_⟩));rw [b,W,cA,cT,decide_eq_false hc,if_neg aL,eL,cH]
  ·rintro r G ⟨o0,rfl,L,b⟩;rw [aB,aY] at b;generalize hF:l.filter (λy=>decide (y∈waitTo u x n c.length))=F at b;have M:∀y,y∈F↔y∈l/\y∈waitTo u x n c.length:=λy=>by rw [<-hF,bQ,decide_eq_true_eq]
   have c6:F.length<=l.length:=by rw [<-hF];exact bC _ _
   have E3:Ext [] H2 G:=L.drop p;have c7:=hW.mono (S.trans (U.trans E3)).toSame;have c8:=xf c x c.length;left;refine zR ((S.trans (U.trans E3)).toSame.seq a8) (zK b0) ?_;left;obtain⟨wb,bs,rfl,b3,X⟩:=b1.ofList;refine⟨wb,c,m,_,x,rfl,(Den.list b3 X).mono (S.trans (U.trans E3)).toSame,e,I,λlw H4 c9 e4 Y=>?_⟩;left;refine⟨lw,wrTo c x c.length,rfl,SqL.of Y,by lia,λs1 b4=>?_⟩;generalize zz:upd H4 s1 _=H5;have ⟨X5,k⟩:=layQq zz b4;left;refine⟨lc,F,rfl,SqL.of ((e4.trans X5) _ _ (by simp) b),by lia,λs2 N=>?_⟩;have b7:=xo (wrTo c x c.length);have b8:=xo F;left;refine⟨s1,s2,_,_,rfl,rfl,zF k N,by rw [zD (zF k N)];exact k,zC,qN5 I λy a=>ul e ((yt _).mp a),qN5 I λy a=>J y ((M y).mp ((yt _).mp a)).1,by lia,λs3 us Z a0 a1=>?_⟩
   have X6:Ext [] H5 (upd H5 s2 (setO w (zf F))) :=.laid N;generalize upd H5 s2 (setO w (zf F))=H6 at X6 Z ⊢;have b5:∀y∈us,0<=y/\y<m:=λy a=>by
    rcases (a1 y).mp a with z | z
    ·exact ul e ((yt _).mp z)
    ·exact J y ((M y).mp ((yt _).mp z)).1
   left;refine⟨s3,us,rfl,zC,?_,λlx nx a2 a3 b6=>?_⟩
   ·have:=qKh 12 a0 λy a=>by have:=b5 y a;lia
    lia
   ·have EF:Ext [] H (upd H6 s3 (setO w us)):=(S.trans (U.trans (E3.trans (e4.trans (X5.trans X6))))).trans (.laid Z);refine q lx nx _ (EF.none (by simp) a2) (EF.trans (.laid a2)) zC b6 (a3.symm.nodup a0) λy=>?_;rw [a3.mem_iff,a1,yt,yt,M,hy];rfl
end
section
variable{P:Program}{w:World}{K:PySem.W.Frag}{mg:Str->Option Value}{base:Heap}
abbrev ii:Stmt:=top 39
theorem scLBusy:FnScope ["_law_works_here","_law_number_here","_law_box","_law_work_here","_law_both"] ["_law_works_here","_law_number_here","_law_box"] (zU ii):=⟨rfl,rfl,rfl,by decide +kernel,rfl,by decide +kernel,by decide +kernel⟩
theorem qUi{f:Addr}{fd:FuncData}(F:Fun K "_law_busy" "_law_busy" ii f fd)(I:mg "sorted" = none)(M:mg "set" = none)(hB:Has P w K mg base "_law_behind" 2 ["_law_work_here","_law_box"] (qN3 K))(hA:Has P w K mg base "_law_is_asked" 2 ["_law_works_here","_law_number_here","_law_block","_law_box"] (qJq K))(a2:Has P w K mg base "_law_writes" 1 ["_law_work_here","_law_box"] (wO K)):FnOk P w K mg base CX0 3 f fd ["_law_works_here","_law_number_here","_law_box"] (uj K):=by
 refine F.ok scLBusy (λvs H Q E h=>?_) (λb6 A a3 s H vs Q E N h=>?_)
 ·obtain⟨wa,g,n,e,x,rfl,_⟩:=h;rfl
 ·obtain⟨wa,g,n,e,x,rfl,hW,O,J,q⟩:=h
  refine⟨_,zG (zN (i:=3) scLBusy.nd rfl (Or.inl rfl) (zM zX (pv 0) (pv 1) (λ_ _=>rfl)))
   (zG (vV (i:=4) ["_law_b"] [0,1,2] rfl (.of rfl) scLBusy.nd rfl (Or.inl rfl) (zu (zH hB N (by decide) (zA (pv 3) (zA (pv 2) zB)))) (λ_ _ _ _=>zJ (i:=0) (by show ((["_law_b","_law_works_here","_law_number_here","_law_box"]:List Str)).Nodup;decide) rfl (Or.inl rfl)) (λ_ _ _ _ =>.cons (yE K rfl (zH hA N (by decide) (zA (pv 1) (zA (pv 2) (zA (pv 0) (zA (pv 3) zB))))) (λ_=>rfl)) .nil) (λ_ _ _ _=>pv 0))
   (zI (zP (zO (wJ N.hd) (by rfl) I bJ (zA (zr (wK N.hd) (by rfl) M dM (zA (zL xD (zH a2 N (by decide) (zA (pv 3) (zA (pv 2) zB))) (pv 4)) zB)) zB))))),?_⟩
  dsimp only [zb,zg,yu,yv];obtain⟨a',vs,ea,a4,a5⟩:=hW.ofList;cases ea;obtain⟨vw,a6,r⟩:=a5.get' (i:=n) (d:=workD e) (by rw [aS,J];rfl);obtain⟨wb,bs,rfl,a7,S⟩:=r.ofList;obtain⟨m,b7,T,t⟩:=O.all e (aM J);have b8:=t.len;have r:Den K H (workD e) (.ref wb) :=.list a7 S;left;refine zR a4 (zK a6) ?_;left;refine⟨wb,e,m,_,x,rfl,r,t,T,λlr p H2 b9 e2 k hp hd hy=>?_⟩;have U:∀y∈p,0<=y/\y<m:=λy l=>jx t ((hy y).mp l);have c0:=vj hp hd U;left;refine⟨lr,rfl,⟨_,SqL.of k⟩,λlc u=>?_⟩;have a8:=hW.mono e2.toSame;refine zx (xs:=p.map V.int) (λj B G => ∃(o0:Option V),B = [o0,some (.ref wa),some (.int n),some (.int x)]/\Ext [lc] H2 G/\G lc=some (.lst (((p.take j).filter λy=>decide (y∈waitTo g x n e.length)).map V.int))) ?_ ?_ ?_ ?_
  ·exact⟨none,rfl,.laid u,zC⟩
  ·rintro j B G hj ⟨o0,rfl,L,c⟩;exact SqL.of (L _ _ (by simpa using zF k u) k)
  ·rintro j v B G R hv ⟨o0,rfl,L,c⟩ hR;obtain⟨y,l,rfl⟩:=zj hv;have c1:j<p.length:=(aE.mp l).1;have W:p.take (j+1)=p.take j ++ [y]:=by rw [fN,l];rfl
   have a9:=bC (λy=>decide (y∈waitTo g x n e.length)) (p.take j);rw [aN] at a9;obtain⟨y0,y1⟩:=U y (aM l);obtain⟨b,rfl⟩:∃b:Nat,y=(b:Int):=⟨y.toNat,by lia⟩;have X:b<e.length:=by lia
   have b0:((n:Int),(b:Int))∈places g:=by
    refine mem_places.mpr ?_;rw [wM,J];exact⟨_,aD X⟩
   have C:((b:Int)∈waitTo g x n e.length)↔askB g x ((n:Int),(b:Int))=true:=by
    rw [qP0];constructor
    ·rintro⟨a,ha,_,h⟩;rw [show b=a by lia];exact h
    ·exact λh=>⟨b,rfl,X,h⟩
   left;refine⟨wa,g,n,b,x,rfl,a8.mono (L.drop u).toSame,O,b0,λG6 e6=>?_⟩;have D:=e6 _ _ (by simp) c;refine⟨askB g x ((n:Int),(b:Int)),rfl,?_⟩;cases o:askB g x ((n:Int),(b:Int)) with
   | true =>
    have hc:=C.mpr o;refine iteT (iteT ?_);left;refine⟨_,D,zZ (by rw [aB];lia),hR _ _ ⟨_,rfl,(L.trans (e6.mono (by simp))).trans (.put (by simp)),?_⟩⟩;rw [zC,W,cA,cT,decide_eq_true hc,if_pos rfl,eL,aJ];rfl
   | false =>
    have hc : ¬(b:Int)∈waitTo g x n e.length:=λz=>by rw [C.mp z] at o;cases o
    refine iteF (iteF (hR _ _ ⟨_,rfl,L.trans (e6.mono (by simp)),?_⟩));rw [D,W,cA,cT,decide_eq_false hc,if_neg aL,eL,cH]
  ·rintro B G ⟨o0,rfl,L,c⟩;rw [aB,aY] at c;generalize hF:p.filter (λy=>decide (y∈waitTo g x n e.length))=F at c;have b1:∀y,y∈F↔y∈p/\y∈waitTo g x n e.length:=λy=>by rw [<-hF,bQ,decide_eq_true_eq]
   have c2:F.length<=p.length:=by rw [<-hF];exact bC _ _
   have E3:Ext [] H2 G:=L.drop u;have c3:=xf e x e.length;left;refine⟨wb,e,m,_,x,rfl,r.mono (e2.trans E3).toSame,t,T,λlw H4 c4 e4 Y=>?_⟩;left;refine⟨lw,lc,_,_,rfl,rfl,Y,e4 _ _ (by simp) c,len2 (by rw [aB,aB];lia),λf1 b2=>?_⟩;rw [<-aJ];generalize zz:upd H4 f1 _=H5;have ⟨X5,Z⟩:=layQq zz b2;left;have b3:=xo (wrTo e x e.length++F);rw [aI] at b3;refine⟨f1,_,rfl,SqL.of Z,by rw [aI];lia,λs1 b4=>?_⟩;left;refine⟨s1,_,rfl,zC,by lia,λlx nx a0 a1 b5=>?_⟩;have EF:Ext [] H (upd H5 s1 (setO w (zf (wrTo e x e.length++F)))):=(e2.trans (E3.trans (e4.trans X5))).trans (.laid b4)
   refine q lx nx _ (EF.none (by simp) a0) (EF.trans (.laid a0)) zC b5 (a1.symm.nodup (ud _)) λy=>?_;rw [a1.mem_iff,yt,aK,b1,hy];rfl
end
section
variable{P:Program}{w:World}{K:PySem.W.Frag}{mg:Str->Option Value}{base:Heap}
abbrev ij:Stmt:=top 40
theorem qTz:FnScope ["_law_work_here"] ["_law_work_here"] (zU ij):=⟨rfl,rfl,rfl,by decide +kernel,rfl,by decide +kernel,by decide +kernel⟩
theorem qRv{f:Addr}{fd:FuncData}(F:Fun K "_law_boxes" "_law_boxes" ij f fd)(e:mg "range" = none)(z:Has P w K mg base "_law_writes" 1 ["_law_work_here","_law_box"] (wO K)):FnOk P w K mg base CX0 2 f fd ["_law_work_here"] (qN2 K):=by
 refine F.ok qTz (λS H Q E h=>?_) (λT A B s H S Q E N h=>?_)
 ·obtain⟨p,b,m,c,rfl,_⟩:=h;rfl
 ·obtain⟨p,b,m,c,rfl,U,l,W,q⟩:=h;refine⟨_,zI (zP (zp ["_law_box"] [0] rfl (.of rfl) (xB rfl e (zA zE zB)) (λ_ _ _ _=>zJ (i:=0) (by show ((["_law_box","_law_work_here"]:List Str)).Nodup;decide) rfl (Or.inl rfl)) (λ_ _ _ _ =>.cons (zV (neDK K rfl N) (zH z N (by decide) (zA (pv 1) (zA (pv 0) zB))) (zW zB) (zQ _)) .nil) (λ_ _ _ _=>pv 0))),?_⟩
  try dsimp only [zb,zg,yu,yv]
  have X:=l.len;left;refine⟨8,rfl,by decide,by decide,λC g=>?_⟩;refine vX (lo:=0) (n:=(8:Int).toNat) (λj o G => ∃(D:Option V),o = [D,some (.ref p)]/\Ext [C] H G/\G C=some (.lst ((boxTo b j).map V.int))) ?_ ?_ ?_
  ·exact⟨none,rfl,.laid g,zC⟩
  ·rintro j o G R Y ⟨D,rfl,t,d⟩ O;have Z:j<8:=Y;have a0:=qTe b j;left;refine⟨p,b,m,c,(j:Int),by show [V.ref p,V.int (0+(j:Int))] = [V.ref p,V.int (j:Int)];rw [hJ],U.mono (t.drop g).toSame,l,W,λlw G4 a1 I u=>?_⟩;left;refine⟨len2 (bB _),λle J=>?_⟩;generalize zz:upd G4 le _=G5;have ⟨x,v⟩:=layQq zz J;have a2:=xf b (j:Int) b.length;obtain⟨t1,t2,t3⟩:=yn (ns:=wrTo b (j:Int) b.length) (λn L=>by have:=ul l L;lia) (by lia);have tS:=ym t1 t3 ⟨_,rfl⟩;obtain⟨z1,z2,z3⟩:=yn (ns :=[]) (λn L=>by cases L) (by decide);have zS:=ym z1 z3 ⟨_,rfl⟩;refine⟨intsD (wrTo b (j:Int) b.length),intsD [],.list (SqL.of (x _ _ (by simp) u)) (DenL.ofInts _),.list (SqL.of v) (DenL.ofInts _),tS,zS,?_⟩
   rw [if_pos rfl];have M:PyData.eqv (intsD (wrTo b (j:Int) b.length)) (intsD [])=decide (wrTo b (j:Int) b.length = []):=by
    cases wrTo b (j:Int) b.length with
    | nil=>rfl
    | cons a r=>simp [intsD,PyData.eqv,PyData.eqvAll]
   rw [M];left;have k:=(I.trans x) _ _ (by simp) d;by_cases y:wrTo b (j:Int) b.length = []
   ·rw [decide_eq_true y];refine iteF (iteF (O _ _ ⟨_,rfl,t.trans ((I.trans x).mono (by simp)),?_⟩));rw [k,qI3,if_pos y]
   ·rw [decide_eq_false y];refine iteT (iteT ?_);left;refine⟨_,k,zZ (by rw [aB];lia),O _ _ ⟨_,rfl,(t.trans ((I.trans x).mono (by simp))).trans (.put (by simp)),?_⟩⟩;rw [zC,qI3,if_neg y,aJ,hJ];rfl
  ·rintro o G ⟨D,rfl,t,d⟩;exact q C G g (t.drop g) d
end
section
variable{P:Program}{w:World}{K:PySem.W.Frag}{mg:Str->Option Value}{base:Heap}
theorem r_bn{b:TI}{c:TG}{a:List TT}{B:TB}{σ : St}{H:Hp}{Q:St->Hp->Prop}(h:b σ H λJ d=>LoopT J c (tAll a) B σ d Q):bNext b c a B σ H Q:=h
theorem r_ea{w:World}{a:TE}{l:Addr}{σ : St}{H:Hp}{Q:St->Hp->Prop}(h:a σ H λv b => ∃ns n,v = .int n/\b l=some (setO w ns)/\ns.length+1<4096/\Q σ (upd b l (setO w (addN ns n)))):eAdd w a l σ H Q:=h
def dword:Deed->Str
 | .set _ _ => "set"
 | .add _ _ => "add"
 | .tell _ => "tell"
 | .call _ => "call"
 | .save _ => "save"
 | .back _ => "back"
def darg:Deed->Int
 | .set b _=>b
 | .add b _=>b
 | .tell b=>b
 | .call b=>b
 | .save b=>b
 | .back b=>b
def dmore:Deed->List Int
 | .set _ n =>[n]
 | .add _ n =>[n]
 | _ =>[]
theorem deed_is(d:Deed):deedD d = .tuple (.str (dword d) :: .int (darg d)::(dmore d).map .int):=by cases d <;> rfl
theorem deed_in(d:Deed):inV (V.str (dword d)) [V.str "set",.str "add"]=(wr d).isSome:=by cases d <;> first | rfl | (show inV (V.str _) _=_;simp only [dword,wr];decide)
theorem deed_wr(d:Deed)(h:(wr d).isSome=true):wr d=some (darg d):=by cases d <;> first | rfl | cases h
def Writing(K:PySem.W.Frag)(wa:Addr):Prop := ∃(o:Obj) (its:Array Value) (n:Nat),K.lookup wa=some o/\o.cls = .type "tuple" /\ o.data = .seq its n/\its.size<=sizeLine/\Vals [V.str "set",.str "add"] its.toList
theorem qJe{w:List Blk}{i:Nat}{b:Blk}(h:w[i]? = some b):yk (w.take (i+1))=yk (w.take i)++b.ds.filterMap wr:=by
 unfold yk;rw [zd h,fA];simp
theorem few8{ns:List Int}(a:ns.Nodup)(h:∀b∈ns,0<=b/\b<8):ns.length<=8:=by
 have:=xm (l2:=(List.range 8).map λ(j:Nat)=>(j:Int)) a λb c=>by
  have:=h b c;exact aW.mpr ⟨b.toNat,bF.mpr (by lia),by lia⟩
 simpa using this
abbrev ik:Stmt:=top 7
theorem qWj:FnScope ["work"] ["work"] (zU ik):=⟨rfl,rfl,rfl,by decide +kernel,rfl,by decide +kernel,by decide +kernel⟩
theorem qUl{f wa:Addr}{fd:FuncData}(F:Fun K "boxes_in" "boxes_in" ik f fd)(T:mg "sorted" = none)(a9:mg "WRITING" = some (.ref wa))(b0:Writing K wa):FnOk P w K mg base CX0 1 f fd ["work"] (qJs K):=by
 have U:((["deeds","end","deed"]:List Str)).Nodup:=by decide
 refine F.ok qWj (λvs H Q E h=>?_) (λc2 A b1 s H vs Q E hr h=>?_)
 ·obtain⟨a,w,m,W,rfl,_⟩:=h;rfl
 ·obtain⟨a,wk,m,W,rfl,hW,D,hm,q⟩:=h
  refine⟨_,zI (zP (zO (wJ hr.hd) (by rfl) T bJ (zA
   (qYt ["deeds","end","deed"] [] w rfl rfl (.of rfl) (zu (pv 0)) (λ_ _ _ _=>xb (n:=2) K rfl rfl (ze (zJ (i:=0) U rfl (Or.inl rfl)) (ze (zJ (i:=1) U rfl (Or.inl rfl)) yI))) (λ_ _ _ _ =>.nil)
    (λ_ _ _ _=>wh K rfl (pv 0)) (λ_ _ _ _=>zJ (i:=2) U rfl (Or.inl rfl)) (λ_ _ _ _ =>.cons (zV (inK K rfl) (zM (xl K rfl) (pv 2) zE (λ_ _=>rfl)) (kG (v :=.ref wa) rfl a9 rfl) rfl) .nil) (λ_ _ _ _=>zM (xl K rfl) (pv 2) zE (λ_ _=>rfl))) zB))),?_⟩
  dsimp only [zb,zg];left;obtain⟨a',vs,ea,a2,a3⟩:=hW.ofList;cases ea;have b2:vs.length=wk.length:=by rw [a3.len,aB]
  refine⟨a,rfl,⟨vs,a2⟩,λl hl=>?_⟩;have e1:Ext [] H (upd H l (setO w [])) :=.laid hl
  have I:∀ {i:Nat} {b:Int},b∈yk (wk.take i)->0<=b/\b<8:=λ{i b} M=>vf D (by
   obtain⟨k,hk,M⟩:=cG.mp M
   exact cG.mpr ⟨k,cX hk,M⟩)
  refine zx (xs:=vs) (λi t N => ∃(o0 o1 C:Option V) (r:List Int),t = [o0,o1,C]/\Ext [l] (upd H l (setO w [])) N/\N l=some (setO w r)/\r.Nodup /\ ∀b,b∈r↔b∈yk (wk.take i)) ?_ ?_ ?_ ?_
  ·exact⟨none,none,none,[],rfl,.refl _ _,zC,.nil,λb=>by simp [yk]⟩
  ·rintro i t N hi ⟨o0,o1,C,r,rfl,e',J,o,g⟩;exact (((e1.mono (us :=[l]) (by simp)).trans e').drop hl).toSame.seq a2
  ·rintro i x t N R X ⟨o0,o1,C,r,rfl,e',J,o,g⟩ hR;have Y:Ext [] H N:=((e1.mono (us :=[l]) (by simp)).trans e').drop hl;obtain⟨dd,Z,L⟩:=a3.get X;obtain⟨b,M,rfl⟩:=zj Z;obtain⟨c,cs,rfl,hc,b3⟩:=L.ofTuple;obtain⟨vd,r1,rfl,b4,b5⟩:=b3.ofCons;obtain⟨ve,r2,rfl,c3,a0⟩:=b5.ofCons;have a0:=a0.ofNil;subst a0;obtain⟨dl,a1,rfl,a4,O⟩:=b4.ofList;have a5:a1.length=b.ds.length:=by rw [O.len,aB]
   have S:=D.blk b (aM M);refine yO (Y.toSame.seqT hc) rfl ?_;left;refine iteT ?_;refine r_bn ?_;left;refine⟨dl,rfl,⟨a1,Y.toSame.seq a4⟩,?_⟩;refine zx (xs:=a1) (λj t G => ∃(C:Option V) (r:List Int),t = [some (.ref dl),some ve,C]/\Ext [l] N G/\G l=some (setO w r)/\r.Nodup /\ ∀x,x∈r↔x∈yk (wk.take i)\/x∈(b.ds.take j).filterMap wr) ?_ ?_ ?_ ?_
   ·exact⟨C,r,rfl,.refl _ _,J,o,λx=>by rw [g];simp⟩
   ·rintro j t G hj ⟨C,r,rfl,eG,u,o,g⟩;exact (((Y.mono (us :=[l]) (by simp)).trans eG).drop hl).toSame.seq a4
   ·rintro j x t G R X ⟨C,r,rfl,eG,u,o,g⟩ hR;have EG:Ext [] H G:=((Y.mono (us :=[l]) (by simp)).trans eG).drop hl;obtain⟨dd,Z,L⟩:=O.get X;obtain⟨d,hd,rfl⟩:=zj Z;have c1:=S.ds d (aM hd);rw [deed_is] at L;obtain⟨p,ps,rfl,hp,b6⟩:=L.ofTuple;obtain⟨v1,q1,rfl,b7,b8⟩:=b6.ofCons;obtain⟨v2,q2,rfl,b9,c4⟩:=b8.ofCons;have z1:=b7.ofStr;have z2:=b9.ofInt;subst z1 z2;have a6:=EG.toSame.seqT hp;have B:(b.ds.take (j+1)).filterMap wr=(b.ds.take j).filterMap wr ++ [d].filterMap wr:=by rw [zd hd,dL]
    have a7:∀x∈r,0<=x/\x<8:=λx X=>by
     rcases (g x).mp X with z | z
     ·exact I z
     ·obtain⟨d',c0,e⟩:=eO.mp z;exact qMu (S.ds d' (cX c0)) e
    have h8:=few8 o a7;left;refine zw a6 (show atI _ ((0:Nat):Int)=some (V.str (dword d)) from zK rfl) ?_;left;refine⟨wa,[V.str "set",.str "add"],rfl,.inr (.inr b0),rfl,rfl,?_⟩;rw [if_neg aL,deed_in];left;cases hw:(wr d).isSome with
    | true =>
     refine iteT (iteT ?_);refine r_ea ?_;left;refine zw a6 (show atI _ ((1:Nat):Int)=some (V.int (darg d)) from zK rfl) ?_;refine⟨r,darg d,rfl,u,by lia,hR _ _ ⟨_,addN r (darg d),rfl,eG.trans (.put (by simp)),zC,xn o,λx=>?_⟩⟩;rw [jZ,g,B,aK,bW,deed_wr d hw];simp [or_assoc]
    | false =>
     refine iteF (iteF (hR _ _ ⟨_,r,rfl,eG,u,o,λx=>?_⟩));have hn:wr d=none:=by cases z:wr d with
      | none=>rfl
      | some y=>rw [z] at hw;cases hw
     rw [g,B,bW,hn];simp
   ·rintro t G ⟨C,r,rfl,eG,u,o,g⟩;rw [a5,aY] at g;refine hR _ _ ⟨_,_,_,r,rfl,e'.trans eG,u,o,λx=>?_⟩;rw [g,qJe M,aK]
  ·rintro t N ⟨o0,o1,C,r,rfl,e',J,o,g⟩;rw [b2,aY] at g;have Y:Ext [] H N:=((e1.mono (us :=[l]) (by simp)).trans e').drop hl;have h8:=few8 o λx X=>vf D ((g x).mp X);left;refine⟨l,r,rfl,J,by lia,λl2 c5 a8 hp hs=>?_⟩;have M:=qJv D g o hp hs;subst M;exact q l2 _ (Y.none (by simp) a8) (Y.trans (.laid a8)) zC
end
end Fs
local macro_rules | `(tactic| walk_at "qc") => `(tactic| first | refine L2.kg ?_ | refine L2.kh ?_ | refine L2.yr ?_ | refine L2.ki ?_ | refine L2.wE ?_ | refine L2.vW ?_ | refine L2.kj ?_ | refine L2.km ?_ | refine L2.kn ?_ | refine L2.ko ?_ | refine L2.kq ?_ | refine L2.kb ?_ | refine L2.r_u ?_ | refine L2.uP ?_ | refine L2.kr ?_ | refine L2.ku ?_ | refine L2.kw ?_ | refine L2.r_c ?_ | refine L2.ka ?_ | refine L2.vY ?_ | refine L2.ky ?_ | refine L2.uR ?_ | refine L2.uS ?_ | refine L2.kz ?_ | refine L2.jA ?_ | refine L2.jB ?_ | refine L2.qWq ?_ | refine L2.qN9 ?_ | refine L2.qVo ?_ | refine L2.qY9 ?_ | refine L2.qVn ?_ | refine L2.jC ?_ | refine L2.jD ?_ | refine L2.jE ?_ | refine L2.jF ?_ | refine L2.jG ?_ | refine L2.jH ?_ | refine L2.jI ?_ | refine L2.jJ ?_ | refine L2.jK ?_ | refine L2.jL ?_ | refine L2.jM ?_ | refine L2.vZ ?_ | refine L2.va ?_ | refine L2.jN ?_ | refine L2.jO ?_ | refine L2.jP ?_ | refine L2.xZ (by with_unfolding_all rfl) ?_ | refine L2.zR (by assumption) (by with_unfolding_all rfl) ?_ | refine L2.zw (by assumption) (by with_unfolding_all rfl) ?_)
local macro_rules | `(tactic| left) => `(tactic| repeat (with_reducible first | (refine L2.qVm ?_; intro NN_ hNN_) | walk_at "qa" | refine L2.yH (by assumption) ?_ | refine L2.jQ (by assumption) ?_ | (refine L2.qYc ?_; intro NA_ NB_ hNA_ hNB_) | walk_at "qc"))
namespace Fs
open PySem L2
section
variable{P:Program}{w:World}{K:PySem.W.Frag}{mg:Str->Option Value}{base:Heap}
abbrev il:Stmt:=top 4
theorem qWi:FnScope ["thing"] ["thing"] (zU il):=⟨rfl,rfl,rfl,by decide +kernel,rfl,by decide +kernel,by decide +kernel⟩
theorem qUj{f:Addr}{fd:FuncData}(F:Fun K "is_number" "is_number" il f fd)(a:mg "isinstance" = none)(c:mg "int" = none)(b:mg "bool" = none):FnOk P w K mg base CX0 1 f fd ["thing"] (vn K):=by
 refine F.ok qWi (λj H Q E h=>?_) (λk A g s H j Q E l h=>?_)
 ·obtain⟨x,d,rfl,_⟩:=h;rfl
 ·obtain⟨x,d,rfl,i,q⟩:=h;have m:=yW l;refine⟨_,(zI (zP (xR (zO wP (by rfl) a (by decide +kernel) (zA (pv 0) (zA (xQ (v :=.ty "int") rfl c dD rfl) zB))) (xN (oC (zO wP (by rfl) a (by decide +kernel) (zA (pv 0) (zA (xQ (v :=.ty "bool") rfl b PyProof.Rows.boot_bool rfl) zB)))))))),?_⟩
  try dsimp only [zb,zg,xc,yu,yv]
  have e:=qHu d;left;refine⟨x,d,"int",rfl,i,by decide,_,rfl,?_⟩;cases h:yR d "int" with
  | false =>
   rw [h,cR] at e;rw [e] at q;exact iteF q
  | true =>
   rw [h,dG] at e;rw [e] at q;refine iteT ?_;left;exact⟨x,d,"bool",rfl,i,by decide,_,rfl,q⟩
end
section
variable{P:Program}{w:World}{K:PySem.W.Frag}{mg:Str->Option Value}{base:Heap}
abbrev im:Stmt:=top 5
theorem qU1:FnScope ["thing","low","beyond"] ["thing","low","beyond"] (zU im):=⟨rfl,rfl,rfl,by decide +kernel,rfl,by decide +kernel,by decide +kernel⟩
theorem qRx{f:Addr}{fd:FuncData}(F:Fun K "is_number_from" "is_number_from" im f fd)(j:Has P w K mg base "is_number" 1 ["thing"] (vn K)):FnOk P w K mg base CX0 2 f fd ["thing","low","beyond"] (qJp K):=by
 refine F.ok qU1 (λk H Q E h=>?_) (λl A b s H k Q E c h=>?_)
 ·obtain⟨x,d,lo,a,rfl,_⟩:=h;rfl
 ·obtain⟨x,d,lo,a,rfl,i,q⟩:=h;have o:=yW c;refine⟨_,(zI (zP (xR (zH j c (by decide) (zA (pv 0) zB)) (xN (oM kI xU (pv 1) (pv 0) (pv 2)))))),?_⟩
  try dsimp only [zb,zg,xc,yu,yv]
  left;refine⟨x,d,rfl,i,_,rfl,?_⟩;cases h:zt d with
  | false =>
   rw [qNx h] at q;exact iteF q
  | true =>
   refine iteT ?_;obtain⟨n,rfl⟩:=qKy h;have m:=i.ofInt;subst m;left;refine ite2 (λg=>?_) (λg=>?_)
   ·left;have e:fromD lo a (.int n)=decide (n<a):=by show (decide (lo<=n)&&decide (n<a))=_;rw [g,dG]
    rw [e] at q;exact q
   ·have e:fromD lo a (.int n)=false:=by show (decide (lo<=n)&&decide (n<a))=_;rw [gE.mpr g,cR]
    rw [e] at q;exact q
end
end Fs
local macro_rules | `(tactic| walk_at "qd") => `(tactic| first | refine L2.kg ?_ | refine L2.kh ?_ | refine L2.yr ?_ | refine L2.ki ?_ | refine L2.wE ?_ | refine L2.vW ?_ | refine L2.kj ?_ | refine L2.km ?_ | refine L2.kn ?_ | refine L2.ko ?_ | refine L2.kq ?_ | refine L2.kb ?_ | refine L2.r_u ?_ | refine L2.uP ?_ | refine L2.kr ?_ | refine L2.ku ?_ | refine L2.kw ?_ | refine L2.r_c ?_ | refine L2.ka ?_ | refine L2.vY ?_ | refine L2.ky ?_ | refine L2.uR ?_ | refine L2.uS ?_ | refine L2.kz ?_ | refine L2.jA ?_ | refine L2.jB ?_ | refine L2.qN9 ?_ | refine L2.qVo ?_ | refine L2.qY9 ?_ | refine L2.qVn ?_ | refine L2.jC ?_ | refine L2.jD ?_ | refine L2.jE ?_ | refine L2.jF ?_ | refine L2.jG ?_ | refine L2.jH ?_ | refine L2.jI ?_ | refine L2.jJ ?_ | refine L2.jK ?_ | refine L2.jL ?_ | refine L2.jM ?_ | refine L2.vZ ?_ | refine L2.va ?_ | refine L2.jN ?_ | refine L2.jO ?_ | refine L2.jP ?_ | refine L2.xZ (by with_unfolding_all rfl) ?_ | refine L2.zR (by assumption) (by with_unfolding_all rfl) ?_ | refine L2.zw (by assumption) (by with_unfolding_all rfl) ?_)
local macro_rules | `(tactic| left) => `(tactic| repeat (with_reducible first | (refine L2.qVm ?_; intro NN_ hNN_) | walk_at "qa" | refine L2.yH (by assumption) ?_ | refine L2.jQ (by assumption) ?_ | (refine L2.qYc ?_; intro NA_ NB_ hNA_ hNB_) | walk_at "qd"))
namespace Fs
open PySem L2
section
variable{P:Program}{w:World}{K:PySem.W.Frag}{mg:Str->Option Value}{base:Heap}
abbrev io:Stmt:=top 20
theorem scInside:FnScope ["works","number","box","thing","many"] ["works","number","box","thing"] (zU io):=⟨rfl,rfl,rfl,by decide +kernel,rfl,by decide +kernel,by decide +kernel⟩
theorem qRy{f:Addr}{fd:FuncData}(F:Fun K "is_inside" "is_inside" io f fd)(X:mg "len" = none)(Y:mg "isinstance" = none)(N:mg "list" = none)(D:mg "all" = none)(Z:mg "set" = none)(r:mg "sorted" = none)(hF:Has P w K mg base "is_number_from" 2 ["thing","low","beyond"] (qJp K))(hB:Has P w K mg base "busy" 6 ["works","number","box"] (uj K)):FnOk P w K mg base CX0 7 f fd ["works","number","box","thing"] (qJr K):=by
 refine F.ok scInside (λvs H Q E h=>?_) (λc7 A a9 s H vs Q E I h=>?_)
 ·obtain⟨wa,v,d,U,n,e,x,rfl,_⟩:=h;rfl
 ·obtain⟨wa,v,d,U,n,e,x,rfl,hW,a0,O,hD,b0,q⟩:=h;have hu:=yW I
  refine⟨_,(zG (zN (i:=4) scInside.nd rfl (Or.inr rfl) (zO yb (by rfl) X cK (zA (zM zX (pv 0) (pv 1) (λ_ _=>rfl)) zB)))
   (zG (zn (PW.pt (wS (xM (yE K rfl (zO wP (by rfl) Y (by decide +kernel) (zA (pv 3) (zA (xQ (v :=.ty "list") rfl N cI rfl) zB))) (λ_=>rfl))) (wR (xM (yE K rfl (zO (wt I.hd) (by rfl) D (by decide +kernel) (zA (zp ["at"] [4] rfl (.of rfl) (zu (pv 3)) (λ_ _ _ _=>(zJ (i:=0) (by show (((["at","many"]:List Str))).Nodup;decide) rfl (Or.inl rfl))) (λ_ _ _ _ =>.nil) (λ_ _ _ _=>(zH hF I (by decide) (zA (pv 0) (zA zE (zA (pv 1) zB)))))) zB)) (λ_=>rfl)))))) (zI (zP zk)) zh)
   (zG (zn (zV (xk I) (pv 3) (zO (wJ I.hd) (by rfl) r bJ (zA (zr (wK I.hd) (by rfl) Z dM (zA (pv 3) zB)) zB)) (zQ _)) (zI (zP zk)) zh)
   (zI (zP (zO (wt I.hd) (by rfl) D (by decide +kernel) (zA (zp ["at"] [3] rfl (.of rfl) (zu (zH hB I (by decide) (zA (pv 0) (zA (pv 1) (zA (pv 2) zB))))) (λ_ _ _ _=>(zJ (i:=0) (by show (((["at","thing"]:List Str))).Nodup;decide) rfl (Or.inl rfl))) (λ_ _ _ _ =>.nil) (λ_ _ _ _=>(yJ (inK K rfl) (pv 0) (pv 1) rfl))) zB))))))),?_⟩
  try dsimp only [zb,zg,xc,yu,yv]
  obtain⟨a',vs,ea,b1,b2⟩:=hW.ofList;cases ea;obtain⟨vw,b3,b4⟩:=b2.get' (i:=n) (d:=workD e) (by rw [aS,O];rfl);obtain⟨m,c8,c9,z⟩:=a0.all e (aM O);have d0:=z.len;obtain⟨wl,us,rfl,b5,a1⟩:=b4.ofList;have b6:us.length=e.length:=by rw [a1.len,aB]
  left;refine zR b1 (zK b3) ?_;left;refine⟨wl,us,rfl,.inl b5,?_⟩;rw [b6];left;refine⟨v,d,"list",rfl,hD,by decide,_,rfl,?_⟩;cases hk:yR d "list" with
  | false =>
   have u:yS e.length (busyL U n e x) d=false:=by
    cases d <;> first | rfl | cases hk
   refine iteT (iteT ?_);left;rw [<-u];exact q _ (.refl _ _)
  | true =>
   obtain⟨J,rfl⟩:=qKu hk;obtain⟨l,ls,rfl,hl,S⟩:=hD.ofList;have a2:=S.len;obtain⟨b7,d1⟩:=wide_list.mp b0;have u:yS e.length (busyL U n e x) (.list J)=(J.all (fromD 0 e.length)&&riseB (J.map intD)&&(busyL U n e x).all λy=>decide (y∈J.map intD)):=rfl;refine iteF ?_;left;refine⟨l,rfl,⟨_,hl⟩,λlc b=>?_⟩;refine zx (xs:=ls) (λj c G => ∃(B:Option V),c = [B,some (.int e.length)]/\Ext [lc] H G/\G lc=some (.lst (((J.take j).map (fromD 0 e.length)).map V.bl))) ?_ ?_ ?_ ?_
   ·exact⟨none,rfl,.laid b,zC⟩
   ·rintro j c G hj ⟨B,rfl,o,a⟩;exact (o.drop b).toSame.seq hl
   ·rintro j v c G R hv ⟨B,rfl,o,a⟩ hR;obtain⟨dd,a3,b8⟩:=S.get hv;have b9:j<J.length:=(aE.mp a3).1;left;refine iteT ?_;left;refine⟨v,dd,0,e.length,rfl,b8.mono (o.drop b).toSame,?_⟩;refine⟨_,a,zZ (by rw [aB,aB,aN];lia),hR _ _ ⟨_,rfl,o.trans (.put (by simp)),?_⟩⟩;rw [zC,vA a3,aJ];rfl
   ·rintro c G ⟨B,rfl,o,a⟩;have eG:=o.drop b;rw [a2,aY] at a;left;refine wz a ?_;rw [vB];cases p:J.all (fromD 0 e.length) with
    | false =>
     rw [p,cR,cR] at u;refine⟨false,rfl,iteT ?_⟩;left;rw [<-u];exact q _ eG
    | true =>
     rw [p,dG] at u;refine⟨true,rfl,iteF ?_⟩;obtain⟨a4,T⟩:=qHx p;generalize c0:J.map intD=ns at a4 T u;subst a4;have d2:ns.length<=60:=by simpa using b7
     have c1:ls=ns.map V.int:=jz S (lo:=0) (hi:=e.length) p |>.trans (by rw [c0])
     subst c1;have a5:=eG.toSame.seq hl;clear a o b;left;refine⟨l,ns,rfl,a5,by lia,λC a6=>?_⟩;have d3:=xo ns;left;refine⟨C,zf ns,rfl,zC,by lia,λl2 g c2 hp c3=>?_⟩;have e4:Ext [] G (upd (upd G C (setO w (zf ns))) l2 (.lst (g.map V.int))):=(Ext.laid a6).trans (.laid c2);have L:(upd (upd G C (setO w (zf ns))) l2 (.lst (g.map V.int))) l2=some (.lst (g.map V.int)):=zC;generalize upd (upd G C (setO w (zf ns))) l2 (.lst (g.map V.int))=G4 at e4 L ⊢;have c6:g.length<=60:=by have:=hp.length_eq;lia
     have a7:∀y∈g,0<=y/\y<(e.length:Int):=λy W=>T y (by rw [hp.mem_iff,yt] at W;exact W);obtain⟨t1,t2,t3⟩:=yn (ns:=ns) (λn hn=>by have:=T n hn;lia) (by lia);obtain⟨u1,u2,u3⟩:=yn (ns:=g) (λn hn=>by have:=a7 n hn;lia) (by lia);have M:=e4.toSame.seq a5;refine⟨intsD ns,intsD g,.list M (DenL.ofInts _),.list (SqL.of L) (DenL.ofInts _),ym t1 t3 ⟨_,rfl⟩,ym u1 u3 ⟨_,rfl⟩,?_⟩;rw [if_pos rfl,ut,qN6 hp c3];have eH:=eG.trans e4;cases a8:riseB ns with
     | false =>
      rw [a8,cR] at u;left;refine iteT ?_;left;rw [<-u];exact q _ eH
     | true =>
      rw [a8,dG] at u;left;refine iteF ?_;left;refine⟨wa,U,n,e,x,rfl,hW.mono eH.toSame,a0,O,λlb bs H5 d4 e5 t hp hd W=>?_⟩;have d5:bs.length<=12:=by
       have:=vj hp hd λy k=>um z ((W y).mp k);lia
      have c4:=e5.toSame.seq M;refine⟨lb,rfl,⟨_,SqL.of t⟩,λlc b=>?_⟩;refine zx (xs:=bs.map V.int) (λj c G => ∃(B:Option V),c = [B,some (.ref l)]/\Ext [lc] H5 G/\G lc=some (.lst (((bs.take j).map λy=>decide (y∈ns)).map V.bl))) ?_ ?_ ?_ ?_
      ·exact⟨none,rfl,.laid b,zC⟩
      ·rintro j c G hj ⟨B,rfl,o,a⟩;exact SqL.of (o _ _ (by simpa using zF t b) t)
      ·rintro j v c G R hv ⟨B,rfl,o,a⟩ hR;obtain⟨y,k,rfl⟩:=zj hv;have b9:j<bs.length:=(aE.mp k).1;left;refine iteT ?_;left;refine⟨l,_,rfl,.inl ((o.drop b).toSame.seq c4),rfl,wH _,?_⟩;rw [if_neg aL,wG];refine⟨_,a,zZ (by rw [aB,aB,aN];lia),hR _ _ ⟨_,rfl,o.trans (.put (by simp)),?_⟩⟩;rw [zC,vA k,aJ];rfl
      ·rintro c G ⟨B,rfl,o,a⟩;rw [aB,aY] at a;left;refine wz a ?_;rw [vB];have c5:(bs.all λy=>decide (y∈ns))=(busyL U n e x).all λy=>decide (y∈ns):=by
        rw [cM,bO,bO];exact⟨λh y k=>h y ((W y).mpr ((wu z).mp k)),λh y k=>h y ((wu z).mpr ((W y).mp k))⟩
       rw [c5,<-u];exact q _ ((eH.trans e5).trans (o.drop b))
end
section
variable{P:Program}{w:World}{K:PySem.W.Frag}{mg:Str->Option Value}{base:Heap}
abbrev ip:Stmt:=top 21
theorem qU0:FnScope ["works","number","thing"] ["works","number","thing"] (zU ip):=⟨rfl,rfl,rfl,by decide +kernel,rfl,by decide +kernel,by decide +kernel⟩
theorem qRw{f:Addr}{fd:FuncData}(F:Fun K "is_plan" "is_plan" ip f fd)(b2:mg "isinstance" = none)(a2:mg "dict" = none)(W:mg "all" = none)(M:mg "sorted" = none)(hN:Has P w K mg base "is_number" 1 ["thing"] (vn K))(hX:Has P w K mg base "boxes_in" 1 ["work"] (qJs K))(hI:Has P w K mg base "is_inside" 7 ["works","number","box","thing"] (qJr K)):FnOk P w K mg base CX0 8 f fd ["works","number","thing"] (qJo K):=by
 refine F.ok qU0 (λvs H Q E h=>?_) (λf3 A c9 s H vs Q E X h=>?_)
 ·obtain⟨wa,v,d,N,n,g,rfl,_⟩:=h;rfl
 ·obtain⟨wa,v,d,N,n,g,rfl,hW,b3,a3,hT,a4,q⟩:=h;have hu:=yW X
  refine⟨_,(zG (zn (PW.pt (wS (xM (yE K rfl (zO qO9 (by rfl) b2 (by decide +kernel) (zA (pv 2) (zA (xQ (v :=.ty "dict") rfl a2 fD rfl) zB))) (λ_=>rfl))) (wR (xM (yE K rfl (vk (zO (wt X.hd) (by rfl) W (by decide +kernel) (zA (zp ["box"] [] rfl (.of rfl) (qRj (pv 2)) (λ_ _ _ _=>(zJ (i:=0) (by show (((["box"]:List Str))).Nodup;decide) rfl (Or.inl rfl))) (λ_ _ _ _ =>.nil) (λ_ _ _ _=>(zH hN X (by decide) (zA (pv 0) zB)))) zB))) (λ_=>rfl)))))) (zI (zP zk)) zh)
   (zG (zn (zV (xk X) (zO (wN X.hd) (by rfl) M bJ (zA (pv 2) zB)) (zH hX X (by decide) (zA (zM zX (pv 0) (pv 1) (λ_ _=>rfl)) zB)) (zQ _)) (zI (zP zk)) zh)
   (zI (zP (vk (zO (wt X.hd) (by rfl) W (by decide +kernel) (zA (zp ["box","inside"] [0,1] rfl (.of rfl) (qWy (uH eV PySem.F.slot_dict_items PySem.F.type_dict_items qUs (pv 2))) (λ_ _ _ _=>(xb (n:=2) K rfl rfl (ze (zJ (i:=0) (by show (((["box","inside","works","number"]:List Str))).Nodup;decide) rfl (Or.inl rfl)) (ze (zJ (i:=1) (by show (((["box","inside","works","number"]:List Str))).Nodup;decide) rfl (Or.inl rfl)) yI)))) (λ_ _ _ _ =>.nil) (λ_ _ _ _=>(zH hI X (by decide) (zA (pv 2) (zA (pv 3) (zA (pv 0) (zA (pv 1) zB))))))) zB))))))),?_⟩
  try dsimp only [zb,zg,xc,yu,yv]
  obtain⟨a',vs,ea,d0,d1⟩:=hW.ofList;cases ea;obtain⟨vw,d2,b4⟩:=d1.get' (i:=n) (d:=workD g) (by rw [aS,a3];rfl);obtain⟨m,f4,d3,a5⟩:=b3.all g (aM a3);have f5:=a5.len;obtain⟨wl,us,rfl,f6,f1⟩:=b4.ofList;have f7:=vg g;left;refine⟨v,d,"dict",rfl,hT.thing,by decide,_,rfl,?_⟩;cases hk:yR d "dict" with
  | false =>
   refine iteT (iteT ?_);left;rw [<-qGp (m:=g.length) (bx:=boxes g) (bz:=busyL N n g) hk];exact q _ (.refl _ _)
  | true =>
   obtain⟨e,rfl⟩:=qKv hk;have a4:=a4 e rfl;obtain⟨a,u,Y,rfl,b5,Z,a0,f8,a6⟩:∃a u Y,v = .ref a/\uq H a u Y/\(∀o u',u ≠ .frz o u')/\DenXs K H (e.map (·.1)) Y/\Y.length<=40/\((e.map (·.1)).all zt=true -> ∃B,u = .dK B/\DenXk K H e B/\(B.map (·.1)).Nodup /\ ∀p∈B,∀i:Int,p.1=Sum.inl i -> -1<=i/\i<=100):=by
    rcases hT with ⟨_,z⟩ | ⟨b6,a,B,e1,rfl,h1,h2,h3,h4,h5⟩ | ⟨b6,e1,⟨a,Y,d4,rfl,e2,r,e4⟩,⟨k,d5,b7⟩,h4⟩
    ·rw [hk] at z;cases z
    ·cases e1;exact⟨a,_,_,rfl,⟨h1,.inl ⟨B,rfl,rfl⟩⟩,(λ_ _ z=>by cases z),h2.keys.1,by rw [aB];exact h4,λ_=>⟨B,rfl,h2,h3,h5⟩⟩
    ·cases e1;refine⟨a,_,Y,rfl,⟨e2,.inr ⟨d4,rfl⟩⟩,(λ_ _ z=>by cases z),r,by rw [r.len,aB];exact h4,λz=>?_⟩;rw [bO] at z;rw [z k d5] at b7;cases b7
   have J:=b5.1;have b8:∀o u',H a≠some (.frz o u'):=λo u' z=>by rw [J] at z;cases z;exact Z _ _ rfl
   have b9:=a0.len;rw [aB] at b9;refine iteF ?_;left;refine vm ?_;left;refine qQy ?_;left;refine⟨a,u,Y,rfl,b5,λo lc l=>?_⟩;have C:(upd H a (.frz o u)) a=some (.frz o u):=zC;have c0:=a0.monoR (RdS.frz (o:=o) J Z);refine qKl (λj t G => ∃(O:Option V),t = [O]/\Ext [lc] (upd H a (.frz o u)) G/\G lc=some (.lst ((((e.map (·.1)).take j).map zt).map V.bl))) ?_ ?_ ?_ ?_
   ·exact⟨none,rfl,.laid l,zC⟩
   ·rintro j t G hj ⟨O,rfl,r,c⟩;exact r _ _ (by simpa using zF C l) C
   ·rintro j x t G R hv ⟨O,rfl,r,c⟩ hR;obtain⟨dd,L,a7⟩:=c0.get hv;have c1:=(aE.mp L).1;rw [aB] at c1;left;refine iteT ?_;left;refine⟨x,dd,rfl,a7.mono (r.drop l).toSame,?_⟩;refine⟨_,c,zZ (by rw [aB,aB,aN,aB];lia),hR _ _ ⟨_,rfl,r.trans (.put (by simp)),?_⟩⟩;rw [zC,vA L,aJ];rfl
   ·rintro t G ⟨O,rfl,r,c⟩;have eF:=r.drop l;rw [show Y.length=(e.map (·.1)).length by rw [aB];lia,aY] at c;left;refine wz c ?_;rw [vB];refine⟨a,o,_,eF _ _ (by simp) C,b8,?_⟩;have eG:Ext [] H (upd G a u):=eF.thawed J;clear c r l eF C c0;generalize upd G a u=G1 at eG ⊢;cases D:(e.map (·.1)).all zt with
    | false =>
     refine⟨false,rfl,iteT ?_⟩;left;rw [<-qOc (m:=g.length) (bx:=boxes g) (bz:=busyL N n g) D];exact q _ eG
    | true =>
     obtain⟨B,rfl,a8,d6,d7⟩:=a6 D;refine⟨true,rfl,iteF ?_⟩;have d8:=eG _ _ (by simp) J;have a1:=a8.keys.2;have I:B.map (·.1)=(e.map λp=>intD p.1).map Sum.inl:=by
      rw [qNm (by rw [<-a1];exact D)]
      congr 1
      have:=congrArg (List.map intD) a1;rw [dS,dS] at this;exact this.symm
     have d9:=a8.len;have e0:(e.map λp=>intD p.1).Nodup:=qKi (by rw [<-I];exact d6);have c2:∀y∈e.map (λp=>intD p.1),-1<=y/\y<=100:=λy hy=>by
      have hm:(Sum.inl y:Key)∈B.map (·.1):=by rw [I];exact aW.mpr ⟨y,hy,rfl⟩
      obtain⟨p,S,he⟩:=aW.mp hm;exact d7 p S y he
     left;refine⟨a,e.map (λp=>intD p.1),B,rfl,d8,I,by rw [aB];lia,λl1 a9 e5 S e6=>?_⟩;generalize zz:upd G1 l1 _=G2;have ⟨e2,c3⟩:=layQq zz e5;have b0:=eG.trans e2;left;refine zR (b0.toSame.seq d0) (zK d2) ?_;left;refine⟨wl,g,m,N.length,rfl,b4.mono b0.toSame,a5,d3,λl3 G3 f9 r c4=>?_⟩;have f2:a9.length<=40:=by have:=S.length_eq;rw [aB] at this;lia
     obtain⟨t1,t2,t3⟩:=yn (ns:=boxes g) (λn hn=>by have:=uo a5 hn;lia) (by lia);obtain⟨u1,u2,u3⟩:=yn (ns:=a9) (λn hn=>c2 n (S.mem_iff.mp hn)) (by lia);refine⟨intsD a9,intsD (boxes g),.list (SqL.of (r _ _ (by simp) c3)) (DenL.ofInts _),.list (SqL.of c4) (DenL.ofInts _),ym u1 u3 ⟨_,rfl⟩,ym t1 t3 ⟨_,rfl⟩,?_⟩;have hq:planB g.length (boxes g) (busyL N n g) (.dict e)=(keysB (e.map λp=>intD p.1) (boxes g)&&e.all λp=>yS g.length (busyL N n g (intD p.1)) p.2):=by
      unfold planB;rw [List.all_map] at D;simp only [show (e.all λp=>zt p.1)=true from D,dG]
     rw [if_pos rfl,ut,qGy S e6 e0 (yl g)];have b1:=b0.trans r;cases c5:keysB (e.map λp=>intD p.1) (boxes g) with
     | false =>
      rw [c5,cR] at hq;left;refine iteT ?_;left;rw [<-hq];exact q _ b1
     | true =>
      rw [c5,dG] at hq;left;refine iteF ?_;left;refine vm ?_;left;refine qWr ?_;have c6:=b1 _ _ (by simp) J;left;refine Qm c6 ?_;refine⟨a,_,rfl,rfl,c6,λp S=>?_⟩;generalize zz:upd G3 p _=GP;have ⟨eP,e7⟩:=layQq zz S;have T:=b1.trans eP;have U:=T _ _ (by simp) J;refine⟨p,a,_,rfl,e7,U,λo lc l=>?_⟩;have C:(upd GP a (.frz o (.dK B))) a=some (.frz o (.dK B)):=zC;have e8:Ext [a] GP (upd GP a (.frz o (.dK B))) :=.put (by simp);have e9:Den K (upd GP a (.frz o (.dK B))) (yF N) (.ref wa):=Den.beside U e8 (hW.mono T.toSame);have f0:=(a8.mono T.toSame).monoR (RdS.frz (o:=o) U (λ_ _ z=>by cases z));refine qP2 (λj t G => ∃(O o1:Option V),t = [O,o1,some (.ref wa),some (.int n)]/\Ext [lc] (upd GP a (.frz o (.dK B))) G/\G lc=some (.lst (((e.take j).map λp=>yS g.length (busyL N n g (intD p.1)) p.2).map V.bl))) ?_ ?_ ?_ ?_
      ·exact⟨none,none,rfl,.laid l,zC⟩
      ·rintro j t G hj ⟨O,o1,rfl,r,c⟩;exact r _ _ (by simpa using zF C l) C
      ·rintro j k v t G p R hv ⟨O,o1,rfl,r,c⟩ S hR;obtain⟨dd,L,a7⟩:=f0.at hv;have c1:j<e.length:=(aE.mp L).1;obtain⟨b,rfl⟩:∃b:Int,k=Sum.inl b:=by
        have hm:k∈B.map (·.1):=aW.mpr ⟨_,aM hv,rfl⟩;rw [I] at hm;obtain⟨b,_,hb⟩:=aW.mp hm;exact⟨b,hb.symm⟩
       have eT:Ext [] G (upd G p (.tup [V.int b,v])) :=.laid S;have c7:(upd G p (.tup [V.int b,v])) p=some (.tup [V.int b,v]):=zC;show gTup K 2 _ (.ref p) _ (upd G p (.tup [V.int b,v])) _;generalize upd G p (.tup [V.int b,v])=GT at eT c7 ⊢;refine yO (SqT.of c7) rfl ?_;left;refine iteT ?_;have c8:=(r.drop l).trans eT;left;refine⟨wa,v,dd,N,n,g,b,rfl,e9.mono c8.toSame,b3,a3,a7.mono c8.toSame,a4 _ (aM L),λH' e'=>?_⟩;refine⟨_,e' _ _ (by simp) (eT _ _ (by simp) c),zZ (by rw [aB,aB,aN];lia),hR _ _ ⟨_,_,rfl,(r.trans ((eT.trans e').mono (by simp))).trans (.put (by simp)),?_⟩⟩;rw [zC,vA (p:=λp=>yS g.length (busyL N n g (intD p.1)) p.2) L,aJ]
       rfl
      ·rintro t G ⟨O,o1,rfl,r,c⟩;have eF:=r.drop l;rw [<-d9,aY] at c;left;refine wz c ?_;rw [vB (p:=λp:PyData×PyData=>yS g.length (busyL N n g (intD p.1)) p.2),<-hq];exact⟨a,o,_,eF _ _ (by simp) C,b8,q _ (T.trans (eF.thawed U))⟩
end
section
variable{P:Program}{w:World}{K:PySem.W.Frag}{mg:Str->Option Value}{base:Heap}
abbrev iq:Stmt:=top 42
theorem qWg:FnScope ["_law_thing"] ["_law_thing"] (zU iq):=⟨rfl,rfl,rfl,by decide +kernel,rfl,by decide +kernel,by decide +kernel⟩
theorem qUe{f:Addr}{fd:FuncData}(F:Fun K "_law_whole" "_law_whole" iq f fd)(a:mg "isinstance" = none)(c:mg "int" = none)(b:mg "bool" = none):FnOk P w K mg base CX0 1 f fd ["_law_thing"] (vn K):=by
 refine F.ok qWg (λj H Q E h=>?_) (λk A g s H j Q E l h=>?_)
 ·obtain⟨x,d,rfl,_⟩:=h;rfl
 ·obtain⟨x,d,rfl,i,q⟩:=h;have m:=yW l;refine⟨_,(zI (zP (xR (zO wP (by rfl) a (by decide +kernel) (zA (pv 0) (zA (xQ (v :=.ty "int") rfl c dD rfl) zB))) (xN (oC (zO wP (by rfl) a (by decide +kernel) (zA (pv 0) (zA (xQ (v :=.ty "bool") rfl b PyProof.Rows.boot_bool rfl) zB)))))))),?_⟩
  try dsimp only [zb,zg,xc,yu,yv]
  have e:=qHu d;left;refine⟨x,d,"int",rfl,i,by decide,_,rfl,?_⟩;cases h:yR d "int" with
  | false =>
   rw [h,cR] at e;rw [e] at q;exact iteF q
  | true =>
   rw [h,dG] at e;rw [e] at q;refine iteT ?_;left;exact⟨x,d,"bool",rfl,i,by decide,_,rfl,q⟩
end
section
variable{P:Program}{w:World}{K:PySem.W.Frag}{mg:Str->Option Value}{base:Heap}
abbrev ir:Stmt:=top 43
theorem scLIsPlan:FnScope ["_law_own","_law_many_here","_law_thing","_law_boxes_here","_law_box","_law_some"] ["_law_own","_law_many_here","_law_thing"] (zU ir):=⟨rfl,rfl,rfl,by decide +kernel,rfl,by decide +kernel,by decide +kernel⟩
theorem qOw{f:Addr}{fd:FuncData}(F:Fun K "_law_is_plan" "_law_is_plan" ir f fd)(b2:mg "isinstance" = none)(c3:mg "dict" = none)(c4:mg "list" = none)(d8:mg "set" = none)(b3:mg "all" = none)(C:mg "sorted" = none)(hN:Has P w K mg base "_law_whole" 1 ["_law_thing"] (vn K)):FnOk P w K mg base CX0 2 f fd ["_law_own","_law_many_here","_law_thing"] (qJn K):=by
 refine F.ok scLIsPlan (λvs H Q E h=>?_) (λl7 A i6 s H vs Q E Y h=>?_)
 ·obtain⟨oa,v,d,N,n,c,as,rfl,_⟩:=h;rfl
 ·obtain⟨oa,v,d,N,n,c,as,rfl,hO,i7,i8,hT,c5,q⟩:=h;have hu:=yW Y
  refine⟨_,(zG (zN (i:=3) scLIsPlan.nd rfl (Or.inl rfl) (zO (wN Y.hd) (by rfl) C bJ (zA (pv 0) zB)))
   (zG (zn (xM (yE K rfl (zO qO9 (by rfl) b2 (by decide +kernel) (zA (pv 2) (zA (xQ (v :=.ty "dict") rfl c3 fD rfl) zB))) (λ_=>rfl))) (zI (zP zk)) zh)
   (zG (zn (xM (yE K rfl (vk (zO (wt Y.hd) (by rfl) b3 (by decide +kernel) (zA (zp ["_law_box"] [] rfl (.of rfl) (qRj (pv 2)) (λ_ _ _ _=>(zJ (i:=0) (by show (((["_law_box"]:List Str))).Nodup;decide) rfl (Or.inl rfl))) (λ_ _ _ _ =>.nil) (λ_ _ _ _=>(zH hN Y (by decide) (zA (pv 0) zB)))) zB))) (λ_=>rfl))) (zI (zP zk)) zh)
   (zG (zn (zV (xk Y) (zO (wN Y.hd) (by rfl) C bJ (zA (pv 2) zB)) (pv 3) (zQ _)) (zI (zP zk)) zh)
   (zG (yV bU rfl (zu (pv 3)) (zJ (i:=4) scLIsPlan.nd rfl (Or.inl rfl))
   (zG (zN (i:=5) scLIsPlan.nd rfl (Or.inr rfl) (xy hu (pv 2) (pv 4) (λ_ _=>rfl)))
   (zG (zn (xM (yE K rfl (zO wP (by rfl) b2 (by decide +kernel) (zA (pv 5) (zA (xQ (v :=.ty "list") rfl c4 cI rfl) zB))) (λ_=>rfl))) (zI (zP zk)) zh)
   (zG (zn (xM (yE K rfl (zO (wt Y.hd) (by rfl) b3 (by decide +kernel) (zA (zp ["_law_b"] [1] rfl (.of rfl) (zu (pv 5)) (λ_ _ _ _=>(zJ (i:=0) (by show (((["_law_b","_law_many_here"]:List Str))).Nodup;decide) rfl (Or.inl rfl))) (λ_ _ _ _ =>.nil) (λ_ _ _ _=>(xR (zH hN Y (by decide) (zA (pv 0) zB)) (xN (oM kI xU zE (pv 0) (pv 1)))))) zB)) (λ_=>rfl))) (zI (zP zk)) zh)
   (zG (zn (zV (xk Y) (pv 5) (zO (wJ Y.hd) (by rfl) C bJ (zA (zr (wK Y.hd) (by rfl) d8 dM (zA (pv 5) zB)) zB)) (zQ _)) (zI (zP zk)) zh)
   (zI (zn (zV (xk Y) (zp ["_law_b"] [5] rfl (.of rfl) (zu (xy hu (pv 0) (pv 4) (λ_ _=>rfl))) (λ_ _ _ _=>(zJ (i:=0) (by show (((["_law_b","_law_some"]:List Str))).Nodup;decide) rfl (Or.inl rfl))) (λ_ _ _ _ =>.cons (zV (Qu K rfl) (pv 0) (pv 1) rfl) .nil) (λ_ _ _ _=>(pv 0))) (zW zB) (zQ _)) (zI (zP zk)) zh)))))))
   (zI (zP zk))))))),?_⟩
  try dsimp only [zb,zg,xc,yu,yv]
  obtain⟨m,l8,l9,a5⟩:=i7.all c (aM i8);have m0:=a5.len;have m1:=vg c;have l3:=yY hO.len;left;refine⟨oa,boxes c,_,rfl,hO.dict,yw hO.len,by lia,λlb Z i9 hp c6=>?_⟩;have j0:Z=boxes c:=by
   refine xp ?_ (yl c) λy=>hp.mem_iff;exact (c6.and (hp.nodup_iff.mpr ((yl c).imp λh=>by lia))).imp λ{a b} z=>by obtain⟨z1,z2⟩:=z;lia
  subst j0;generalize zz:upd H lb _=H1;have ⟨e1,d9⟩:=layQq zz i9;have e7:=hT.mono e1.toSame;left;refine⟨v,d,"dict",rfl,e7.thing,by decide,_,rfl,?_⟩;cases hk:yR d "dict" with
  | false =>
   refine iteT ?_;left;rw [<-qGp (m:=c.length) (bx:=boxes c) (bz:=busyL N n c) hk];exact q _ e1
  | true =>
   obtain⟨B,rfl⟩:=qKv hk;have c5:=c5 B rfl;obtain⟨a,u,ks,rfl,e8,b4,b5,m2,c7⟩:∃a u ks,v = .ref a/\uq H1 a u ks/\(∀o u',u ≠ .frz o u')/\DenXs K H1 (B.map (·.1)) ks/\ks.length<=40/\((B.map (·.1)).all zt=true -> ∃ps,u = .dK ps/\DenXk K H1 B ps/\(ps.map (·.1)).Nodup /\ ∀p∈ps,∀i:Int,p.1=Sum.inl i -> -1<=i/\i<=100):=by
    rcases e7 with ⟨_,z⟩ | ⟨e9,a,ps,z1,rfl,h1,h2,h3,h4,h5⟩ | ⟨e9,z1,⟨a,ks,j1,rfl,z2,z3,z4⟩,⟨k,j2,f0⟩,h4⟩
    ·rw [hk] at z;cases z
    ·cases z1;exact⟨a,_,_,rfl,⟨h1,.inl ⟨ps,rfl,rfl⟩⟩,(λ_ _ z=>by cases z),h2.keys.1,by rw [aB];exact h4,λ_=>⟨ps,rfl,h2,h3,h5⟩⟩
    ·cases z1;refine⟨a,_,ks,rfl,⟨z2,.inr ⟨j1,rfl⟩⟩,(λ_ _ z=>by cases z),z3,by rw [z3.len,aB];exact h4,λz=>?_⟩;rw [bO] at z;rw [z k j2] at f0;cases f0
   have W:=e8.1;have j3:∀o u',H a≠some (.frz o u'):=λo u' z=>by rw [e1 _ _ (by simp) z] at W;cases W;exact b4 _ _ rfl
   have f1:=b5.len;rw [aB] at f1;refine iteF ?_;left;refine vm ?_;left;refine qQy ?_;left;refine⟨a,u,ks,rfl,e8,λo lc t=>?_⟩;have a6:(upd H1 a (.frz o u)) a=some (.frz o u):=zC;have f2:=b5.monoR (RdS.frz (o:=o) W b4);refine qKl (λj r G => ∃(O:Option V),r = [O]/\Ext [lc] (upd H1 a (.frz o u)) G/\G lc=some (.lst ((((B.map (·.1)).take j).map zt).map V.bl))) ?_ ?_ ?_ ?_
   ·exact⟨none,rfl,.laid t,zC⟩
   ·rintro j r G hj ⟨O,rfl,J,e⟩;exact J _ _ (by simpa using zF a6 t) a6
   ·rintro j x r G R hv ⟨O,rfl,J,e⟩ hR;obtain⟨dd,f3,X⟩:=f2.get hv;have c8:=(aE.mp f3).1;rw [aB] at c8;left;refine iteT ?_;left;refine⟨x,dd,rfl,X.mono (J.drop t).toSame,?_⟩;refine⟨_,e,zZ (by rw [aB,aB,aN,aB];lia),hR _ _ ⟨_,rfl,J.trans (.put (by simp)),?_⟩⟩;rw [zC,vA f3,aJ];rfl
   ·rintro r G ⟨O,rfl,J,e⟩;have eF:=J.drop t;rw [show ks.length=(B.map (·.1)).length by rw [aB];lia,aY] at e;left;refine wz e ?_;rw [vB];refine⟨a,o,_,eF _ _ (by simp) a6,j3,?_⟩;have a7:Ext [] H1 (upd G a u):=eF.thawed W;clear e J t eF a6 f2;generalize upd G a u=G1 at a7 ⊢;have eG:Ext [] H G1:=e1.trans a7;cases S:(B.map (·.1)).all zt with
    | false =>
     refine⟨false,rfl,iteT ?_⟩;left;rw [<-qOc (m:=c.length) (bx:=boxes c) (bz:=busyL N n c) S];exact q _ eG
    | true =>
     obtain⟨ps,rfl,c9,f4,j4⟩:=c7 S;refine⟨true,rfl,iteF ?_⟩;have j5:=a7 _ _ (by simp) W;have b6:=c9.keys.2;have T:ps.map (·.1)=(B.map λp=>intD p.1).map Sum.inl:=by
      rw [qNm (by rw [<-b6];exact S)]
      congr 1
      have:=congrArg (List.map intD) b6;rw [dS,dS] at this;exact this.symm
     have m3:=c9.len;have f5:(B.map λp=>intD p.1).Nodup:=qKi (by rw [<-T];exact f4);have f6:∀y∈B.map (λp=>intD p.1),-1<=y/\y<=100:=λy U=>by
      have hm:(Sum.inl y:Key)∈ps.map (·.1):=by rw [T];exact aW.mpr ⟨y,U,rfl⟩
      obtain⟨p,hp,he⟩:=aW.mp hm;exact j4 p hp y he
     left;refine⟨a,B.map (λp=>intD p.1),ps,rfl,j5,T,by rw [aB];lia,λl1 Z j6 hp c6=>?_⟩;generalize zz:upd G1 l1 _=G2;have ⟨e2,f7⟩:=layQq zz j6;have a8:=eG.trans e2;have f8:=a7.trans e2;have a0:=f8 _ _ (by simp) d9;left;have l4:Z.length<=40:=by have:=hp.length_eq;rw [aB] at this;lia
     obtain⟨t1,t2,t3⟩:=yn (ns:=boxes c) (λn hn=>by have:=uo a5 hn;lia) (by lia);obtain⟨u1,u2,u3⟩:=yn (ns:=Z) (λn hn=>f6 n (hp.mem_iff.mp hn)) (by lia);refine⟨intsD Z,intsD (boxes c),.list (SqL.of f7) (DenL.ofInts _),.list (SqL.of a0) (DenL.ofInts _),ym u1 u3 ⟨_,rfl⟩,ym t1 t3 ⟨_,rfl⟩,?_⟩;rw [if_pos rfl,ut,qGy hp c6 f5 (yl c)];cases d0:keysB (B.map λp=>intD p.1) (boxes c) with
     | false =>
      have L:planB c.length (boxes c) (busyL N n c) (.dict B)=false:=by
       unfold planB;simp only [d0,Bool.and_false,cR]
      left;refine iteT ?_;left;rw [<-L];exact q _ a8
     | true =>
      left;refine iteF ?_;left;refine⟨lb,rfl,⟨_,SqL.of a0⟩,wc (xs:=(boxes c).map V.int) (λi r G => ∃(o4 o5:Option V),r = [some (.ref oa),some (.int c.length),some (.ref a),some (.ref lb),o4,o5]/\Ext [] G2 G /\ ∀b∈(boxes c).take i,∀dd,(.int b,dd)∈B->yS c.length (busyL N n c b) dd=true) ?_ ?_ ?_ ?_⟩
      ·exact⟨_,_,rfl,.refl _ _,λb hb=>absurd hb (by simp)⟩
      ·rintro i r G hi ⟨o4,o5,rfl,J,a1⟩;exact SqL.of (J _ _ (by simp) a0)
      ·rintro i x r G hx ⟨o4,o5,rfl,J,a1⟩ N_ B_ C_ R_ hN_ hC_ hR_;obtain⟨b,hb,rfl⟩:=zj hx;have f9:=aM hb;obtain⟨j,vv,dd,g0,d1,X⟩:=qZ9 c9 f4 T d0 f9;have g1:=f8.trans J;have j7:=g1 _ _ (by simp) W;have X:=X.mono g1.toSame;have g2:=c5 _ (aM d1);have a9:yS c.length (busyL N n c b) dd=false -> ∀ {M:Hp},Ext [] G M->Q (.bl false) M:=λhb' {M} a2=>by
        rw [<-qRg (bx:=boxes c) (bz:=busyL N n c) d1 hb'];exact q _ (a8.trans (J.trans a2))
       left;refine⟨a,vv,rfl,?_,?_⟩
       ·have:=DGet.k (k:=Sum.inl b) j7;rw [g0] at this;exact this
       left;refine⟨vv,dd,"list",rfl,X,by decide,_,rfl,?_⟩;cases g3:yR dd "list" with
       | false =>
        have L:yS c.length (busyL N n c b) dd=false:=by
         cases dd <;> first | rfl | cases g3
        refine iteT ?_;left;exact a9 L (.refl _ _)
       | true =>
        obtain⟨ds,rfl⟩:=qKu g3;obtain⟨l,ls,rfl,hl,d2⟩:=X.ofList;have g4:=d2.len;obtain⟨j8,m4⟩:=wide_list.mp g2;have L:yS c.length (busyL N n c b) (.list ds)=(ds.all (fromD 0 c.length)&&riseB (ds.map intD)&&(busyL N n c b).all λy=>decide (y∈ds.map intD)):=rfl;refine iteF ?_;left;refine⟨l,rfl,⟨_,hl⟩,λlc t=>?_⟩;refine zx (xs:=ls) (λj r M => ∃(O:Option V),r = [O,some (.int c.length)]/\Ext [lc] G M/\M lc=some (.lst (((ds.take j).map (fromD 0 c.length)).map V.bl))) ?_ ?_ ?_ ?_
        ·exact⟨none,rfl,.laid t,zC⟩
        ·rintro j r M hj ⟨O,rfl,e4,e⟩;exact (e4.drop t).toSame.seq hl
        ·rintro j vx r M R hv ⟨O,rfl,e4,e⟩ hR;obtain⟨dx,g5,g6⟩:=d2.get hv;have c8:j<ds.length:=(aE.mp g5).1;have d3:∀bv,bv=fromD 0 c.length dx -> ∃us,M lc=some (.lst us)/\us.length<sizeLine/\R [some vx,some (.int c.length)] (upd M lc (.lst (us ++ [.bl bv]))):=λbv j9=>by
          refine⟨_,e,zZ (by rw [aB,aB,aN];lia),hR _ _ ⟨_,rfl,e4.trans (.put (by simp)),?_⟩⟩;rw [zC,vA g5,aJ,j9];rfl
         left;refine iteT ?_;left;refine⟨vx,dx,rfl,g6.mono (e4.drop t).toSame,?_⟩;cases g7:zt dx with
         | false =>
          exact⟨false,rfl,iteF (d3 false (qNx g7).symm)⟩
         | true =>
          obtain⟨y,rfl⟩:=qKy g7;have k0:=g6.ofInt;subst k0;refine⟨true,rfl,iteT ?_⟩;left;refine ite2 (λg=>?_) (λg=>?_)
          ·left;refine d3 (decide (y<c.length)) ?_;show _=(decide (0<=y)&&decide (y<(c.length:Int)));rw [g,dG]
          ·refine d3 false ?_;show _=(decide (0<=y)&&decide (y<(c.length:Int)));rw [gE.mpr g,cR]
        ·rintro r M ⟨O,rfl,e4,e⟩;have a2:=e4.drop t;rw [g4,aY] at e;left;refine wz e ?_;rw [vB];cases I:ds.all (fromD 0 c.length) with
         | false =>
          rw [I,cR,cR] at L;refine⟨false,rfl,iteT ?_⟩;left;exact a9 L a2
         | true =>
          rw [I,dG] at L;refine⟨true,rfl,iteF ?_⟩;obtain⟨g8,a3⟩:=qHx I;generalize g9:ds.map intD=ns at g8 a3 L;subst g8;have m5:ns.length<=60:=by simpa using j8
          have k1:ls=ns.map V.int:=jz d2 (lo:=0) (hi:=c.length) I |>.trans (by rw [g9])
          subst k1;have h0:=a2.toSame.seq hl;clear e e4 t;left;refine⟨l,ns,rfl,h0,by lia,λb0 h6=>?_⟩;have m6:=xo ns;left;refine⟨b0,zf ns,rfl,zC,by lia,λl2 nx k2 d4 k3=>?_⟩;have e4:Ext [] M (upd (upd M b0 (setO w (zf ns))) l2 (.lst (nx.map V.int))):=(Ext.laid h6).trans (.laid k2);have b7:(upd (upd M b0 (setO w (zf ns))) l2 (.lst (nx.map V.int))) l2=some (.lst (nx.map V.int)):=zC;generalize upd (upd M b0 (setO w (zf ns))) l2 (.lst (nx.map V.int))=G4 at e4 b7 ⊢;have l5:nx.length<=60:=by have:=d4.length_eq;lia
          have h7:∀y∈nx,0<=y/\y<(c.length:Int):=λy U=>a3 y (by rw [d4.mem_iff,yt] at U;exact U);obtain⟨s1,s2,s3⟩:=yn (ns:=ns) (λn hn=>by have:=a3 n hn;lia) (by lia);obtain⟨r1,r2,r3⟩:=yn (ns:=nx) (λn hn=>by have:=h7 n hn;lia) (by lia);have b8:=e4.toSame.seq h0;refine⟨intsD ns,intsD nx,.list b8 (DenL.ofInts _),.list (SqL.of b7) (DenL.ofInts _),ym s1 s3 ⟨_,rfl⟩,ym r1 r3 ⟨_,rfl⟩,?_⟩;rw [if_pos rfl,ut,qN6 d4 k3];have eH:=a2.trans e4;cases h8:riseB ns with
          | false =>
           rw [h8,cR] at L;left;refine iteT ?_;left;exact a9 L eH
          | true =>
           rw [h8,dG] at L;left;refine iteF ?_;obtain⟨jo,h9,k4⟩:=bI f9;have b9:(boxes c)[jo]? = some b:=by rw [aD h9,k4]
           have c0:jo<as.length:=by rw [hO.len];exact h9
           have k5:=ww ((yl c).imp λh=>by lia) b9 (aD c0);obtain⟨nb,d5,i0⟩:=hO.lists.get (aD c0);have a4:nb=busyL N n c b:=by
            unfold tightLs at d5;rw [aS,b9] at d5;cases d5;rfl
           have e0:Ext [] H G4:=a8.trans (J.trans eH);have c1:=e0 _ _ (by simp) i0;have i1:nb.length<=12:=by
            rw [a4];unfold busyL;refine bL (bC _ _) ?_;rw [aB,cO];lia
           left;refine⟨oa,.ref as[jo],rfl,?_,?_⟩
           ·have:=DGet.k (k:=Sum.inl b) (e0 _ _ (by simp) hO.dict);rw [k5] at this;exact this
           refine⟨_,rfl,⟨_,SqL.of c1⟩,λlc t=>?_⟩;refine zx (xs:=nb.map V.int) (λj r G5 => ∃(O:Option V),r = [O,some (.ref l)]/\Ext [lc] G4 G5/\G5 lc=some (.lst (((nb.take j).filter λy => !decide (y∈ns)).map V.int))) ?_ ?_ ?_ ?_
           ·exact⟨none,rfl,.laid t,zC⟩
           ·rintro j r G5 hj ⟨O,rfl,e5,D⟩;exact (e5.drop t).toSame.seq (SqL.of c1)
           ·rintro j vx r G5 R hv ⟨O,rfl,e5,D⟩ hR;obtain⟨y,d6,rfl⟩:=zj hv;have c8:j<nb.length:=(aE.mp d6).1;left;refine⟨l,_,rfl,.inl ((e5.drop t).toSame.seq b8),rfl,wH _,?_⟩;rw [if_pos rfl,wG];by_cases b1:y∈ns
            ·rw [decide_eq_true b1];left;refine iteF (iteF ?_);refine hR _ _ ⟨_,rfl,e5,?_⟩;rw [D,zd d6,cA];simp [b1]
            ·rw [decide_eq_false b1];left;refine iteT (iteT ?_);left;refine⟨_,D,zZ ?_,hR _ _ ⟨_,rfl,e5.trans (.put (by simp)),?_⟩⟩
             ·rw [aB];have:=bC (λy => !decide (y∈ns)) (nb.take j);rw [aN] at this;lia
             ·rw [zC,zd d6,cA];simp [b1]
           ·rintro r G5 ⟨O,rfl,e5,D⟩;rw [aB,aY] at D;have eN:=e5.drop t;left;refine⟨len2 (bB _),λk6 i2=>?_⟩;generalize zz:upd G5 k6 _=G6;have ⟨e6,i3⟩:=layQq zz i2;have c2:=e6 _ _ (by simp) D;have k7:∀y∈nb,0<=y/\y<(c.length:Int):=λy U=>by
             rw [a4] at U;have:=um a5 ((wu a5).mp U);lia
            generalize d7:(nb.filter λy => !decide (y∈ns))=fs at c2;have k8:∀y∈fs,0<=y/\y<(c.length:Int):=λy U=>by
             rw [<-d7] at U;exact k7 y (bQ.mp U).1
            have l6:fs.length<=12:=by
             rw [<-d7];exact bL (bC _ _) i1
            obtain⟨w1,w2,w3⟩:=yn (ns:=fs) (λn hn=>by have:=k8 n hn;lia) (by lia);left;refine⟨intsD fs,.list [],.list (SqL.of c2) (DenL.ofInts _),.list (SqL.of i3) .nil,ym w1 w3 ⟨_,rfl⟩,rfl,?_⟩;rw [if_pos rfl,jU];have k9:decide (fs = [])=(busyL N n c b).all λy=>decide (y∈ns):=by
             rw [<-d7,<-a4,cM,decide_eq_true_iff,List.filter_eq_nil_iff,bO];exact⟨λh y U=>by have:=h y U;simpa using this,λh y U=>by have:=h y U;simpa using this⟩
            rw [k9];cases i4:(busyL N n c b).all λy=>decide (y∈ns) with
            | false =>
             rw [i4] at L;left;refine iteT ?_;left;exact a9 L (eH.trans (eN.trans e6))
            | true =>
             rw [i4] at L;left;refine iteF ?_;left;refine⟨_,_,rfl,J.trans (eH.trans (eN.trans e6)),λb' hb' l0 i5=>?_⟩;rw [zd hb] at hb';rcases aK.mp hb' with hb' | hb'
             ·exact a1 b' hb' l0 i5
             ·have hb':b'=b:=by simpa using hb'
              subst hb';rw [qOz f5 d1 i5];exact L
      ·rintro r G ⟨o4,o5,rfl,J,a1⟩;rw [aB,aY] at a1;left;rw [<-qNc (bz:=busyL N n c) S d0 a1];exact q _ (a8.trans J)
end
section
variable{P:Program}{w:World}{K:PySem.W.Frag}{mg:Str->Option Value}{base:Heap}
abbrev iu:Stmt:=top 41
theorem scLPlan:FnScope ["_law_tape_here","_law_own","_law_many_here","_law_found","_law_left","_law_box","_law_way","_law_more"] ["_law_tape_here","_law_own","_law_many_here"] (zU iu):=⟨rfl,rfl,rfl,by decide +kernel,rfl,by decide +kernel,by decide +kernel⟩
theorem qUh{f:Addr}{fd:FuncData}(F:Fun K "_law_plan" "_law_plan" iu f fd)(O:mg "range" = none)(b5:mg "len" = none)(b7:mg "set" = none)(u:mg "sorted" = none)(hD:Has P w K mg base "_law_draw" 1 ["_law_tape_here","_law_many_here"] xI):FnOk P w K mg base CX0 2 f fd ["_law_tape_here","_law_own","_law_many_here"] (qQ4 K):=by
 refine F.ok scLPlan (λvs H Q E h=>?_) (λg8 A d6 s H vs Q E hr h=>?_)
 ·obtain⟨t,oa,k,ws,n,c,b8,rfl,_⟩:=h;rfl
 ·obtain⟨t,oa,k,ws,n,c,b8,rfl,a8,hk,hO,d7,d8,d9,q⟩:=h;have hu:=yW hr
  refine⟨_,(zG (vz (i:=3) (j:=4) rfl scLPlan.nd rfl rfl (by decide) rfl rfl (zA wX (zA (zO (wN hr.hd) (by rfl) u bJ (zA (pv 1) zB)) zB)) rfl)
   (zG (uA bU (zV (xk hr) (pv 4) (zW zB) (zQ _))
   (zG (zN (i:=5) scLPlan.nd rfl (Or.inl rfl) (yc bH fH fI ot (pv 4) (zA (zH hD hr (by decide) (zA (pv 0) (zA (zO yb (by rfl) b5 cK (zA (pv 4) zB)) zB))) zB)))
   (zG (zN (i:=6) scLPlan.nd rfl (Or.inr rfl) (zH hD hr (by decide) (zA (pv 0) (zA zE zB))))
   (zG (vV (i:=7) ["_law_b"] [0,6] rfl (.of rfl) scLPlan.nd rfl (Or.inl rfl) (xB rfl O (zA (pv 2) zB)) (λ_ _ _ _=>(zJ (i:=0) (by show (((["_law_b","_law_tape_here","_law_way"]:List Str))).Nodup;decide) rfl (Or.inl rfl))) (λ_ _ _ _ =>.cons (PW.pt (wS (zV zq (pv 2) zE (zQ _)) (wR (PW.pt (xj (zV wV (pv 2) zE (zQ _)) (xi (zV zq (zH hD hr (by decide) (zA (pv 1) (zA zE zB))) zE (zQ _)))))))) .nil) (λ_ _ _ _=>(pv 0)))
   (zI (xX hu (pv 3) (pv 5) (zO (wJ hr.hd) (by rfl) u bJ (zA (zr (wK hr.hd) (by rfl) b7 dM (zA (zL xD (xy hu (pv 1) (pv 5) (λ_ _=>rfl)) (pv 7)) zB)) zB)) rfl))))))
   (zI (zP (pv 3))))),?_⟩
  try dsimp only [zb,zg,xc,yu,yv]
  obtain⟨m,g9,h0,S⟩:=d8.all c (aM d9);have h1:=S.len;have h2:=vg c;obtain⟨ta,tb,tc,e0,g4⟩:=id a8;have dO:∀ {G:Hp},Ext [t] H G->PlanAt G oa (boxes c) b8 (tightLs ws n c):=λ{G} e=>hO.keepT a8 d7 e;have B:∃o,H t=some o:=⟨_,e0⟩;left;refine (show ∀p,_=none->_ from λd hd=>?_);generalize zz:upd H d _=H1;have ⟨ed,b0⟩:=layQq zz hd;have c0:=dO (ed.mono (us :=[t]) (by simp));have g5:=yY hO.len;left;refine⟨oa,boxes c,_,rfl,c0.dict,yw hO.len,by lia,λlf e1 T hp e5=>?_⟩;have e7:e1=boxes c:=by
   refine xp ?_ (yl c) λy=>hp.mem_iff;exact (e5.and (hp.nodup_iff.mpr ((yl c).imp λh=>by lia))).imp λ{a b} z=>by obtain⟨z1,z2⟩:=z;lia
  subst e7;generalize zz:upd H1 lf _=H2;have ⟨e2,a0⟩:=layQq zz T;left;refine⟨_,_,rfl,?_⟩;have E2:=ed.trans e2;have f0:PlI H t d lf ws n c (boxes c) (boxes c) [] [] (λ_ =>[]) k H2:=⟨a8.ext E2 (by simp),E2.mono (by simp),a0,⟨e2 _ _ (by simp) b0,.nil,rfl,.nil,by simp⟩,hd,ed.none (by simp) T,by simp,by simp,(λz=>by rw [z,b0] at T;cases T),.refl _,by simp,by simp,by simp⟩;clear a0 b0 c0;left;refine⟨LpO H t oa d lf ws n c k,⟨_,_,_,_,_,_,_,_,_,rfl,rfl,by lia,f0⟩,?_⟩;rintro μ C G ⟨ls,bs,as,f,kk,o5,o6,o7,rfl,rfl,h3,I⟩;left;refine⟨len2 (bB _),λc1 a1=>?_⟩;have e3:Ext [] G (upd G c1 (.lst [])) :=.laid a1;have v:=I.grown B e3;have f2:=I.perm.length_eq
  rw [aI] at f2;have c2:∀b∈ls,0<=b/\b<8:=λb hb=>uo S (I.perm.mem_iff.mp (aZ _ hb));have f3:(bs++ls).Nodup:=I.perm.symm.nodup ((yl c).imp λh=>by lia);obtain⟨t1,t2,t3⟩:=yn (ns:=ls) (λn hn=>by have:=c2 n hn;lia) (by lia);refine⟨intsD ls,.list [],.list (SqL.of v.left) (DenL.ofInts _),.list (SqL.of zC) .nil,ym t1 t3 ⟨_,rfl⟩,rfl,?_⟩;rw [if_pos rfl,jU];generalize upd G c1 (.lst [])=G1 at e3 v ⊢;clear e3 I a1;left;by_cases hz:ls = []
  ·subst hz;rw [decide_eq_true rfl];refine iteF ?_;left;have hp:=v.perm;rw [cH] at hp;refine q d bs as f G1 v.fd v.fa (v.tape.mono (by lia)) v.ext v.plan ⟨hp,v.rise,v.rg,v.busy⟩
  ·rw [decide_eq_false hz];have h4:1<=ls.length:=by
    cases ls with
    | nil=>exact absurd rfl hz
    | cons x r=>simp
   refine iteT ⟨λC H' => ∃m',m'<ls.length/\LpO H t oa d lf ws n c k m' C H',λ_ _ h=>h,?_⟩;left;refine yD v.left ?_;left;refine⟨lf,_,rfl,.inl (SqL.of v.left),?_⟩;rw [aB];left;refine za v.tape (by lia) (by lia) (by lia) λr4 G4 a4 b4 T4 e4 k4=>?_;have I4:=v.keep B e4 T4;obtain⟨j,rfl⟩:=cD a4;have hj:j<ls.length:=by lia
   clear e4 k4 T4 v;left;refine⟨lf,ls.map V.int,(j:Int),j,V.int ls[j],rfl,rfl,I4.left,by lia,by lia,?_,by rw [aS,aD hj];rfl,?_⟩
   ·rw [aB];exact Qs hj
   have c3:=uX hj;have h5:(ls.eraseIdx j).length=ls.length - 1:=by rw [List.length_eraseIdx,if_pos hj]
   have U:ls[j]∈ls:=cL hj;have f4:=c2 _ U;have a2:ls[j]∈boxes c:=I4.perm.mem_iff.mp (aZ _ U);have c4:ls[j]∉bs:=λz=>(cF.mp f3).2.2 _ z _ U rfl;have I5:=I4.popped B (ls.eraseIdx j);rw [<-jT];generalize upd G4 lf (.lst ((ls.eraseIdx j).map V.int))=G5 at I5 ⊢;generalize ls[j]=x at c3 U f4 c4 a2 ⊢;clear I4;left;refine za I5.tape (by lia) (by decide) (by decide) λb1 G6 a6 b6 T6 e6 k6=>?_;have I6:=I5.keep B e6 T6;clear I5 e6 k6 T6;left;refine⟨_,rfl,by lia,by lia,λD W=>?_⟩;rw [show ((c.length:Nat):Int).toNat=c.length by lia];have c5:t≠D:=λz=>by obtain⟨_,_,_,q1,_⟩:=I6.tape;rw [z,W] at q1;cases q1
   refine vX (lo:=0) (n:=c.length) (λi C N => ∃(o0:Option V) (ms:List Int) (k8:Nat),C = [o0,some (.ref t),some (.int b1)]/\Ext [D,t] G6 N/\N D=some (.lst (ms.map V.int))/\ms.length<=i/\(∀y∈ms,0<=y/\y<(i:Int))/\Tape N t k8/\k8<=kk+2+i) ?_ ?_ ?_
   ·refine⟨none,[],_,rfl,(Ext.laid W),zC,aF _,by simp,I6.tape.ext (ts :=[]) (.laid W) (by simp),by lia⟩
   ·rintro i C N R hi ⟨o0,ms,k8,rfl,e8,L,f5,X,T8,f6⟩ hR;have c6:∀ {l:Hp} {M:Nat},Ext [D,t] G6 l->l D=some (.lst (ms.map V.int))->Tape l t M->M<=k8+1->eApp (tVar 0) D [some (.int (0+(i:Int))),some (.ref t),some (.int b1)] l R:=λ{l M} e9 J T9 f7=>by
     left;refine⟨_,J,zZ (by rw [aB];lia),hR _ _ ⟨_,ms ++ [0+(i:Int)],M,rfl,e9.trans (.put (by simp)),by rw [zC,aJ];rfl,by rw [aI,bN];lia,λy Y=>?_,T9.ext (ts :=[D]) (.put (by simp)) (by simpa using c5),by lia⟩⟩;rcases aK.mp Y with z | z
     ·have:=X y z;lia
     ·have z:y=0+(i:Int):=by simpa using z
      lia
    have no:∀ {l:Hp} {M:Nat},Ext [D,t] G6 l->l D=some (.lst (ms.map V.int))->Tape l t M->M<=k8+1->R [some (.int (0+(i:Int))),some (.ref t),some (.int b1)] l:=λ{l M} e9 J T9 f7 =>
     hR _ _ ⟨_,ms,M,rfl,e9,J,by lia,λy Y=>by have:=X y Y;lia,T9,by lia⟩
    left;refine zv ⟨_,rfl,?_⟩;refine ite2 (λg=>iteT (iteT (c6 e8 L T8 (by lia)))) (λg=>?_);left;refine ite2 (λg2=>?_) (λg2=>?_)
    ·left;refine za T8 (by lia) (by decide) (by decide) λr9 l a9 b9 T9 e9 M=>?_;have E9:Ext [D,t] G6 l:=e8.trans (e9.mono (by simp));have J:l D=some (.lst (ms.map V.int)):=by rw [M D (dF c5)];exact L
     left;refine zv ⟨_,rfl,?_⟩;refine ite2 (λg3=>?_) (λg3=>?_)
     ·exact iteT (c6 E9 J T9 (by lia))
     ·exact iteF (no E9 J T9 (by lia))
    ·exact iteF (no e8 L T8 (by lia))
   ·rintro C N ⟨o0,ms,k8,rfl,e8,L,f5,X,T8,f6⟩;have E8:Ext [t] G6 N:=e8.drop W;have I8:=I6.keep B E8 T8;clear e8 E8 I6 T8;have c7:=dO I8.ext;obtain⟨lb,g6,f8,a3⟩:=c7.list (f:=busyL ws n c) ((yl c).imp λh=>by lia) a2;generalize a5:busyL ws n c x=Z at a3;have c8:∀y,y∈Z↔BusyP ws n c x y:=λy=>by rw [<-a5];exact wu S
    have f9:∀y∈Z,0<=y/\y<(c.length:Int):=λy Y=>by have:=um S ((c8 y).mp Y);lia
    have g7:Z.length<=c.length:=by
     rw [<-a5];unfold busyL;refine bL (bC _ _) ?_;rw [aB,cO];exact aF _
    left;refine⟨oa,.ref lb,rfl,?_,?_⟩
    ·have:=DGet.k (k:=Sum.inl x) c7.dict;rw [f8] at this;exact this
    left;refine⟨lb,D,_,_,rfl,rfl,a3,L,len2 (by rw [aB,aB];lia),λf1 c9=>?_⟩;rw [<-aJ];generalize zz:upd N f1 _=l;have ⟨X9,a7⟩:=layQq zz c9;left;have g0:=xo (Z++ms);rw [aI] at g0;refine⟨f1,_,rfl,SqL.of a7,by rw [aI];lia,λs1 d0=>?_⟩;left;refine⟨s1,_,rfl,zC,by lia,λlx nx b2 b3 d1=>?_⟩;have EF:Ext [] N (upd l s1 (setO w (zf (Z++ms)))):=X9.trans (.laid d0);have d2:∀y,y∈nx↔y∈Z\/y∈ms:=λy=>by rw [b3.mem_iff,yt,aK]
    have g1:nx.Pairwise (· < ·):=(d1.and (b3.symm.nodup (ud _))).imp λ{a b} z=>by obtain⟨z1,z2⟩:=z;lia
    have d3:N lx=none:=EF.none (by simp) b2;have EX:Ext [] N (upd (upd l s1 (setO w (zf (Z++ms)))) lx (.lst (nx.map V.int))):=EF.trans (.laid b2);have d4:(upd (upd l s1 (setO w (zf (Z++ms)))) lx (.lst (nx.map V.int))) lx=some (.lst (nx.map V.int)):=zC;generalize upd (upd l s1 (setO w (zf (Z++ms)))) lx (.lst (nx.map V.int))=GX at EX d4 ⊢;clear EF b2 b3 d1 d0 a7 X9 c9;have IX:=I8.put (rs':=ls.eraseIdx j) (x:=x) (ns:=nx) (m:=0) (works:=0) B EX d3 d4 c3.symm c4 g1 (λy Y=>?_) (λy Y=>(d2 y).mpr (.inl ((c8 y).mpr Y)));left;have d5:=(I8.grown B EX).plan;refine⟨d,_,rfl,.inl ⟨_,Sum.inl x,d5.dict,rfl,zZ ?_,rfl⟩,?_⟩
    ·rw [yY d5.len];lia
    ·refine⟨(ls.eraseIdx j).length,by lia,ls.eraseIdx j,_,_,_,k8,_,_,_,rfl,rfl,by lia,IX⟩
    ·rcases (d2 y).mp Y with z | z
     ·exact f9 y z
     ·exact X y z
end
section
variable{P:Program}{w:World}{K:PySem.W.Frag}{mg:Str->Option Value}{base:Heap}
abbrev iw:Stmt:=top 44
theorem scBentP:FnScope ["_law_tape_here","_law_plan_here","_law_many_here","_law_found","_law_way","_law_n","_law_keys","_law_box","_law_some","_law_at","_law_odd"] ["_law_tape_here","_law_plan_here","_law_many_here"] (zU iw):=⟨rfl,rfl,rfl,by decide +kernel,rfl,by decide +kernel,by decide +kernel⟩
theorem qUm{f:Addr}{fd:FuncData}(F:Fun K "_law_bent" "_law_bent" iw f fd)(m2:mg "len" = none)(o1:mg "list" = none)(k8:mg "tuple" = none)(o2:mg "dict" = none)(b5:mg "sorted" = none)(hD:Has P w K mg base "_law_draw" 1 ["_law_tape_here","_law_many_here"] xI):FnOk P w K mg base CX0 2 f fd ["_law_tape_here","_law_plan_here","_law_many_here"] (qQ8 K):=by
 refine F.ok scBentP (λvs H Q E h=>?_) (λx8 A u6 s H vs Q E hr h=>?_)
 ·obtain⟨t,pd,k,m,bs,as,f,rfl,_⟩:=h;rfl
 ·obtain⟨t,pd,k,m,bs,as,f,rfl,r1,hk,b6,x9,h8,u7,k9,r2,y0,y1,q⟩:=h;have hu:=yW hr
  refine⟨_,(PSsx.h (zo (psx (zN (i:=3) scBentP.nd rfl (Or.inl rfl) (vk (zr (iI rfl) (by rfl) o2 fD (zA (zp ["_law_box"] [1] rfl (.of rfl) (QY (pv 1)) (λ_ _ _ _=>(zJ (i:=0) (by show (((["_law_box","_law_plan_here"]:List Str))).Nodup;decide) rfl (Or.inl rfl))) (λ_ _ _ _ =>.nil) (λ_ _ _ _=>(zm (paN (pv 0) (paC (zr (jS K rfl) (by rfl) o1 cI (paS (xy hu (pv 1) (pv 0) (λ_ _=>rfl)) zB)) zB))))) zB)))))
   (zo (psx (zN (i:=4) scBentP.nd rfl (Or.inl rfl) (zH hD hr (by decide) (paN (pv 0) (paK zE zB)))))
   (zo (psx (zN (i:=5) scBentP.nd rfl (Or.inl rfl) (zH hD hr (by decide) (paN (pv 0) (paB (zL zl (pv 2) zE) zB)))))
   (zo (psx (zN (i:=6) scBentP.nd rfl (Or.inl rfl) (zO (wN hr.hd) (by rfl) b5 bJ (paN (pv 3) zB))))
   (zo (yz (PW.pt (wS (zV (QW hr) (pv 6) (zW zB) (zQ _)) (wR (zV zq (pv 4) zE (zQ _))))) (zo (psx (qNb hu (pv 3) (zM zX (zW (paC (zH hD hr (by decide) (paN (pv 0) (paK zE zB))) (paK zE (zA (uC uE zE) (paK yB (paK zk zB)))))) (zH hD hr (by decide) (paN (pv 0) (paK zE zB))) (λ_ _=>rfl)) (zW (paK zE zB)) rfl))
   (zy (psx (zP (pv 3))))) zh)
   (zo (psx (zN (i:=7) scBentP.nd rfl (Or.inl rfl) (zM zX (pv 6) (zH hD hr (by decide) (paN (pv 0) (paC (zO yb (by rfl) m2 cK (paN (pv 6) zB)) zB))) (λ_ _=>rfl))))
   (zo (psx (zN (i:=8) scBentP.nd rfl (Or.inl rfl) (xy hu (pv 3) (pv 7) (λ_ _=>rfl))))
   (zo (psx (zN (i:=9) scBentP.nd rfl (Or.inl rfl) (zH hD hr (by decide) (paN (pv 0) (paB (zL zl (zO yb (by rfl) m2 cK (paN (pv 8) zB)) zE) zB)))))
   (zo (yz (zV zq (pv 4) zE (zQ _)) (zy (psx (yZ (QJ (pv 3) (pv 7) ⟨rfl,rfl,rfl,rfl⟩)))) (PSsx.h (zy (yz (zV zq (pv 4) zE (zQ _)) (zo (psx (yZ (QJ (pv 3) (pv 7) ⟨rfl,rfl,rfl,rfl⟩)))
   (zy (psx (qNb hu (pv 3) (zM zX (zW (paK vy (paK yB (paK zE (paK zE (zA (uC uE zE) (paT (zm (paK zE zB)) (paK zk zB)))))))) (zH hD hr (by decide) (paN (pv 0) (paK zE zB))) (λ_ _=>rfl)) (pv 8) rfl)))) (PSsx.h (zy (yz (zV xU (pv 4) zE (zQ _)) (zy (psx (xX hu (pv 3) (pv 7) (zL xD (yM xC (pv 8) yK (yL (pv 9))) (yM xC (pv 8) (yL (zL zl (pv 9) zE)) yK)) rfl))) (PSsx.h (zy (yz (zV zq (pv 4) zE (zQ _)) (zy (psx (xX hu (pv 3) (pv 7) (zL xD (zL xD (yM xC (pv 8) yK (yL (pv 9))) (yM xC (pv 8) yK (yL zE))) (yM xC (pv 8) (yL (pv 9)) yK)) rfl))) (PSsx.h (zy (yz (zV xU (pv 4) zE (zQ _)) (zo (psx (zN (i:=10) scBentP.nd rfl (Or.inl rfl) (zM zX (zW (paN (pv 5) (paB (zL uD zE (pv 5)) (paK zk (paK vy (paK yB (paN (pv 2) (paL (zW zB) (paD wX (paL (zW (paK zE zB)) (paT (zm (paK zE zB)) zB))))))))))) (zH hD hr (by decide) (paN (pv 0) (paK zE zB))) (λ_ _=>rfl))))
   (zy (psx (xX hu (pv 3) (pv 7) (zL xD (zL xD (yM xC (pv 8) yK (yL (pv 9))) (zW (paN (pv 10) zB))) (yM xC (pv 8) (yL (zL zl (pv 9) (zH hD hr (by decide) (paN (pv 0) (paK zE zB))))) yK)) rfl)))) (PSsx.h (zy (yz (zV zq (pv 4) zE (zQ _)) (zy (psx (xX hu (pv 3) (pv 7) (zM zX (zW (paC (zr qTa (by rfl) k8 PyProof.Rows.boot_tuple (paN (pv 8) zB)) (paS (qYu (pv 8) (uC uE zE)) (paK vy (paD wX (paK zE (paK yB zB))))))) (zH hD hr (by decide) (paN (pv 0) (paK zE zB))) (λ_ _=>rfl)) rfl))) (PSsx.h (zy (psx (xX hu (pv 3) (pv 7) (zO qPc (by rfl) b5 bJ (paB (zL xD (pv 8) (zW (paN (pv 5) zB))) zB)) rfl))))))))))))))))))))
   (zy (psx (zP (pv 3)))))))))))))),?_⟩
  try dsimp only [zb,zg,xc,yu,yv]
  have r3:=yY b6.len;have u8:∀o u,H pd≠some (.frz o u):=λo u z=>by rw [b6.dict] at z;cases z
  left;refine vm ?_;left;refine⟨pd,_,rfl,b6.dict,λo lc a0=>?_⟩;have a9:(upd H pd (.frz o (.dK (planK bs as)))) pd=some (.frz o (.dK (planK bs as))):=zC;have b0:Ext [pd] H (upd H pd (.frz o (.dK (planK bs as)))) :=.put (by simp);generalize upd H pd (.frz o (.dK (planK bs as)))=HF at a9 b0 a0 ⊢;refine Qj (λj l2 G => ∃(o0:Option V) (g:List Addr) (us:List V),l2 = [o0,some (.ref pd)]/\Ext [lc] HF G/\G lc=some (.lst us)/\PairsAt G us (planK (bs.take j) g)/\g.length=(bs.take j).length/\g.Nodup/\(∀a∈g,HF a=none/\a≠lc)/\ListsAt G g ((bs.take j).map f)) ?_ ?_ ?_ ?_
  ·exact⟨none,[],[],rfl,.laid a0,zC,.nil,rfl,.nil,λa ha=>absurd ha (by simp),.nil⟩
  ·rintro j l2 G hj ⟨o0,g,us,rfl,e3,a1,e0,U,h9,a7,b7⟩;exact e3 _ _ (by simpa using zF a9 a0) a9
  ·rintro j k0 v l2 G R hv ⟨o0,g,us,rfl,e3,a1,e0,U,h9,a7,b7⟩ hR;obtain⟨b,a,hb,ha,rfl,rfl⟩:=qNd hv;have y2:=aM hb;have x3:b∉bs.take j:=λz=>by
    obtain⟨i,hi,he⟩:=bI z;rw [aN] at hi;rw [List.getElem_take] at he;have h2:bs[i]? = some b:=by rw [aD (by lia),he]
    have:=(List.getElem?_inj (aE.mp h2).1 h8).mp (h2.trans hb.symm);lia
   have i0:G pd=some (.frz o (.dK (planK bs as))):=e3 _ _ (by simpa using zF a9 a0) a9;obtain⟨ns,r4,r5⟩:=b6.lists.get ha;rw [aS,hb] at r4;cases r4
   have u9:G a=some (.lst ((f b).map V.int)):=e3 _ _ (by
    intro z;have z:a=lc:=by simpa using z
    have:=b0 _ _ (λy=>b6.nda ((aH.mp y)▸aM ha)) r5;rw [z,a0] at this
    cases this) (b0 _ _ (λy=>b6.nda ((aH.mp y)▸aM ha)) r5)
   have r6:=ww h8 hb ha;left;refine iteT ?_;left;refine⟨pd,.ref a,rfl,.inl ⟨_,Sum.inl b,.inr ⟨o,i0⟩,rfl,r6.symm⟩,?_⟩;left;refine⟨a,_,rfl,.inl (SqL.of u9),λl1 g3=>?_⟩;generalize l:upd G l1 _=G4;have ⟨e4,r7⟩:=layQq l g3;left;refine⟨len2 (by show 2<=1000;decide),λp1 e1=>?_⟩;generalize l:upd G4 p1 _=G5;have ⟨e5,f4⟩:=layQq l e1;have l3:=e4.trans e5;have m3:=l3 _ _ (by simp) a1;have y3:j<bs.length:=(aE.mp hb).1;have x4:us.length<=8:=by
    have:=cZ e0;rw [yY U,aN] at this;lia
   have r8:HF l1=none:=by
    cases z:HF l1 with
    | none=>rfl
    | some o' =>
     have hn:l1 ∉ [lc]:=λy=>by rw [aH.mp y,a0] at z;cases z
     rw [e3 _ _ hn z] at g3;cases g3
   have r9:l1≠lc:=λz=>by rw [z,a1] at g3;cases g3
   left;refine⟨_,m3,zZ (by lia),hR _ _ ⟨_,g ++ [l1],us ++ [.ref p1],rfl,(e3.trans (l3.mono (by simp))).trans (.put (by simp)),zC,?_,?_,?_,?_,?_⟩⟩
   ·have np:p1≠lc:=λz=>by rw [z] at f4;rw [m3] at f4;cases f4
    have keep:∀c xs,G c=some (.tup xs)->(upd G5 lc (.lst (us ++ [.ref p1]))) c=some (.tup xs):=λc xs hc=>by
     rw [zD (λz=>by rw [z,a1] at hc;cases hc)];exact l3 _ _ (by simp) hc
    rw [zd hb];have hz:planK (bs.take j ++ [b]) (g ++ [l1])=planK (bs.take j) g ++ [(Sum.inl b,V.ref l1)]:=by
     unfold planK;rw [List.zip_append U.symm,aJ];rfl
    rw [hz];exact vD (PairsAt.mono keep e0) (.cons ⟨p1,rfl,by rw [zD np];exact f4⟩ .nil)
   ·rw [zd hb,aI,aI,U];rfl
   ·rw [cF];refine⟨h9,by simp,λx hx y hy e=>?_⟩;have hy:y=l1:=by simpa using hy
    subst hy;subst e;obtain⟨o',M⟩:∃o',G x=some o':=by
     obtain⟨i,hi,he⟩:=bI hx;obtain⟨_,_,h2⟩:=b7.get (i:=i) (a:=x) (by rw [aD hi,he]);exact⟨_,h2⟩
    rw [g3] at M;cases M
   ·intro x hx;rcases aK.mp hx with hx | hx
    ·exact a7 x hx
    ·have hx:x=l1:=by simpa using hx
     subst hx;exact⟨r8,r9⟩
   ·rw [zd hb,aJ];refine vD (b7.mono λc hc o' M=>?_) (.cons ?_ .nil)
    ·rw [zD (a7 c hc).2];exact l3 _ _ (by simp) M
    ·rw [zD r9];exact e5 _ _ (by simp) r7
  ·rintro l2 G ⟨o0,g,us,rfl,e3,a1,e0,U,h9,a7,b7⟩;rw [r3,aY] at e0 U b7;have i0:G pd=some (.frz o (.dK (planK bs as))):=e3 _ _ (by simpa using zF a9 a0) a9;left;refine⟨lc,us,planK bs g,rfl,a1,e0,by rw [yY U];lia,λfd b8=>?_⟩;have o3:((planK bs g).map (·.1)).Nodup:=by
    rw [yw U];exact uy h8
   rw [ux (acc :=[]) (by simpa using o3),List.nil_append];have l4:fd≠pd:=λz=>by rw [z,i0] at b8;cases b8
   have s0:(upd G fd (.dK (planK bs g))) pd=some (.frz o (.dK (planK bs as))):=by rw [zD (dF l4)];exact i0
   refine⟨pd,o,_,s0,u8,?_⟩;obtain⟨ta,tb,tc,i3,x5⟩:=id r1;have o4:t≠pd:=λz=>by rw [z,b6.dict] at i3;cases i3
   have eH:Ext [] H (upd (upd G fd (.dK (planK bs g))) pd (.dK (planK bs as))):=λb ob _ hb=>by
    by_cases c:b=pd
    ·subst c;rw [zC,<-b6.dict];exact hb
    ·have h1:=b0 _ _ (by simpa using c) hb;have c2:b≠lc:=λz=>by rw [z,a0] at h1;cases h1
     have h2:=e3 _ _ (by simpa using c2) h1;have c3:b≠fd:=λz=>by rw [z,b8] at h2;cases h2
     rw [zD c,zD c3];exact h2
   have i4:(upd (upd G fd (.dK (planK bs g))) pd (.dK (planK bs as))) fd=some (.dK (planK bs g)):=by rw [zD l4,zC]
   have a8:∀a∈g,a≠t/\a≠fd/\a≠pd:=λa ha=>by
    have h1:=(a7 a ha).1;refine⟨λz=>?_,λz=>?_,λz=>?_⟩
    ·rw [z,b0 _ _ (by simpa using o4) i3] at h1;cases h1
    ·obtain⟨i,hi,he⟩:=bI ha;obtain⟨_,_,h2⟩:=b7.get (i:=i) (a:=a) (by rw [aD hi,he]);rw [z,b8] at h2;cases h2
    ·rw [z,a9] at h1;cases h1
   have f5:ListsAt (upd (upd G fd (.dK (planK bs g))) pd (.dK (planK bs as))) g (bs.map f):=b7.mono λa ha o' M=>by
    obtain⟨_,h2,h3⟩:=a8 a ha;rw [zD h3,zD h2];exact M
   have i5:fd≠t:=λz=>by
    have:=e3 _ _ (λy=>by
     have y:t=lc:=by simpa using y
     have h1:=b0 _ _ (by simpa using o4) i3;rw [y,a0] at h1
     cases h1) (b0 _ _ (by simpa using o4) i3)
    rw [<-z,b8] at this;cases this
   generalize upd (upd G fd (.dK (planK bs g))) pd (.dK (planK bs as))=H1 at eH i4 f5 ⊢;have T1:=r1.same eH.toSame;have D1:DSt K (wo [t,fd] H1) 8 (planK bs g) (bs.map λb=>(PyData.int b,intsD (f b))):=iL f5 U h8 u7 k9 r2 (λz=>(a8 t z).1 rfl) (λz=>(a8 fd z).2.1 rfl);have b9:fd ∉ [t]:=by simpa using i5
   have l5:H fd=none:=by
    cases z:H fd with
    | none=>rfl
    | some o' =>
     have h1:=b0 _ _ (by simpa using l4) z;have c2:fd≠lc:=λy=>by rw [y,a0] at h1;cases h1
     rw [e3 _ _ (by simpa using c2) h1] at b8;cases b8
   have E1:Ext [t] H H1:=eH.mono (by simp);clear s0 b8 e0 a1 e3 i0 a9 a0 b0 a7 b7 l4 eH;left;refine za T1 (by lia) (by decide) (by decide) λc0 H2 y4 y5 T2 e2 _=>?_;left;refine za T2 (by lia) (by lia) (by lia) λnn H3 y6 y7 T3 e3 _=>?_;have i6:=e2.trans e3;have i7:=i6 _ _ b9 i4;have D3:=D1.mono i6.same2;have m4:ListsAt H3 g (bs.map f):=f5.mono λa ha o' M=>i6 _ _ (by simpa using (a8 a ha).1) M;have E3:=E1.trans i6;clear i6 e2 e3 T1 T2 D1 f5 i4 E1;have s2:=yY U;left;refine⟨fd,bs,_,rfl,i7,yw U,by lia,λkl ns o5 o6 y8=>?_⟩;generalize l:upd H3 kl _=J;have ⟨e4,m5⟩:=layQq l o5;have T4:=T3.same e4.toSame;have m6:=e4 _ _ (by simp) i7
   have D4:=D3.mono (e4.mono (us :=[t]) (by simp)).same2;have m7:ListsAt J g (bs.map f):=m4.mono λa ha o' M=>e4 _ _ (by simp) M;have E4:=E3.trans (e4.mono (by simp));have v0:kl ∉ [t]:=T3.some o5;have x6:ns.length=bs.length:=o6.length_eq;clear e4 T3 i7 D3 m4 E3 o5;have s3:∀ {r:Hp} {Z:Nat} {N:Nat} {L O},Tape r t Z->Z<=k+10->Ext [t] H r->r fd=some (.dK L)->DSt K (wo [t,fd] r) N L O->N<=40->Q (.ref fd) r:=λ{r Z N L O} T' D E' b3 D' hN=>by
    obtain⟨p1,p2⟩:=(D'.mono kA).plan (a:=fd) (by rw [zc b9];exact b3) hN;exact q _ _ _ (T'.mono D) E' p1 p2
   have m8:∀ {r:Hp} {Z:Nat} {N:Nat} {L O} (k0:Key) {d:PyData} {v:V},Tape r t Z->Z<=k+10->Ext [t] H r->DSt K (wo [t,fd] r) N L O->N<=39->DenX K (wo [t,fd] r) d v->ValOk d->Fit (kD k0) 100 10->(∀i:Int,k0=Sum.inl i -> -1<=i/\i<=100)->Q (.ref fd) (upd r fd (.dK (putK L k0 v))):=λ{r Z N L O} k0 {d v} T' D E' D' hN S T o7 v1=>by
    obtain⟨i8,v2⟩:=D'.put (k:=k0) S T o7 v1;exact s3 (T'.ext (ts :=[fd]) (.put (by simp)) (by simpa using dF i5)) D (((E'.mono (us :=[fd,t]) (by simp)).trans (.put (by simp))).drop l5) zC (v2.mono (uz (by simp))) (by lia)
   have i9:∀ {r:Hp} {Z:Nat} {N:Nat} {L O} {b:Int} {d:PyData} {v:V},Tape r t Z->Z<=k+10->Ext [t] H r->DSt K (wo [t,fd] r) N L O->N<=39->DenX K (wo [t,fd] r) d v->ValOk d -> -1<=b->b<=100->Q (.ref fd) (upd r fd (.dK (putK L (Sum.inl b) v))):=λ{r Z N L O b d v} T' D E' D' hN S T b1 b2=>m8 (Sum.inl b) T' D E' D' hN S T (iK (by lia)) (λi hi=>by cases hi;exact⟨b1,b2⟩);have j0:∀ {r:Hp} {Z:Nat} {N:Nat} {L O} {y:V} {kd d:PyData} {v:V},Tape r t Z->Z<=k+10->Ext [t] H r->DSt K (wo [t,fd] r) N L O->N<=39->DenX K (wo [t,fd] r) kd y->DenX K (wo [t,fd] r) d v->ValOk d->Fit kd 100 10->zt kd=false->Q (.ref fd) (upd r fd (entO ((L.map λp=>kV p.1) ++ [y]) (L.map (·.2) ++ [v]))):=λ{r Z N L O y kd d v} T' D E' D' hN hy S T o7 o3=>by
    have s1:Same (wo [t,fd] r) (wo [t] (upd r fd (entO ((L.map λp=>kV p.1) ++ [y]) (L.map (·.2) ++ [v])))):=λb x e=>kA b x (uz (by simp) b x e);obtain⟨p1,p2⟩:=D'.odd (a:=fd) s1 hN (hy.mono s1) (S.mono s1) T o7 o3 (by rw [zc b9];exact zC);exact q _ _ _ ((T'.ext (ts :=[fd]) (.put (by simp)) (by simpa using dF i5)).mono D) (((E'.mono (us :=[fd,t]) (by simp)).trans (.put (by simp))).drop l5) p1 p2
   have g4:=qOk U k9;have B:∀ {r:Hp} {Z:Nat} {N:Nat} {L O} {y:V} {d:PyData} {v:V} {C:Hp->Prop},Tape r t Z->Z<=k+10->Ext [t] H r->r fd=some (.dK L)->SmallK L->DSt K (wo [t,fd] r) N L O->N<=39->DenX K (wo [t,fd] r) d v->ValOk d->((∃i:Int,y = .int i /\ -1<=i/\i<=100)\/(∃s:Str,y = .str s/\Fit (kD (Sum.inr s)) 100 10)\/y = .bl true\/y = .non \/ ∃p,y = .ref p/\r p=some (.tup [.int 0]))->(∀J,Q (.ref fd) J->C J) -> ∃a J,V.ref fd = .ref a/\DPutO K r a y v J/\C J:=λ{r Z N L O y d v C} T' D E' b3 g5 D' hN S T hy hC=>by
    have g6:L.length<=900:=by have:=D'.len;lia
    rcases hy with ⟨i,rfl,i1,i2⟩ | ⟨s,rfl,hs⟩ | rfl | rfl | ⟨p,rfl,hp⟩
    ·exact⟨fd,_,rfl,⟨L,b3,g5,g6,.inl ⟨Sum.inl i,rfl,rfl⟩⟩,hC _ (i9 T' D E' D' hN S T i1 i2)⟩
    ·exact⟨fd,_,rfl,⟨L,b3,g5,g6,.inl ⟨Sum.inr s,rfl,rfl⟩⟩,hC _ (m8 (Sum.inr s) T' D E' D' hN S T hs (λi hi=>by cases hi))⟩
    ·cases m9:valV L (Sum.inl 1) with
     | some u=>exact⟨fd,_,rfl,⟨L,b3,g5,g6,.inr (.inl ⟨rfl,by rw [m9];rfl,rfl⟩)⟩,hC _ (i9 T' D E' D' hN S T (by decide) (by decide))⟩
     | none=>exact⟨fd,_,rfl,⟨L,b3,g5,g6,.inr (.inr ⟨.inr (.inl ⟨rfl,m9⟩),rfl⟩)⟩,hC _ (j0 (kd :=.bool true) T' D E' D' hN DenX.bool S T (iM (by decide +kernel)) rfl)⟩
    ·exact⟨fd,_,rfl,⟨L,b3,g5,g6,.inr (.inr ⟨.inl rfl,rfl⟩)⟩,hC _ (j0 (kd :=.none) T' D E' D' hN DenX.none' S T (iM (by decide +kernel)) rfl)⟩
    ·have v3:p ∉ [t,fd]:=λz=>by
      rcases aV.mp z with z | z
      ·obtain⟨_,_,_,h1,_⟩:=T';rw [<-z,hp] at h1;cases h1
      ·rw [aH.mp z,b3] at hp;cases hp
     exact⟨fd,_,rfl,⟨L,b3,g5,g6,.inr (.inr ⟨.inr (.inr ⟨p,rfl,SqT.of hp⟩),rfl⟩)⟩,hC _ (j0 (kd :=.tuple [.int 0]) T' D E' D' hN (.tuple (SqT.of (by rw [zc v3];exact hp)) (.cons DenX.int' .nil)) S T (iM (by decide +kernel)) rfl)⟩
   left;refine⟨len2 (bB _),λv4 n0=>?_⟩;generalize l:upd J v4 _=H5;have ⟨e5,n1⟩:=layQq l n0;have T5:=T4.same e5.toSame;have f6:=e5 _ _ (by simp) m6;have D5:=D4.mono (e5.mono (us :=[t]) (by simp)).same2;have n2:ListsAt H5 g (bs.map f):=m7.mono λa ha o' M=>e5 _ _ (by simp) M;have E5:=E4.trans (e5.mono (by simp));have f7:=e5 _ _ (by simp) m5;clear T4 m6 D4 m7 E4 m5;obtain⟨t1,t2,t3⟩:=yn (ns:=ns) (λn hn=>by have:=k9 n (o6.mem_iff.mp hn);lia) (by lia);left;refine⟨intsD ns,.list [],.list (SqL.of f7) (DenL.ofInts _),.list (SqL.of n1) .nil,ym t1 t3 ⟨_,rfl⟩,rfl,?_⟩;rw [if_neg (by decide),jU];clear e5 n0 n1;rename_i NA NB s4 v5;have o8:NA [some (.ref t),some (.ref pd),some (.int m),some (.ref fd),some (.int c0),some (.int nn),some (.ref kl),none,none,none,none] H5:=by
    with_reducible refine yH s4 ?_
    left;refine qR1 ?_;left;refine⟨len2 (by show 1<=1000;decide),λl0 l6=>?_⟩;have e6:Ext [] H5 (upd H5 l0 (.lst [.int 0])) :=.laid l6;have n3:(upd H5 l0 (.lst [.int 0])) l0=some (.lst [.int 0]):=zC;have o9:l0 ∉ [t,fd]:=λz=>by
     rcases aV.mp z with z | z
     ·exact T5.some l6 (by rw [z];simp)
     ·rw [aH.mp z,f6] at l6;cases l6
    generalize upd H5 l0 (.lst [.int 0])=H6 at e6 n3 ⊢;left;refine za (T5.same e6.toSame) (by lia) (by decide) (by decide) λc1 W y9 z0 T7 e7 _=>?_;left;refine⟨len2 (by show 5<=1000;decide),λkd j1=>?_⟩;generalize l:upd W kd _=H8;have ⟨e8,s5⟩:=layQq l j1;have p6:kd ∉ [t]:=T7.some j1;left;refine za (T7.same e8.toSame) (by lia) (by decide) (by decide) λc2 H9 z1 z2 T9 e9 _=>?_;have f0:Ext [t] H5 H9:=((e6.mono (us :=[t]) (by simp)).trans e7).trans ((e8.mono (by simp)).trans e9);have c7:=e9 _ _ p6 s5;have c8:=f0 _ _ b9 f6;have D9:=D5.mono f0.same2
    have j2:DenX K (wo [t,fd] H9) (.list [.int 0]) (.ref l0) :=.list (SqL.of (by
     rw [zc o9]
     exact e9 _ _ (λz=>o9 (by simp at z;simp [z])) (e8 _ _ (by simp) (e7 _ _ (λz=>o9 (by simp at z;simp [z])) n3)))) (.cons DenX.int' .nil)
    have j3:ValOk (.list [.int 0]):=(uu (λx hx=>by rw [aH.mp hx];exact vC (by decide)) (by decide)).1;left;have h5:c2=0\/c2=1\/c2=2\/c2=3\/c2=4:=by lia
    rcases h5 with rfl | rfl | rfl | rfl | rfl
    ·refine zR (SqL.of c7) (zK (j:=0) rfl) ?_;exact B T9 (by lia) (E5.trans f0) c8 g4 D9 (by lia) j2 j3 (.inl ⟨c1,rfl,by lia,by lia⟩) (λJ I=>by left;exact I)
    ·refine zR (SqL.of c7) (zK (j:=1) rfl) ?_;exact B T9 (by lia) (E5.trans f0) c8 g4 D9 (by lia) j2 j3 (.inl ⟨8,rfl,by lia,by lia⟩) (λJ I=>by left;exact I)
    ·refine zR (SqL.of c7) (zK (j:=2) rfl) ?_;exact B T9 (by lia) (E5.trans f0) c8 g4 D9 (by lia) j2 j3 (.inl ⟨-1,rfl,by lia,by lia⟩) (λJ I=>by left;exact I)
    ·refine zR (SqL.of c7) (zK (j:=3) rfl) ?_;exact B T9 (by lia) (E5.trans f0) c8 g4 D9 (by lia) j2 j3 (.inr (.inl ⟨"0",rfl,qPz (by decide +kernel)⟩)) (λJ I=>by left;exact I)
    ·refine zR (SqL.of c7) (zK (j:=4) rfl) ?_;exact B T9 (by lia) (E5.trans f0) c8 g4 D9 (by lia) j2 j3 (.inr (.inr (.inl rfl))) (λJ I=>by left;exact I)
   by_cases p7:ns = []
   ·rw [decide_eq_true p7];exact⟨true,rfl,iteT (iteT o8)⟩
   rw [decide_eq_false p7];refine⟨false,rfl,iteF ?_⟩;left;refine zv ?_;by_cases s6:c0=0
   ·rw [decide_eq_true s6];exact⟨_,rfl,iteT o8⟩
   rw [decide_eq_false s6];refine⟨_,rfl,iteF ?_⟩;clear o8 s4
   with_reducible refine yH v5 ?_
   left;refine⟨kl,_,rfl,.inl (SqL.of f7),?_⟩;rw [aB];left;have x7:1<=ns.length:=by
    cases ns with
    | nil=>exact absurd rfl p7
    | cons _ _=>simp
   refine za T5 (by lia) (by lia) (by lia) λc3 H6 v6 z3 T6 e6 _=>?_;obtain⟨jb,rfl⟩:=cD v6;have s7:jb<ns.length:=by lia
   have n4:=e6 _ _ v0 f7;have j4:(ns.map V.int)[jb]? = some (.int ns[jb]):=by rw [aS,aD s7];rfl
   have l7:ns[jb]∈bs:=o6.mem_iff.mp (cL s7);generalize ns[jb]=b at j4 l7;have z4:=k9 b l7;have c9:=r2 b l7;have j5:=e6 _ _ b9 f6;have D6:=D5.mono e6.same2;have n5:ListsAt H6 g (bs.map f):=n2.mono λa ha o' M=>e6 _ _ (by simpa using (a8 a ha).1) M;obtain⟨jo,s8,s9⟩:=bI l7;have n6:bs[jo]? = some b:=by rw [aD s8,s9]
   have j6:jo<g.length:=by rw [U];exact s8
   have l8:=ww h8 n6 (aD j6);obtain⟨nb,t0,d0⟩:=n5.get (aD j6);rw [aS,n6] at t0;cases t0;obtain⟨j7,j8,_⟩:=a8 _ (cL j6);generalize g[jo]=la at l8 d0 j7 j8;generalize f b=xs at d0 c9;have v7:la ∉ [t,fd]:=by simp [j7,j8]
   have j9:la ∉ [t]:=by simpa using j7
   have E6:=E5.trans e6;clear e6 T5 D5 n2 n5 f6 f7 E5;left;refine zR (SqL.of n4) (zK j4) ?_;left;refine⟨fd,.ref la,rfl,?_,?_⟩
   ·have:=DGet.k (k:=Sum.inl b) j5;rw [l8] at this;exact this
   left;refine⟨la,_,rfl,.inl (SqL.of d0),?_⟩;rw [aB];left;refine za T6 (by lia) (by lia) (by lia) λc4 W v8 z5 T7 e7 _=>?_;obtain⟨at',rfl⟩:=cD v8;have z6:at'<=xs.length:=by lia
   have d6:=e7 _ _ b9 j5;have D7:=D6.mono e7.same2;have d7:=e7 _ _ j9 d0;have E7:=E6.trans e7;clear e7 T6 D6 j5 d0 E6 n4 j4;have t4:∀ {r:Hp},Ext [t] W r->r fd=some (.dK (planK bs g)):=λe=>e _ _ b9 d6;have f1:∀ {r:Hp},Ext [t] W r->r la=some (.lst (xs.map V.int)):=λe=>e _ _ j9 d7;have v9:∀ {r:Hp},r la=some (.lst (xs.map V.int))->DenX K (wo [t,fd] r) (intsD xs) (.ref la):=λh =>.list (SqL.of (by rw [zc v7];exact h)) (xh xs);have f2:ValOk (intsD xs):=wQ (λy hy=>by have:=c9.2 y hy;lia) (by lia);have p8:∀y∈xs,ElOk (.int y):=λy hy=>vC (by have:=c9.2 y hy;lia);have new:∀ {r:Hp} {p:Addr} {Z:Nat},Tape r t Z->Ext [t] W r->r p=none->p ∉ [t,fd]:=λT' e' hp z=>by
    rcases aV.mp z with z | z
    ·exact T'.some hp (by rw [z];simp)
    ·rw [aH.mp z,t4 e'] at hp;cases hp
   have p9:(planK bs g).length<sizeLine:=zZ (by rw [s2];lia);have put:∀ {r:Hp} {Z:Nat} {d:PyData} {v:V} {C:Hp->Prop},Tape r t Z->Z<=k+10->Ext [t] W r->DenX K (wo [t,fd] r) d v->ValOk d->(∀J,Q (.ref fd) J->C J) -> ∃a J,V.ref fd = .ref a/\DPut r a (.int b) v J/\C J:=λ{r Z d v C} T' D e' S T hC =>
    ⟨fd,_,rfl,DPut.k (k:=Sum.inl b) (t4 e') p9,hC _ (i9 T' D (E7.trans e') (D7.mono e'.same2) (by lia) S T (by lia) (by lia))⟩
   left;refine zv ?_;by_cases w1:c0=1
   ·rw [decide_eq_true w1];refine⟨_,rfl,iteT ?_⟩;left;refine qR3 ?_;left;refine⟨fd,rfl,.inl ⟨_,.inl d6⟩,?_⟩;left;refine⟨_,Sum.inl b,_,d6,rfl,l8,?_⟩;left;obtain⟨i8,D'⟩:=D7.drop (k:=Sum.inl b);exact s3 (T7.ext (ts :=[fd]) (.put (by simp)) (by simpa using dF i5)) (by lia) (((E7.mono (us :=[fd,t]) (by simp)).trans (.put (by simp))).drop l5) zC (D'.mono (uz (by simp))) (by lia)
   rw [decide_eq_false w1];refine⟨_,rfl,iteF ?_⟩;left;refine zv ?_;by_cases w2:c0=2
   ·rw [decide_eq_true w2];refine⟨_,rfl,iteT ?_⟩;left;refine qR3 ?_;left;refine⟨fd,rfl,.inl ⟨_,.inl d6⟩,?_⟩;left;refine⟨_,Sum.inl b,_,d6,rfl,l8,?_⟩;obtain⟨i8,D'⟩:=D7.drop (k:=Sum.inl b);have T8:=T7.ext (Ext.put (ts :=[fd]) (t:=fd) (H:=W) (o :=.dK (dropK (planK bs g) (Sum.inl b))) (by simp)) (by simpa using dF i5);have E8:Ext [t] H (upd W fd (.dK (dropK (planK bs g) (Sum.inl b)))):=((E7.mono (us :=[fd,t]) (by simp)).trans (.put (by simp))).drop l5;have k1:(upd W fd (.dK (dropK (planK bs g) (Sum.inl b)))) fd=some (.dK (dropK (planK bs g) (Sum.inl b))):=zC;have D8:DSt K (wo [t,fd] (upd W fd (.dK (dropK (planK bs g) (Sum.inl b))))) 8 (dropK (planK bs g) (Sum.inl b)) i8:=D'.mono (uz (by simp))
    have n7:(upd W fd (.dK (dropK (planK bs g) (Sum.inl b)))) la=some (.lst (xs.map V.int)):=by rw [zD j8];exact d7
    have Y:=g4.drop (k:=Sum.inl b);generalize upd W fd (.dK (dropK (planK bs g) (Sum.inl b)))=G8 at T8 E8 k1 D8 n7 ⊢;generalize dropK (planK bs g) (Sum.inl b)=z7 at k1 D8 Y;left;refine qR1 ?_;left;refine⟨len2 (by show 1<=1000;decide),λp0 w0=>?_⟩;generalize l:upd G8 p0 _=G9;have ⟨e9,n8⟩:=layQq l w0;left;refine⟨len2 (by show 7<=1000;decide),λkd j1=>?_⟩;generalize l:upd G9 kd _=GA;have ⟨eA,t5⟩:=layQq l j1;have T9:=T8.same (e9.trans eA).toSame;have p6:kd ∉ [t]:=(T8.same e9.toSame).some j1;left;refine za T9 (by lia) (by decide) (by decide) λX GB t6 t7 TB eB _=>?_;have l9:Ext [t] G8 GB:=((e9.trans eA).mono (by simp)).trans eB;have a2:=eB _ _ p6 t5
    have t8:=eB _ _ (qPu (eA _ _ (by simp) n8) T9) (eA _ _ (by simp) n8);have a3:=l9 _ _ b9 k1;have DB:=D8.mono l9.same2;have dB:=v9 (l9 _ _ j9 n7);have EB:=E8.trans l9;left;have h7:X=0\/X=1\/X=2\/X=3\/X=4\/X=5\/X=6:=by lia
    rcases h7 with rfl | rfl | rfl | rfl | rfl | rfl | rfl
    ·refine zR (SqL.of a2) (zK (j:=0) rfl) ?_;exact B TB (by lia) EB a3 Y DB (by lia) dB f2 (.inr (.inr (.inr (.inl rfl)))) (λJ I=>by left;exact I)
    ·refine zR (SqL.of a2) (zK (j:=1) rfl) ?_;exact B TB (by lia) EB a3 Y DB (by lia) dB f2 (.inr (.inl ⟨"",rfl,qPz (by decide +kernel)⟩)) (λJ I=>by left;exact I)
    ·refine zR (SqL.of a2) (zK (j:=2) rfl) ?_;exact B TB (by lia) EB a3 Y DB (by lia) dB f2 (.inl ⟨3,rfl,by lia,by lia⟩) (λJ I=>by left;exact I)
    ·refine zR (SqL.of a2) (zK (j:=3) rfl) ?_;exact B TB (by lia) EB a3 Y DB (by lia) dB f2 (.inl ⟨9,rfl,by lia,by lia⟩) (λJ I=>by left;exact I)
    ·refine zR (SqL.of a2) (zK (j:=4) rfl) ?_;exact B TB (by lia) EB a3 Y DB (by lia) dB f2 (.inl ⟨-1,rfl,by lia,by lia⟩) (λJ I=>by left;exact I)
    ·refine zR (SqL.of a2) (zK (j:=5) rfl) ?_;exact B TB (by lia) EB a3 Y DB (by lia) dB f2 (.inr (.inr (.inr (.inr ⟨p0,rfl,t8⟩)))) (λJ I=>by left;exact I)
    ·refine zR (SqL.of a2) (zK (j:=6) rfl) ?_;exact B TB (by lia) EB a3 Y DB (by lia) dB f2 (.inr (.inr (.inl rfl))) (λJ I=>by left;exact I)
   rw [decide_eq_false w2];refine⟨_,rfl,iteF ?_⟩;left;by_cases w3:c0<6
   ·rw [decide_eq_true w3];refine iteT ?_;left;refine⟨(at':Int),rfl,la,_,rfl,SqL.of d7,λp1 e1=>?_⟩;rw [kB,<-gG];generalize l:upd W p1 _=G8;have ⟨e8,d8⟩:=layQq l e1;left;refine⟨((at'+1:Nat):Int),congrArg V.int (by lia),la,_,rfl,SqL.of (f1 (e8.mono (by simp))),λp2 f3=>?_⟩;rw [iN,<-List.map_drop];generalize l:upd G8 p2 _=G9;have ⟨e9,a4⟩:=layQq l f3;left;refine⟨p1,p2,_,_,rfl,rfl,e9 _ _ (by simp) d8,a4,len2 (by rw [aB,aB,aN,cC];lia),λp3 b4=>?_⟩;rw [<-aJ];generalize l:upd G9 p3 _=GA;have ⟨eA,a5⟩:=layQq l b4;have g7:Ext [t] W GA:=(e8.trans (e9.trans eA)).mono (by simp)
    have w4:=new (T7.same (e8.trans e9).toSame) ((e8.trans e9).mono (by simp)) b4;left;refine put (T7.same (e8.trans (e9.trans eA)).toSame) (by lia) g7 (d:=intsD (xs.take at'++xs.drop (at'+1))) (.list (SqL.of (by rw [zc w4];exact a5)) (xh _)) (wQ (λy hy=>?_) ?_) (λJ I=>by left;exact I)
    ·rcases aK.mp hy with hy | hy
     ·have:=c9.2 y (cX hy);lia
     ·have:=c9.2 y (fJ hy);lia
    ·rw [aI,aN,cC];lia
   rw [decide_eq_false w3];refine iteF ?_;left;refine zv ?_;by_cases w6:c0=6
   ·rw [decide_eq_true w6];refine⟨_,rfl,iteT ?_⟩;left;refine⟨(at':Int),rfl,la,_,rfl,SqL.of d7,λp1 e1=>?_⟩;rw [kB,<-gG];generalize l:upd W p1 _=G8;have ⟨e8,d8⟩:=layQq l e1;left;refine⟨((1:Nat):Int),rfl,la,_,rfl,SqL.of (f1 (e8.mono (by simp))),λp2 f3=>?_⟩;rw [kB,<-gG];generalize l:upd G8 p2 _=G9;have ⟨e9,a4⟩:=layQq l f3;left;refine⟨p1,p2,_,_,rfl,rfl,e9 _ _ (by simp) d8,a4,len2 (by rw [aB,aB,aN,aN];lia),λp3 b4=>?_⟩;rw [<-aJ];generalize l:upd G9 p3 _=GA;have ⟨eA,a5⟩:=layQq l b4;left;refine⟨(at':Int),rfl,la,_,rfl,SqL.of (f1 ((e8.trans (e9.trans eA)).mono (by simp))),λp4 g8=>?_⟩
    rw [iN,<-List.map_drop];generalize l:upd GA p4 _=GB;have ⟨eB,d9⟩:=layQq l g8;left;refine⟨p3,p4,_,_,rfl,rfl,eB _ _ (by simp) a5,d9,len2 (by rw [aB,aB,aI,aN,aN,cC];lia),λp5 k2=>?_⟩;rw [<-aJ];generalize l:upd GB p5 _=GC;have ⟨eC,k3⟩:=layQq l k2;have a6:Ext [] W GB:=e8.trans (e9.trans (eA.trans eB));have w5:Ext [t] W GC:=(a6.trans eC).mono (by simp);have q0:=new (T7.same a6.toSame) (a6.mono (by simp)) k2;left;refine put (T7.same (a6.trans eC).toSame) (by lia) w5 (d:=intsD (xs.take at'++xs.take 1++xs.drop at')) (.list (SqL.of (by rw [zc q0];exact k3)) (xh _)) (wQ (λy hy=>?_) ?_) (λJ I=>by left;exact I)
    ·have hm:y∈xs:=by
      rcases aK.mp hy with hy | hy
      ·rcases aK.mp hy with hy | hy
       ·exact cX hy
       ·exact cX hy
      ·exact fJ hy
     have:=c9.2 y hm;lia
    ·rw [aI,aI,aN,aN,cC];lia
   rw [decide_eq_false w6];refine⟨_,rfl,iteF ?_⟩;left;by_cases w9:c0<9
   ·rw [decide_eq_true w9];refine iteT ?_;left;refine⟨len2 (bB _),λq1 k4=>?_⟩;generalize l:upd W q1 _=G1;have ⟨d1,f8⟩:=layQq l k4;left;refine (show ∀p,_=none->_ from λq2 k5=>?_);generalize l:upd G1 q2 _=G2;have ⟨d2,f9⟩:=layQq l k5;left;refine⟨len2 (by show 1<=1000;decide),λq3 k6=>?_⟩;generalize l:upd G2 q3 _=G3;have ⟨d3,g0⟩:=layQq l k6;left;refine⟨len2 (by show 1<=1000;decide),λq4 t9=>?_⟩;generalize l:upd G3 q4 _=G4;have ⟨d4,n9⟩:=layQq l t9;left;refine⟨len2 (by show 10<=1000;decide),λq5 k7=>?_⟩;generalize l:upd G4 q5 _=G5;have ⟨d5,g1⟩:=layQq l k7;have g9:Ext [] W G5:=d1.trans (d2.trans (d3.trans (d4.trans d5)))
    have h0:=new T7 (.refl _ _) k4;have h4:=new (T7.same d1.toSame) (d1.mono (by simp)) k5;have h6:=new (T7.same (d1.trans d2).toSame) ((d1.trans d2).mono (by simp)) k6;have q6:=new (T7.same (d1.trans (d2.trans d3)).toSame) ((d1.trans (d2.trans d3)).mono (by simp)) t9;have m0:=new (T7.same (d1.trans (d2.trans (d3.trans d4))).toSame) ((d1.trans (d2.trans (d3.trans d4))).mono (by simp)) k7;have off:∀ {p:Addr},p ∉ [t,fd]->p ∉ [t]:=λh z=>h (by rw [aH.mp z];simp);left;refine za (T7.same g9.toSame) (by lia) (by decide) (by decide) λX G6 t6 t7 T6 e6 _=>?_;have m1:Ext [t] W G6:=(g9.mono (by simp)).trans e6;have g2:=e6 _ _ (off m0) g1;obtain⟨y,dy,hy,q7,q8⟩:∃(y:V) (dy:PyData),atI [V.int nn,.int (0 - nn),.bl true,.non,.str "1",.int m,.ref q1,.ref q2,.ref q3,.ref q4] X=some y/\DenX K (wo [t,fd] G6) dy y/\ElOk dy:=by
     have q9:X=0\/X=1\/X=2\/X=3\/X=4\/X=5\/X=6\/X=7\/X=8\/X=9:=by lia
     rcases q9 with rfl | rfl | rfl | rfl | rfl | rfl | rfl | rfl | rfl | rfl
     ·exact⟨_,.int nn,zK (j:=0) rfl,DenX.int',vC (by lia)⟩
     ·exact⟨_,.int (0 - nn),zK (j:=1) rfl,DenX.int',vC (by lia)⟩
     ·exact⟨_,.bool true,zK (j:=2) rfl,DenX.bool,xA (by decide +kernel)⟩
     ·exact⟨_,.none,zK (j:=3) rfl,DenX.none',xA (by decide +kernel)⟩
     ·exact⟨_,.str "1",zK (j:=4) rfl,DenX.str',xA (by decide +kernel)⟩
     ·exact⟨_,.int m,zK (j:=5) rfl,DenX.int',vC (by lia)⟩
     ·exact⟨_,.list [],zK (j:=6) rfl,.list (SqL.of (by rw [zc h0];exact e6 _ _ (off h0) ((d2.trans (d3.trans (d4.trans d5))) _ _ (by simp) f8))) .nil,xA (by decide +kernel)⟩
     ·exact⟨_,.dict [],zK (j:=7) rfl,DenX.dict0 (by rw [zc h4];exact e6 _ _ (off h4) ((d3.trans (d4.trans d5)) _ _ (by simp) f9)),xA (by decide +kernel)⟩
     ·exact⟨_,.list [.int 0],zK (j:=8) rfl,.list (SqL.of (by rw [zc h6];exact e6 _ _ (off h6) ((d4.trans d5) _ _ (by simp) g0))) (.cons DenX.int' .nil),xA (by decide +kernel)⟩
     ·exact⟨_,.tuple [.int 0],zK (j:=9) rfl,.tuple (SqT.of (by rw [zc q6];exact e6 _ _ (off q6) (d5 _ _ (by simp) n9))) (.cons DenX.int' .nil),xA (by decide +kernel)⟩
    left;refine zR (SqL.of g2) hy ?_;clear g9 d1 d2 d3 d4 d5 f8 f9 g0 n9 g1 h0 h4 h6 q6 m0 e6 g2 hy;left;refine⟨(at':Int),rfl,la,_,rfl,SqL.of (f1 m1),λp1 e1=>?_⟩;rw [kB,<-gG];generalize l:upd G6 p1 _=G8;have ⟨e8,d8⟩:=layQq l e1;left;refine⟨len2 (by show 1<=1000;decide),λp2 f3=>?_⟩;generalize l:upd G8 p2 _=G9;have ⟨e9,a4⟩:=layQq l f3;left;refine⟨p1,p2,_,_,rfl,rfl,e9 _ _ (by simp) d8,a4,len2 (by rw [aB,aN];show _+1<=1000;lia),λp3 b4=>?_⟩;generalize l:upd G9 p3 _=GA;have ⟨eA,a5⟩:=layQq l b4;have u0:Ext [] G6 GA:=e8.trans (e9.trans eA);have u1:p3 ∉ [t]:=(T6.same (e8.trans e9).toSame).some b4
    left;refine za (T6.same u0.toSame) (by lia) (by decide) (by decide) λc6 GB w7 z8 TB eB _=>?_;obtain⟨c6',rfl⟩:=cD w7;have u2:Ext [t] G6 GB:=(u0.mono (by simp)).trans eB;have a6:=m1.trans u2;have u3:=eB _ _ u1 a5;left;refine⟨((at'+c6':Nat):Int),congrArg V.int (by lia),la,_,rfl,SqL.of (f1 a6),λp4 g8=>?_⟩;rw [iN,<-List.map_drop];generalize l:upd GB p4 _=GC;have ⟨eC,d9⟩:=layQq l g8;left;refine⟨p3,p4,_,_,rfl,rfl,eC _ _ (by simp) u3,d9,len2 (by rw [aI,aB,aB,aN,cC];show _+1+_<=1000;lia),λp5 k2=>?_⟩;generalize l:upd GC p5 _=GD;have ⟨eD,k3⟩:=layQq l k2
    have r0:=eC.trans eD;have w8:Ext [t] W GD:=a6.trans (r0.mono (by simp));have q0:=new (TB.same eC.toSame) (a6.trans (eC.mono (by simp))) k2;have x0:=(q7.mono u2.same2).mono (r0.mono (us :=[t]) (by simp)).same2;left;refine put (TB.same r0.toSame) (by lia) w8 (d :=.list ((xs.take at').map .int ++ [dy]++(xs.drop (at'+c6')).map .int)) (.list (SqL.of (by rw [zc q0];exact k3)) (((xh _).app (.cons x0 .nil)).app (xh _))) (uu (λx hx=>?_) ?_).1 (λJ I=>by left;exact I)
    ·rcases aK.mp hx with hx | hx
     ·rcases aK.mp hx with hx | hx
      ·obtain⟨z,hz,rfl⟩:=aW.mp hx;exact p8 z (cX hz)
      ·rw [aH.mp hx];exact q8
     ·obtain⟨z,hz,rfl⟩:=aW.mp hx;exact p8 z (fJ hz)
    ·rw [aI,aI,aB,aB,aN,cC,bN];lia
   rw [decide_eq_false w9];refine iteF ?_;left;refine zv ?_;by_cases u4:c0=9
   ·rw [decide_eq_true u4];refine⟨_,rfl,iteT ?_⟩;left;refine⟨la,_,rfl,.inl ⟨SqL.of d7,λq1 k4=>?_⟩⟩;generalize l:upd W q1 _=G1;have ⟨d1,f8⟩:=layQq l k4;left;refine qZf ?_;left;refine⟨rfl,la,_,rfl,.inl ⟨SqL.of (f1 (d1.mono (by simp))),λq2 k5=>?_⟩⟩;rw [<-List.map_reverse];generalize l:upd G1 q2 _=G2;have ⟨d2,f9⟩:=layQq l k5;left;refine (show ∀p,_=none->_ from λq3 k6=>?_);generalize l:upd G2 q3 _=G3;have ⟨d3,g0⟩:=layQq l k6;left;refine⟨len2 (by show 6<=1000;decide),λq5 k7=>?_⟩;generalize l:upd G3 q5 _=G5;have ⟨d5,g1⟩:=layQq l k7;have g9:Ext [] W G5:=d1.trans (d2.trans (d3.trans d5));have h0:=new T7 (.refl _ _) k4;have h4:=new (T7.same d1.toSame) (d1.mono (by simp)) k5
    have h6:=new (T7.same (d1.trans d2).toSame) ((d1.trans d2).mono (by simp)) k6;have m0:=new (T7.same (d1.trans (d2.trans d3)).toSame) ((d1.trans (d2.trans d3)).mono (by simp)) k7;have off:∀ {p:Addr},p ∉ [t,fd]->p ∉ [t]:=λh z=>h (by rw [aH.mp z];simp);left;refine za (T7.same g9.toSame) (by lia) (by decide) (by decide) λX G6 t6 t7 T6 e6 _=>?_;have m1:Ext [t] W G6:=(g9.mono (by simp)).trans e6;have g2:=e6 _ _ (off m0) g1;have x1:∀x∈xs.map PyData.int,ElOk x:=λx hx=>by
     obtain⟨z,hz,rfl⟩:=aW.mp hx;exact p8 z hz
    obtain⟨y,dy,hy,q7,q8⟩:∃(y:V) (dy:PyData),atI [V.ref q1,.ref q2,.non,.ref q3,.int 3,.str ""] X=some y/\DenX K (wo [t,fd] G6) dy y/\ValOk dy:=by
     have q9:X=0\/X=1\/X=2\/X=3\/X=4\/X=5:=by lia
     rcases q9 with rfl | rfl | rfl | rfl | rfl | rfl
     ·exact⟨_,.tuple (xs.map .int),zK (j:=0) rfl,.tuple (SqT.of (by rw [zc h0];exact e6 _ _ (off h0) ((d2.trans (d3.trans d5)) _ _ (by simp) f8))) (xh _),(uu x1 (by rw [aB];lia)).2⟩
     ·exact⟨_,intsD xs.reverse,zK (j:=1) rfl,.list (SqL.of (by rw [zc h4];exact e6 _ _ (off h4) ((d3.trans d5) _ _ (by simp) f9))) (xh _),wQ (λz hz=>by have:=c9.2 z (List.mem_reverse.mp hz);lia) (by rw [gW];lia)⟩
     ·exact⟨_,.none,zK (j:=2) rfl,DenX.none',(xA (by decide +kernel)).val⟩
     ·exact⟨_,.dict [],zK (j:=3) rfl,DenX.dict0 (by rw [zc h6];exact e6 _ _ (off h6) (d5 _ _ (by simp) g0)),(xA (by decide +kernel)).val⟩
     ·exact⟨_,.int 3,zK (j:=4) rfl,DenX.int',(xA (by decide +kernel)).val⟩
     ·exact⟨_,.str "",zK (j:=5) rfl,DenX.str',(xA (by decide +kernel)).val⟩
    left;refine zR (SqL.of g2) hy ?_;left;exact put T6 (by lia) m1 q7 q8 (λJ I=>by left;exact I)
   rw [decide_eq_false u4];refine⟨_,rfl,iteF ?_⟩;left;refine⟨len2 (by show 1<=1000;decide),λp2 f3=>?_⟩;generalize l:upd W p2 _=G9;have ⟨e9,a4⟩:=layQq l f3;left;refine⟨la,p2,_,_,rfl,rfl,f1 (e9.mono (by simp)),a4,len2 (by rw [aB];show _+1<=1000;lia),λp3 b4=>?_⟩;rw [show xs.map V.int ++ [V.int nn]=(xs ++ [nn]).map V.int by rw [aJ];rfl];generalize l:upd G9 p3 _=GA;have ⟨eA,a5⟩:=layQq l b4;left;refine⟨p3,xs ++ [nn],rfl,SqL.of a5,by rw [aI,bN];lia,λp4 nx g8 u5 z9=>?_⟩;generalize l:upd GA p4 _=GB;have ⟨eB,d9⟩:=layQq l g8;have g7:Ext [] W GA:=e9.trans eA;have a6:Ext [t] W GB:=(g7.trans eB).mono (by simp)
   have x2:=new (T7.same g7.toSame) (g7.mono (by simp)) g8;left;refine put (T7.same (g7.trans eB).toSame) (by lia) a6 (d:=intsD nx) (.list (SqL.of (by rw [zc x2];exact d9)) (xh _)) (wQ (λy hy=>?_) ?_) (λJ I=>by left;exact I)
   ·have hm:=u5.mem_iff.mp hy;rcases aK.mp hm with hm | hm
    ·have:=c9.2 y hm;lia
    ·rw [aH.mp hm];lia
   ·have:=u5.length_eq;rw [aI,bN] at this;lia
end
section
variable{P:Program}{w:World}{K:PySem.W.Frag}{mg:Str->Option Value}{base:Heap}
abbrev sLaw:Stmt:=top 45
theorem scLaw:FnScope ["_law_script","_law_k","_law_tape_here","_law_works_here","_law_number_here","_law_great","_law_own","_law_many_here","_law_plan_here","_law_things","_law_turn","_law_thing","_law_fewer","_law_one","_law_kept","_law_found"] ["_law_script"] (zU sLaw):=⟨rfl,rfl,rfl,by decide +kernel,rfl,by decide +kernel,by decide +kernel⟩
def kC(K:PySem.W.Frag):Sp:=λvs H Q _ => ∃(a:Addr) (ns:List Int),vs = [.ref a]/\SqL K H a (ns.map V.int)/\ns.length<=63 /\ ∀H',Q (.bl true) H'
theorem qYz{f:Addr}{fd:FuncData}(F:Fun K "law" "law" sLaw f fd)(b7:mg "range" = none)(d0:mg "len" = none)(l5:mg "max" = none)(l6:mg "min" = none)(e0:mg "repr" = none)(l7:mg "int" = none)(l8:mg "isinstance" = none)(j8:mg "bool" = none)(f0:mg "sorted" = none)(f2:mg "dict" = none)
  (hT:Has P w K mg base "_law_tape" 1 ["_law_script","_law_k"] (Qf K)) (g8:Has P w K mg base "_law_draw" 1 ["_law_tape_here","_law_many_here"] xI) (hW:Has P w K mg base "_law_works" 5 ["_law_tape_here","_law_most"] (qMz K)) (hZ:Has P w K mg base "_law_size" 1 ["_law_works_here"] (js K))
  (t6:Has P w K mg base "_law_busy" 3 ["_law_works_here","_law_number_here","_law_box"] (uj K)) (hX:Has P w K mg base "_law_boxes" 2 ["_law_work_here"] (qN2 K)) (t7:Has P w K mg base "_law_plan" 2 ["_law_tape_here","_law_own","_law_many_here"] (qQ4 K)) (l9:Has P w K mg base "is_plan" 8 ["works","number","thing"] (qJo K))
  (m0:Has P w K mg base "_law_bent" 2 ["_law_tape_here","_law_plan_here","_law_many_here"] (qQ8 K)) (t8:Has P w K mg base "_law_is_plan" 2 ["_law_own","_law_many_here","_law_thing"] (qJn K)) :
  FnOk P w K mg base CX0 9 f fd ["_law_script"] (kC K):=by
 refine F.ok scLaw (λvs H Q E h=>?_) (λx9 A t9 s H vs Q E hr h=>?_)
 ·obtain⟨a,ns,rfl,_⟩:=h;rfl
 ·obtain⟨a,ns,rfl,m1,x4,q⟩:=h;have hu:=yW hr
  refine⟨_,(PSsx.h (zo (psx (yV bU rfl (xB rfl b7 (paC (zO (oP rfl) (by rfl) l5 PyProof.Rows.boot_max (paK zE (paC (zO (qTc rfl) (by rfl) l6 PyProof.Rows.boot_min (paC (zO yb (by rfl) d0 cK (paN (pv 0) zB)) (paK zE zB))) zB))) zB)) (zJ (i:=1) scLaw.nd rfl (Or.inl rfl))
   (PSsx.h (zo (psx (zN (i:=2) scLaw.nd rfl (Or.inr rfl) (zH hT hr (by decide) (paN (pv 0) (paN (pv 1) zB)))))
   (zo (psx (zN (i:=3) scLaw.nd rfl (Or.inr rfl) (zH hW hr (by decide) (paN (pv 2) (paK zE zB)))))
   (zo (psx (wU (zm (paC (zH g8 hr (by decide) (paN (pv 2) (paC (zO yb (by rfl) d0 cK (paN (pv 3) zB)) zB))) (zA (yJ wV (zH hZ hr (by decide) (paN (pv 3) zB)) zE (zQ _)) zB))) (xS (n:=2) rfl (ze (zJ (i:=4) scLaw.nd rfl (Or.inr rfl)) (ze (zJ (i:=5) scLaw.nd rfl (Or.inl rfl)) yI)))))
   (zo (yz (PW.pt (xj (yE K rfl (pv 5) (λ_=>rfl)) (xi (zV wV (pv 1) zE (zQ _))))) (zy (psx qM4)) zh)
   (zo (psx (zN (i:=6) scLaw.nd rfl (Or.inl rfl) (zr (iI rfl) (by rfl) f2 fD (zA (zp ["_law_box"] [3,4] rfl (.of rfl) (zu (zH hX hr (by decide) (paS (zM zX (pv 3) (pv 4) (λ_ _=>rfl)) zB))) (λ_ _ _ _=>(zJ (i:=0) (by show (((["_law_box","_law_works_here","_law_number_here"]:List Str))).Nodup;decide) rfl (Or.inl rfl))) (λ_ _ _ _ =>.nil) (λ_ _ _ _=>(zm (paN (pv 0) (paC (zH t6 hr (by decide) (paN (pv 1) (paN (pv 2) (paN (pv 0) zB)))) zB))))) zB))))
   (zo (psx (zN (i:=7) scLaw.nd rfl (Or.inl rfl) (zO yb (by rfl) d0 cK (paS (zM zX (pv 3) (pv 4) (λ_ _=>rfl)) zB))))
   (zo (psx (zN (i:=8) scLaw.nd rfl (Or.inr rfl) (zH t7 hr (by decide) (paN (pv 2) (paN (pv 6) (paN (pv 7) zB))))))
   (zo (yz (zV qRn (zH l9 hr (by decide) (paN (pv 3) (paN (pv 4) (paN (pv 8) zB)))) zk (zQ _)) (zy (psx (zP zk))) zh)
   (zo (qU8 (i:=9) scLaw.nd rfl (Or.inl rfl) (qOr (λ_=>pv 8) (zO (wN hr.hd) (by rfl) f0 bJ (zA (pv 8) zB))))
   (zy (psx (yV bU rfl (xB rfl b7 (paS (zM zX (zW (paK zE (paK zE zB))) (zr wW (by rfl) l7 dD (paN (pv 5) zB)) (λ_ _=>rfl)) zB)) (zJ (i:=10) scLaw.nd rfl (Or.inl rfl))
   (PSsx.h (zo (psx (zN (i:=11) scLaw.nd rfl (Or.inl rfl) (zH m0 hr (by decide) (paN (pv 2) (paN (pv 8) (paN (pv 7) zB))))))
   (zo (yz (zV zq (zH g8 hr (by decide) (paN (pv 2) (paK zE zB))) zE (zQ _)) (zo (psx (zN (i:=12) scLaw.nd rfl (Or.inl rfl) (vk (zr (iI rfl) (by rfl) f2 fD (zA (zp ["_law_box"] [2,8] rfl (.of rfl) (QY (pv 8)) (λ_ _ _ _=>(zJ (i:=0) (by show (((["_law_box","_law_tape_here","_law_plan_here"]:List Str))).Nodup;decide) rfl (Or.inl rfl))) (λ_ _ _ _ =>.cons (zV wV (zH g8 hr (by decide) (paN (pv 1) (paK zE zB))) zE (zQ _)) .nil) (λ_ _ _ _=>(zm (paN (pv 0) (paS (xy hu (pv 2) (pv 0) (λ_ _=>rfl)) zB))))) zB)))))
   (zy (psx (zN (i:=11) scLaw.nd rfl (Or.inl rfl) (zH m0 hr (by decide) (paN (pv 2) (paN (pv 12) (paN (pv 7) zB)))))))) zh)
   (zy (psx (yV bU rfl (kH (zm (paN (pv 11) (paS (zM zX (pv 9) (zH g8 hr (by decide) (paN (pv 2) (paK zE zB))) (λ_ _=>rfl)) zB)))) (zJ (i:=13) scLaw.nd rfl (Or.inl rfl))
   (PSsx.h (zo (psx (zN (i:=14) scLaw.nd rfl (Or.inl rfl) (zO (qI2 hr) (by rfl) e0 PyProof.Rows.boot_repr (paN (pv 13) zB))))
   (zo (psx (zN (i:=15) scLaw.nd rfl (Or.inl rfl) (zH l9 hr (by decide) (paN (pv 3) (paN (pv 4) (paN (pv 13) zB))))))
   (zo (yz (PW.pt (wS (xM (yE K rfl (zO wP (by rfl) l8 (by decide +kernel) (paN (pv 15) (paN (xQ (v :=.ty "bool") rfl j8 PyProof.Rows.boot_bool rfl) zB))) (λ_=>rfl))) (wR (zV oJ (zO (qI2 hr) (by rfl) e0 PyProof.Rows.boot_repr (paN (pv 13) zB)) (pv 14) (zQ _))))) (zy (psx (zP zk))) zh)
   (zy (yz (zV oJ (pv 15) (zH t8 hr (by decide) (paN (pv 6) (paN (pv 7) (paN (pv 13) zB)))) (zQ _)) (zy (psx (zP zk))) zh)))))))))))))))))))))))))))
   (zy (psx (zP zk))))),?_⟩
  try dsimp only [zb,zg,xc,yu,yv]
  left;refine⟨a,_,rfl,.inl m1,?_⟩;rw [aB];left;refine⟨_,_,rfl,?_⟩;left;refine⟨_,_,rfl,?_⟩;generalize hN:(if (if (3:Int)<(ns.length:Int) then (3:Int) else (ns.length:Int))>1 then (if (3:Int)<(ns.length:Int) then (3:Int) else (ns.length:Int)) else 1)=N;have y0:1<=N/\N<=3:=by
   rw [<-hN]
   repeat' split
   all_goals lia
  left;refine⟨N,rfl,by lia,by lia,wf (lo:=0) (n:=N.toNat) (λi k H' => ∃(o1 o2 o3 o4 o5 o6 o7 o8 o9 oa ob oc od oe og:Option V),k = [some (.ref a),o1,o2,o3,o4,o5,o6,o7,o8,o9,oa,ob,oc,od,oe,og]/\Ext [] H H') ?_ ?_ ?_⟩
  ·exact⟨_,_,_,_,_,_,_,_,_,_,_,_,_,_,_,rfl,.refl _ _⟩
  ·rintro i k H' hi ⟨o1,o2,o3,o4,o5,o6,o7,o8,o9,oa,ob,oc,od,oe,og,rfl,e'⟩ N_ B_ C_ R_ hN_ hC_ hR_;left;refine⟨a,ns,i,by show [V.ref a,V.int (0+(i:Int))] = [V.ref a,V.int (i:Int)];rw [hJ],e'.toSame.seq m1,by lia,λt H1 ht T1 s1=>?_⟩;left;refine⟨t,0,4,rfl,T1,by lia,by decide,by decide,λl ws H2 T2 e2 m2 a5=>?_⟩;have j9:Ext [t] H' H2:=(show Ext [t] H' H1 from λb o _ h=>s1 b o h).trans e2;have m3:Den K (wo [t] H2) (yF ws) (.ref l):=(T2.worksE m2).den;have dW:∀ {G:Hp},Ext [t] H2 G->Den K G (yF ws) (.ref l):=λ{G} e=>(m3.mono e.same).mono (xY _ _);obtain⟨l',us,ee,k2,i0⟩:=m3.ofList;cases ee;have m4:=i0.len;rw [aB] at m4;have x5:=a5.one;have x6:=a5.few
   clear m2 e2 s1 T1;left;refine⟨l,us,rfl,.inl ((xY _ _).seq k2),?_⟩;rw [m4];left;refine za T2 (by lia) (by lia) (by lia) λnm H3 u0 y1 T3 e3 _=>?_;obtain⟨n,rfl⟩:=cD u0;have hn:n<ws.length:=by lia
   have a7:ws[n]? = some ws[n]:=aD hn;generalize ws[n]=I at a7;obtain⟨m,y2,m5,c4⟩:=a5.all I (aM a7);have y3:=c4.len;have y4:=vg I;obtain⟨vw,m6,i1⟩:=i0.get' (i:=n) (d:=workD I) (by rw [aS,a7];rfl);left;refine⟨l,ws,rfl,dW e3,by lia,λw hw=>?_,λsz H4 e4=>?_⟩
   ·obtain⟨m',h1,h2,h3⟩:=a5.all w hw;have:=h3.len;lia
   left;refine⟨len2 (by show 2<=1000;decide),λp0 m7=>?_⟩;generalize y5:decide (150<sz)=gr;generalize W:upd H4 p0 _=H5;have ⟨Z,i2⟩:=layQq W m7;refine yO (SqT.of i2) rfl ?_;have g9:Ext [t] H2 H5:=e3.trans ((e4.trans Z).mono (by simp));have T5:=T3.same (e4.trans Z).toSame;have E5:Ext [] H H5:=e'.trans ((j9.trans g9).drop ht);clear e3 e4 Z T3 T2 i2 m7;left;rename_i NA NB u1 u2;have m8:NA [some (.ref a),some (.int (0+(i:Int))),some (.ref t),some (.ref l),some (.int n),some (.bl gr),o6,o7,o8,o9,oa,ob,oc,od,oe,og] H5:=by
    with_reducible refine yH u1 ?_
    left;exact hC_ _ _ ⟨_,_,_,_,_,_,_,_,_,_,_,_,_,_,_,rfl,E5⟩
   have rest:NB [some (.ref a),some (.int (0+(i:Int))),some (.ref t),some (.ref l),some (.int n),some (.bl gr),o6,o7,o8,o9,oa,ob,oc,od,oe,og] H5:=by
    with_reducible refine yH u2 ?_
    left;refine zR ((xY _ _).seq (g9.same.seq k2)) (zK m6) ?_;obtain⟨wl,ub,rfl,m9,n0⟩:=i1.ofList;have n1:ub.length=I.length:=by rw [n0.len,aB]
    have u3:∀ {G:Hp},Ext [t] H2 G->Den K G (workD I) (.ref wl):=λ{G} e=>(i1.mono e.same).mono (xY _ _);left;refine⟨wl,I,m,ws.length,rfl,u3 g9,c4,m5,λlb H6 y6 e6 b8=>?_⟩;rw [qMo c4] at b8;have n2:Ext [t] H2 H6:=g9.trans (e6.mono (by simp));have T6:=T5.same e6.toSame;left;refine⟨lb,rfl,⟨_,SqL.of b8⟩,λlc X=>?_⟩;have u4:lb≠lc:=zF b8 X;refine zx (xs:=(boxes I).map V.int) (λj k G => ∃(o0:Option V) (r:List Addr) (C:List V),k = [o0,some (.ref l),some (.int n)]/\Ext [lc] H6 G/\G lc=some (.lst C)/\PairsAt G C (planK ((boxes I).take j) r)/\r.length=((boxes I).take j).length/\r.Nodup/\(∀x∈r,H6 x=none/\x≠lc)/\ListsAt G r (((boxes I).take j).map (busyL ws n I))) ?_ ?_ ?_ ?_
    ·exact⟨none,[],[],rfl,.laid X,zC,.nil,rfl,.nil,λx hx=>absurd hx (by simp),.nil⟩
    ·rintro j k G hj ⟨o0,r,C,rfl,e3,a1,S,a6,b9,a4,a8⟩;exact SqL.of (e3 _ _ (by simpa using u4) b8)
    ·rintro j v k G R hv ⟨o0,r,C,rfl,e3,a1,S,a6,b9,a4,a8⟩ hR;obtain⟨b,hb,rfl⟩:=zj hv;have eG:=e3.drop X;left;refine iteT ?_;left;refine⟨l,ws,n,I,b,rfl,dW (n2.trans (eG.mono (by simp))),a5,a7,λl1 nb G4 f3 e4 n3 u5 u6 u7=>?_⟩;have n4:=qXr c4 u5 u6 u7;subst n4;left;refine⟨len2 (by show 2<=1000;decide),λp1 k3=>?_⟩;generalize W:upd G4 p1 _=O;have ⟨Z,L⟩:=layQq W k3;have h4:=e4.trans Z;have a2:=h4 _ _ (by simp) a1;have y7:j<(boxes I).length:=(aE.mp hb).1;have n5:C.length<=8:=by
      have:=cZ S;rw [yY a6,aN] at this;lia
     have n6:H6 l1=none:=by
      cases z:H6 l1 with
      | none=>rfl
      | some o' =>
       rw [eG _ _ (by simp) z] at f3;cases f3
     have n7:l1≠lc:=λz=>by rw [z,a1] at f3;cases f3
     left;refine⟨_,a2,zZ (by lia),hR _ _ ⟨_,r ++ [l1],C ++ [.ref p1],rfl,(e3.trans (h4.mono (by simp))).trans (.put (by simp)),zC,?_,?_,?_,?_,?_⟩⟩
     ·have np:p1≠lc:=λz=>by rw [z] at L;rw [a2] at L;cases L
      have keep:∀c xs,G c=some (.tup xs)->(upd O lc (.lst (C ++ [.ref p1]))) c=some (.tup xs):=λc xs hc=>by
       rw [zD (λz=>by rw [z,a1] at hc;cases hc)];exact h4 _ _ (by simp) hc
      rw [zd hb];have hz:planK ((boxes I).take j ++ [b]) (r ++ [l1])=planK ((boxes I).take j) r ++ [(Sum.inl b,V.ref l1)]:=by
       unfold planK;rw [List.zip_append a6.symm,aJ];rfl
      rw [hz];exact vD (PairsAt.mono keep S) (.cons ⟨p1,rfl,by rw [zD np];exact L⟩ .nil)
     ·rw [zd hb,aI,aI,a6];rfl
     ·rw [cF];refine⟨b9,by simp,λx hx y hy e=>?_⟩;have hy:y=l1:=by simpa using hy
      subst hy;subst e;obtain⟨o',T⟩:∃o',G x=some o':=by
       obtain⟨i',b4,b5⟩:=bI hx;obtain⟨_,_,h2⟩:=a8.get (i:=i') (a:=x) (by rw [aD b4,b5]);exact⟨_,h2⟩
      rw [f3] at T;cases T
     ·intro x hx;rcases aK.mp hx with hx | hx
      ·exact a4 x hx
      ·have hx:x=l1:=by simpa using hx
       subst hx;exact⟨n6,n7⟩
     ·rw [zd hb,aJ];refine vD (a8.mono λc hc o' T=>?_) (.cons ?_ .nil)
      ·rw [zD (a4 c hc).2];exact h4 _ _ (by simp) T
      ·rw [zD n7];exact Z _ _ (by simp) n3
    ·rintro k G ⟨o0,r,C,rfl,e3,a1,S,a6,b9,a4,a8⟩;rw [aB,aY] at S a6 a8;have eG:=e3.drop X;left;refine⟨lc,C,planK (boxes I) r,rfl,a1,S,by rw [yY a6];lia,λow k4=>?_⟩;have h5:((planK (boxes I) r).map (·.1)).Nodup:=by
      rw [yw a6];exact uy ((yl I).imp λh=>by lia)
     rw [ux (acc :=[]) (by simpa using h5),List.nil_append];have e7:Ext [] G (upd G ow (.dK (planK (boxes I) r))) :=.laid k4;have hO:PlanAt (upd G ow (.dK (planK (boxes I) r))) ow (boxes I) r (tightLs ws n I):=by
      refine⟨zC,ListsAt.mono a8 λx hx o' T=>e7 _ _ (by simp) T,a6,b9,λz=>?_⟩;obtain⟨i',b4,b5⟩:=bI z;obtain⟨_,_,h2⟩:=a8.get (i:=i') (a:=ow) (by rw [aD b4,b5]);rw [k4] at h2;cases h2
     generalize upd G ow (.dK (planK (boxes I) r))=H7 at e7 hO ⊢;have n8:Ext [] H6 H7:=eG.trans e7;have f4:Ext [t] H2 H7:=n2.trans (n8.mono (by simp));have T7:=T6.same n8.toSame;have k5:t∉r:=λz=>by
      obtain⟨_,_,_,h1,_⟩:=T6;rw [(a4 t z).1] at h1;cases h1
     clear a1 S a8 a4 e3 eG e7 k4 h5;left;refine zR ((xY _ _).seq (f4.same.seq k2)) (zK m6) ?_;left;refine⟨wl,ub,rfl,.inl ((xY _ _).seq (f4.same.seq m9)),?_⟩;rw [n1];left;refine⟨t,ow,_,ws,n,I,r,rfl,T7,by lia,hO,k5,a5,a7,λJ bs as f H8 n9 u8 T8 e8 hP hF=>?_⟩;obtain⟨c5,f5,a9,c3⟩:=hF.ok c4 m5;have b0:J≠t:=λz=>by
      obtain⟨_,_,_,h1,_⟩:=T7;rw [<-z,n9] at h1;cases h1
     have U:t∉as:=λz=>by
      obtain⟨_,_,_,h1,_⟩:=T7;rw [u8 t z] at h1;cases h1
     have p2:∀o u,H J≠some (.frz o u):=λo u z=>by
      have nd:J ∉ [t]:=by simpa using b0
      have h2:=f4 _ _ nd (j9 _ _ nd (e' _ _ (by simp) z));rw [n9] at h2;cases h2
     have p3:=hO.keepT T7 k5 e8;obtain⟨k6,p4⟩:=qOo (K:=K) hP b0 U c5 f5 a9 c3;have k7:=f4.trans e8;left;refine⟨l,.ref J,_,ws,n,I,rfl,dW k7,a5,a7,k6.mono (xY _ _),p4.thin,λH9 e9=>?_⟩;rw [qRf c4 hF];left;refine⟨_,_,rfl,rfl,_,rfl,iteF ?_⟩;have T9:=T8.same e9.toSame;have u9:Ext [t] H2 H9:=k7.trans (e9.mono (by simp));have h6:=hP.growE e9;have v0:=p3.growE e9;have p5:=k6.mono (e9.mono (us :=[t]) (by simp)).same;clear e8 T7 k6 p3 hP k7 f4 hO;left;refine (show ∀p,_=none->_ from λq1 p6=>?_);generalize W:upd H9 q1 _=G1;have ⟨d1,i3⟩:=layQq W p6;left;refine⟨len2 (bB _),λq2 p8=>?_⟩;generalize W:upd G1 q2 _=G2;have ⟨d2,i4⟩:=layQq W p8
     left;refine⟨len2 (bB _),λq3 p9=>?_⟩;generalize W:upd G2 q3 _=G3;have ⟨d3,i5⟩:=layQq W p9;left;refine⟨len2 (by show 1<=1000;decide),λq4 q0=>?_⟩;generalize W:upd G3 q4 _=G4;have ⟨d4,i6⟩:=layQq W q0;have b6:Ext [] H9 G4:=d1.trans (d2.trans (d3.trans d4));have y8:=yY h6.len;left;refine⟨J,bs,_,rfl,b6 _ _ (by simp) h6.dict,yw h6.len,by lia,λq5 nx q8 q9 y9=>?_⟩;generalize W:upd G4 q5 _=O;have ⟨d5,i7⟩:=layQq W q8;left;refine qWu λq6 k8=>?_;generalize W:upd O q6 _=G6;have ⟨d6,f6⟩:=layQq W k8;refine qZi ?_;left;refine⟨len2 (bB _),λq7 f8=>?_⟩;generalize W:upd G6 q7 _=G7;have ⟨d7,i8⟩:=layQq W f8;refine qZh ?_
     have v1:q7≠q6:=λz=>by rw [z,f6] at f8;cases f8
     refine⟨d7 _ _ (by simp) f6,[(Sum.inl 0,.ref q7)],rfl,by show 1<=15;lia,?_⟩;rw [show yj [] [((Sum.inl 0:Key),V.ref q7)] = [(Sum.inl 0,V.ref q7)] from rfl];have d8:Ext [] O (upd G7 q6 (.dK [(Sum.inl 0,V.ref q7)])):=λb o _ hb=>by
      have c:b≠q6:=λz=>by rw [z,k8] at hb;cases hb
      rw [zD c];exact (d6.trans d7) _ _ (by simp) hb
     have f9:(upd G7 q6 (.dK [(Sum.inl 0,V.ref q7)])) q6=some (.dK [(Sum.inl 0,V.ref q7)]):=zC;have g0:(upd G7 q6 (.dK [(Sum.inl 0,V.ref q7)])) q7=some (.lst []):=by rw [zD v1];exact i8
     have g1:O q6=none:=k8;have g2:O q7=none:=by
      cases z:O q7 with
      | none=>rfl
      | some o=>rw [d6 _ _ (by simp) z] at f8;cases f8
     generalize upd G7 q6 (.dK [(Sum.inl 0,V.ref q7)])=G8 at d8 f9 g0 ⊢;left;refine⟨len2 (by show 11<=1000;decide),λth k9=>?_⟩;generalize W:upd G8 th _=HB;have ⟨d9,i9⟩:=layQq W k9;have c6:Ext [] H9 HB:=b6.trans (d5.trans (d8.trans d9));have TB:=T9.same c6.toSame;have r0:Ext [t] H2 HB:=u9.trans (c6.mono (by simp));have l0:=h6.growE c6;have r3:=v0.growE c6;have off:∀ {G:Hp} {p:Addr},Ext [] H9 G->G p=none->p ∉ [t]:=λe hp=>(T9.same e.toSame).some hp;have r4:=off (.refl _ _) p6;have r5:=off d1 p8;have r6:=off (d1.trans d2) p9;have r7:=off (d1.trans (d2.trans d3)) q0;have r8:=off b6 q8;have r9:=off (b6.trans d5) g1;have s0:=off (b6.trans d5) g2;have v2:=off (b6.trans (d5.trans d8)) k9
     have c7:Ext [] O HB:=d8.trans d9;have g3:∀c:Int,0<=c->c<11 -> ∃y,atI [V.ref J,.ref q1,.ref q2,.non,.ref q3,.int 0,.bl true,.str "",.ref q4,.ref q5,.ref q6] c=some y/\ThingOk K HB t y:=by
      intro c z0 z1;have v3:c=0\/c=1\/c=2\/c=3\/c=4\/c=5\/c=6\/c=7\/c=8\/c=9\/c=10:=by lia
      rcases v3 with rfl | rfl | rfl | rfl | rfl | rfl | rfl | rfl | rfl | rfl | rfl
      ·exact⟨_,zK (j:=0) rfl,_,p5.mono (c6.mono (us :=[t]) (by simp)).same,p4⟩
      ·exact⟨_,zK (j:=1) rfl,qMi ((d2.trans (d3.trans (d4.trans (d5.trans c7)))) _ _ (by simp) i3) r4⟩
      ·exact⟨_,zK (j:=2) rfl,vE (d :=.list []) (.list (SqL.of (by rw [zc r5];exact (d3.trans (d4.trans (d5.trans c7))) _ _ (by simp) i4)) .nil) rfl (by decide +kernel)⟩
      ·exact⟨_,zK (j:=3) rfl,vE (d :=.none) DenX.none' rfl (by decide +kernel)⟩
      ·exact⟨_,zK (j:=4) rfl,vE (d :=.tuple []) (.tuple (SqT.of (by rw [zc r6];exact (d4.trans (d5.trans c7)) _ _ (by simp) i5)) .nil) rfl (by decide +kernel)⟩
      ·exact⟨_,zK (j:=5) rfl,vE (d :=.int 0) DenX.int' rfl (by decide +kernel)⟩
      ·exact⟨_,zK (j:=6) rfl,vE (d :=.bool true) DenX.bool rfl (by decide +kernel)⟩
      ·exact⟨_,zK (j:=7) rfl,vE (d :=.str "") DenX.str' rfl (by decide +kernel)⟩
      ·exact⟨_,zK (j:=8) rfl,qP3 l0 b0 U c5 f5 a9 c3 ((d5.trans c7) _ _ (by simp) i6) r7⟩
      ·exact⟨_,zK (j:=9) rfl,qP7 (c7 _ _ (by simp) i7) r8 (λy hy=>by have:=a9 y (q9.mem_iff.mp hy);lia) (by rw [q9.length_eq];lia)⟩
      ·exact⟨_,zK (j:=10) rfl,qRp (d9 _ _ (by simp) f9) r9 (d9 _ _ (by simp) g0) s0⟩
     clear i3 i4 i5 i6 i7 f9 g0 d1 d2 d3 d4 d5 d6 d7 d8 c7 r4 r5 r6 r7 r8 r9 s0 b6 f6 i8 g1 g2 c6;left;refine⟨len2 (by show 2<=1000;decide),λlx s2=>?_⟩;generalize W:upd HB lx _=HC;have ⟨eC,j0⟩:=layQq W s2;have TC:=TB.same eC.toSame;have s3:Ext [t] H2 HC:=r0.trans (eC.mono (by simp));have s4:=l0.growE eC;have v4:=r3.growE eC;have s5:=eC _ _ (by simp) i9;have g3:∀c:Int,0<=c->c<11 -> ∃y,atI [V.ref J,.ref q1,.ref q2,.non,.ref q3,.int 0,.bl true,.str "",.ref q4,.ref q5,.ref q6] c=some y/\ThingOk K HC t y:=λc h0 h1=>by
      obtain⟨y,h2,h3⟩:=g3 c h0 h1;exact⟨y,h2,h3.mono (eC.mono (us :=[t]) (by simp))⟩
     left;refine .inr ⟨gr,rfl,?_⟩;left;have s6:atI [V.int 10,V.int 2] (if gr=true then 1 else 0)=some (.int (if gr=true then 2 else 10)):=by cases gr <;> rfl
     refine zR (SqL.of j0) s6 ?_;generalize v5:(if gr=true then (2:Int) else 10)=Rn;have x7:0<=Rn/\Rn<=10:=by
      rw [<-v5];split <;> lia
     clear j0 s2 i9 k9 TB r0 l0 r3 s6 eC;left;refine⟨Rn,rfl,by lia,by lia,wf (lo:=0) (n:=Rn.toNat) (λj k G => ∃(oa ob oc od oe og:Option V) (kk:Nat),k = [some (.ref a),some (.int (0+(i:Int))),some (.ref t),some (.ref l),some (.int n),some (.bl gr),some (.ref ow),some (.int I.length),some (.ref J),some (.ref th),oa,ob,oc,od,oe,og]/\Ext [t] HC G/\Tape G t kk/\kk<=30000+60*j) ?_ ?_ ?_⟩
     ·exact⟨_,_,_,_,_,_,_,rfl,.refl _ _,TC,by lia⟩
     ·rintro j k G hj ⟨oa,ob,oc,od,oe,og,kk,rfl,eG,TG,v6⟩ N2_ B2_ C2_ R2_ hN2_ hC2_ hR2_;have x8:j<10:=by lia
      have v7:=s4.keepT TC U eG;left;refine⟨t,J,kk,I.length,bs,as,f,rfl,TG,by lia,v7,U,c5,f5,a9,c3,by lia,by lia,λr1 d1 G1 T1 e1 p1 f1=>?_⟩
      with_reducible refine yN ?_
      (try with_reducible refine yH (by assumption) ?_)
      with_reducible refine r_seqC (λk G' => ∃(x:V) (oc:Option V) (k':Nat),k = [some (.ref a),some (.int (0+(i:Int))),some (.ref t),some (.ref l),some (.int n),some (.bl gr),some (.ref ow),some (.int I.length),some (.ref J),some (.ref th),some (.int (0+(j:Int))),some x,oc,od,oe,og]/\ThingOk K G' t x/\Ext [t] G G'/\Tape G' t k'/\k'<=kk+40) ?_ (λhC=>?_)
      ·rintro k G2 ⟨x,oc,k',rfl,hx,c8,v8,z2⟩;have v9:Ext [t] HC G2:=eG.trans c8;left;refine za v8 (by lia) (by decide) (by decide) λc G3 c0 c1 T3 e3 _=>?_;have s7:=v9.trans e3;obtain⟨y,hy,w0⟩:=g3 c c0 (by lia);have s8:=s7 _ _ v2 s5;left;refine zR (SqL.of s8) hy ?_;left;refine⟨len2 (by show 2<=1000;decide),λtt w1=>?_⟩;generalize W:upd G3 tt _=G4;have ⟨e4,j1⟩:=layQq W w1;have h7:Ext [t] HC G4:=s7.trans (e4.mono (by simp));have w2:=s3.trans h7;have w3:=(hx.mono e3).mono (e4.mono (us :=[t]) (by simp));have w4:=w0.mono h7;have w5:=v4.keepT TC k5 h7;have T4:=T3.same e4.toSame;left;refine⟨tt,rfl,⟨_,SqT.of j1⟩,qUx (xs :=[x,y]) (λjj k O => ∃(od oe og:Option V),k = [some (.ref a),some (.int (0+(i:Int))),some (.ref t),some (.ref l),some (.int n),some (.bl gr),some (.ref ow),some (.int I.length),some (.ref J),some (.ref th),some (.int (0+(j:Int))),some x,oc,od,oe,og]/\Ext [] G4 O) ?_ ?_ ?_ ?_⟩
       ·exact⟨_,_,_,rfl,.refl _ _⟩
       ·rintro jj k O w6 ⟨od,oe,og,rfl,Z⟩;exact SqT.of (Z _ _ (by simp) j1)
       ·rintro jj v k O hv ⟨od,oe,og,rfl,Z⟩ N3_ B3_ C3_ R3_ hN3_ hC3_ hR3_;have w7:ThingOk K G4 t v:=by
         have hm:=aM hv;simp only [aV,List.not_mem_nil,or_false] at hm;rcases hm with rfl | rfl
         ·exact w3
         ·exact w4
        obtain⟨d,w8,fi⟩:=w7;have pt:∀ {G':Hp},Ext [] G4 G'->PlanT K G' d v:=λe=>(w8.mono (xY _ _)).mono e.toSame;left;refine⟨v,d,rfl,(pt Z).thing,fi.kd,fi.sh,fi.de,fi.le,?_⟩;left;refine⟨l,v,d,ws,n,I,rfl,dW (w2.trans (Z.mono (by simp))),a5,a7,pt Z,fi.thin,λG6 e6=>?_⟩;have h8:=Z.trans e6;left;refine⟨_,.bool _,"bool",rfl,DenX.bool,by decide,_,rfl,iteF ?_⟩;left;refine⟨v,d,rfl,(pt h8).thing,fi.kd,fi.sh,fi.de,fi.le,?_⟩;left;refine qZl ?_;rw [decide_eq_true rfl];left;refine iteF ?_;left;refine⟨ow,v,d,ws,n,I,r,rfl,w5.growE h8,a5,a7,pt h8,fi.thin,λG7 e7=>?_⟩;left;refine qZm ?_;rw [decide_eq_true rfl];left;refine iteF ?_
        left;exact⟨_,_,_,rfl,h8.trans e7⟩
       ·rintro k O ⟨od,oe,og,rfl,Z⟩;left;exact⟨_,_,_,_,_,_,_,rfl,h7.trans (Z.mono (by simp)),T4.same Z.toSame,by lia⟩
      ·left;refine za T1 (by lia) (by decide) (by decide) λc G2 c0 c1 T2 c8 _=>?_;left;refine zv ?_;by_cases hc:c=0
       ·rw [decide_eq_true hc];refine⟨_,rfl,iteT ?_⟩;have s9:Ext [t] HC G2:=eG.trans (e1.trans c8);have Y:=s4.keepT TC U s9;left;refine vm ?_;left;refine⟨J,_,rfl,Y.dict,λo lc X=>?_⟩;have g4:(upd G2 J (.frz o (.dK (planK bs as)))) J=some (.frz o (.dK (planK bs as))):=zC;have g5:Ext [J] G2 (upd G2 J (.frz o (.dK (planK bs as)))) :=.put (by simp);have TF:=T2.ext g5 (by simpa using dF b0);generalize upd G2 J (.frz o (.dK (planK bs as)))=HF at g4 g5 X TF ⊢;have t0:lc ∉ [t]:=TF.some X;have l2:J≠lc:=zF g4 X;have j2:∀x∈as,x≠lc:=λx hx z=>by
         obtain⟨i',b4,b5⟩:=bI hx;obtain⟨_,_,h2⟩:=Y.lists.get (i:=i') (a:=x) (by rw [aD b4,b5]);have h3:=g5 _ _ (λy=>Y.nda ((aH.mp y)▸hx)) h2;rw [z,X] at h3;cases h3
        refine Qj (λjj k O => ∃(o0:Option V) (B:List Int) (r:List Addr) (C:List V) (k1:Nat),k = [o0,some (.ref t),some (.ref J)]/\Ext [lc,t] HF O/\O lc=some (.lst C)/\PairsAt O C (planK B r)/\r.length=B.length/\B.Sublist (bs.take jj)/\r.Sublist (as.take jj)/\ListsAt O r (B.map f)/\Tape O t k1/\k1<=kk+11+jj) ?_ ?_ ?_ ?_
        ·exact⟨none,[],[],[],_,rfl,.laid X,zC,.nil,rfl,List.nil_sublist _,List.nil_sublist _,.nil,TF.ext (ts :=[]) (.laid X) (by simp),by lia⟩
        ·rintro jj k O w6 ⟨o0,B,D,C,k1,rfl,Z,a2,S,M,a3,b1,b2,g6,l3⟩;exact Z _ _ (by simp [l2,b0]) g4
        ·rintro jj k0 v k O R hv ⟨o0,B,D,C,k1,rfl,Z,a2,S,M,a3,b1,b2,g6,l3⟩ hR;obtain⟨b,a0,hb,ha,rfl,rfl⟩:=qNd hv;have z3:jj<bs.length:=(aE.mp hb).1;left;refine za g6 (by lia) (by decide) (by decide) λc2 G6 z4 z5 t1 e6 _=>?_;left;have h9:Ext [lc,t] HF G6:=Z.trans (e6.mono (by simp));have g7:=e6 _ _ t0 a2;have t2:G6 J=some (.frz o (.dK (planK bs as))):=h9 _ _ (by simp [l2,b0]) g4;have b3:∀x∈D,x∈as:=λx hx=>cX (b1.subset hx);have j3:ListsAt G6 D (B.map f):=b2.mono λx hx o' T=>e6 _ _ (λz=>U ((aH.mp z)▸b3 x hx)) T;have j4:PairsAt G6 C (planK B D):=PairsAt.mono (λc xs hc=>e6 _ _ (qPu hc g6) hc) S
         refine ite2 (λg=>iteT ?_) (λg=>iteF ?_)
         ·left;refine⟨J,.ref a0,rfl,.inl ⟨_,Sum.inl b,.inr ⟨o,t2⟩,rfl,(ww c5 hb ha).symm⟩,?_⟩;left;refine⟨len2 (by show 2<=1000;decide),λp1 k3=>?_⟩;generalize W:upd G6 p1 _=G7;have ⟨e7,L⟩:=layQq W k3;have j5:=e7 _ _ (by simp) g7;have n5:C.length<=8:=by
           have h1:=cZ S;have h2:=a3.length_le;rw [yY M] at h1;rw [aN] at h2;lia
          have hz:planK (B ++ [b]) (D ++ [a0])=planK B D ++ [(Sum.inl b,V.ref a0)]:=by
           unfold planK;rw [List.zip_append M.symm,aJ];rfl
          have np:p1≠lc:=λz=>by rw [z] at L;rw [j5] at L;cases L
          obtain⟨z6,j6,w9⟩:=Y.lists.get ha;rw [aS,hb] at j6;cases j6;have l4:=aM ha;have x0:=g5 _ _ (λy=>Y.nda ((aH.mp y)▸l4)) w9;have t3:=j2 a0 l4
          have x1:=h9 _ _ (λz=>by
           rcases aV.mp z with z | z
           ·exact t3 z
           ·exact U ((aH.mp z)▸l4)) x0
          left;refine⟨_,j5,zZ (by lia),hR _ _ ⟨_,B ++ [b],D ++ [a0],C ++ [.ref p1],k1+1,rfl,(h9.trans (e7.mono (by simp))).trans (.put (by simp)),zC,?_,?_,?_,?_,?_,?_,by lia⟩⟩
          ·have keep:∀c xs,G6 c=some (.tup xs)->(upd G7 lc (.lst (C ++ [.ref p1]))) c=some (.tup xs):=λc xs hc=>by
            rw [zD (λz=>by rw [z,g7] at hc;cases hc)];exact e7 _ _ (by simp) hc
           rw [hz];exact vD (PairsAt.mono keep j4) (.cons ⟨p1,rfl,by rw [zD np];exact L⟩ .nil)
          ·rw [aI,aI,M];rfl
          ·rw [zd hb];exact a3.append (.refl _)
          ·rw [zd ha];exact b1.append (.refl _)
          ·rw [aJ];refine vD (j3.mono λc hc o' T=>?_) (.cons ?_ .nil)
           ·rw [zD (j2 c (b3 c hc))];exact e7 _ _ (by simp) T
           ·rw [zD t3];exact e7 _ _ (by simp) x1
          ·exact (t1.same e7.toSame).ext (ts :=[lc]) (.put (by simp)) (λz=>t0 (by rw [aH.mp z];simp))
         ·exact hR _ _ ⟨_,B,D,C,k1+1,rfl,h9,g7,j4,M,a3.trans (by rw [zd hb];exact List.sublist_append_left _ _),b1.trans (by rw [zd ha];exact List.sublist_append_left _ _),j3,t1,by lia⟩
        ·rintro k O ⟨o0,B,D,C,k1,rfl,Z,a2,S,M,a3,b1,b2,g6,l3⟩;left;rw [yY Y.len,aY] at a3;rw [yY Y.len,<-Y.len,aY] at b1;rw [yY Y.len] at l3;have x2:B.length<=8:=by have:=a3.length_le;lia
         have b3:∀x∈D,x∈as:=λx hx=>b1.subset hx;refine⟨lc,C,planK B D,rfl,a2,S,by rw [yY M];lia,λfw c9=>?_⟩;have h5:((planK B D).map (·.1)).Nodup:=by
          rw [yw M];exact uy (c5.sublist a3)
         rw [ux (acc :=[]) (by simpa using h5),List.nil_append];have j7:O J=some (.frz o (.dK (planK bs as))):=Z _ _ (by simp [l2,b0]) g4;have t4:fw≠J:=λz=>by rw [z,j7] at c9;cases c9
         have x3:(upd O fw (.dK (planK B D))) J=some (.frz o (.dK (planK bs as))):=by rw [zD (dF t4)];exact j7
         refine⟨J,o,_,x3,p2,?_⟩;have eX:Ext [t] G2 (upd (upd O fw (.dK (planK B D))) J (.dK (planK bs as))):=λx ob hx hb=>by
          by_cases c:x=J
          ·rw [c] at hb ⊢;rw [zC,<-Y.dict];exact hb
          ·have h1:=g5 _ _ (by simpa using c) hb;have c2:x≠lc:=zF h1 X
           have h2:=Z _ _ (λz=>by
            rcases aV.mp z with z | z
            ·exact c2 z
            ·exact hx z) h1
           rw [zD c,zD (zF h2 c9)];exact h2
         have TX:Tape (upd (upd O fw (.dK (planK B D))) J (.dK (planK bs as))) t k1:=(g6.ext (ts :=[]) (.laid c9) (by simp)).ext (ts :=[J]) (.put (aH.mpr rfl)) (by simpa using dF b0);have t5:PlanAt (upd (upd O fw (.dK (planK B D))) J (.dK (planK bs as))) fw B D (B.map f):=by
          refine⟨by rw [zD t4,zC],b2.mono λx hx o' T=>?_,M,Y.nd.sublist b1,λz=>?_⟩
          ·rw [zD (show x≠J from λz=>Y.nda (z▸b3 x hx)),zD (zF T c9)];exact T
          ·obtain⟨i',b4,b5⟩:=bI z;obtain⟨_,_,h2⟩:=b2.get (i:=i') (a:=fw) (by rw [aD b4,b5]);rw [c9] at h2;cases h2
         generalize upd (upd O fw (.dK (planK B D))) J (.dK (planK bs as))=GX at eX TX t5 ⊢;left;refine⟨t,fw,k1,I.length,B,D,f,rfl,TX,by lia,t5,λz=>U (b3 t z),c5.sublist a3,x2,λb hb=>a9 b (a3.subset hb),λb hb=>c3 b (a3.subset hb),by lia,by lia,λr2 d2 G7 TZ e7 p7 f7=>?_⟩
         with_reducible refine yN ?_
         (try with_reducible refine yH (by assumption) ?_)
         exact hC _ _ ⟨r2,_,_,rfl,⟨d2,p7,f7⟩,e1.trans (c8.trans (eX.trans e7)),TZ,by lia⟩
       ·rw [decide_eq_false hc];refine⟨_,rfl,iteF ?_⟩
        (try with_reducible refine yH (by assumption) ?_)
        exact hC _ _ ⟨r1,_,_,rfl,⟨d1,p1.mono c8.same,f1⟩,e1.trans c8,T2,by lia⟩
     ·rintro k G ⟨oa,ob,oc,od,oe,og,kk,rfl,eG,TG,v6⟩;left;exact⟨_,_,_,_,_,_,_,_,_,_,_,_,_,_,_,rfl,e'.trans ((j9.trans (s3.trans eG)).drop ht)⟩
   refine⟨gr,rfl,?_⟩;cases gr with
   | false=>exact iteF (iteF rest)
   | true =>
    refine iteT ?_;left;refine ite2 (λg=>?_) (λg=>?_)
    ·exact m8
    ·exact rest
  ·rintro k H' ⟨o1,o2,o3,o4,o5,o6,o7,o8,o9,oa,ob,oc,od,oe,og,rfl,e'⟩;left;exact q _
end
theorem qZ3{P:Program}{w:World}{K:PySem.W.Frag}{mg:Str->Option Value}{base h:Heap}{x:Str}{st:Stmt}{k:Nat}{ps:List Str}{sp:Sp}{f:Addr}{j:Value}{m d:Option Addr}{e:Array (Option Value)}{kV doc g b ct:Value}(X:K.In h)(G:h.Ns mainGlobals mg)(a:PySem.W.nsIn K mainGlobals x=some (some (.ref f)))(l:K.lookup f=some ⟨j,m,.func (PySem.W.fnOf x x (xO st) (xH st) (zU st) .none kV doc g d b ct),e⟩)(c:PySem.W.codeIn K b x=true)(i:PySem.W.keepIn K (.ref f)=true)(n:∀(kV doc g:Value) (d:Option Addr) (b ct:Value) (us:List Value),us.length=ps.length->bindArgs (PySem.W.fnOf x x (xO st) (xH st) (zU st) .none kV doc g d b ct) ⟨us,[]⟩=pure (ps.zip us))(ok:∀fd,Fun K x x st f fd->FnOk P w K mg base CX0 k f fd ps sp):Has P w K mg base x k ps sp:=by
 have F:=QK (st:=st) l c i;exact⟨f,_,ok _ F,PySem.W.mg_of X G a,i,F.binds n⟩
theorem bA1{P:List Value->Prop}(h:∀a,P [a])(us:List Value)(l:us.length=1):P us:=by
 obtain _ | ⟨b,us⟩:=us
 ·cases l
 obtain _ | ⟨y,us⟩:=us
 ·exact h _
 ·simp at l
theorem bA2{P:List Value->Prop}(h:∀a b,P [a,b])(us:List Value)(l:us.length=2):P us:=by
 obtain _ | ⟨c,us⟩:=us
 ·cases l
 obtain _ | ⟨d,us⟩:=us
 ·cases l
 obtain _ | ⟨y,us⟩:=us
 ·exact h _ _
 ·simp at l
theorem bA3{P:List Value->Prop}(h:∀a b c,P [a,b,c])(us:List Value)(l:us.length=3):P us:=by
 obtain _ | ⟨d,us⟩:=us
 ·cases l
 obtain _ | ⟨e,us⟩:=us
 ·cases l
 obtain _ | ⟨f,us⟩:=us
 ·cases l
 obtain _ | ⟨y,us⟩:=us
 ·exact h _ _ _
 ·simp at l
theorem bA4{P:List Value->Prop}(h:∀a b c d,P [a,b,c,d])(us:List Value)(l:us.length=4):P us:=by
 obtain _ | ⟨e,us⟩:=us
 ·cases l
 obtain _ | ⟨f,us⟩:=us
 ·cases l
 obtain _ | ⟨g,us⟩:=us
 ·cases l
 obtain _ | ⟨i,us⟩:=us
 ·cases l
 obtain _ | ⟨y,us⟩:=us
 ·exact h _ _ _ _
 ·simp at l
theorem bA5{P:List Value->Prop}(h:∀a b c d e,P [a,b,c,d,e])(us:List Value)(l:us.length=5):P us:=by
 obtain _ | ⟨f,us⟩:=us
 ·cases l
 obtain _ | ⟨g,us⟩:=us
 ·cases l
 obtain _ | ⟨i,us⟩:=us
 ·cases l
 obtain _ | ⟨j,us⟩:=us
 ·cases l
 obtain _ | ⟨k,us⟩:=us
 ·cases l
 obtain _ | ⟨y,us⟩:=us
 ·exact h _ _ _ _ _
 ·simp at l
def HasF(K:PySem.W.Frag)(x:Str)(st:Stmt):Prop := ∃(f:Addr) (oc:Value) (od an:Option Addr) (osl:Array (Option Value)) (kV doc pm cdv ct:Value),PySem.W.nsIn K mainGlobals x=some (some (.ref f))/\K.lookup f=some ⟨oc,od,.func (PySem.W.fnOf x x (xO st) (xH st) (zU st) .none kV doc pm an cdv ct),osl⟩/\PySem.W.codeIn K cdv x=true/\PySem.W.keepIn K (.ref f)=true
theorem hasF{K:PySem.W.Frag}{x:Str}{st:Stmt}{f:Addr}{e:Value}{g h:Option Addr}{d:Array (Option Value)}{kV doc i b ct:Value}(a:PySem.W.nsIn K mainGlobals x=some (some (.ref f)))(l:K.lookup f=some ⟨e,g,.func (PySem.W.fnOf x x (xO st) (xH st) (zU st) .none kV doc i h b ct),d⟩)(c:PySem.W.codeIn K b x=true)(k:PySem.W.keepIn K (.ref f)=true):HasF K x st:=⟨_,_,_,_,_,_,_,_,_,_,a,l,c,k⟩
theorem qZ2{P:Program}{w:World}{K:PySem.W.Frag}{mg:Str->Option Value}{base h:Heap}{x:Str}{st:Stmt}{k:Nat}{ps:List Str}{sp:Sp}(X:K.In h)(G:h.Ns mainGlobals mg)(z:HasF K x st)(ok:∀f fd,Fun K x x st f fd->FnOk P w K mg base CX0 k f fd ps sp)(g:∀(kV doc d:Value) (e:Option Addr) (b ct:Value) (us:List Value),us.length=ps.length->bindArgs (PySem.W.fnOf x x (xO st) (xH st) (zU st) .none kV doc d e b ct) ⟨us,[]⟩=pure (ps.zip us)):Has P w K mg base x k ps sp:=by
 obtain⟨f,m,n,e,i,kV,doc,d,b,ct,a,l,c,j⟩:=z;exact qZ3 X G a l c j g λfd=>ok f fd
theorem qZa{l:PySem.W.OpenLaw}{w:World}{K:PySem.W.Frag}{h:Heap}{mg:Str->Option Value}{fa b7 b8:Addr}(X:K.In h)(G:h.Ns mainGlobals mg)(c3:mg "law" = some (.ref fa))
    (x1:HasF K "_law_tape" sTape) (x2:HasF K "_law_draw" sDraw) (x3:HasF K "_law_nexts" iP) (x4:HasF K "_law_number" iO) (x5:HasF K "_law_deeds" iQ) (x6:HasF K "_law_work" sWork) (x7:HasF K "_law_many" sMany) (x8:HasF K "_law_size" sSize) (x9:HasF K "_law_slim" sSlim) (x10:HasF K "_law_works" iR) (x11:HasF K "led_to" sLed) (x12:HasF K "writes_box" iS) (x13:HasF K "reads_box" iT) (x14:HasF K "till_write" sTill) (x15:HasF K "begins_met" iV) (x16:HasF K "awaiting" iW) (x17:HasF K "_law_reads" iX) (x18:HasF K "_law_is_asked" iZ) (x19:HasF K "nexts_of" sNx) (x20:HasF K "_law_ends" sEnds) (x21:HasF K "writers" ia) (x22:HasF K "_law_writes" ib) (x23:HasF K "awaited" ic) (x24:HasF K "reached" ie) (x25:HasF K "_law_behind" ig) (x26:HasF K "busy" sBusy) (x27:HasF K "_law_busy" ii) (x28:HasF K "_law_boxes" ij) (x29:HasF K "boxes_in" ik) (x30:HasF K "is_number" il) (x31:HasF K "is_number_from" im) (x32:HasF K "is_inside" io) (x33:HasF K "is_plan" ip) (x34:HasF K "_law_plan" iu) (x35:HasF K "_law_whole" iq) (x36:HasF K "_law_is_plan" ir) (x37:HasF K "_law_bent" iw) (x38:HasF K "law" sLaw)
  (u0:PySem.W.nsIn K mainGlobals "WRITING" = some (some (.ref b7))) (v0:Writing K b7)
  (u1:PySem.W.nsIn K mainGlobals "READING" = some (some (.ref b8))) (v1:qTj K b8)
  (z1:PySem.W.nsIn K mainGlobals "range" = some none) (z2:PySem.W.nsIn K mainGlobals "len" = some none) (z3:PySem.W.nsIn K mainGlobals "abs" = some none) (z4:PySem.W.nsIn K mainGlobals "int" = some none) (z5:PySem.W.nsIn K mainGlobals "max" = some none) (z6:PySem.W.nsIn K mainGlobals "min" = some none) (z7:PySem.W.nsIn K mainGlobals "list" = some none) (z8:PySem.W.nsIn K mainGlobals "repr" = some none) (z9:PySem.W.nsIn K mainGlobals "enumerate" = some none) (z10:PySem.W.nsIn K mainGlobals "any" = some none) (z11:PySem.W.nsIn K mainGlobals "sum" = some none) (z12:PySem.W.nsIn K mainGlobals "sorted" = some none) (z13:PySem.W.nsIn K mainGlobals "set" = some none) (z14:PySem.W.nsIn K mainGlobals "isinstance" = some none) (z15:PySem.W.nsIn K mainGlobals "bool" = some none) (z16:PySem.W.nsIn K mainGlobals "dict" = some none) (z17:PySem.W.nsIn K mainGlobals "all" = some none) (z18:PySem.W.nsIn K mainGlobals "tuple" = some none) :
  ∃fd:FuncData,(∀(s:Shared) (v:Value),BindsTo s fd ⟨[v],[]⟩ [("_law_script",v)]) /\ ∀base:Heap,K.In base->base.Ns mainGlobals mg->FnOk l.prog w K mg base CX0 9 fa fd ["_law_script"] (kC K):=by
 obtain⟨f,oc,od,an,c6,kV,doc,pm,c4,ct,a,lk,c,kk⟩:=x38;have e:=c3.symm.trans (PySem.W.mg_of X G a);cases e;have g:=bS X G z1;have o:=bS X G z2;have b9:=bS X G z3;have t:=bS X G z4;have a7:=bS X G z5;have c0:=bS X G z6;have j:=bS X G z7;have a8:=bS X G z8;have i:=bS X G z9;have P:=bS X G z10;have c1:=bS X G z11;have b:=bS X G z12;have y:=bS X G z13;have d:=bS X G z14;have H:=bS X G z15;have A:=bS X G z16
 have T:=bS X G z17;have Z:=bS X G z18;have c2:=PySem.W.mg_of X G u0;have c5:=PySem.W.mg_of X G u1;have FL:=QK (st:=sLaw) lk c kk;refine⟨PySem.W.fnOf "law" "law" (xO sLaw) (xH sLaw) (zU sLaw) .none kV doc pm an c4 ct,λs v =>.of_eq rfl,λbase _ _=>?_⟩;have M {x:Str} {st:Stmt} {k:Nat} {ps:List Str} {sp:Sp} :=@qZ2 l.prog w K mg base h x st k ps sp X G;have a9:=M x1 (λ_ _ F=>qX6 F o b9 t) λ_ _ _ _ _ _=>bA2 λ_ _=>rfl;have m:=M x2 (λ_ _ F=>qXc F) λ_ _ _ _ _ _=>bA2 λ_ _=>rfl;have a0:=M x3 (λ_ _ F=>qUg F g a7 m) λ_ _ _ _ _ _=>bA2 λ_ _=>rfl;have U:=M x4 (λ_ _ F=>qRr F m) λ_ _ _ _ _ _=>bA1 λ_=>rfl;have a1:=M x5 (λ_ _ F=>qUk F g t o m U) λ_ _ _ _ _ _=>bA5 λ_ _ _ _ _=>rfl
 have b0:=M x6 (λ_ _ F=>qX4 F g j o m a0 a1) λ_ _ _ _ _ _=>bA5 λ_ _ _ _ _=>rfl;have b1:=M x7 (λ_ _ F=>qX9 F t m) λ_ _ _ _ _ _=>bA1 λ_=>rfl;have V:=M x8 (λ_ _ F=>qX8 F c1 o) λ_ _ _ _ _ _=>bA1 λ_=>rfl;have b2:=M x9 (λ_ _ F=>qX7 F V) λ_ _ _ _ _ _=>bA1 λ_=>rfl;have a2:=M x10 (λ_ _ F=>qUd F g t m b1 b0 b2) λ_ _ _ _ _ _=>bA2 λ_ _=>rfl;have C:=M x11 (λ_ _ F=>qXa F j) λ_ _ _ _ _ _=>bA2 λ_ _=>rfl;have n:=M x12 (λ_ _ F=>qRq F c2 v0) λ_ _ _ _ _ _=>bA2 λ_ _=>rfl;have D:=M x13 (λ_ _ F=>qUf F c5 v1) λ_ _ _ _ _ _=>bA2 λ_ _=>rfl;have p:=M x14 (λ_ _ F=>qX5 F i j n) λ_ _ _ _ _ _=>bA2 λ_ _=>rfl
 have B:=M x15 (λ_ _ F=>qS0 F P p n) λ_ _ _ _ _ _=>bA4 λ_ _ _ _=>rfl;have I:=M x16 (λ_ _ F=>qUn F i P p D B C) λ_ _ _ _ _ _=>bA2 λ_ _=>rfl;have a3:=M x17 (λ_ _ F=>qRs F) λ_ _ _ _ _ _=>bA2 λ_ _=>rfl;have J:=M x18 (λ_ _ F=>qOx F a3) λ_ _ _ _ _ _=>bA4 λ_ _ _ _=>rfl;have L:=M x19 (λ_ _ F=>qZu F j i) λ_ _ _ _ _ _=>bA1 λ_=>rfl;have b3:=M x20 (λ_ _ F=>qXb F j) λ_ _ _ _ _ _=>bA1 λ_=>rfl;have z:=M x21 (λ_ _ F=>qOt F i P n) λ_ _ _ _ _ _=>bA2 λ_ _=>rfl;have u:=M x22 (λ_ _ F=>qOv F g o P) λ_ _ _ _ _ _=>bA2 λ_ _=>rfl;have Q:=M x23 (λ_ _ F=>qOy F g o I) λ_ _ _ _ _ _=>bA3 λ_ _ _=>rfl
 have R:=M x24 (λ_ _ F=>qOu F b L z C) λ_ _ _ _ _ _=>bA3 λ_ _ _=>rfl;have Y:=M x25 (λ_ _ F=>qRz F g o j y b b3 u) λ_ _ _ _ _ _=>bA2 λ_ _=>rfl;have b4:=M x26 (λ_ _ F=>qXd F b y Q R z) λ_ _ _ _ _ _=>bA3 λ_ _ _=>rfl;have a4:=M x27 (λ_ _ F=>qUi F b y Y J u) λ_ _ _ _ _ _=>bA3 λ_ _ _=>rfl;have a5:=M x28 (λ_ _ F=>qRv F g u) λ_ _ _ _ _ _=>bA1 λ_=>rfl;have N:=M x29 (λ_ _ F=>qUl F b c2 v0) λ_ _ _ _ _ _=>bA1 λ_=>rfl;have r:=M x30 (λ_ _ F=>qUj F d t H) λ_ _ _ _ _ _=>bA1 λ_=>rfl;have q:=M x31 (λ_ _ F=>qRx F r) λ_ _ _ _ _ _=>bA3 λ_ _ _=>rfl
 have E:=M x32 (λ_ _ F=>qRy F o d j T y b q b4) λ_ _ _ _ _ _=>bA4 λ_ _ _ _=>rfl;have S:=M x33 (λ_ _ F=>qRw F d A T b r N E) λ_ _ _ _ _ _=>bA3 λ_ _ _=>rfl;have b5:=M x34 (λ_ _ F=>qUh F g o y b m) λ_ _ _ _ _ _=>bA3 λ_ _ _=>rfl;have a6:=M x35 (λ_ _ F=>qUe F d t H) λ_ _ _ _ _ _=>bA1 λ_=>rfl;have O:=M x36 (λ_ _ F=>qOw F d A j y T b a6) λ_ _ _ _ _ _=>bA3 λ_ _ _=>rfl;have b6:=M x37 (λ_ _ F=>qUm F o j Z A b m) λ_ _ _ _ _ _=>bA3 λ_ _ _=>rfl;exact qYz FL g o a7 c0 a8 t d H b A a9 m a2 V a4 a5 b5 S b6 O
theorem walk{l:PySem.W.OpenLaw}{q:Program}{b:List Str}{i:(Str->Option Value)->Heap->Prop}{e:World->Heap->Prop}{d:DefRec}{K:Params->PySem.W.Frag}(j:l.most=some 63)(c:d.params.defaults = [])(m:∀(w:World) (h:Heap),e w h->(K w.params).In h)(F:∀(w:World) (mg:Str->Option Value) (g:Addr) (h:Heap),(K w.params).In h->h.Ns mainGlobals mg->mg d.name=some (.ref g) ->
   ∃fd:FuncData,(∀(s:Shared) (u:Value),BindsTo s fd ⟨[u],[]⟩ [("_law_script",u)]) /\ ∀base:Heap,(K w.params).In base->base.Ns mainGlobals mg->FnOk l.prog w (K w.params) mg base CX0 9 g fd ["_law_script"] (kC (K w.params))) :
  PySem.W.WalkO q b i e l.row.toRowW d [] (λf vs=>PySem.call f vs) :=
 L2.qW6 (n:=63) (k:=9) (x := "_law_script") (CX:=λ_=>CX0) (sp:=λw=>kC (K w.params)) j (by decide) c ⟨rfl,by decide,by decide,rfl⟩ m F (λ_ _ a o p _ r=>⟨a,o,rfl,r,p,λ_=>rfl⟩) λ_ _ _ _ _ z=>z
end Fs
open PySem PySem.W PyProof.Rows
namespace PySem.W.Fast
def tw12226444123173962491:=0
def tw3413164911474477032:=0
def tw4042453005534479994:=0
def tw2259440233316789267:=0
def tw2215141774423051186:=0
def tw4928023443116869699:=0
def tw13756692295668445378:=0
def tw98004821780289121:=0
def tw2483928966519229138:=0
def tw14070530861217292513:=0
def tw2707168089778980766:=0
def tw1524824167984491702:=0
def tw4739904767852131686:=0
def tw11103638211311587203:=0
def tw17064077208954793139:=0
def tw16257758641778898079:=0
def tw15058891380214901635:=0
def tw15795715375291427060:=0
def tw70634354208371254:=0
def tw17382172641615771328:=0
def tw15747861823788278163:=0
def tw5072459413510030637:=0
def tw5375523341742875228:=0
def tw16812803634330032936:=0
def tw14343160569081345160:=0
def tw1903016177006797433:=0
def tw18384046301588438642:=0
def tw12791681652665707487:=0
def tw5565426004168680384:=0
def tw4888366695658526342:=0
def tw12488897507317258803:=0
def tw5023245343280797054:=0
def tw18033912552623944646:=0
def tw1808533978461737752:=0
def tw15361713275215837484:=0
def tw8966374931075914822:=0
def tw9899018052395594026:=0
def tw15704773879229905299:=0
def tw13705501474246464622:=0
def tw5415273089275468467:=0
def tw12887318912033000392:=0
def tw9706461904287103598:=0
def tw5216819808041441717:=0
def tw10042258284559270117:=0
def tw14598218328332877994:=0
def tw11235663077287441369:=0
def tw15761807030029623422:=0
def tw6506035405750560036:=0
def tw9135174631955017947:=0
def tw2156481393686067392:=0
def tw700848839721531536:=0
def tw1903605578775045429:=0
def tw15199911795370714290:=0
def tw16929007214648052297:=0
def tw5876131514366314072:=0
def tw7087647962317372086:=0
def tw14094666475305163454:=0
def tw4211184736193106315:=0
def tw17275327166104558180:=0
def tw3140533331267568459:=0
def tw4449065224000550700:=0
def tw9429865330747295985:=0
def tw10306361032512710287:=0
def tw16431595929266313147:=0
def tw17541014024970495187:=0
def tw17730489745986602830:=0
def tw16570277797540206574:=0
def tw3872580282512526123:=0
def tw13033125262533266021:=0
def tw2051963417065253659:=0
def tw1367710681224009776:=0
def tw4504969082285602324:=0
def tw15701756302521495992:=0
def tw2532330477397870156:=0
def tw16305238551101159114:=0
def tw3468188593448547049:=0
def tw7005259528157878393:=0
def tw16587322766230386286:=0
def tw14443375832173752501:=0
def tw7459586659042907123:=0
def tw14581728463656168481:=0
def tw644102182733938635:=0
def tw4032278295618254248:=0
def tw6642710431985358383:=0
def tw14035009189974727697:=0
def tw5778847055828379685:=0
def tw15223595427176364640:=0
def tw7412551229733173824:=0
def tw7618310946653156497:=0
def tw11208412406008921227:=0
def tw17496738278202856466:=0
def tw7695964297370694469:=0
def tw8602601010287613873:=0
def tw7916400357845885313:=0
def tw15858412153390745356:=0
def tw9147638021647485202:=0
def tw12195195552622014:=0
def tw3434100803062630723:=0
def tw2307011555475125815:=0
def tw212448158678501910:=0
def tw7228826591699040051:=0
def tw10319470700708268533:=0
def tw6732257231164834061:=0
def tw208849528967227254:=0
def tw17091242242146757190:=0
def tw8575223710367467118:=0
def tw16971959408827405178:=0
def tw10175854958430703906:=0
def tw17718250225126766656:=0
def tw7986394855110425424:=0
def tw10335880182220854466:=0
def tw180807008448051489:=0
def tw14647202487595440998:=0
def tw5224416447975855035:=0
def tw6820799052731751973:=0
def tw7067891731441850809:=0
def tw376740143168899149:=0
def tw17070347301307100639:=0
def tw3337718279118668771:=0
def tw6596658088079385180:=0
def tw14670766746764359041:=0
def tw13801621022057489256:=0
def tw3481100396897338689:=0
def tw6564499369314313538:=0
def tw17898310801574456980:=0
def tw1067598013038875621:=0
def tw12373152392187109991:=0
def tw5593237915671897874:=0
def tw17873282869095938959:=0
def tw8339771408302970283:=0
def tw13472698087332589726:=0
def tw2741250993525739369:=0
def tw9565963170320873242:=0
def tw201598672900423532:=0
def tw7658769516270912281:=0
def tw8885401328812197630:=0
def tw1886038565493111168:=0
def tw14346749971518882989:=0
def tw175172505502967423:=0
def tw8022829589513337791:=0
def tw12811043893421282539:=0
def tw8592446872596344485:=0
def tw12870200048603310752:=0
def tw7772180659514026506:=0
def tw10022609399452289388:=0
def tw14680664588650360546:=0
def tw489140808974373602:=0
def tw11487651585964704560:=0
def tw6012198127089593151:=0
def tw4704144698764248594:=0
def tw13319219609015693735:=0
def tw9033779147695003926:=0
def tw12233059546267005175:=0
def tw11392002342492017421:=0
def tw5853728826245494436:=0
def tw12790067939785167847:=0
def tw4802553887586932545:=0
def tw17044713811178857958:=0
def tw336138322605580274:=0
def tw2195183646389636977:=0
def tw444271370078674802:=0
def tw10468310302007783327:=0
def tw4743762302086476919:=0
def tw18126127989968933627:=0
def tw15724286017882176659:=0
def tw12257070083611684660:=0
def tw16176379088826794401:=0
def tw8095145876014003402:=0
def tw5123488111946890394:=0
def tw16490477513410577301:=0
def tw12455877326379863148:=0
def tw6169992813065048764:=0
def tw2478269286044947138:=0
def tw6717515637934418042:=0
def tw6823524982082126986:=0
def tw12678541454293686284:=0
def tw6752617005411548613:=0
def tw4293631697983249023:=0
def tw2908911791442240888:=0
def tw14357146506081546657:=0
def tw10912830549923124459:=0
def tw13080198402176020509:=0
def tw8742762482901681788:=0
def tw6838030300994118293:=0
def tw16465505929691028362:=0
def tw6513410865053411396:=0
def tw14451973696933770437:=0
def tw12305847455581638910:=0
def tw9351137317834612708:=0
def tw4549879905490430140:=0
def tw17185550852269472415:=0
def tw10966834248048047485:=0
def tw644505473456019475:=0
def tw13297655852569400187:=0
def tw4229064800977515174:=0
def tw12831162351343939443:=0
def tw17840839818800242639:=0
def tw16152561028939851750:=0
def tw15674544651010184859:=0
def tw4445681332336609013:=0
def tw662079106012860916:=0
def tw13620179886958108787:=0
def tw8665603231043918698:=0
def tw11899245133544773218:=0
def tw3662080925141123136:=0
def tw17472376655007043524:=0
end PySem.W.Fast
set_option maxRecDepth 100000 in
set_option maxHeartbeats 0 in
theorem PySem.Challenge.cw_fewsaves_k20_plans_or_not_holds : PySem.Challenge.rw_fewsaves_k20_plans_or_not.Holds := by
 w_on;o_law;k_head;(case hw=>w_witness2)
 k_fill
 refine Fs.walk (l:=PySem.Challenge.rw_fewsaves_k20_plans_or_not) rfl rfl (λw h Y=>PySem.W.kIn_of Y) ?F
 case F =>
  intro w mg fa h KX G hmg
  refine' Fs.qZa KX G hmg ?x1 ?x2 ?x3 ?x4 ?x5 ?x6 ?x7 ?x8 ?x9 ?x10 ?x11 ?x12 ?x13 ?x14 ?x15 ?x16 ?x17 ?x18 ?x19 ?x20 ?x21 ?x22 ?x23 ?x24 ?x25 ?x26 ?x27 ?x28 ?x29 ?x30 ?x31 ?x32 ?x33 ?x34 ?x35 ?x36 ?x37 ?x38 ?u0 ?v0 ?u1 ?v1 ?z1 ?z2 ?z3 ?z4 ?z5 ?z6 ?z7 ?z8 ?z9 ?z10 ?z11 ?z12 ?z13 ?z14 ?z15 ?z16 ?z17 ?z18
  all_goals try (refine' Fs.hasF ?a ?l ?c ?k;(case a=>k_is);(case l=>k_is);(case c=>k_is);(case k=>k_is))
  (case u0=>k_is)
  (case v0=>exact⟨_,_,_,by k_is,rfl,rfl,by decide,.cons ⟨_,rfl⟩ (.cons ⟨_,rfl⟩ .nil)⟩)
  (case u1=>k_is)
  (case v1=>exact⟨_,_,_,by k_is,rfl,rfl,by decide,.cons ⟨_,rfl⟩ (.cons ⟨_,rfl⟩ .nil)⟩)
  all_goals k_is
