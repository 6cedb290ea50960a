import PyProof.Rows.All
import Wide.All
import OpenK.AllK
import Wide.FinOn
import Lean
import PyProof.EqAt
import PyProof.EqKinds
import PyProof.TupleCall
import PySem.Challenge.RW_fewsaves_k61_whole_saves_and_backs_by_tu
import PyProof.CollectWalk
import PyProof.DictItems
import KE.KItemsList
import KE.KSortKey
import KE.KLam
import PyProof.ZipIter
import PyProof.Rows.ZipGen
import KE.KDictOf
import PyProof.FactsAll.zip_1
import PyProof.TupleOfSeq
import PyProof.StrCalls2
import PyProof.StrBlockH
import PyProof.CallStr
import PyProof.FitsReplace
import PyProof.StrWalks
import KE.KIntText
import KE.KTabLook
import KE.KUnpackStar
import PyProof.WalksMore
import PyProof.FactsAll.subtypes_4
import PyProof.SetRoads
import PyProof.TupleIter
import KE.KFind
set_option Elab.async false
set_option linter.all false
set_option maxRecDepth 100000
set_option compiler.extract_closed false
set_option genInjectivity false
set_option genSizeOfSpec false
section
local macro_rules|`(tactic|let $c:letConfig $d:letDecl)=>`(tactic|have $c:letConfig $d:letDecl)
local macro_rules|`(tactic|let ⟨$p,*⟩:=$v)=>do let q<-p.getElems.mapM fun x=>if x.raw.isIdent then `(Lean.Parser.Tactic.rcasesPatLo|$(⟨x.raw⟩):ident) else `(Lean.Parser.Tactic.rcasesPatLo|_);`(tactic|obtain ⟨$q,*⟩:=$v)
local macro_rules|`(∎)=>`(by lia)
local macro_rules|`(∅)=>`(by simp)
local macro_rules|`(⋯)=>`(by decide)
local macro_rules|`(tactic|room)=>`(tactic|walk_at "rf")
local macro_rules|`(tactic|fin2)=>`(tactic|walk_at "re")
local macro_rules|`(tactic|w_up)=>`(tactic|walk_at "rg")
local macro_rules|`(tactic|z_go)=>`(tactic|walk_at "rh")
local macro_rules|`(tactic|x_go)=>`(tactic|walk_at "rd")
open PySem renaming wpAny_bind->aA,wpAny_pure->aD,wpAny_holding->bM,boot_len->cA,wpAny_call_entry->cH,wpAny_newObj_type->cN,wpAny_mono->cX,wpAny_rule->cY,wpAny_setState_of->dA,wpAny_standAt->dI,tupleKind_room_in1->dL,wpAny_askSetting->eV,mem_of_lookup->eY,wpAny_typeNameOfWhole_keyiter->fH,wpAny_callSpecial?_slot->fI,wpAny_newList->fJ,wpAny_setField->fN,codeAny_builtin->fR,sizeLine_eq->gH,wpAny_truthy_bool->gM,wpAny_passesOwn->gN,fits_of_scanBound->gU,wpAny_typeNameOf_keyiter->gV,codeAny_mono->hJ,wpAny_fieldsOf->iI,wpAny_eqBool_int->iJ
open List renaming length_map->aB,getElem?_eq_getElem->aC,mem_singleton->aF,length_append->aG,getElem?_eq_some_iff->aI,mem_append->aJ,mem_cons->aL,mem_of_getElem?->aN,map_append->aP,size_toArray->aR,mem_cons_of_mem->aS,getElem?_map->aU,mem_cons_self->aV,mem_map->aY,length_take->bD,map_cons->bE,getD_eq_getElem?_getD->bF,mem_append_left->bI,getElem_of_mem->bJ,pairwise_iff_getElem->bL,mem_range->bN,length_range->bQ,pairwise_append->bR,mem_filter->bT,mem_filterMap->bU,take_length->bX,length_cons->cB,mem_flatMap->cC,append_nil->cE,mem_append_right->cF,nodup_append->cG,not_mem_nil->cI,nodup_cons->cK,take_of_length_le->cM,flatMap_cons->cO,length_singleton->cQ,length_filter_le->cR,map_map->cU,getElem?_append_right->cZ,append_assoc->dB,filterMap_cons->dE,getElem?_eq_none->dF,pairwise_map->dJ,length_eq_one_iff->dN,getElem?_append_left->dO,getElem_mem->dQ,any_eq_true->dR,take_append_drop->dY,pairwise_cons->eN,filter_append->eQ,length_range'->eR,take_add_one->fB,pairwise_lt_range->fT,drop_of_length_le->fU,length_drop->fW,zip_cons_cons->gE,length_mapIdx->gF,getElem?_zip_eq_some->gK,length_zip->gR,nodup_nil->gY,find?_cons->hU,idxOf_lt_length_of_mem->iC,getElem?_eq_none_iff->iH,lookup_cons->iK,flatMap_nil->iM,toList_toArray->iQ,map_congr_left->iR
open PySem.Heap renaming get?_push_of_some->aE,lt_size->aT,get?_push_size->aW,get?_update_other->bO,get?_update_self->cW,get?_push_ne->fA,size_push->fE,get?_update_ne->fQ,size_update->fY
open Nat renaming le_refl->aH,zero_le->aX,ne_of_lt->aZ,lt_of_lt_of_le->bK,le_of_lt->bS,le_trans->cD,le_succ->cT,lt_succ_of_lt->dS,lt_irrefl->eK,zero_add->eW,ne_of_gt->fM,not_lt_zero->fS,lt_succ_self->fX,le_add_right->fZ,lt_of_le_of_lt->gB,add_zero->gC
open Bool renaming false_ne_true->aK,and_eq_true->bP,false_eq_true->bV,eq_iff_iff->gO
open Array renaming length_toList->aM,getElem?_toList->bA,getElem?_eq_getElem->bC,map_push->bH,getD_eq_getD_getElem?->cL,getElem_toList->dC,toList_append->dH,toList_push->dX,map_extract->dZ,getElem_extract->eD,map_append->eX,getElem_mem->fD,size_extract->fF,toList_map->fG,mem_def->fL,size_map->fO,getElem?_eq_some_iff->fV,toList_extract->gL,getElem?_setIfInBounds_self_of_lt->iB,toList_reverse->iG
open PySem.W renaming kasC_bind->aO,kasC_pure->aQ,mg_none_of->cJ,kasC_modify->gJ,kat_item->gX,kasC_get->iL,kasC_range->iU
open Option.some renaming inj->bB
open PySem.F renaming plainAttrs_list->bG,slot_list_append->bY,type_list_append->bZ,slot_dict_keyiterator_next->eJ,slot_dict_get->gA,plainAttrs_dict->gW,called_set->iA,slot_list_pop->iE,type_list_pop->iF,slot_list_getattribute->iS,slot_dict_update->iT,slot_list_extend->iV,type_list_extend->iW
open PySem.Heap.SameBut renaming update->bW
open Ne renaming symm->cP
open PySem.PassesOwn renaming never->cS
open Int renaming toNat_natCast->cV,eq_ofNat_of_zero_le->eM,emod_lt_of_pos->gG,emod_nonneg->iD,toNat_of_nonneg->iP
open PySem.Paired renaming length->dD,snoc->iN
open List.Nodup renaming length_le_of_subset->dM
open PyProof.Rows renaming get?_update_seq->dP,boot_int->eE,boot_sorted->eI,listUpdate_at->fK,callWith_type1->fP,slot_tuple_getitem->gQ,seqEpoch_at->iO
open PySem.Around renaming under_plainId->eU
open PySem.Calls renaming call_function_entry->gI,callWith_builtin->gZ
open Option renaming isSome_iff_exists->gP
open PySem.SetTable renaming toList_insertAt->gT
open List.Perm renaming append_left->hZ
noncomputable section
namespace L2
open PySem PySem.Spec PyProof.Rows
abbrev Key:=Sum Int Str
noncomputable def keyIs:Key->Value->Bool
 | .inl k,v=>Value.isInt k v
 | .inr x,v=>Value.isStrOf x v
noncomputable def keyH(w:World):Key->Int
 | .inl k=>hashInt k
 | .inr x=>hashStr w x
theorem yw:∀ {k:Key} {v:Value},keyIs k v=true->(∃i t,k=Sum.inl i/\v=Value.int i t)\/(∃x t,k=Sum.inr x/\v=Value.str x t)
 | .inl i,v,h=>by
  let⟨t,e⟩:=Value.isInt_shape (k:=i) (v:=v) h;exact .inl ⟨i,t,rfl,e⟩
 | .inr x,v,h=>by
  let⟨t,e⟩:=Value.isStrOf_shape (x:=x) (v:=v) h;exact .inr ⟨x,t,rfl,e⟩
theorem qRj(i:Int)(t:Tok):keyIs (.inl i) (.int i t)=true:=by simp [keyIs,Value.isInt]
theorem qRi(x:Str)(t:Tok):keyIs (.inr x) (.str x t)=true:=by simp [keyIs,Value.isStrOf]
theorem wA8(a b:Int):decide ((Sum.inl a:Key)=Sum.inl b)=(a == b):=by
 by_cases e:a=b
 .subst e;simp
 .let h : ¬(Sum.inl a:Key)=Sum.inl b:=λq=>e (Sum.inl.inj q);rw [decide_eq_false h];exact (beq_eq_false_iff_ne.mpr e).symm
theorem wA5(a b:Str):decide ((Sum.inr a:Key)=Sum.inr b)=decide (a=b):=by
 by_cases e:a=b
 .subst e;simp
 .let h : ¬(Sum.inr a:Key)=Sum.inr b:=λq=>e (Sum.inr.inj q);rw [decide_eq_false h,decide_eq_false e]
theorem wA7(a:Int)(b:Str):decide ((Sum.inl a:Key)=Sum.inr b)=false:=decide_eq_false (λq=>nomatch q)
theorem wA6(a:Str)(b:Int):decide ((Sum.inr a:Key)=Sum.inl b)=false:=decide_eq_false (λq=>nomatch q)
noncomputable def zY(prog:Program)(w:World):PySem.KeyKind prog w Key where
 is:=keyIs
 hash:=keyH w
 inj:=λv a b ha hb=>by
  rcases yw ha with ⟨i,t,rfl,rfl⟩ | ⟨x,t,rfl,rfl⟩
  .rcases yw hb with ⟨j,u,rfl,e⟩ | ⟨y,u,rfl,e⟩
   .injection e with e1 _;rw [e1]
   .exact nomatch e
  .rcases yw hb with ⟨j,u,rfl,e⟩ | ⟨y,u,rfl,e⟩
   .exact nomatch e
   .injection e with e1 _;rw [e1]
 byValue:=λk v h=>by
  rcases yw h with ⟨i,t,rfl,rfl⟩ | ⟨x,t,rfl,rfl⟩ <;> rfl
 pyHash:=λhv h=>by
  rcases yw hv with ⟨i,t,rfl,rfl⟩ | ⟨x,t,rfl,rfl⟩
  .exact wpAny_pyHash_int h
  .exact wpAny_pyHash_str h
 eqBool:=λhu hv h=>by
  rcases yw hu with ⟨i,t,rfl,rfl⟩ | ⟨x,t,rfl,rfl⟩
  .rcases yw hv with ⟨j,u,rfl,rfl⟩ | ⟨y,u,rfl,rfl⟩
   .rw [wA8] at h;exact iJ h
   .rw [wA7] at h;exact SeqAt.EqAt.int_str i t y u _ _ _ _ h
  .rcases yw hv with ⟨j,u,rfl,rfl⟩ | ⟨y,u,rfl,rfl⟩
   .rw [wA6] at h;exact SeqAt.EqAt.str_int x t j u _ _ _ _ h
   .rw [wA5] at h;exact wpAny_eqBool_str h
 «strs» :=λk x t v h=>by
  rcases yw h with ⟨i,u,rfl,e⟩ | ⟨y,u,rfl,e⟩
  .exact nomatch e
  .injection e with e1 _
   subst e1;cases v <;> rfl
theorem uc(prog:Program)(w:World)(i:Int)(t:Tok):(zY prog w).is (.inl i) (.int i t)=true:=qRj i t
theorem qLo(prog:Program)(w:World)(x:Str)(t:Tok):(zY prog w).is (.inr x) (.str x t)=true:=qRi x t
set_option genInjectivity true in
inductive V where
 | non | bl (b:Bool) | int (i:Int) | str (x:Str) | byt (b:Array UInt8) | flt (b:UInt64) | ref (a:Addr) | ty (n:String)
 deriving DecidableEq
def RelV:V->Value->Prop
 | .non,u=>u=Value.none
 | .bl b,u=>u=Value.bool b
 | .int i,u => ∃t,u=Value.int i t
 | .str x,u => ∃t,u=Value.str x t
 | .byt b,u => ∃t,u=Value.bytes b t
 | .flt b,u => ∃t,u=Value.float b t
 | .ref a,u=>u=Value.ref a
 | .ty n,u=>u=Value.type n
abbrev Vals:List V->List Value->Prop:=Paired RelV
theorem Vals.length(r:Vals xs us):xs.length=us.length:=dD r
theorem Vals.get:∀ {xs:List V} {us:List Value} {i:Nat} {x:V},Vals xs us->xs[i]? = some x -> ∃u,us[i]? = some u/\RelV x u
 | _,_,_,_,.nil,e=>by simp at e
 | _,_,0,_,.cons r _,e=>by simp at e;subst e;exact⟨_,rfl,r⟩
 | _,_,i+1,x,.cons _ t,e=>by
  let⟨u,a,b⟩:=Vals.get (i:=i) (x:=x) t (by simpa using e);exact⟨u,by simpa using a,b⟩
theorem Vals.set(r:RelV x u):∀ {xs:List V} {us:List Value} (i:Nat),Vals xs us->Vals (xs.set i x) (us.set i u)
 | _,_,_,.nil =>.nil
 | _,_,0,.cons _ t =>.cons r t
 | _,_,i+1,.cons q t =>.cons q (Vals.set r i t)
theorem Vals.append(h:Vals xs us)(s:Vals ys ws):Vals (xs++ys) (us++ws):=by
 induction h with
 | nil=>exact s
 | cons r _ a=>exact .cons r a
theorem Vals.take:∀ {xs:List V} {us:List Value} (n:Nat),Vals xs us->Vals (xs.take n) (us.take n)
 | _,_,0,_ =>.nil
 | _,_,_+1,.nil =>.nil
 | _,_,n+1,.cons r t =>.cons r (Vals.take n t)
theorem Vals.drop:∀ {xs:List V} {us:List Value} (n:Nat),Vals xs us->Vals (xs.drop n) (us.drop n)
 | _,_,0,r=>r
 | _,_,_+1,.nil =>.nil
 | _,_,n+1,.cons _ t=>Vals.drop n t
theorem Vals.none_of:∀ {xs:List V} {us:List Value} {i:Nat},Vals xs us->xs[i]? = none->us[i]? = none:=λ{xs us i} r e=>by
 let a:=r.length;let b:xs.length<=i:=iH.mp e;exact iH.mpr ∎
def RelO:Option V->Option Value->Prop
 | some v,some u=>RelV v u
 | none,none=>True
 | _,_=>False
def KV{κ : Type}:List (κ × V)->List (κ × Value)->Prop:=Paired λ(p : κ × V) (q : κ × Value)=>p.1=q.1/\RelV p.2 q.2
noncomputable def kV:Key->V
 | .inl i =>.int i
 | .inr x =>.str x
inductive HO where
 | lst (xs:List V)
 | tup (xs:List V)
 | dK (kvs:List (Key×V)) | dT (kvs:List (List Key×V))
 | set (S:Int->Bool) (n:Nat)
 | ins (C dx:Addr) (fs:List (Str×V))
 | own (x:Addr)
 | xd (fs:List (Str×V))
 | met (f x:Addr)
 | rng (lo hi:Int)
 | frz (o:Obj) (u:HO)
 | tbl (ps:Array Value)
 | ext (φ : Addr->Heap->Prop)
abbrev Hp:=Addr->Option HO
noncomputable def upd(H:Hp)(a:Addr)(o:HO):Hp:=λb=>if b=a then some o else H b
theorem zC:upd H a o a=some o:=by unfold upd;rw [if_pos rfl]
theorem zD(h:b≠a):upd H a o b=H b:=by unfold upd;rw [if_neg h]
theorem oD:upd (upd H a o) a u=upd H a u:=by
 funext b;unfold upd;split <;> rfl
theorem xv{H:Hp}(h:H a=some o)(h':H b=some u)(d:o≠u):a≠b:=by
 intro e;subst e;rw [h] at h';exact d (bB h')
theorem zF{H:Hp}(h:H a=some o)(h':H b=none):a≠b:=by
 intro e;subst e;rw [h] at h';cases h'
section
variable(P:Program)(w:World)
def ObjOk(H:Hp)(h:Heap)(a:Addr):HO->Prop
 | .lst xs=>xs.length<=sizeLine /\ ∃(its:List Value) (n:Nat),Vals xs its/\h.get? a=some { cls :=.type "list",data :=.seq its.toArray n }
 | .tup xs=>xs.length<=sizeLine /\ ∃its:List Value,Vals xs its/\IsTup h a its.toArray
 | .dK kvs=>kvs.length<=sizeLine/\(a == sysModules)=false /\ ∃vs,KV kvs vs/\h.DictOf (zY P w) a vs
 | .dT kvs=>kvs.length<=sizeLine/\(a == sysModules)=false /\ ∃xs:List (List Key×Addr×Value),
   Paired (λ(p:List Key×V) (q:List Key×Addr×Value)=>p.1=q.1/\H q.2.1=some (.tup (p.1.map kV))/\RelV p.2 q.2.2) kvs xs /\
   ∃o es ep,h.get? a=some o/\o.ExactDict/\o.data = .dict es ep/\es.toList=xs.map (entryOfKey (tupleKind (zY P w)))/\(xs.map (·.1)).Nodup
 | .set S n=>h.SetOf (intKind P w) a S n
 | .ins C dx fs=>H dx=some (.own a)/\fs.length<=1000/\dx≠a/\h.get? a=some (PySem.W.instObj C dx) /\
   ∃mA,h.Ns1 dx mA/\(∀f,RelO (fs.lookup f) (mA f))/\PySem.Within mA (fs.map (·.1))
 | .own _ => ∃o,h.get? a=some o
 | .xd fs => ∃mA,h.Ns1 a mA /\ ∀f,RelO (fs.lookup f) (mA f)
 | .rng lo hi => ∃t u v,h.get? a=some { cls :=.type "range",data :=.fields #[.int lo t,.int hi u,.int 1 v] }
 | .frz o u=>h.get? a=some o/\ObjOk H h a u
 | .tbl ps=>h.get? a=some { cls :=.none,data :=.fields ps }
 | .met f x=>h.get? a=some (PySem.W.methodObj (.ref f) (.ref x))
 | .ext φ => φ a h/\(∃o,h.get? a=some o) /\ ∀h1 h2:Heap,φ a h1->(∀o,h1.get? a=some o->h2.get? a=some o) -> φ a h2
def HOk(H:Hp)(h:Heap):Prop := ∀a o,H a=some o->ObjOk P w H h a o
end
section
variable{P:Program}{w:World}{H H':Hp}{h h':Heap}{a:Addr}{o:HO}
theorem ObjOk.lt(x:ObjOk P w H h a o):a<h.objs.size:=by
 cases o with
 | lst xs=>obtain⟨_,_,_,_,e⟩:=x;exact aT e
 | tup xs=>obtain⟨_,_,_,p⟩:=x;exact p.lt
 | dK b=>obtain⟨_,_,_,_,o,_,_,e,_⟩:=x;exact aT e
 | dT b=>obtain⟨_,_,_,_,o,_,_,e,_⟩:=x;exact aT e
 | set S n=>obtain⟨o,_,_,_,e,_⟩:=x;exact aT e
 | ins C dx fs=>obtain⟨_,_,_,e,_⟩:=x;exact aT e
 | own y=>obtain⟨_,e⟩:=x;exact aT e
 | xd fs=>obtain⟨_,⟨_,_,_,e,_⟩,_⟩:=x;exact aT e
 | rng lo c=>obtain⟨_,_,_,e⟩:=x;exact aT e
 | frz ob u=>obtain⟨e,_⟩:=x;exact aT e
 | tbl d=>exact aT (show h.get? a=some _ from x)
 | met f y=>exact aT (show h.get? a=some _ from x)
 | ext φ =>obtain⟨_,⟨_,e⟩,_⟩:=x;exact aT e
theorem Paired.mapP{α β : Type}{F G : α -> β -> Prop}{l₁ : List α}{l₂ : List β}(h:Paired F l₁ l₂)(f:∀a b,F a b->G a b):Paired G l₁ l₂ :=by
 induction h with
 | nil=>exact .nil
 | cons r _ c=>exact .cons (f _ _ r) c
theorem ObjOk.stay(x:ObjOk P w H h a o)(k:∀b u,(b=a\/H b=some (.own a))->h.get? b=some u->h'.get? b=some u)(D:∀b,H b=some (.own a)->H' b=some (.own a))(E:∀b xs,H b=some (.tup xs)->H' b=some (.tup xs)):ObjOk P w H' h' a o:=by
 induction o with
 | lst xs=>obtain⟨z,l,n,r,e⟩:=x;exact⟨z,l,n,r,k _ _ (.inl rfl) e⟩
 | tup xs=>obtain⟨z,l,r,g,e,c⟩:=x;exact⟨z,l,r,g,k _ _ (.inl rfl) e,c⟩
 | dK m=>obtain⟨z,y,F,r,g,i,j,e,c⟩:=x;exact⟨z,y,F,r,g,i,j,k _ _ (.inl rfl) e,c⟩
 | dT m =>
  let⟨z,y,xs,r,g,i,j,e,c⟩:=x;exact⟨z,y,xs,Paired.mapP r λp q z=>⟨z.1,E _ _ z.2.1,z.2.2⟩,g,i,j,k _ _ (.inl rfl) e,c⟩
 | set S n=>obtain⟨g,i,j,t,e,c⟩:=x;exact⟨g,i,j,t,k _ _ (.inl rfl) e,c⟩
 | ins C dx fs =>
  obtain⟨d,z,ne,e,s,⟨A,i,j,G,c⟩,r⟩:=x;exact⟨D _ d,z,ne,k _ _ (.inl rfl) e,s,⟨A,i,j,k _ _ (.inr d) G,c⟩,r⟩
 | own y=>obtain⟨g,e⟩:=x;exact⟨g,k _ _ (.inl rfl) e⟩
 | xd fs=>obtain⟨s,⟨A,i,j,e,c⟩,r⟩:=x;exact⟨s,⟨A,i,j,k _ _ (.inl rfl) e,c⟩,r⟩
 | rng lo J=>obtain⟨t,u,v,e⟩:=x;exact⟨t,u,v,k _ _ (.inl rfl) e⟩
 | frz g u I=>obtain⟨e,q⟩:=x;exact⟨k _ _ (.inl rfl) e,I q⟩
 | tbl B =>
  let e:h.get? a=some { cls :=.none,data :=.fields B }:=x;show h'.get? a=some { cls :=.none,data :=.fields B };exact k a _ (.inl rfl) e
 | met f y =>
  let e:h.get? a=some (PySem.W.methodObj (.ref f) (.ref y)):=x;show h'.get? a=some (PySem.W.methodObj (.ref f) (.ref y));exact k a _ (.inl rfl) e
 | ext φ =>obtain⟨p,⟨o,e⟩,st⟩:=x;exact⟨st _ _ p λo q=>k _ _ (.inl rfl) q,⟨o,k _ _ (.inl rfl) e⟩,st⟩
theorem HOk.lt(x:HOk P w H h)(e:H a=some o):a<h.objs.size:=(x a o e).lt
theorem HOk.fresh(x:HOk P w H h)(e:h.objs.size<=a):H a=none:=by
 cases q:H a with
 | none=>rfl
 | some u=>exact absurd (bK (x.lt q) e) (eK _)
theorem HOk.kept(x:HOk P w H h)(k:∀b u,h.get? b=some u->h'.get? b=some u):HOk P w H h':=λa o e =>
 (x a o e).stay (λb u _ q=>k b u q) (λ_ q=>q) λ_ _ q=>q
theorem HOk.laid(x:HOk P w H h)(k:∀b u,h.get? b=some u->h'.get? b=some u)(g:h.objs.size<=a)(new:ObjOk P w (upd H a o) h' a o):HOk P w (upd H a o) h':=λb u e=>by
 let d:=x.fresh g;by_cases f:b=a
 .subst f;rw [zC] at e;cases e;exact new
 .rw [zD f] at e;exact (x b u e).stay (λc v _ q=>k c v q) (λc q=>by rw [zD (zF q d)];exact q) λc i q=>by rw [zD (zF q d)];exact q
end
def Rd(H:Hp)(a:Addr)(u:HO):Prop:=H a=some u \/ ∃o,H a=some (.frz o u)
theorem Rd.ok(r:Rd H a u)(x:HOk P w H h):ObjOk P w H h a u:=by
 rcases r with r | ⟨o,r⟩
 .exact x a u r
 .let⟨_,q⟩:=x a _ r;exact q
def Mut:Option HO->Prop
 | some (.lst _)=>True
 | some (.dK _)=>True
 | some (.dT _)=>True
 | some (.set _ _)=>True
 | some (.ins _ _ _)=>True
 | some (.ext _)=>True
 | _=>False
theorem HOk.write(ok:HOk P w H h)(mu:Mut (H x))(l:e=x\/H e=some (.own x))(k:∀b u,b≠e->h.get? b=some u->h'.get? b=some u)(j:∃u,h'.get? e=some u)(new:ObjOk P w (upd H x o') h' x o'):HOk P w (upd H x o') h':=λb u q=>by
 let d:∀c y,H c=some (.own y)->c≠x:=λc y r z=>by subst z;rw [r] at mu;exact mu
 let f:∀c g,H c=some (.tup g)->c≠x:=λc g r z=>by subst z;rw [r] at mu;exact mu
 by_cases i:b=x
 .subst i;rw [zC] at q;cases q;exact new
 .rw [zD i] at q;by_cases a:b=e
  .let m:H b=some (.own x):=by
    rcases l with z | z
    .exact absurd (a.trans z) i
    .rw [a];exact z
   rw [q] at m;cases m;let⟨v,n⟩:=j;exact⟨v,by rw [a];exact n⟩
  .refine (ok b u q).stay (λc v hc r=>k c v ?_ r) (λc r=>by rw [zD (d c b r)];exact r) λc g r=>by rw [zD (f c g r)];exact r
   rcases hc with rfl | hc
   .exact a
   .rintro rfl;rcases l with z | z
    .exact d c b hc z
    .rw [hc] at z;cases z;exact i rfl
structure Un(fs ex:List Addr)(H H':Hp)(h h':Heap):Prop where
 keep:∀b o,h.get? b=some o->H b=none->b∉fs->b∉ex->h'.get? b=some o
 slot:∀b o,h.get? b=some o->H b=none->b∈fs->b∉ex -> ∃sl,h'.get? b=some { o with slots:=sl }
 free:∀b o,h.get? b=some o->H b=none->b∉ex->H' b=none
 there:∀b o,h.get? b=some o->b∉ex -> ∃o',h'.get? b=some o'
 tups:∀b xs,H b=some (.tup xs)->H' b=some (.tup xs)
 frzs:∀b o u,H b=some (.frz o u)->H' b=some (.frz o u)
 tbls:∀b ps,H b=some (.tbl ps) -> ∃more,H' b=some (.tbl (ps++more))
section
variable{fs fs' ex ex':List Addr}{H H1 H2:Hp}{h h1 h2 h':Heap}{a x e:Addr}{o:HO}
theorem Un.any(u:Un fs ex H H1 h h1){a:Obj}(q:h.get? b=some a)(n:H b=none)(c:b∉ex):∃e,h1.get? b=some { a with slots:=e }:=by
 by_cases d:b∈fs
 .exact u.slot b a q n d c
 .exact⟨a.slots,u.keep b a q n d c⟩
theorem Un.trans(a:Un fs ex H H1 h h1)(b:Un fs ex H1 H2 h1 h2):Un fs ex H H2 h h2 where
 keep:=λc d q n g e=>b.keep c d (a.keep c d q n g e) (a.free c d q n e) g e
 slot:=λc d q n g e=>by
  let⟨p,f⟩:=a.slot c d q n g e;let⟨j,k⟩:=b.slot c _ f (a.free c d q n e) g e;exact⟨j,k⟩
 free:=λc d q n e=>by
  let⟨l,f⟩:=a.there c d q e;exact b.free c l f (a.free c d q n e) e
 there:=λc d q e=>by
  let⟨l,f⟩:=a.there c d q e;exact b.there c l f e
 tups:=λc i q=>b.tups c i (a.tups c i q)
 frzs:=λc d i q=>b.frzs c d i (a.frzs c d i q)
 tbls:=λc m q=>by
  let⟨o,f⟩:=a.tbls c m q;let⟨m2,k⟩:=b.tbls c _ f;exact⟨o++m2,by rw [k,Array.append_assoc]⟩
theorem Un.kept(k:∀b u,h.get? b=some u->h'.get? b=some u):Un fs ex H H h h':=⟨λb a q _ _ _=>k b a q,λb a q _ _ _=>⟨a.slots,k b a q⟩,λ_ _ _ n _=>n,λb a q _=>⟨a,k b a q⟩,λ_ _ q=>q,λ_ _ _ q=>q,λ_ c q=>⟨#[],by rw [q];simp⟩⟩
theorem Un.refl:Un fs ex H H h h:=Un.kept λ_ _ q=>q
theorem Un.laid(k:∀b u,h.get? b=some u->h'.get? b=some u)(d:h.objs.size<=a)(c:H a=none):Un fs ex H (upd H a o) h h' where
 keep:=λb u q _ _ _=>k b u q
 slot:=λb u q _ _ _=>⟨u.slots,k b u q⟩
 free:=λb u q n _=>by rw [zD (aZ (bK (aT q) d))];exact n
 there:=λb u q _=>⟨u,k b u q⟩
 tups:=λb e q=>by rw [zD (zF q c)];exact q
 frzs:=λb u e q=>by rw [zD (zF q c)];exact q
 tbls:=λb f q=>⟨#[],by rw [zD (zF q c),q];simp⟩
theorem Un.write(mu:Mut (H x))(i:e=x\/H e=some (.own x))(k:∀b u,b≠e->h.get? b=some u->h'.get? b=some u)(c:∃u,h'.get? e=some u):Un fs ex H (upd H x o) h h':=by
 let f:∀b,H b=none->b≠x:=λb n z=>by subst z;rw [n] at mu;exact mu
 let g:∀b,H b=none->b≠e:=λb n z=>by
  subst z;rcases i with r | r
  .exact f b n r
  .rw [n] at r;cases r
 let d:∀b u,H b=some u -> ¬Mut (some u)->b≠x:=λb u q j z=>by subst z;rw [q] at mu;exact j mu
 refine⟨λb u q n _ _=>k b u (g b n) q,λb u q n _ _=>⟨u.slots,k b u (g b n) q⟩,λb u q n _=>by rw [zD (f b n)];exact n,λb u q _=>?_,
  λb l q=>by rw [zD (d b _ q λz=>z)];exact q,λb u l q=>by rw [zD (d b _ q λz=>z)];exact q,λb m q=>⟨#[],by rw [zD (d b _ q λz=>z),q];simp⟩⟩
 by_cases a:b=e
 .subst a;exact c
 .exact⟨u,k b u a q⟩
end
noncomputable def trk(h:Heap)(H:Hp):List Addr:=(List.range h.objs.size).filter λa=>(H a).isSome
noncomputable def hidT(h:Heap)(H:Hp):Heap:=PySem.W.hideAll h (trk h H)
theorem qRq(h:Heap)(H:Hp):(hidT h H).objs.size=h.objs.size:=PySem.W.hideAll_size _ _
theorem qUt(e:h.get? b=some o)(n:H b=none):(hidT h H).get? b=some o :=
 PySem.W.hideAll_get _ e λa=>by
  let q:(H b).isSome=true:=(bT.mp a).2;rw [n] at q;simp at q
theorem qXt(e:(hidT h H).get? b=some o):h.get? b=some o/\H b=none:=by
 let a:h.get? b=some o:=PySem.W.of_hideAll (trk h H) e;refine⟨a,?_⟩;cases q:H b with
 | none=>rfl
 | some x =>
  let c:b∈trk h H:=bT.mpr ⟨bN.mpr (aT a),by simp [q]⟩;let z:(hidT h H).get? b=none:=PySem.W.hideAll_none (trk h H) c;rw [z] at e;cases e
structure Mod(K:PySem.W.Frag)(mg:Str->Option Value)(base:Heap):Prop where
 kin:K.In base
 glob:base.Ns mainGlobals mg
 blt:∃mb,base.Ns builtinsNs mb /\ ∀x:Str,x ≠ "__name__" -> mb x=bootBuiltins x
 nolimit:base.NoLimit
structure Cx where
 prog:Program
 w:World
 K:PySem.W.Frag
 mg:Str->Option Value
 base:Heap
 A:Around
 N:List Str
 s₀ : Shared
 H₀ : Hp
 env:Env
 outer:List Env
 stack:List Env
 ex:List Addr
 fn:Str->Bool
 calm:Bool
 pn:List (Addr×Obj)
 xe:Value->Shared->Prop
noncomputable def frs(l:List Env):List Addr:=l.filterMap (·.frame)
noncomputable abbrev Cx.fs(X:Cx):List Addr:=frs X.outer
def Vis(sc:Scope)(x:Str):Prop:=sc.names.lookup x=some .local\/sc.names.lookup x=some .cell\/sc.names.lookup x=some .free
def Loc(sc:Scope)(x:Str):Prop:=sc.names.lookup x=some .local\/sc.names.lookup x=some .cell
def Look(env:Env)(h:Heap)(m:Str->Option Value)(x:Str)(u:Value):Prop:=(env.kindOf x=some .local/\m x=some u)\/((env.kindOf x=some .cell\/env.kindOf x=some .free) /\ ∃c,env.cells.lookup x=some c/\h.IsCell c (some u))
structure Cx.Ok(X:Cx):Prop where
 mod:Mod X.K X.mg X.base
 kind:X.env.scope.kind = .function
 glob:X.env.globals=mainGlobals
 blt:X.env.builtins=builtinsNs
 above:X.s₀.heap.objs.size<=X.env.locals
 inj:∀x y c,X.env.cells.lookup x=some c->X.env.cells.lookup y=some c->x=y
 has:∀x,(X.env.kindOf x=some .cell\/X.env.kindOf x=some .free) -> ∃c,X.env.cells.lookup x=some c
 cab:∀x c,X.fn x=true->X.env.cells.lookup x=some c->X.s₀.heap.objs.size<=c
 hd:X.calm=true->X.A.handled=none
 frames:X.A.frames=some X.stack
 stk:X.stack=X.outer\/(X.stack=X.env::X.outer/\X.env.frame=some X.env.locals)
 exf:∀b∈X.ex,b≠X.env.locals /\ ∀x c,X.env.cells.lookup x=some c->c≠b
 bs:∀b o,X.base.get? b=some o->X.s₀.heap.get? b=some o/\X.H₀ b=none
 bsz:X.base.objs.size<=X.s₀.heap.objs.size
 noex:∀b o,X.base.get? b=some o->b∉X.ex
 exfs:∀b∈X.ex,b∉X.fs
 funs:X.s₀.heap.FunFrames X.base X.outer
 frf:∀b∈X.fs,X.H₀ b=none
structure Inv(X:Cx)(pins:List (Addr×Obj))(σ : List (Option V))(H:Hp)(s:Shared):Prop where
 ok:X.Ok
 os:s.os=X.s₀.os
 bare:AllBare s.gens
 base:Un X.fs X.ex X.H₀ H X.s₀.heap s.heap
 loc:∃m,s.heap.Ns X.env.locals m /\ ∀(i:Nat) (x:Str) (v:V),X.N[i]? = some x -> σ[i]? = some (some v)->Vis X.env.scope x -> ∃u,RelV v u/\Look X.env s.heap m x u
 cell:∀x c,X.env.cells.lookup x=some c -> ∃v,s.heap.IsCell c v
 free:H X.env.locals=none
 freeC:∀x c,X.env.cells.lookup x=some c->H c=none
 pin:∀p∈X.pn++pins,s.heap.get? p.1=some p.2/\H p.1=none/\p.1≠X.env.locals/\p.1∉X.fs /\ ∀v,p.2.data ≠ .cell v
 hok:HOk X.prog X.w H s.heap
 len : σ.length=X.N.length
section
variable{X:Cx}
theorem Cx.Ok.nofr(ok:X.Ok)(e:X.base.get? b=some o):b∉X.fs:=λa=>by
 let:=(ok.funs.mem a).1;rw [e] at this;cases this
theorem Inv.bs(I:Inv X pins σ H s):∀b o,X.base.get? b=some o->s.heap.get? b=some o/\H b=none:=λb o e =>
 ⟨I.base.keep b o (I.ok.bs b o e).1 (I.ok.bs b o e).2 (I.ok.nofr e) (I.ok.noex b o e),I.base.free b o (I.ok.bs b o e).1 (I.ok.bs b o e).2 (I.ok.noex b o e)⟩
theorem Inv.bk(I:Inv X pins σ H s):∀b o,X.base.get? b=some o->s.heap.get? b=some o:=λb o e=>(I.bs b o e).1
theorem Inv.mod(I:Inv X pins σ H s):Mod X.K X.mg X.base:=I.ok.mod
theorem Inv.kIn(I:Inv X pins σ H s):X.K.In s.heap:=I.ok.mod.kin.keeps I.bk
theorem Inv.lt(I:Inv X pins σ H s):X.env.locals<s.heap.objs.size:=let ⟨_,a,_⟩:=I.loc;a.lt
theorem Inv.sz(I:Inv X pins σ H s):X.s₀.heap.objs.size<=s.heap.objs.size:=cD I.ok.above (bS I.lt)
theorem Inv.nofs(I:Inv X pins σ H s)(h:s.heap.objs.size<=a):a∉X.fs:=λb=>by
 let⟨_,o,c,_⟩:=I.ok.funs.mem b;exact absurd (bK (aT c) (cD I.sz h)) (eK _)
theorem Inv.cne(I:Inv X pins σ H s):∀x c,X.env.cells.lookup x=some c->c≠X.env.locals:=λx c e z=>by
 let⟨v,o,d,f⟩:=I.cell x c e;obtain⟨m,⟨g,h,i,a,b,_⟩,_⟩:=I.loc;rw [z,a] at d;cases d;rw [b] at f;cases f
theorem Inv.funs(I:Inv X pins σ H s):s.heap.FunFrames X.base X.outer:=by
 let all:∀(l:List Env),(∀b∈frs l,b∈X.fs)->X.s₀.heap.FunFrames X.base l->s.heap.FunFrames X.base l:=by
  intro l
  induction l with
  | nil=>intro _ _;trivial
  | cons env r g =>
   intro f h;obtain⟨i,⟨L,o,a,j,k,m⟩,n⟩:=h;let c:L∈X.fs:=f L (by unfold frs;rw [dE,a];exact aV);let⟨p,e⟩:=I.base.slot L o k (I.ok.frf L c) c λz=>I.ok.exfs L z c;exact⟨i,⟨L,_,a,j,e,m⟩,g (λb d=>f b (by unfold frs;rw [dE,a];exact aS _ d)) n⟩
 exact all X.outer (λ_ d=>d) I.ok.funs
theorem Inv.stack(I:Inv X pins σ H s):s.heap.FunFrames X.base X.stack:=by
 rcases I.ok.stk with e | ⟨e,a⟩
 .rw [e];exact I.funs
 .rw [e];let⟨m,b,_⟩:=I.loc;refine .cons (by rw [I.ok.kind];decide) a b ?_ I.funs;exact Heap.get?_none_of_le (cD I.ok.bsz I.ok.above)
theorem Inv.stkSub(I:Inv X pins σ H s):∀b∈frs X.stack,b∈X.env.locals::X.fs:=λb a=>by
 rcases I.ok.stk with e | ⟨e,c⟩
 .rw [e] at a;exact aS _ a
 .rw [e] at a;unfold frs at a;rw [dE,c] at a;exact a
theorem Inv.stkFree(I:Inv X pins σ H s):∀b∈frs X.stack,H b=none:=λb hb=>by
 rcases aL.mp (I.stkSub b hb) with e | hb
 .rw [e];exact I.free
 .let⟨_,o,a,_⟩:=I.ok.funs.mem hb;exact I.base.free b o a (I.ok.frf b hb) λz=>I.ok.exfs b z hb
theorem Inv.step{t':Nat}{ch:List Addr}(I:Inv X pins σ H s)(f:∀b∈ch,(b∈X.ex\/X.s₀.heap.objs.size<=b)/\b≠X.env.locals/\(∀x c,X.env.cells.lookup x=some c->c≠b) /\ ∀p∈X.pn++pins,p.1≠b)(keep:∀b o,b≠X.env.locals->b∉X.fs->b∉ch->s.heap.get? b=some o->H b=none->h'.get? b=some o)(slot:∀b o,b≠X.env.locals->b∈X.fs->b∉ch->s.heap.get? b=some o->H b=none -> ∃L,h'.get? b=some { o with slots:=L })(free:∀b o,b∉ch->s.heap.get? b=some o->H b=none->H' b=none)(A:∀b o,b∉ch->s.heap.get? b=some o -> ∃D,h'.get? b=some D)(tups:∀b y,H b=some (.tup y)->H' b=some (.tup y))(E:∀b o u,H b=some (.frz o u)->H' b=some (.frz o u))(F:∀b K,H b=some (.tbl K) -> ∃more,H' b=some (.tbl (K++more)))(R:∀m,s.heap.Ns X.env.locals m->h'.Ns X.env.locals m)(hok:HOk X.prog X.w H' h')(S:AllBare g'):Inv X pins σ H' { s with heap:=h',gens:=g',drawn:=d',toks:=t' }:=by
 let G:∀b o,X.s₀.heap.get? b=some o->b≠X.env.locals:=λb o e=>aZ (bK (aT e) I.ok.above);let j:∀b o,X.s₀.heap.get? b=some o->b∉X.ex->b∉ch:=λb o e a B=>by
  rcases (f b B).1 with z | z
  .exact a z
  .exact absurd (bK (aT e) z) (eK _)
 let g:∀x c,X.env.cells.lookup x=some c -> ∀v,s.heap.IsCell c v->h'.IsCell c v:=λx c e v ⟨o,C,M⟩=>by
  let h:c∉ch:=λz=>(f c z).2.2.1 x c e rfl;by_cases O:c∈X.fs
  .let⟨L,q⟩:=slot c o (I.cne x c e) O h C (I.freeC x c e);exact⟨_,q,M⟩
  .exact⟨o,keep c o (I.cne x c e) O h C (I.freeC x c e),M⟩
 refine⟨I.ok,I.os,S,⟨λb o e n B a=>?_,λb o e n B a=>?_,λb o e n a=>?_,λb o e a=>?_,λb y e=>tups b y (I.base.tups b y e),λb o y e=>E b o y (I.base.frzs b o y e),λb K e=>?_⟩,?_,λx c e=>?_,?_,λx c e=>?_,λp P=>?_,hok,I.len⟩
 .exact keep b o (G b o e) B (j b o e a) (I.base.keep b o e n B a) (I.base.free b o e n a)
 .let⟨L,t⟩:=I.base.slot b o e n B a;let⟨N,J⟩:=slot b _ (G b o e) B (j b o e a) t (I.base.free b o e n a);exact⟨N,J⟩
 .let⟨D,t⟩:=I.base.there b o e a;exact free b D (j b o e a) t (I.base.free b o e n a)
 .let⟨D,t⟩:=I.base.there b o e a;exact A b D (j b o e a) t
 .let⟨T,t⟩:=I.base.tbls b K e;let⟨m2,J⟩:=F b _ t;exact⟨T++m2,by rw [J,Array.append_assoc]⟩
 .let⟨m,U,V⟩:=I.loc;refine⟨m,R m U,λi x v t J W=>?_⟩;let⟨u,r,l⟩:=V i x v t J W;refine⟨u,r,?_⟩;rcases l with l | ⟨k,c,e,z⟩
  .exact .inl l
  .exact .inr ⟨k,c,e,g x c e _ z⟩
 .let⟨v,z⟩:=I.cell x c e;exact⟨v,g x c e v z⟩
 .obtain⟨m,⟨o,_,_,C,_⟩,_⟩:=I.loc;exact free _ o (λz=>(f _ z).2.1 rfl) C I.free
 .let⟨v,o,C,M⟩:=I.cell x c e;exact free c o (λz=>(f c z).2.2.1 x c e rfl) C (I.freeC x c e)
 .let⟨e,n,ne,Q,d⟩:=I.pin p P;let h:p.1∉ch:=λz=>(f p.1 z).2.2.2 p P rfl;exact⟨keep p.1 p.2 ne Q h e n,free p.1 p.2 h e n,ne,Q,d⟩
theorem Inv.un{t':Nat}(I:Inv X pins σ H s)(u:Un X.fs [] H H' s.heap h')(hok:HOk X.prog X.w H' h'):Inv X pins σ H' { s with heap:=h',toks:=t' }:=by
 obtain⟨m,⟨o,k,l,g,r⟩,_⟩:=id I.loc;let⟨p,h⟩:=u.any g I.free ∅
 exact I.step (g':=s.gens) (d':=s.drawn) (ch :=[]) (λ_ z=>nomatch z) (λb o _ c _ e n=>u.keep b o e n c ∅) (λb o _ c _ e n=>u.slot b o e n c ∅) (λb o _ e n=>u.free b o e n ∅) (λb o _ e=>u.there b o e ∅) u.tups u.frzs u.tbls (λq i=>by
  let⟨t,d,f,a,j⟩:=i;rw [g] at a;cases a
  exact⟨_,d,f,h,j⟩) hok I.bare
theorem Inv.call{t':Nat}(I:Inv X pins σ H s)(u:Un (frs X.stack) ch H H' s.heap h')(hok:HOk X.prog X.w H' h')(k:AllBare g')(d:∀b∈ch,(b∈X.ex\/X.s₀.heap.objs.size<=b)/\b≠X.env.locals/\(∀x c,X.env.cells.lookup x=some c->c≠b) /\ ∀p∈X.pn++pins,p.1≠b):Inv X pins σ H' { s with heap:=h',gens:=g',drawn:=d',toks:=t' }:=by
 obtain⟨m,⟨o,v,y,j,r⟩,_⟩:=id I.loc;let⟨A,g⟩:=u.any j I.free λz=>(d _ z).2.1 rfl
 exact I.step (ch:=ch) d (λb o g l a e n=>u.keep b o e n (λz=>(aL.mp (I.stkSub b z)).elim g l) a) (λb o _ _ a e n=>u.any e n a) (λb o a e n=>u.free b o e n a) (λb o a e=>u.there b o e a) u.tups u.frzs u.tbls (λB q=>by
  let⟨C,h,i,f,t⟩:=q;rw [j] at f;cases f
  exact⟨_,h,i,g,t⟩) hok k
theorem Inv.turned{t':Nat}(I:Inv X pins σ H s)(k:∀b o,b≠it->s.heap.get? b=some o->h'.get? b=some o)(g:H it=none)(f:it≠X.env.locals)(h:it∈X.ex\/X.s₀.heap.objs.size<=it)(i:∀x c,X.env.cells.lookup x=some c->c≠it)(j:∀p∈X.pn++pins,p.1≠it):Inv X pins σ H { s with heap:=h',toks:=t' }:=by
 let d:∀b u,H b=some u->b≠it:=λb u e z=>by rw [z,g] at e;cases e
 refine I.step (g':=s.gens) (d':=s.drawn) (ch :=[it]) (λb l=>?_) (λb o _ _ a e _=>k b o (λz=>a (by simp [z])) e) (λb o _ _ a e _=>⟨o.slots,k b o (λz=>a (by simp [z])) e⟩) (λ_ _ _ _ n=>n)
  (λb o a e=>⟨o,k b o (λz=>a (by simp [z])) e⟩) (λ_ _ e=>e) (λ_ _ _ e=>e) (λb B e=>⟨#[],by rw [e];simp⟩) (λm t=>?_) (λb u e=>?_) I.bare
 .let e:b=it:=by simpa using l
  subst e;exact⟨h,f,i,j⟩
 .let⟨o,w,y,A,r⟩:=t;exact⟨o,w,y,k _ o (cP f) A,r⟩
 .refine (I.hok b u e).stay (λc v a q=>k c v ?_ q) (λ_ q=>q) λ_ _ q=>q;rcases a with z | z
  .rw [z];exact d b u e
  .exact d c _ z
theorem Inv.tok(I:Inv X pins σ H s)(t:Nat):Inv X pins σ H { s with toks:=t }:=I.un (h':=s.heap) (t':=t) Un.refl I.hok
theorem Inv.kept{t':Nat}(I:Inv X pins σ H s)(k:∀b u,s.heap.get? b=some u->h'.get? b=some u):Inv X pins σ H { s with heap:=h',toks:=t' }:=I.un (Un.kept k) (I.hok.kept k)
theorem Inv.laid{o:HO}{t':Nat}(I:Inv X pins σ H s)(k:∀b u,s.heap.get? b=some u->h'.get? b=some u)(c:s.heap.objs.size<=a)(new:ObjOk X.prog X.w (upd H a o) h' a o):Inv X pins σ (upd H a o) { s with heap:=h',toks:=t' }:=I.un (Un.laid k c (I.hok.fresh c)) (I.hok.laid k c new)
theorem Inv.write{t':Nat}(I:Inv X pins σ H s)(mu:Mut (H x))(c:e=x\/H e=some (.own x))(k:∀b u,b≠e->s.heap.get? b=some u->h'.get? b=some u)(a:∃u,h'.get? e=some u)(new:ObjOk X.prog X.w (upd H x o) h' x o):Inv X pins σ (upd H x o) { s with heap:=h',toks:=t' }:=I.un (Un.write mu c k a) (I.hok.write mu c k a new)
theorem Inv.pins_of(I:Inv X pins σ H s)(h:∀p∈a,s.heap.get? p.1=some p.2/\H p.1=none/\p.1≠X.env.locals/\p.1∉X.fs /\ ∀v,p.2.data ≠ .cell v):Inv X a σ H s:=⟨I.ok,I.os,I.bare,I.base,I.loc,I.cell,I.free,I.freeC,λp b=>(aJ.mp b).elim (λz=>I.pin p (bI _ z)) (h p),I.hok,I.len⟩
theorem oE{N:List Str}(c:N.Nodup){i j:Nat}(a:N[i]? = some x)(b:N[j]? = some x):i=j:=by
 let⟨f,d⟩:=aI.mp a;let⟨g,e⟩:=aI.mp b;exact (List.getElem_inj c).mp (d.trans e.symm)
theorem oF{i:Nat}(I:Inv X pins σ H s)(hN:X.N.Nodup)(hi:X.N[i]? = some x)(t:Loc X.env.scope x)(r:RelV v u)(h:∀U,Inv X pins (σ.set i (some v)) H U->(∃a,Heap.SameBut a s.heap U.heap/\(a=X.env.locals\/X.env.cells.lookup x=some a))->Q () U)(hf:X.fn x=true\/X.env.scope.names.lookup x=some .local:=by first | exact .inl rfl | exact .inr rfl | assumption):wpAny M A (storeName X.env x u) Q E s:=by
 let⟨m,W,hl⟩:=id I.loc;let K:(X.env.scope.kind == .class||(X.env.scope.kind == .module&&X.env.locals != X.env.globals))=false:=by rw [I.ok.kind];rfl
 let D : i < σ.length:=by rw [I.len];exact (aI.mp hi).1
 let cne:=I.cne;let g:∀ {a:Addr} {h':Heap},(∃o,s.heap.get? a=some o/\H a=none)->Heap.SameBut a s.heap h'->HOk X.prog X.w H h':=λ{a h'} ha f b ob e=>by
  let⟨_,_,B⟩:=ha;refine (I.hok b ob e).stay (λc S hc q=>(f.2 c ?_).trans q) (λ_ q=>q) λ_ _ q=>q;rintro rfl;rcases hc with rfl | hc
  .rw [B] at e;cases e
  .rw [B] at hc;cases hc
 rcases t with hk | hk
 .refine wpAny_storeName_local hk W (λh' Y f=>?_) K;let⟨oL,_,_,Z,_⟩:=id W;refine h _ ⟨I.ok,I.os,I.bare,⟨λb o e n F t=>?_,λb o e n F t=>?_,I.base.free,λb o e t=>?_,I.base.tups,I.base.frzs,I.base.tbls⟩,⟨_,Y,λj y v' l C e3=>?_⟩,λy c e=>?_,I.free,I.freeC,λp hp=>?_,g ⟨oL,Z,I.free⟩ f,by simpa using I.len⟩ ⟨_,f,.inl rfl⟩
  .exact (f.2 b (aZ (bK (aT e) I.ok.above))).trans (I.base.keep b o e n F t)
  .let⟨sl,l⟩:=I.base.slot b o e n F t;exact⟨sl,(f.2 b (aZ (bK (aT e) I.ok.above))).trans l⟩
  .let⟨o',l⟩:=I.base.there b o e t;exact⟨o',(f.2 b (aZ (bK (aT e) I.ok.above))).trans l⟩
  .by_cases G:j=i
   .subst G;rw [hi] at l;cases l;rw [List.getElem?_set_self D] at C;cases C;exact⟨u,r,.inl ⟨hk,∅⟩⟩
   .rw [List.getElem?_set_ne (cP G)] at C;let⟨u',r',q⟩:=hl j y v' l C e3;refine⟨u',r',?_⟩;rcases q with ⟨k,e⟩ | ⟨k,c,e,z⟩
    .refine .inl ⟨k,?_⟩;let:y≠x:=λe=>G (oE hN l (e▸hi));simp [this,e]
    .exact .inr ⟨k,c,e,z.sameBut f (cne y c e)⟩
  .let⟨S,z⟩:=I.cell y c e;exact⟨S,z.sameBut f (cne y c e)⟩
  .let⟨e,n,ne,nf,d⟩:=I.pin p hp;exact⟨(f.2 p.1 ne).trans e,n,ne,nf,d⟩
 .let J:X.fn x=true:=by
   rcases hf with z | z
   .exact z
   .rw [z] at hk;cases hk
  let⟨c,hc⟩:=I.ok.has x (.inl hk);let⟨S,z⟩:=I.cell x c hc;refine wpAny_storeName_cell I.ok.kind hk hc z (λh' L f=>?_);let⟨oc,O,P⟩:=id z;refine h { s with heap:=h' } ⟨I.ok,I.os,I.bare,⟨λb o e n F t=>?_,λb o e n F t=>?_,I.base.free,λb o e t=>?_,I.base.tups,I.base.frzs,I.base.tbls⟩,⟨m,W.sameBut f (cP (cne x c hc)),λj y v' l C e3=>?_⟩,λy T e=>?_,I.free,I.freeC,λp hp=>?_,g ⟨oc,O,I.freeC x c hc⟩ f,by simpa using I.len⟩ ⟨c,f,.inr hc⟩
  .exact (f.2 b (aZ (bK (aT e) (I.ok.cab x c J hc)))).trans (I.base.keep b o e n F t)
  .let⟨sl,l⟩:=I.base.slot b o e n F t;exact⟨sl,(f.2 b (aZ (bK (aT e) (I.ok.cab x c J hc)))).trans l⟩
  .let⟨o',l⟩:=I.base.there b o e t;exact⟨o',(f.2 b (aZ (bK (aT e) (I.ok.cab x c J hc)))).trans l⟩
  .by_cases G:j=i
   .subst G;rw [hi] at l;cases l;rw [List.getElem?_set_self D] at C;cases C;exact⟨u,r,.inr ⟨.inl hk,c,hc,L⟩⟩
   .rw [List.getElem?_set_ne (cP G)] at C;let⟨u',r',q⟩:=hl j y v' l C e3;refine⟨u',r',?_⟩;rcases q with q | ⟨k,T,e,z'⟩
    .exact .inl q
    .refine .inr ⟨k,T,e,z'.sameBut f ?_⟩;rintro rfl;exact G (oE hN l (I.ok.inj _ _ _ e hc▸hi))
  .by_cases R:T=c
   .subst R;exact⟨_,L⟩
   .let⟨w2,z2⟩:=I.cell y T e;exact⟨w2,z2.sameBut f R⟩
  .let⟨e,n,ne,nf,d⟩:=I.pin p hp;refine⟨(f.2 p.1 ?_).trans e,n,ne,nf,d⟩;intro q;rw [q,O] at e;let q':oc=p.2:=bB e;exact d S (by rw [<-q'];exact P)
theorem vP{i:Nat}(I:Inv X pins σ H s)(b:X.N.Nodup)(hi:X.N[i]? = some x)(c:Loc X.env.scope x)(r:RelV v u)(h:∀a,Inv X pins (σ.set i (some v)) H a->Q () a)(d:X.fn x=true\/X.env.scope.names.lookup x=some .local:=by first | exact .inl rfl | exact .inr rfl | assumption):wpAny M A (storeName X.env x u) Q E s:=oF I b hi c r (λa e _=>h a e) d
theorem Inv.call'(I:Inv X pins σ H s)(f:a.os=s.os)(u:Un (frs X.stack) ch H H' s.heap a.heap)(hok:HOk X.prog X.w H' a.heap)(g:AllBare a.gens)(d:∀b∈ch,(b∈X.ex\/X.s₀.heap.objs.size<=b)/\b≠X.env.locals/\(∀x c,X.env.cells.lookup x=some c->c≠b) /\ ∀p∈X.pn++pins,p.1≠b):Inv X pins σ H' a:=by
 let⟨h',g',d',t',h⟩:=a;let e:h=s.os:=f;subst e;exact I.call (g':=g') (t':=t') (d':=d') u hok g d
end
abbrev XK:=Value->Option Addr->Hp->Prop
abbrev St:=List (Option V)
abbrev VK:=V->Hp->Prop
abbrev TE:=St->Hp->VK->Prop
abbrev TT:=St->Hp->(Bool->Hp->Prop)->Prop
abbrev TA:=St->Hp->(List V->Hp->Prop)->Prop
structure Ends where
 nx:St->Hp->Prop
 rt:VK
 bk:St->Hp->Prop:=λ_ _=>False
 ct:St->Hp->Prop:=λ_ _=>False
abbrev TS:=Ends->St->Hp->Prop
def EP(X:Cx)(pins:List (Addr×Obj))(σ : St)(Q:VK)(u:Value)(s':Shared):Prop := ∃v H',Inv X pins σ H' s'/\RelV v u/\Q v H'
def TP(X:Cx)(pins:List (Addr×Obj))(σ : St)(Q:Bool->Hp->Prop)(b:Bool)(s':Shared):Prop := ∃H',Inv X pins σ H' s'/\Q b H'
def AP(X:Cx)(pins:List (Addr×Obj))(σ : St)(Q:List V->Hp->Prop)(us:List Value)(s':Shared):Prop := ∃vs H',Inv X pins σ H' s'/\Vals vs us/\Q vs H'
def SP(X:Cx)(pins:List (Addr×Obj))(D:Ends)(f:Flow)(s':Shared):Prop :=
 match f with
 | .next => ∃ σ' H',Inv X pins σ' H' s'/\D.nx σ' H'
 | .brk => ∃ σ' H',Inv X pins σ' H' s'/\D.bk σ' H'
 | .cont => ∃ σ' H',Inv X pins σ' H' s'/\D.ct σ' H'
 | .ret u => ∃v σ' H',Inv X pins σ' H' s'/\RelV v u/\D.rt v H'
def PE(X:Cx)(e:Expr)(t:TE):Prop :=
 ∀(pins:List (Addr×Obj)) (s:Shared) (σ : St) (H:Hp) (Q:VK),Inv X pins σ H s->t σ H Q->wpAny (model X.prog X.w) X.A (eval e X.env) (EP X pins σ Q) X.xe s
def PT(X:Cx)(e:Expr)(t:TT):Prop :=
 ∀(pins:List (Addr×Obj)) (s:Shared) (σ : St) (H:Hp) (Q:Bool->Hp->Prop),Inv X pins σ H s->t σ H Q->wpAny (model X.prog X.w) X.A (isTrue e X.env (eval e X.env)) (TP X pins σ Q) X.xe s
def PW(X:Cx)(e:Expr)(t:TT):Prop :=
 ∀(whole:Sem Value) (pins:List (Addr×Obj)) (s:Shared) (σ : St) (H:Hp) (Q:Bool->Hp->Prop),Inv X pins σ H s->t σ H Q->wpAny (model X.prog X.w) X.A (isTrue e X.env whole) (TP X pins σ Q) X.xe s
theorem PW.pt{t:TT}(h:PW X e t):PT X e t:=h _
def PA(X:Cx)(es:List Expr)(t:TA):Prop :=
 ∀(pos:Pos) (pins:List (Addr×Obj)) (s:Shared) (σ : St) (H:Hp) (Q:List V->Hp->Prop),Inv X pins σ H s->t σ H Q->wpAny (model X.prog X.w) X.A (spliced (backTo pos (starEach es X.env))) (AP X pins σ Q) X.xe s
def PS(X:Cx)(st:Stmt)(t:TS):Prop :=
 ∀(pins:List (Addr×Obj)) (s:Shared) (σ : St) (H:Hp) (D:Ends),Inv X pins σ H s->t D σ H->wpAny (model X.prog X.w) X.A (exec st X.env) (SP X pins D) X.xe s
def PSs(X:Cx)(st:List Stmt)(t:TS):Prop :=
 ∀(pins:List (Addr×Obj)) (s:Shared) (σ : St) (H:Hp) (D:Ends),Inv X pins σ H s->t D σ H->wpAny (model X.prog X.w) X.A (execs st X.env) (SP X pins D) X.xe s
theorem thn{α : Type}{t:Sem α}{Q b : α -> Shared->Prop}(h:wpAny M A t Q E s)(c:∀a s,Q a s->b a s):wpAny M A t b E s:=cX h c λ_ _ x=>x
section
variable{X:Cx}
theorem bin{k l:TE}(m:PE X a k)(n:PE X b l){σ : St}{R:V->V->Hp->Prop}(I:Inv X c σ H s)(h:k σ H λx j=>l σ j λy d=>R x y d){α : Type}{Q : α -> Shared->Prop}{f:Value->Value->Sem α}(o:∀v u i x y d,Inv X c σ d i->RelV x v->RelV y u->R x y d->wpAny (model X.prog X.w) X.A (f v u) Q X.xe i):wpAny (model X.prog X.w) X.A (eval a X.env) (λv e =>wpAny (model X.prog X.w) X.A (eval b X.env) (λu g =>wpAny (model X.prog X.w) X.A (f v u) Q X.xe g) X.xe e) X.xe s:=by
 refine thn (m c s σ H _ I h) λv p hq_=>?_;let⟨x,j,q,r,t⟩:=hq_;refine thn (n c p σ j _ q t) λu i hq_=>?_;let⟨y,d,z,B,C⟩:=hq_;exact o v u i x y d z r B C
def tVar(i:Nat):TE:=λσ H Q => ∃v,σ[i]? = some (some v)/\Q v H
def tC(v:V):TE:=λ_ H Q=>Q v H
theorem oG{i:Nat}{pos:Pos}(g:X.N[i]? = some x)(j:Vis X.env.scope x)(hd:(x == ("__debug__" : Str))=false:=by decide)(d:(x == ("__classdict__" : Str))=false:=by decide):PE X (.Name x pos) (tVar i):=by
 intro b s σ H Q I h;let⟨v,e,h⟩:=h;let⟨m,k,n⟩:=I.loc;let⟨u,r,l⟩:=n i x v g e j;let fin:EP X b σ Q u s:=⟨v,H,I,r,h⟩;rcases l with ⟨hk,o⟩ | ⟨hk,c,f,a⟩
 .exact wpAny_Name (wpAny_loadName_local I.ok.kind hk k o fin) hd
 .rcases hk with hk | hk
  .exact wpAny_Name (wpAny_loadName_cell I.ok.kind hk f a fin) hd
  .exact wpAny_Name (wpAny_loadName_free I.ok.kind hk f a fin d) hd
theorem zE{i j pos}:PE X (.Constant (.int i) j pos) (tC (.int i)):=λ_ _ _ H _ I h=>wpAny_Constant_int ⟨.int i,H,I.tok _,⟨_,rfl⟩,h⟩
theorem yQ{b j pos}:PE X (.Constant (.bool b) j pos) (tC (.bl b)):=λ_ _ _ H _ I h=>Constant_bool ⟨.bl b,H,I,rfl,h⟩
theorem oH{j pos}:PE X (.Constant .none j pos) (tC .non):=λ_ _ _ H _ I h=>Constant_none ⟨.non,H,I,rfl,h⟩
theorem zc{x j pos}:PE X (.Constant (.str x) j pos) (tC (.str x)):=λ_ _ _ H _ I h=>Calls.Constant_str ⟨.str x,H,I.tok _,⟨_,rfl⟩,h⟩
def Gl(X:Cx)(x:Str):Prop:=X.env.kindOf x=some .globalImplicit
theorem qY6{σ : St}{Q:Value->Shared->Prop}(I:Inv X a σ H s)(b:Gl X x)(c:X.mg x=some u)(h:Q u s)
  (hd:(x == ("__debug__" : Str))=false:=by decide):wpAny (model X.prog X.w) X.A (eval (.Name x pos) X.env) Q E s :=
 Calls.Name_function_global I.ok.kind b (Calls.loadGlobal_global (by rw [I.ok.glob];exact I.mod.glob.keeps I.bk) c h) hd
theorem xw{a:List (Addr×Obj)}{s:Shared}{σ : St}{H:Hp}{x:Str}{u:Value}{pos:Pos}{Q:Value->Shared->Prop}(I:Inv X a σ H s)(b:Gl X x)(c:X.mg x=none)(d:bootBuiltins x=some u)(h:Q u s)
  (e:x ≠ "__name__" :=by decide) (f:(x == ("__debug__" : Str))=false:=by decide):wpAny (model X.prog X.w) X.A (eval (.Name x pos) X.env) Q E s:=by
 let⟨j,g,i⟩:=I.mod.blt;exact Calls.Name_function_global I.ok.kind b (Calls.loadGlobal_builtin (by rw [I.ok.glob];exact I.mod.glob.keeps I.bk) c (by rw [I.ok.blt];exact g.keeps I.bk) ((i x e).trans d) h) f
def PC(X:Cx)(op:CmpOp)(a b:Expr)(t:TE):Prop :=
 ∀(pins:List (Addr×Obj)) (s:Shared) (σ : St) (H:Hp) (Q:VK),Inv X pins σ H s->t σ H Q ->
  wpAny (model X.prog X.w) X.A (eval a X.env) (λv s₁ =>wpAny (model X.prog X.w) X.A (eval b X.env) (λu s₂ =>wpAny (model X.prog X.w) X.A (compareOp op v u) (EP X pins σ Q) X.xe s₂) X.xe s₁) X.xe s
theorem qU9(b:Expr)(h:op ≠ .In)(a:op ≠ .NotIn):behindInMarks op b=false:=by
 let c:(op == CmpOp.In)=false:=by cases op <;> first | rfl | exact absurd rfl h
 let d:(op == CmpOp.NotIn)=false:=by cases op <;> first | rfl | exact absurd rfl a
 cases b <;> simp [behindInMarks,c,d]
def tB(t:TE):TT:=λσ H Q=>t σ H λx H1 => ∃c,x = .bl c/\Q c H1
theorem oI{t:TE}(h:PC X op a b t)(f:behindInMarks op b=false:=by first | exact qU9 _ ⋯ ⋯ | rfl):PT X (.Compare a [op] [b] pos) (tB t):=by
 intro e s σ H Q I g;refine wpAny_isTrue_Compare1 (thn (h e s σ H _ I g) λv n f=>thn f λu o i=>thn i λc p hq_=>?_) f;let⟨x,j,k,l,m⟩:=hq_;let⟨d,rfl,q⟩:=m;cases l;exact gM ⟨j,k,q⟩
def tAnd(t u:TT):TT:=λσ H Q=>t σ H λc H1=>if c=true then u σ H1 Q else Q false H1
def tOr(t u:TT):TT:=λσ H Q=>t σ H λc H1=>if c=true then Q true H1 else u σ H1 Q
def tNot(t:TT):TT:=λσ H Q=>t σ H λc H1=>Q (!c) H1
theorem xL(d:PT X a tA):PW X (.BoolOp .And [a] pos) tA:=by
 intro f b s σ H Q I h;refine isTrue_and (thn (d b s σ H Q I h) λc g e=>?_);cases c with
 | true=>exact isTrue_and_nil e
 | false=>exact e
theorem oJ(d:PT X a tA):PW X (.BoolOp .Or [a] pos) tA:=by
 intro f b s σ H Q I h;refine isTrue_or (thn (d b s σ H Q I h) λc g e=>?_);cases c with
 | false=>exact isTrue_or_nil e
 | true=>exact e
theorem xM(i:PT X a tA)(j:PW X (.BoolOp .And (b::rest) pos) tB'):PW X (.BoolOp .And (a::b::rest) pos) (tAnd tA tB'):=by
 intro k d s σ H Q I h;refine isTrue_and (thn (i d s σ H _ I h) λc l hq_=>?_);let⟨e,f,g⟩:=hq_;cases c with
 | true=>exact j k d l σ e Q f g
 | false=>exact⟨e,f,g⟩
theorem oK(i:PT X a tA)(j:PW X (.BoolOp .Or (b::rest) pos) tB'):PW X (.BoolOp .Or (a::b::rest) pos) (tOr tA tB'):=by
 intro k d s σ H Q I h;refine isTrue_or (thn (i d s σ H _ I h) λc l hq_=>?_);let⟨e,f,g⟩:=hq_;cases c with
 | true=>exact⟨e,f,g⟩
 | false=>exact j k d l σ e Q f g
theorem oM(d:PT X a tA):PT X (.UnaryOp .Not a pos) (tNot tA):=by
 intro b s σ H Q I h;exact isTrue_not (d b s σ H (λc e=>Q (!c) e) I h)
def tAndV(ta tb:TE):TE:=λσ H Q=>ta σ H λx H1 => ∃c,x = .bl c/\if c=true then tb σ H1 Q else Q (.bl false) H1
def tOrV(ta tb:TE):TE:=λσ H Q=>ta σ H λx H1 => ∃c,x = .bl c/\if c=true then Q (.bl true) H1 else tb σ H1 Q
theorem xx{op}{t:TE}(h:PE X a t):PE X (.BoolOp op [a] pos) t:=λb s σ H Q I c=>BoolOp_one (h b s σ H Q I c)
theorem wS(i:PE X a ta)(j:PE X (.BoolOp .And (b::rest) pos) tb):PE X (.BoolOp .And (a::b::rest) pos) (tAndV ta tb):=by
 intro d s σ H Q I h;refine BoolOp_and (thn (i d s σ H _ I h) λv k hq_=>?_);let⟨x,f,g,l,e⟩:=hq_;let⟨c,rfl,e⟩:=e;cases l;refine gM ?_;cases c with
 | true=>exact j d k σ f Q g e
 | false=>exact⟨.bl false,f,g,rfl,e⟩
theorem oN(i:PE X a ta)(j:PE X (.BoolOp .Or (b::rest) pos) tb):PE X (.BoolOp .Or (a::b::rest) pos) (tOrV ta tb):=by
 intro d s σ H Q I h;refine BoolOp_or (thn (i d s σ H _ I h) λv k hq_=>?_);let⟨x,f,g,l,e⟩:=hq_;let⟨c,rfl,e⟩:=e;cases l;refine gM ?_;cases c with
 | false=>exact j d k σ f Q g e
 | true=>exact⟨.bl true,f,g,rfl,e⟩
def tIf(t:TT)(ta tb:TE):TE:=λσ H Q=>t σ H λc H1=>if c=true then ta σ H1 Q else tb σ H1 Q
theorem xc(k:PT X c tA)(l:PE X a ta)(m:PE X b tb):PE X (.IfExp c a b pos) (tIf tA ta tb):=by
 intro e s σ H Q I h;refine wpAny_IfExp (thn (k e s σ H _ I h) λd f hq_=>?_);let⟨g,i,j⟩:=hq_;cases d with
 | true=>exact l e f σ g Q i j
 | false=>exact m e f σ g Q i j
end
def SqL(K:PySem.W.Frag)(H:Hp)(a:Addr)(xs:List V):Prop :=
 Rd H a (.lst xs) \/
  ∃(o:Obj) (its:Array Value) (n:Nat),K.lookup a=some o/\o.cls = .type "list" /\ o.dict=none/\o.data = .seq its n/\its.size<=sizeLine/\Vals xs its.toList
def SqT(K:PySem.W.Frag)(H:Hp)(a:Addr)(xs:List V):Prop :=
 Rd H a (.tup xs) \/
  ∃(o:Obj) (its:Array Value) (n:Nat),K.lookup a=some o/\o.cls = .type "tuple" /\ o.data = .seq its n/\its.size<=sizeLine/\Vals xs its.toList
noncomputable def absV:Value->Option V
 | .none=>some .non
 | .bool b=>some (.bl b)
 | .int i _=>some (.int i)
 | .str x _=>some (.str x)
 | .bytes b _=>some (.byt b)
 | .float b _=>some (.flt b)
 | .ref a=>some (.ref a)
 | .type n=>some (.ty n)
 | _=>none
theorem RelV.abs(r:RelV x u):absV u=some x:=by
 cases x with
 | non=>cases r;rfl
 | bl _=>cases r;rfl
 | int _=>obtain⟨t,rfl⟩:=r;rfl
 | str _=>obtain⟨t,rfl⟩:=r;rfl
 | byt _=>obtain⟨t,rfl⟩:=r;rfl
 | flt _=>obtain⟨t,rfl⟩:=r;rfl
 | ref _=>cases r;rfl
 | ty _=>cases r;rfl
theorem RelV.inj(r:RelV x u)(q:RelV y u):x=y:=bB (r.abs.symm.trans q.abs)
theorem Vals.inj(h:Vals xs us)(k:Vals ys us):xs=ys:=by
 induction h generalizing ys with
 | nil=>cases k;rfl
 | cons r _ a=>cases k with | cons b c=>rw [r.inj b,a c]
section
variable{X:Cx}{pins:List (Addr×Obj)}{σ : St}{H:Hp}{s:Shared}{a:Addr}{xs ys:List V}
theorem SqL.of{K:PySem.W.Frag}(h:H a=some (.lst xs)):SqL K H a xs :=.inl (.inl h)
theorem SqT.of{K:PySem.W.Frag}(h:H a=some (.tup xs)):SqT K H a xs :=.inl (.inl h)
theorem Inv.list(I:Inv X pins σ H s)(h:SqL X.K H a xs):∃its:List Value,Vals xs its/\PlainL s.heap a its.toArray/\xs.length<=sizeLine:=by
 rcases h with h | ⟨o,its,n,b,c,d,f,g,r⟩
 .let⟨z,its,n,r,e⟩:=h.ok I.hok;exact⟨its,r,⟨_,n,e,rfl,rfl,rfl⟩,z⟩
 .refine⟨its.toList,r,⟨o,n,I.kIn a o b,c,d,by simpa using f⟩,?_⟩;let e:=r.length;simp only [aM] at e;lia
theorem Inv.tuple(I:Inv X pins σ H s)(h:SqT X.K H a xs):∃its:List Value,Vals xs its/\IsTup s.heap a its.toArray/\xs.length<=sizeLine:=by
 rcases h with h | ⟨o,its,n,b,c,d,f,r⟩
 .let⟨z,its,r,p⟩:=h.ok I.hok;exact⟨its,r,p,z⟩
 .refine⟨its.toList,r,⟨o,I.kIn a o b,c,n,by simpa using d⟩,?_⟩;let e:=r.length;simp only [aM] at e;lia
theorem Inv.list_inj(I:Inv X pins σ H s)(h:SqL X.K H a xs)(h':SqL X.K H a ys):xs=ys:=by
 obtain⟨c,r,⟨o,n,e,_,_,d⟩,_⟩:=I.list h;obtain⟨b,i,⟨k,l,f,_,_,g⟩,_⟩:=I.list h';rw [e] at f;cases f;rw [d] at g;injection g with j _
 let:c=b:=by simpa using congrArg Array.toList j
 subst this;exact r.inj i
theorem Inv.tuple_inj(I:Inv X pins σ H s)(h:SqT X.K H a xs)(h':SqT X.K H a ys):xs=ys:=by
 obtain⟨c,r,⟨o,e,_,n,d⟩,_⟩:=I.tuple h;obtain⟨b,i,⟨k,f,_,l,g⟩,_⟩:=I.tuple h';rw [e] at f;cases f;rw [d] at g;injection g with j _
 let:c=b:=by simpa using congrArg Array.toList j
 subst this;exact r.inj i
end
noncomputable abbrev Cx.wish(X:Cx)(E:Value->Shared->Prop):Cx :={ X with xe:=E }
noncomputable abbrev Cx.nox(X:Cx):Cx:=X.wish λ_ _=>False
theorem Cx.Ok.wish{X:Cx}(ok:X.Ok)(E:Value->Shared->Prop):(X.wish E).Ok:=⟨ok.mod,ok.kind,ok.glob,ok.blt,ok.above,ok.inj,ok.has,ok.cab,ok.hd,ok.frames,ok.stk,ok.exf,ok.bs,ok.bsz,ok.noex,ok.exfs,ok.funs,ok.frf⟩
theorem Cx.Ok.unwish{X:Cx}(ok:(X.wish E).Ok):X.Ok:=⟨ok.mod,ok.kind,ok.glob,ok.blt,ok.above,ok.inj,ok.has,ok.cab,ok.hd,ok.frames,ok.stk,ok.exf,ok.bs,ok.bsz,ok.noex,ok.exfs,ok.funs,ok.frf⟩
section
variable{X:Cx}{pins:List (Addr×Obj)}{σ : St}{H:Hp}{s:Shared}{E:Value->Shared->Prop}
theorem Inv.wish(I:Inv X pins σ H s)(E:Value->Shared->Prop):Inv (X.wish E) pins σ H s:=⟨I.ok.wish E,I.os,I.bare,I.base,I.loc,I.cell,I.free,I.freeC,I.pin,I.hok,I.len⟩
theorem Inv.unwish(I:Inv (X.wish E) pins σ H s):Inv X pins σ H s:=⟨I.ok.unwish,I.os,I.bare,I.base,I.loc,I.cell,I.free,I.freeC,I.pin,I.hok,I.len⟩
theorem SP.unwish(h:SP (X.wish E) pins D f c):SP X pins D f c:=by
 cases f with
 | next=>obtain⟨a,b,I,q⟩:=h;exact⟨a,b,I.unwish,q⟩
 | brk=>obtain⟨a,b,I,q⟩:=h;exact⟨a,b,I.unwish,q⟩
 | cont=>obtain⟨a,b,I,q⟩:=h;exact⟨a,b,I.unwish,q⟩
 | ret u=>obtain⟨v,a,b,I,r,q⟩:=h;exact⟨v,a,b,I.unwish,r,q⟩
theorem PSs.nox{st:List Stmt}{t:TS}(h:PSs X.nox st t):PSs X st t:=λpins s σ H D I a =>
 cX (h pins s σ H D (I.wish _) a) (λ_ _ q=>q.unwish) λ_ _ z=>False.elim z
end
section
variable{X:Cx}{st:Stmt}{rest:List Stmt}{t u:TS}{e:Expr}
def tNext:TS:=λD σ H=>D.nx σ H
def tSeq(t u:TS):TS:=λD σ H=>t { D with nx:=u D } σ H
theorem yC:PSs X [] tNext:=λ_ _ σ H _ I h=>wpAny_execs_nil ⟨σ,H,I,h⟩
theorem zI(c:PS X st t)(d:PSs X rest u):PSs X (st::rest) (tSeq t u):=by
 intro a s σ H D I h;refine wpAny_execs_cons (thn (c a s σ H { D with nx:=u D } I h) λf e q=>?_);cases f with
 | next =>
  let⟨b,g,i,q⟩:=q;exact d a e b g D i q
 | ret v=>exact q
 | brk=>exact q
 | cont=>exact q
theorem zK(b:PS X st t):PSs X [st] t:=by
 intro a s σ H D I h;refine wpAny_execs_cons (thn (b a s σ H D I h) λf c q=>?_);cases f with
 | next=>exact wpAny_execs_nil q
 | ret v=>exact q
 | brk=>exact q
 | cont=>exact q
theorem Inv.quiet{σ : St}(I:Inv X a σ H s):interactive X.env=false:=by simp [interactive,I.ok.kind]
def tDrop(te:TE):TS:=λD σ H=>te σ H λ_ H1=>D.nx σ H1
theorem yI(b:PE X e te)(c:swapsWith e none pos.line X.env=pure false:=by rfl):PS X (.Expr e pos) (tDrop te):=by
 intro a s σ H D I h;refine wpAny_Expr_any (thn (b a s σ H _ I h) λv i hq_=>?_) I.quiet c;let⟨x,d,f,j,g⟩:=hq_;exact⟨σ,d,f,g⟩
def tRet(te:TE):TS:=λD σ H=>te σ H D.rt
theorem zW(b:PE X e te):PS X (.Return (some e) pos) (tRet te):=by
 intro a s σ H D I h;refine wpAny_Return_some (thn (b a s σ H _ I h) λv i hq_=>?_);let⟨x,c,d,f,g⟩:=hq_;exact⟨x,σ,c,d,f,g⟩
def tIfS(c:TT)(t u:TS):TS:=λD σ H=>c σ H λb H1=>if b=true then t D σ H1 else u D σ H1
theorem zr(l:PT X c f)(m:PSs X a t)(n:PSs X b u):PS X (.If c a b pos) (tIfS f t u):=by
 intro e s σ H D I h;refine wpAny_If (thn (l e s σ H _ I h) λd g hq_=>?_);let⟨i,j,k⟩:=hq_;cases d with
 | true=>exact m e g σ i D j k
 | false=>exact n e g σ i D j k
end
abbrev TG:=V->St->Hp->(St->Hp->Prop)->Prop
abbrev TGs:=List V->St->Hp->(St->Hp->Prop)->Prop
def PG(X:Cx)(target:Expr)(t:TG):Prop :=
 ∀(pins:List (Addr×Obj)) (s:Shared) (σ : St) (H:Hp) (v:V) (u:Value) (Q:St->Hp->Prop),Inv X pins σ H s->RelV v u->t v σ H Q ->
  wpAny (model X.prog X.w) X.A (assign target X.env u) (λ_ s' => ∃ σ' H',Inv X pins σ' H' s'/\Q σ' H') X.xe s
def PGs(X:Cx)(ts:List Expr)(t:TGs):Prop :=
 ∀(pins:List (Addr×Obj)) (s:Shared) (σ : St) (H:Hp) (vs:List V) (us:List Value) (Q:St->Hp->Prop),Inv X pins σ H s->Vals vs us->t vs σ H Q ->
  wpAny (model X.prog X.w) X.A (assignInOrder ((assignEach ts X.env).map (·.2)) us) (λ_ s' => ∃ σ' H',Inv X pins σ' H' s'/\Q σ' H') X.xe s
abbrev TSet:=V->V->V->Hp->(Hp->Prop)->Prop
def PSet(X:Cx)(t:TSet):Prop :=
 ∀(pins:List (Addr×Obj)) (s:Shared) (σ : St) (H:Hp) (o i v:V) (ov iv u:Value) (Q:Hp->Prop),Inv X pins σ H s->RelV o ov->RelV i iv->RelV v u->t o i v H Q ->
  wpAny (model X.prog X.w) X.A (setItem ov iv u) (λ_ s' => ∃H',Inv X pins σ H' s'/\Q H') X.xe s
section
variable{X:Cx}{pos:Pos}
def gName(i:Nat):TG:=λv σ H Q=>Q (σ.set i (some v)) H
theorem zN{i:Nat}(b:X.N.Nodup)(hi:X.N[i]? = some x)(c:Loc X.env.scope x)(d:X.fn x=true\/X.env.scope.names.lookup x=some .local:=by first | exact .inl rfl | exact .inr rfl | assumption):PG X (.Name x pos) (gName i):=by
 intro a s σ H v u Q I r h;exact wpAny_assign_Name (vP I b hi c r (λf e=>⟨_,H,e,h⟩) d)
def gNil:TGs:=λvs σ H Q=>vs = []/\Q σ H
def gCons(t:TG)(u:TGs):TGs:=λvs σ H Q => ∃v r,vs=v::r/\t v σ H λσ' H'=>u r σ' H' Q
theorem yR:PGs X [] gNil:=by
 intro a s σ H b c Q I r h;let⟨e,h⟩:=h;subst e;cases r;exact assignInOrder_nil ⟨σ,H,I,h⟩
theorem zl{t:TG}(c:PG X e t)(d:PGs X es u)(f:(assignEach (e::es) X.env).map (·.2)=assign e X.env::(assignEach es X.env).map (·.2):=by rfl):PGs X (e::es) (gCons t u):=by
 intro a s σ H n o Q I r h;let⟨v,p,g,h⟩:=h;subst g;cases r with
 | cons r i =>
  rw [f];refine assignInOrder_cons (thn (c a s σ H _ _ _ I r h) λ_ j hq_=>?_);let⟨b,k,l,m⟩:=hq_;exact d a j b k _ _ Q l i m
def gTup(K:PySem.W.Frag)(n:Nat)(t:TGs):TG:=λv σ H Q => ∃a xs,v = .ref a/\SqT K H a xs/\xs.length=n/\t xs σ H Q
theorem xC{k:Nat}{t:TGs}{n:Nat}(i:X.calm=true)(h:PGs X es t)(j:(assignEach es X.env).length=n:=by rfl)(d:(assignEach es X.env).findIdx? (·.1)=none:=by rfl):PG X (.Tuple es k pos) (gTup X.K n t):=by
 intro c s σ H v u Q I r f;let⟨a,l,m,p,q,f⟩:=f;subst m;cases r;let⟨w,g,x,B⟩:=I.tuple p;refine assign_Tuple_tuple (I.ok.hd i) x (by simp [j,<-q,g.length]) d λy z=>?_;let A:Inv X c σ H { s with heap:=y }:=I.kept (t':=s.toks) λb o e=>z b o (aZ (aT e)) e;exact h c _ σ H l _ Q A (by simpa using g) f
def gSub(to ti:TE)(t:TSet):TG:=λv σ H Q=>to σ H λo H1=>ti σ H1 λi H2=>t o i v H2 λH3=>Q σ H3
theorem wT{t:TSet}(f:PE X o d)(hi:PE X i e)(g:PSet X t)(j:∀v,assign (.Subscript o i pos) X.env v=(do
   let b <-holding [v] (eval o X.env)
   let c <-holding [v,b] (eval i X.env)
   standAt pos
   holding [v,b,c] (setItem b c v)
   release [v,b,c] []):=by intro _;rfl):PG X (.Subscript o i pos) (gSub d e t):=by
 intro a s σ H v u Q I r h;rw [j];refine aA (bM (thn (f a s σ H _ I h) λb k hq_=>?_));let⟨x,l,m,n,p⟩:=hq_;refine aA (bM (thn (hi a k σ l _ m p) λc q hq_=>?_));let⟨y,w,z,A,B⟩:=hq_;refine aA (dI (aA (bM (thn (g a q σ w x y v b c u _ z n A r B) λ_ F hq_=>?_))));let⟨C,D,E⟩:=hq_;exact wpAny_release ⟨σ,C,D,E⟩
def tAsg(te:TE)(g:TG):TS:=λD σ H=>te σ H λx H1=>g x σ H1 D.nx
theorem xN(d:PE X e c)(f:PG X b g)(i:swapsWithSole [b] e pos.line X.env=pure false:=by rfl)(j:swappedStores [b] e X.env=pure none:=by rfl)(k:(assignEach [b] X.env).map (·.2) = [assign b X.env]:=by rfl):PS X (.Assign [b] e pos) (tAsg c g):=by
 intro a s σ H D I h;refine wpAny_Assign_stores (thn (d a s σ H _ I h) λv l hq_=>?_) i j;let⟨x,m,n,o,p⟩:=hq_;rw [k];exact thn (f a l σ m x v _ n o p) λ_ r q=>q
theorem zU{i:Nat}(d:X.N.Nodup)(hi:X.N[i]? = some x)(f:Loc X.env.scope x)(g:PE X e c)(j:swapsWith e (some (.Name x a)) pos.line X.env=pure false:=by rfl)(k:X.fn x=true\/X.env.scope.names.lookup x=some .local:=by first | exact .inl rfl | exact .inr rfl | assumption):PS X (.Assign [.Name x a] e pos) (tAsg c (gName i)):=by
 intro b s σ H D I h;refine wpAny_Assign_Name (thn (g b s σ H _ I h) λv q hq_=>?_) j;let⟨y,l,m,n,o⟩:=hq_;exact vP m d hi f n (λr p=>⟨_,l,p,o⟩) k
def tPar(i j:Nat)(ta:TA):TS:=λD σ H=>ta σ H λvs H1 => ∃v w,vs = [v,w]/\D.nx ((σ.set i (some v)).set j (some w)) H1
theorem wU{i j:Nat}{l m pt:Pos}{kt n d}(K:X.calm=true)(C:X.N.Nodup)(hi:X.N[i]? = some x)(L:X.N[j]? = some y)(r:i≠j)(E:X.env.scope.names.lookup x=some .local)(F:X.env.scope.names.lookup y=some .local)(M:PA X [a,b] B)(hw:swappedStores [.Tuple [.Name x l,.Name y m] kt pt] (.Tuple [a,b] n d) X.env=pure (some [x,y]))(O:swapsWithSole [.Tuple [.Name x l,.Name y m] kt pt] (.Tuple [a,b] n d) pos.line X.env=pure false:=by rfl):PS X (.Assign [.Tuple [.Name x l,.Name y m] kt pt] (.Tuple [a,b] n d) pos) (tPar i j B):=by
 intro c s σ H D I h;rw [exec_Assign_arm];refine aA (dI ?_);rw [O];refine aA (aD ?_);rw [if_neg ⋯];refine aA (Tuple_ (thn (M _ c s σ H _ I h) λP f hq_=>?_));let⟨vs,G,Q,R,t⟩:=hq_;let⟨v,w,S,t⟩:=t;subst S;obtain⟨g,k,rfl,T,u⟩:∃g k,P = [g,k]/\RelV v g/\RelV w k:=by
  cases R with
  | cons p q =>
   cases q with
   | cons U V =>
    cases V;exact⟨_,_,rfl,p,U⟩
 refine cN ?_ (by show 2<=sizeLine;decide);let W:Inv X c σ G { f with heap:=f.heap.push { cls :=.type "tuple",data :=.seq [g,k].toArray } }:=Q.kept (t':=f.toks) λb o e=>aE _ e;rw [hw];refine aA (aD ?_);show wpAny (model X.prog X.w) X.A (do rule "assign.swapped-stores";let items <-unpackItems (.ref f.heap.objs.size) 2 none;assignInOrder [λv=>bindName X.env y v,λv=>bindName X.env x v] items.reverse;pure Flow.next) _ _ _;refine aA (cY (aA (unpackItems_tuple (items := #[g,k]) (I.ok.hd K) (IsTup.new f.heap _) λh' z=>?_)));let Y:=W.kept (h':=h') (t':=f.toks) λb o e=>z b o (aZ (aT e)) e
 show wpAny _ _ (assignInOrder [λv=>bindName X.env y v,λv=>bindName X.env x v] [k,g] >>= λ_=>pure Flow.next) _ _ _;refine aA (assignInOrder_cons (wpAny_bindName (vP Y C L (.inl F) u (λs2 Z=>?_) (.inr F))));refine assignInOrder_cons (wpAny_bindName (vP Z C hi (.inl E) T (λs3 J=>assignInOrder_nil (aD ?_)) (.inr E)));rw [List.set_comm _ _ (cP r)] at J;exact⟨_,G,J,t⟩
end
def qYv(c:TT)(tb:TS):TS:=λD σ H => ∃W:Nat->St->Hp->Prop,(∃m,W m σ H) /\ ∀m σ H,W m σ H ->
 c σ H λb H1=>if b=true then ∃N:St->Hp->Prop,(∀ σ' H',N σ' H' -> ∃m',m'<m/\W m' σ' H')/\tb { D with nx:=N,ct:=N,bk:=D.nx } σ H1 else D.nx σ H1
theorem oO(y:PassesOwn (model X.prog X.w) X.A X.env X.xe)(G:PT X c u)(J:PSs X g x):PS X (.While c g [] pos) (qYv u x):=by
 intro a s σ H D I h;obtain⟨W,⟨K,L⟩,i⟩:=h;refine wpAny_While (codeAny_whileLoop (λn M => ∃ j z,Inv X a j z M/\W n j z) ?_ K ⟨σ,H,I,L⟩);rintro n O ⟨e,B,P,Q⟩;refine gN y (thn (G a O e B _ P (i n e B Q)) λb R hq_=>?_);let⟨C,E,l⟩:=hq_;cases b with
 | true =>
  let⟨N,F,l⟩:=l;rw [if_pos rfl];refine gN y (thn (J a R e C _ E l) λf S m=>?_);cases f with
  | next =>
   let⟨d,k,o,p⟩:=m;let⟨q,r,t⟩:=F d k p;exact⟨q,r,d,k,o,t⟩
  | cont =>
   let⟨d,k,o,p⟩:=m;let⟨q,r,t⟩:=F d k p;exact⟨q,r,d,k,o,t⟩
  | brk=>exact m
  | ret v=>exact m
 | false =>
  rw [if_neg aK];exact wpAny_execs_nil ⟨e,C,E,l⟩
structure It where
 go:Nat->Hp->Prop
 yld:Nat->Hp->V->Hp->Prop
 stop:Nat->Hp->Prop
def FpOk(X:Cx)(pins:List (Addr×Obj))(H:Hp)(b:Addr):Prop:=H b=none/\b≠X.env.locals/\b∉X.fs/\(b∈X.ex\/X.s₀.heap.objs.size<=b)/\(∀x c,X.env.cells.lookup x=some c->c≠b) /\ ∀p∈X.pn++pins,p.1≠b
theorem Inv.fpOk{σ : St}{b:Addr}(I:Inv X a σ H s)(d:s.heap.objs.size<=b)(f:H' b=none):FpOk X a H' b:=by
 refine⟨f,fM (bK I.lt d),I.nofs d,.inr (cD I.sz d),λx c e z=>?_,λp g z=>?_⟩
 .let⟨v,q⟩:=I.cell x c e;exact absurd (bK q.lt (by rw [z];exact d)) (eK _)
 .exact absurd (bK (aT (I.pin p g).1) (by rw [z];exact d)) (eK _)
structure Turn(P:Program)(w:World)(K:PySem.W.Frag)(tg:Expr)(J:It)(fp:List Addr)(it:Addr)(tn:Nat->Heap->Prop):Prop where
 mem:it∈fp
 obj:∀i h,tn i h -> ∀b∈fp,∃o,h.get? b=some o /\ ∀v,o.data ≠ .cell v
 keep:∀i h h',tn i h->(∀b∈fp,∀o,h.get? b=some o->h'.get? b=some o)->tn i h'
 item:∀(X:Cx),X.prog=P->X.w=w->X.K=K->X.calm=true -> ∀(i:Nat) (pins:List (Addr×Obj)) (s:Shared) (σ : St) (H:Hp) (E:Value->Shared->Prop),Inv X pins σ H s->(∀b∈fp,FpOk X pins H b)->tn i s.heap->J.go i H ->
  wpAny (model P w) X.A (pyNext (.ref it)) (λr s1 => ∃u,r=some u /\
   wpAny (model P w) X.A (letOwnedTupleGo tg (.ref it) u) (λ_ s2 => ∃x H',Inv X pins σ H' s2/\RelV x u/\J.yld i H x H'/\tn (i+1) s2.heap /\ ∀b∈fp,H' b=none) E s1) E s
 done:∀(X:Cx),X.prog=P->X.w=w->X.K=K->X.calm=true -> ∀(i:Nat) (pins:List (Addr×Obj)) (s:Shared) (σ : St) (H:Hp) (E:Value->Shared->Prop),Inv X pins σ H s->(∀b∈fp,FpOk X pins H b)->tn i s.heap->J.stop i H ->
  wpAny (model P w) X.A (pyNext (.ref it)) (λr s1=>r=none/\Inv X pins σ H s1) E s
 self:∀(A:Around) (i:Nat) (s:Shared) (Q:Value->Shared->Prop) (E:Value->Shared->Prop),tn i s.heap->Q (.ref it) s->wpAny (model P w) A (pyIter (.ref it)) Q E s
abbrev TI:=St->Hp->(It->Hp->Prop)->Prop
def PIE(X:Cx)(pins:List (Addr×Obj))(σ : St)(tg:Expr)(R:It->Hp->Prop)(itv:Value)(s2:Shared):Prop :=
 ∃(it:Addr) (fp:List Addr) (tn:Nat->Heap->Prop) (J:It) (H':Hp),itv = .ref it/\Inv X pins σ H' s2/\Turn X.prog X.w X.K tg J fp it tn/\tn 0 s2.heap/\(∀b∈fp,FpOk X pins H' b)/\R J H'
def PI(X:Cx)(tg iter:Expr)(wi:TI):Prop :=
 ∀(pins:List (Addr×Obj)) (s:Shared) (σ : St) (H:Hp) (R:It->Hp->Prop),Inv X pins σ H s->wi σ H R ->
  wpAny (model X.prog X.w) X.A (eval iter X.env) (λv s1=>wpAny (model X.prog X.w) X.A (pyIter v) (PIE X pins σ tg R) X.xe s1) X.xe s
theorem wV(c:s.heap.get? it=some o)(d:o.cls = .type n)(hd:o.data = .fields vs)
  (e : ["enumerate","zip","dict_itemiterator","dict_reverseitemiterator","odict_iterator","itertools.zip_longest","itertools.pairwise"].contains n=false) (a:Q () s):wpAny M A (letOwnedTupleGo b (.ref it) u) Q E s:=by
 unfold letOwnedTupleGo;cases b <;> first
  | exact aD a
  | (cases u <;> first
    | exact aD a
    | (refine aA (wpAny_load c ?_)
       rw [d,hd];show wpAny M A (if (["enumerate","zip","dict_itemiterator","dict_reverseitemiterator","odict_iterator","itertools.zip_longest","itertools.pairwise"].contains n&&vs[0]? == some (rawInt _))=true then _ else _) Q E s;rw [if_neg (by intro h;rw [e,Bool.false_and] at h;cases h)]
       exact aD a))
noncomputable def Itl(K:PySem.W.Frag)(a:Addr):It:=⟨λi H => ∃xs x,SqL K H a xs/\xs[i]? = some x,λi H x H'=>H'=H /\ ∀xs,SqL K H a xs->xs[i]? = some x,λi H => ∃xs,SqL K H a xs/\xs.length<=i⟩
noncomputable def Itt(K:PySem.W.Frag)(a:Addr):It:=⟨λi H => ∃xs x,SqT K H a xs/\xs[i]? = some x,λi H x H'=>H'=H /\ ∀xs,SqT K H a xs->xs[i]? = some x,λi H => ∃xs,SqT K H a xs/\xs.length<=i⟩
noncomputable def Itr(lo:Int)(n:Nat):It:=⟨λi _=>i<n,λi H x H'=>H'=H/\x = .int (lo+i),λi _=>n<=i⟩
theorem qOx{K:PySem.W.Frag}(a it:Addr):Turn P w K N (Itl K a) [it] it (λi h=>h.IsListIter it a i) where
 mem:=by simp
 obj:=λi h st b g=>by
  let e:b=it:=by simpa using g
  subst e;let⟨o,e,c,d⟩:=st;exact⟨o,e,λv z=>by rw [d] at z;cases z⟩
 keep:=λi h l st k=>st.at λo e=>k it ∅ o e
 item:=by
  intro X q r t M i f s σ H E I m st y;subst q r t;let⟨O,x,n,A⟩:=y;let⟨B,C,p,Q⟩:=I.list n;let⟨u,R,S⟩:=C.get A;let⟨D,F,T,G,J,L⟩:=m it ∅;refine wpAny_pyNext_list_item st p.isList (x:=u) (by simpa using R) λl j U=>?_;let V:Inv X f σ H { s with heap:=l }:=I.turned (t':=s.toks) (λb o g e=>(U.2 b g).trans e) D F G J L;let⟨o,e,c,d⟩:=id j;exact⟨u,rfl,wV (s :={ s with heap:=l }) e c d ⋯ ⟨x,H,V,S,⟨rfl,λys Y=>by rw [I.list_inj Y n];exact A⟩,j,λb g=>(m b g).1⟩⟩
 done:=by
  intro X q r t M i f s σ H E I m st y;subst q r t;let⟨O,n,A⟩:=y;let⟨B,C,p,Q⟩:=I.list n;let⟨D,F,T,G,J,L⟩:=m it ∅;let hl:=C.length;exact wpAny_pyNext_list_end (I.ok.hd M) st p.isList (by simp;lia) λl Z=>⟨rfl,I.turned (t':=s.toks) (λb o g e=>Z b o g e) D F G J L⟩
 self:=λ_ _ _ _ _ st h=>wpAny_pyIter_listiter st h
theorem qNn{K:PySem.W.Frag}(a it:Addr):Turn P w K N (Itt K a) [it] it (λi h=>h.IsTupleIter it a i) where
 mem:=by simp
 obj:=λi h st b g=>by
  let e:b=it:=by simpa using g
  subst e;let⟨o,e,c,d⟩:=st;exact⟨o,e,λv z=>by rw [d] at z;cases z⟩
 keep:=λi h m st k=>st.at λo e=>k it ∅ o e
 item:=by
  intro X r t y M i f s σ H E I n st A;subst r t y;let⟨O,x,q,B⟩:=A;let⟨j,C,p,Q⟩:=I.tuple q;let⟨u,R,S⟩:=C.get B;let⟨D,F,T,G,J,L⟩:=n it ∅;refine wpAny_pyNext_tuple_item st (show s.heap.IsTuple a j.toArray from p) (x:=u) (by simpa using R) λm l U=>?_;let V:Inv X f σ H { s with heap:=m }:=I.turned (t':=s.toks) (λb o g e=>(U.2 b g).trans e) D F G J L;let⟨o,e,c,d⟩:=id l;exact⟨u,rfl,wV (s :={ s with heap:=m }) e c d ⋯ ⟨x,H,V,S,⟨rfl,λys Y=>by rw [I.tuple_inj Y q];exact B⟩,l,λb g=>(n b g).1⟩⟩
 done:=by
  intro X r t y M i f s σ H E I n st A;subst r t y;let⟨O,q,B⟩:=A;let⟨j,C,p,Q⟩:=I.tuple q;let⟨D,F,T,G,J,L⟩:=n it ∅;let hl:=C.length;exact wpAny_pyNext_tuple_end (I.ok.hd M) st (show s.heap.IsTuple a j.toArray from p) (by simp;lia) λm Z=>⟨rfl,I.turned (t':=s.toks) (λb o g e=>Z b o g e) D F G J L⟩
 self:=λ_ _ _ _ _ st h=>wpAny_pyIter_tupleiter st h
theorem qNo{K:PySem.W.Frag}(it:Addr)(lo:Int)(n:Nat):Turn P w K B (Itr lo n) [it] it (λi h=>IsRangeIter h it (lo+(i:Nat)*1) ((n:Int) - (i:Nat)) 1) where
 mem:=by simp
 obj:=λi h st b c=>by
  let e:b=it:=by simpa using c
  subst e
  exact⟨_,st,λv z=>by
   let C:Data.fields _=Data.cell v:=z
   cases C⟩
 keep:=λi h f st k=>k it ∅ _ st
 item:=by
  intro X j l m p i a s σ H E I g st q;subst j l m;let⟨r,u,D,x,y,A⟩:=g it ∅;let W:=Walks.range (prog:=X.prog) (w:=X.w) (I.ok.hd p) it lo 1 n;refine W.item i s _ _ q st λv f tk F d G=>?_;let⟨t,rfl⟩:=F;let J:Inv X a σ H { s with heap:=f,toks:=tk }:=I.turned (λb o c e=>G b o (by simpa using c) e) r u x y A;refine⟨_,rfl,wV (s :={ s with heap:=f,toks:=tk }) (n := "range_iterator") d rfl rfl ⋯ ⟨.int (lo+i),H,J,⟨t,?_⟩,⟨rfl,rfl⟩,d,λb c=>(g b c).1⟩⟩;rw [Int.mul_one]
 done:=by
  intro X j l m p i a s σ H E I g st q;subst j l m;let⟨r,u,D,x,y,A⟩:=g it ∅;exact wpAny_pyNext_range_end (I.ok.hd p) st (by let:n<=i:=q;lia) λf L=>⟨rfl,I.turned (t':=s.toks) (λb o c e=>L b o c e) r u x y A⟩
 self:=λ_ _ _ _ _ st h=>wpAny_pyIter_rangeiter st h
def iList(K:PySem.W.Frag)(tl:TE):TI:=λσ H R=>tl σ H λx H1 => ∃a,x = .ref a/\(∃xs,SqL K H1 a xs)/\R (Itl K a) H1
def iTup(K:PySem.W.Frag)(tl:TE):TI:=λσ H R=>tl σ H λx H1 => ∃a,x = .ref a/\(∃xs,SqT K H1 a xs)/\R (Itt K a) H1
theorem yJ(i:PE X l g):PI X tg l (iList X.K g):=by
 intro c s σ H R I h;refine thn (i c s σ H _ I h) λv d hq_=>?_;let⟨x,j,f,k,m⟩:=hq_;obtain⟨a,e,⟨u,n⟩,q⟩:=m;subst e;cases k;let⟨r,w,p,y⟩:=f.list n;refine wpAny_pyIter_list p.isList ?_;refine⟨d.heap.objs.size,[d.heap.objs.size],_,_,j,rfl,f.kept (t':=d.toks) λb o e=>aE _ e,qOx a _,⟨_,aW _ rfl,rfl,rfl⟩,λb t=>?_,q⟩;let e:b=d.heap.objs.size:=by simpa using t
 subst e;exact f.fpOk (aH _) (f.hok.fresh (aH _))
theorem ud(j:PE X l i):PI X tg l (iTup X.K i):=by
 intro c s σ H R I h;refine thn (j c s σ H _ I h) λv d hq_=>?_;let⟨x,k,f,m,n⟩:=hq_;obtain⟨a,e,⟨u,r⟩,q⟩:=n;subst e;cases m;let⟨g,w,p,y⟩:=f.tuple r;refine wpAny_pyIter_tuple (show d.heap.IsTuple a g.toArray from p) ?_;refine⟨d.heap.objs.size,[d.heap.objs.size],_,_,k,rfl,f.kept (t':=d.toks) λb o e=>aE _ e,qNn a _,⟨_,aW _ rfl,rfl,rfl⟩,λb t=>?_,q⟩;let e:b=d.heap.objs.size:=by simpa using t
 subst e;exact f.fpOk (aH _) (f.hok.fresh (aH _))
theorem qTe{σ : St}{lo hi:Int}{t u v:Tok}{tk:Nat}(I:Inv X a σ H s)(d : -(2^62)<=lo)(f:lo<2^62)(g : -(2^62)<=hi)(h:hi<2^62)
  (q:R (Itr lo (hi - lo).toNat) H):wpAny (model X.prog X.w) X.A (pyIter (.ref s.heap.objs.size)) (PIE X a σ tg R) E { s with heap:=s.heap.push { cls :=.type "range",data :=.fields #[.int lo t,.int hi u,.int 1 v] },toks:=tk }:=by
 refine wpAny_pyIter_range (IsRange.new ..) (small_one d f g h) ?_;let c:Inv X a σ H { s with heap:=s.heap.push { cls :=.type "range",data :=.fields #[.int lo t,.int hi u,.int 1 v] },toks:=tk }:=I.kept λb o e=>aE _ e
 refine⟨(s.heap.push { cls :=.type "range",data :=.fields #[.int lo t,.int hi u,.int 1 v] }).objs.size,[(s.heap.push { cls :=.type "range",data :=.fields #[.int lo t,.int hi u,.int 1 v] }).objs.size],_,_,H,rfl,
  c.kept (t':=tk) λb o e=>aE _ e,qNo _ lo (hi - lo).toNat,?_,λb i=>?_,q⟩
 .let j:lo+((0:Nat):Int)*1=lo:=by simp
  let k:(((hi - lo).toNat:Nat):Int) - ((0:Nat):Int)=Builtin.Range.rangeSize lo hi 1:=by rw [rangeSize_one];split <;> lia
  show IsRangeIter _ _ (lo+((0:Nat):Int)*1) ((((hi - lo).toNat:Nat):Int) - ((0:Nat):Int)) 1;rw [j,k];exact aW _ rfl
 .let e:b=(s.heap.push { cls :=.type "range",data :=.fields #[.int lo t,.int hi u,.int 1 v] }).objs.size:=by simpa using i
  subst e;exact c.fpOk (aH _) (c.hok.fresh (aH _))
def iRng1(ta:TA):TI:=λσ H R=>ta σ H λvs H1 => ∃j:Int,vs = [.int j] /\ -(2^62)<=j/\j<2^62/\R (Itr 0 j.toNat) H1
theorem yW(f:Gl X "range")(g:X.mg "range" = none)(i:PA X [a] d)(k:starEach [a] X.env = [(false,eval a X.env)]:=by rfl):PI X tg (.Call (.Name "range" p) [a] [] pos) (iRng1 d):=by
 intro b s σ H R I h;refine Call_ (xw I f g boot_range (fP (thn (i pos b s σ H _ I h) λu v hq_=>?_) k rfl));let⟨w,x,l,m,c⟩:=hq_;let⟨j,e,c,n,q⟩:=c;subst e;cases m with
 | cons r o =>
  cases o;let⟨t,rfl⟩:=r;exact call_range_1 (qTe l ∎ ∎ c n (by simpa using q))
def tFor(wi:TI)(g:TG)(tb:TS):TS:=λD σ H=>wi σ H λJ H1 => ∃W:Nat->Nat->St->Hp->Prop,(∃m,W 0 m σ H1) /\ ∀i m σ H,W i m σ H ->
 (J.stop i H/\D.nx σ H)\/(J.go i H /\ ∃N:St->Hp->Prop,(∀ σ' H',N σ' H' -> ∃m',m'<m/\W (i+1) m' σ' H') /\ ∀x H',J.yld i H x H'->g x σ H' λσ2 H2=>tb { D with nx:=N,ct:=N,bk:=D.nx } σ2 H2)
noncomputable def wW(fp:List Addr)(h:Heap):List (Addr×Obj):=fp.filterMap λb=>(h.get? b).map λo=>(b,o)
theorem vQ(c:b∈a)(e:h.get? b=some o):(b,o)∈wW a h:=bU.mpr ⟨b,c,by rw [e];rfl⟩
theorem qR4(c:p∈wW a h):p.1∈a/\h.get? p.1=some p.2:=by
 let⟨b,d,e⟩:=bU.mp c;cases q:h.get? b with
 | none=>rw [q] at e;cases e
 | some o =>
  rw [q] at e;let f:(b,o)=p:=bB e;subst f;exact⟨d,q⟩
theorem Inv.pinned{σ : St}(I:Inv X a σ H s)(h:∀b∈c,FpOk X a H b)(i:∀b∈c,∃o,s.heap.get? b=some o /\ ∀v,o.data ≠ .cell v):Inv X (a++wW c s.heap) σ H s :=
 I.pins_of λp j=>(aJ.mp j).elim (λz=>I.pin p (cF _ z)) λz=>by
  let⟨f,e⟩:=qR4 z;let⟨k,l,m,_⟩:=h p.1 f;let⟨o,g,d⟩:=i p.1 f;rw [e] at g;cases g;exact⟨e,k,l,m,d⟩
theorem Inv.unpinned{σ : St}(I:Inv X (a++pl) σ H s):Inv X a σ H s:=I.pins_of λp b=>I.pin p (cF _ (bI _ b))
theorem yX(F:PassesOwn (model X.prog X.w) X.A X.env X.xe)(hc:X.calm=true)(hi:PI X tg j Z)(hg:PG X tg g)(k:PSs X B tb)(hs:∀x,foldedSetIterable j X.env x=pure x:=by intro _;rfl):PS X (.For tg j B [] pos) (tFor Z g tb):=by
 intro a s σ H D I h;refine wpAny_For (thn (hi a s σ H _ I h) λv s1 h1=>thn h1 λa0 s2 h2=>?_) hs;obtain⟨it,G,tn,J,H2,e,I2,T,Q,f2,W,⟨m0,w0⟩,K⟩:=h2;subst e;let l:∀ {z:Hp},(∀b∈G,z b=none) -> ∀b∈G,FpOk X a z b:=λhn b k=>⟨hn b k,(f2 b k).2⟩;refine codeAny_forLoop_any (λn s' => ∃i p z,Inv X a p z s'/\tn i s'.heap/\(∀b∈G,z b=none)/\W i n p z) ?_ m0 ⟨0,σ,H2,I2,Q,λb k=>(f2 b k).1,w0⟩;rintro n s3 ⟨i,q,P,I3,L,M,w3⟩;rcases K i n q P w3 with ⟨stop,qn⟩ | ⟨go,N,hN,step⟩
 .refine gN F (thn (T.done X rfl rfl rfl hc i a s3 q P X.xe I3 (l M) L stop) λr s4 hq_=>?_);let⟨R,I4⟩:=hq_;subst R;exact wpAny_execs_nil ⟨q,P,I4,qn⟩
 .refine gN F (thn (T.item X rfl rfl rfl hc i a s3 q P X.xe I3 (l M) L go) λr s4 hq_=>?_);let⟨u,R,h4⟩:=hq_;subst R;refine gN F (thn h4 λ_ s5 hq_=>?_);let⟨x,H5,I5,r5,y5,E,S⟩:=hq_;let U:=I5.pinned (l S) (T.obj _ _ E);refine gN F (thn (hg _ s5 q H5 x u _ U r5 (step x H5 y5)) λ_ s6 hq_=>?_);let⟨V,H6,I6,q6⟩:=hq_;refine gN F (thn (k _ s6 V H6 _ I6 q6) λf Y C=>?_);let again:∀ {c:St} {t:Hp},Inv X (a++wW G s5.heap) c t Y->N c t -> ∃m,m<n /\ ∃i p z,Inv X a p z Y/\tn i Y.heap/\(∀b∈G,z b=none)/\W i m p z:=λ{c t} y O=>by
   let⟨m',hm,w7⟩:=hN c t O;refine⟨m',hm,i+1,c,t,y.unpinned,T.keep _ _ _ E λb k o e=>(y.pin (b,o) (cF _ (cF _ (vQ k e)))).1,λb k=>?_,w7⟩;let⟨o,e,d⟩:=T.obj _ _ E b k;exact (y.pin (b,o) (cF _ (cF _ (vQ k e)))).2.1
  cases f with
  | next=>obtain⟨c,t,y,O⟩:=C;exact again y O
  | cont=>obtain⟨c,t,y,O⟩:=C;exact again y O
  | brk=>obtain⟨c,t,y,C⟩:=C;exact⟨c,t,y.unpinned,C⟩
  | ret v=>obtain⟨x7,c,t,y,r7,C⟩:=C;exact⟨x7,c,t,y.unpinned,r7,C⟩
theorem qUw{K:PySem.W.Frag}{g:TG}{j:TS}{D:Ends}(Pv:Nat->St->Hp->Prop)(l:Pv 0 σ H)(n:∀i σ H,i<=xs.length->Pv i σ H->SqL K H a xs)(o:∀i x σ H,xs[i]? = some x->Pv i σ H->g x σ H λb h=>j { D with nx:=Pv (i+1),ct:=Pv (i+1),bk:=D.nx } b h)(r:∀ σ H,Pv xs.length σ H->D.nx σ H):∃W:Nat->Nat->St->Hp->Prop,(∃m,W 0 m σ H) /\ ∀i m σ H,W i m σ H ->
   ((Itl K a).stop i H/\D.nx σ H)\/((Itl K a).go i H /\ ∃N:St->Hp->Prop,(∀ c d,N c d -> ∃k,k<m/\W (i+1) k c d) /\ ∀x d,(Itl K a).yld i H x d->g x σ d λb h=>j { D with nx:=N,ct:=N,bk:=D.nx } b h):=by
 refine⟨λi m σ H=>m=xs.length - i/\i<=xs.length/\Pv i σ H,⟨xs.length,∅,aX _,l⟩,?_⟩;rintro i m σ H ⟨rfl,s,p⟩;let q:=n i σ H s p;by_cases f:i<xs.length
 .refine .inr ⟨⟨xs,xs[i],q,by simp [f]⟩,Pv (i+1),λc d t=>⟨xs.length - (i+1),∎,rfl,f,t⟩,λx d y=>?_⟩;let⟨e,y⟩:=y;subst e;exact o i x σ _ (y xs q) p
 .let e:i=xs.length:=by lia
  subst e;exact .inl ⟨⟨xs,q,aH _⟩,r σ H p⟩
theorem qRv{lo:Int}{n:Nat}{g:TG}{h:TS}{D:Ends}(Pv:Nat->St->Hp->Prop)(k:Pv 0 σ H)(l:∀i σ H,i<n->Pv i σ H->g (.int (lo+i)) σ H λa f=>h { D with nx:=Pv (i+1),ct:=Pv (i+1),bk:=D.nx } a f)(o:∀ σ H,Pv n σ H->D.nx σ H):∃W:Nat->Nat->St->Hp->Prop,(∃m,W 0 m σ H) /\ ∀i m σ H,W i m σ H ->
   ((Itr lo n).stop i H/\D.nx σ H)\/((Itr lo n).go i H /\ ∃N:St->Hp->Prop,(∀ b c,N b c -> ∃j,j<m/\W (i+1) j b c) /\ ∀x c,(Itr lo n).yld i H x c->g x σ c λa f=>h { D with nx:=N,ct:=N,bk:=D.nx } a f):=by
 refine⟨λi m σ H=>m=n - i/\i<=n/\Pv i σ H,⟨n,∅,aX _,k⟩,?_⟩;rintro i m σ H ⟨rfl,r,p⟩;by_cases d:i<n
 .refine .inr ⟨d,Pv (i+1),λb c q=>⟨n - (i+1),∎,rfl,d,q⟩,λx c y=>?_⟩;let⟨e,y⟩:=y;subst e y;exact l i σ _ d p
 .let e:i=n:=by lia
  subst e;exact .inl ⟨aH _,o σ H p⟩
abbrev R2:=V->V->Hp->VK->Prop
def OpR(X:Cx)(f:Value->Value->Sem Value)(r:R2):Prop :=
 ∀(pins:List (Addr×Obj)) (s:Shared) (σ : St) (H:Hp) (x y:V) (v u:Value) (Q:VK),Inv X pins σ H s->RelV x v->RelV y u->r x y H Q ->
  wpAny (model X.prog X.w) X.A (f v u) (EP X pins σ Q) X.xe s
def UnR(X:Cx)(f:Value->Sem Value)(r:V->Hp->VK->Prop):Prop :=
 ∀(pins:List (Addr×Obj)) (s:Shared) (σ : St) (H:Hp) (x:V) (v:Value) (Q:VK),Inv X pins σ H s->RelV x v->r x H Q ->
  wpAny (model X.prog X.w) X.A (f v) (EP X pins σ Q) X.xe s
def CallR(X:Cx)(f:Value)(r:List V->Hp->VK->Prop):Prop :=
 ∀(pins:List (Addr×Obj)) (s:Shared) (σ : St) (H:Hp) (xs:List V) (us:List Value) (Q:VK),Inv X pins σ H s->Vals xs us->r xs H Q ->
  wpAny (model X.prog X.w) X.A (call f us) (EP X pins σ Q) X.xe s
def TruR(X:Cx)(r:V->Hp->(Bool->Hp->Prop)->Prop):Prop :=
 ∀(pins:List (Addr×Obj)) (s:Shared) (σ : St) (H:Hp) (x:V) (v:Value) (Q:Bool->Hp->Prop),Inv X pins σ H s->RelV x v->r x H Q ->
  wpAny (model X.prog X.w) X.A (truthy v) (TP X pins σ Q) X.xe s
def tOp(r:R2)(ta tb:TE):TE:=λσ H Q=>ta σ H λx H1=>tb σ H1 λy H2=>r x y H2 Q
def tUn(r:V->Hp->VK->Prop)(ta:TE):TE:=λσ H Q=>ta σ H λx H1=>r x H1 Q
def rI(C:Int->Int->Prop)(g:Int->Int->V):R2:=λx y H Q => ∃i j,x = .int i/\y = .int j/\C i j/\Q (g i j) H
def rI0(g:Int->Int->V):R2:=λx y H Q => ∃i j,x = .int i/\y = .int j/\Q (g i j) H
def rU(g:Int->V):V->Hp->VK->Prop:=λx H Q => ∃i,x = .int i/\Q (g i) H
theorem binT(k:PE X a ta)(l:PE X b tb){c:List (Addr×Obj)}{σ : St}{R:V->V->Hp->Prop}(I:Inv X c σ H s)(h:ta σ H λx j=>tb σ j λy d=>R x y d){f:Value->Value->Sem Value}(m:∀v u i x y d,Inv X c σ d i->RelV x v->RelV y u->R x y d->wpAny (model X.prog X.w) X.A (f v u) Q X.xe i):wpAny (model X.prog X.w) X.A (eval a X.env) (λv e =>wpAny (model X.prog X.w) X.A (eval b X.env) (λu g =>wpAny (model X.prog X.w) X.A (f v u) Q X.xe g) X.xe e) X.xe s:=by
 refine thn (k c s σ H _ I h) λv n hq_=>?_;let⟨x,j,o,p,q⟩:=hq_;refine thn (l c n σ j _ o q) λu i hq_=>?_;let⟨y,d,r,t,z⟩:=hq_;exact m v u i x y d r p t z
theorem zM(d:OpR X (binaryOp op) r)(e:PE X a ta)(f:PE X b tb):PE X (.BinOp a op b pos) (tOp r ta tb):=by
 intro c s σ H Q I h;exact wpAny_BinOp (binT e f I h λv u g x y i j k l q=>d c g σ i x y v u Q j k l q)
theorem wX(c:UnR X (unaryOp op) r)(d:PE X a ta):PE X (.UnaryOp op a pos) (tUn r ta):=by
 intro b s σ H Q I h;refine UnaryOp_ (thn (d b s σ H _ I h) λv e hq_=>?_);let⟨x,f,g,i,j⟩:=hq_;exact c b e σ f x v Q g i j
theorem opI{g:Int->Int->Int}(rule:∀(i j:Int) (t u:Tok) (s:Shared) (Q:Value->Shared->Prop) (E:Value->Shared->Prop),C i j->Q (.int (g i j) s.toks) { s with toks:=s.toks+1 }->wpAny (model X.prog X.w) X.A (f (.int i t) (.int j u)) Q E s):OpR X f (rI C λi j =>.int (g i j)):=by
 intro a s σ H x y v u Q I b c h;let⟨i,j,rfl,rfl,d,q⟩:=h;let⟨t,rfl⟩:=b;let⟨e,rfl⟩:=c;exact rule i j t e s _ _ d ⟨.int (g i j),H,I.tok _,⟨_,rfl⟩,q⟩
theorem opI0{g:Int->Int->Int}(rule:∀(i j:Int) (t u:Tok) (s:Shared) (Q:Value->Shared->Prop) (E:Value->Shared->Prop),Q (.int (g i j) s.toks) { s with toks:=s.toks+1 }->wpAny (model X.prog X.w) X.A (f (.int i t) (.int j u)) Q E s):OpR X f (rI0 λi j =>.int (g i j)):=by
 intro a s σ H x y v u Q I b c h;let⟨i,j,rfl,rfl,q⟩:=h;let⟨t,rfl⟩:=b;let⟨d,rfl⟩:=c;exact rule i j t d s _ _ ⟨.int (g i j),H,I.tok _,⟨_,rfl⟩,q⟩
theorem opB0{g:Int->Int->Bool}(rule:∀(i j:Int) (t u:Tok) (s:Shared) (Q:Value->Shared->Prop) (E:Value->Shared->Prop),Q (.bool (g i j)) s->wpAny (model X.prog X.w) X.A (f (.int i t) (.int j u)) Q E s):OpR X f (rI0 λi j =>.bl (g i j)):=by
 intro a s σ H x y v u Q I b c h;let⟨i,j,rfl,rfl,q⟩:=h;let⟨t,rfl⟩:=b;let⟨d,rfl⟩:=c;exact rule i j t d s _ _ ⟨.bl (g i j),H,I,rfl,q⟩
def CDiv(i j:Int):Prop:=0<j/\j<1073741824
def CPow(i j:Int):Prop:=0<=j/\j<=1000000/\i.natAbs<2^64
def CMul(i j:Int):Prop:=(-(2^64)<i/\i<2^64)\/(-(2^64)<j/\j<2^64)
theorem CMul.ok{i j:Int}(h:CMul i j):IntMulOk i j:=by
 rcases h with ⟨a,b⟩ | ⟨a,b⟩
 .exact .of_left (intBits_le_64 a b)
 .exact .of_right (intBits_le_64 a b)
theorem zp:OpR X (binaryOp .Add) (rI0 λi j =>.int (i+j)):=opI0 λ_ _ _ _ _ _ _ q=>add_int q
theorem ue:OpR X (binaryOp .Sub) (rI0 λi j =>.int (i - j)):=opI0 λ_ _ _ _ _ _ _ q=>sub_int q
theorem wY:OpR X (binaryOp .Mult) (rI CMul λi j =>.int (i*j)):=opI λ_ _ _ _ _ _ _ a q=>mul_int q a.ok
theorem oP:OpR X (binaryOp .FloorDiv) (rI CDiv λi j =>.int (i / j)):=opI λi j _ _ _ _ _ a q=>by
 let b:(0:Int)<j:=a.1;let c:j<1073741824:=a.2;exact floordiv_int ∎ (by rw [Int.fdiv_eq_ediv_of_nonneg i ∎];exact q) (.inl (PyProof.noPylong_small ∎))
theorem xD:OpR X (binaryOp .Mod) (rI (λ_ j=>0<j) λi j =>.int (i%j)):=opI λi j _ _ _ _ _ a q=>by
 let b:(0:Int)<j:=a;exact mod_int' ∎ (by rw [Int.fmod_eq_emod_of_nonneg i ∎];exact q)
theorem wZ:OpR X (binaryOp .Pow) (rI CPow λi j =>.int (i^j.toNat)):=opI λ_ _ _ _ _ _ _ a q=>pow_int_small a.1 a.2.1 a.2.2 q
theorem unI{g:Int->Int}(rule:∀(i:Int) (t:Tok) (s:Shared) (Q:Value->Shared->Prop) (E:Value->Shared->Prop),Q (.int (g i) s.toks) { s with toks:=s.toks+1 }->wpAny (model X.prog X.w) X.A (f (.int i t)) Q E s):UnR X f (rU λi =>.int (g i)):=by
 intro a s σ H x v Q I b h;let⟨i,rfl,q⟩:=h;let⟨t,rfl⟩:=b;exact rule i t s _ _ ⟨.int (g i),H,I.tok _,⟨_,rfl⟩,q⟩
theorem wc:UnR X (unaryOp .USub) (rU λi =>.int (-i)):=unI λ_ _ _ _ _ q=>neg_int q
noncomputable def scal:V->V->Bool
 | .non,.non=>true | .non,.int _=>true | .int _,.non=>true | .non,.bl _=>true | .bl _,.non=>true | .non,.str _=>true | .str _,.non=>true
 | .int _,.int _=>true | .bl _,.bl _=>true | .str _,.str _=>true | .byt _,.byt _=>true
 | .int _,.str _=>true | .str _,.int _=>true | .bl _,.str _=>true | .str _,.bl _=>true
 | _,_=>false
def rEq:R2:=λx y H Q=>scal x y=true/\Q (.bl (decide (x=y))) H
def rNe:R2:=λx y H Q=>scal x y=true/\Q (.bl (!decide (x=y))) H
theorem oQ{i j:Int}:decide (V.int i=V.int j)=(i == j):=by
 rw [gO];simp
theorem oR{i j:Bool}:decide (V.bl i=V.bl j)=(i == j):=by
 rw [gO];simp
theorem oS:decide (V.str i=V.str j)=(i == j):=by
 rw [gO];simp
theorem oT:decide (V.byt i=V.byt j)=(i.toList == j.toList):=by
 rw [gO];cases i;cases j;simp
theorem zj{a:List (Addr×Obj)}{H:Hp}{s:Shared}{Q:VK}{k b:Bool}(I:Inv X a σ H s)(q:Q (.bl k) H)(e:k=b):EP X a σ Q (.bool b) s:=by
 subst e;exact⟨.bl k,H,I,rfl,q⟩
theorem zd:OpR X (compareOp .Eq) rEq:=by
 intro e s σ H x y v u Q I d a h;let⟨c,q⟩:=h;cases x with
 | non =>
  cases d;cases y with
  | non=>cases a;exact PySem.EqNone.eq_none_none (zj I q ∅)
  | bl j=>cases a;exact PySem.EqNone.eq_none_bool (zj I q ∅)
  | int j=>obtain⟨b,rfl⟩:=a;exact PySem.EqNone.eq_none_int (zj I q ∅)
  | str j=>obtain⟨b,rfl⟩:=a;exact PySem.EqNone.eq_none_str (zj I q ∅)
  | _=>exact absurd (show false=true from c) aK
 | bl i =>
  cases d;cases y with
  | non=>cases a;exact PySem.EqNone.eq_bool_none (zj I q ∅)
  | bl j=>cases a;exact eq_bool (zj I q oR)
  | str j=>obtain⟨b,rfl⟩:=a;exact PySem.EqMixed.eq_bool_str (zj I q ∅)
  | _=>exact absurd (show false=true from c) aK
 | int i =>
  let⟨t,rfl⟩:=d;cases y with
  | non=>cases a;exact PySem.EqNone.eq_int_none (zj I q ∅)
  | int j=>obtain⟨b,rfl⟩:=a;exact eq_int (zj I q oQ)
  | str j=>obtain⟨b,rfl⟩:=a;exact PySem.EqMixed.eq_int_str (zj I q ∅)
  | _=>exact absurd (show false=true from c) aK
 | str i =>
  let⟨t,rfl⟩:=d;cases y with
  | non=>cases a;exact PySem.EqNone.eq_str_none (zj I q ∅)
  | bl j=>cases a;exact PySem.EqMixed.eq_str_bool (zj I q ∅)
  | int j=>obtain⟨b,rfl⟩:=a;exact PySem.EqMixed.eq_str_int (zj I q ∅)
  | str j=>obtain⟨b,rfl⟩:=a;exact eq_str (zj I q oS)
  | _=>exact absurd (show false=true from c) aK
 | byt i =>
  let⟨t,rfl⟩:=d;cases y with
  | byt j=>obtain⟨b,rfl⟩:=a;exact PySem.W.eq_bytes (zj I q oT)
  | _=>exact absurd (show false=true from c) aK
 | _=>cases y <;> exact absurd (show false=true from c) aK
theorem oU:OpR X (compareOp .NotEq) rNe:=by
 intro e s σ H x y v u Q I d a h;let⟨c,q⟩:=h;cases x with
 | non =>
  cases d;cases y with
  | non=>cases a;exact PySem.EqNone.ne_none_none (zj I q ∅)
  | bl j=>cases a;exact PySem.EqNone.ne_none_bool (zj I q ∅)
  | int j=>obtain⟨b,rfl⟩:=a;exact PySem.EqNone.ne_none_int (zj I q ∅)
  | str j=>obtain⟨b,rfl⟩:=a;exact PySem.EqNone.ne_none_str (zj I q ∅)
  | _=>exact absurd (show false=true from c) aK
 | bl i =>
  cases d;cases y with
  | non=>cases a;exact PySem.EqNone.ne_bool_none (zj I q ∅)
  | bl j=>cases a;exact ne_bool (zj I q (congrArg not oR))
  | str j=>obtain⟨b,rfl⟩:=a;exact PySem.EqMixed.ne_bool_str (zj I q ∅)
  | _=>exact absurd (show false=true from c) aK
 | int i =>
  let⟨t,rfl⟩:=d;cases y with
  | non=>cases a;exact PySem.EqNone.ne_int_none (zj I q ∅)
  | int j=>obtain⟨b,rfl⟩:=a;exact ne_int (zj I q (congrArg not oQ))
  | str j=>obtain⟨b,rfl⟩:=a;exact PySem.EqMixed.ne_int_str (zj I q ∅)
  | _=>exact absurd (show false=true from c) aK
 | str i =>
  let⟨t,rfl⟩:=d;cases y with
  | non=>cases a;exact PySem.EqNone.ne_str_none (zj I q ∅)
  | bl j=>cases a;exact PySem.EqMixed.ne_str_bool (zj I q ∅)
  | int j=>obtain⟨b,rfl⟩:=a;exact PySem.EqMixed.ne_str_int (zj I q ∅)
  | str j=>obtain⟨b,rfl⟩:=a;exact ne_str (zj I q (congrArg not oS))
  | _=>exact absurd (show false=true from c) aK
 | byt i =>
  let⟨t,rfl⟩:=d;cases y with
  | byt j=>obtain⟨b,rfl⟩:=a;exact PySem.W.ne_bytes (zj I q (congrArg not oT))
  | _=>exact absurd (show false=true from c) aK
 | _=>cases y <;> exact absurd (show false=true from c) aK
theorem xf:OpR X (compareOp .Lt) (rI0 λi j =>.bl (decide (i<j))):=opB0 λ_ _ _ _ _ _ _ q=>lt_int q
theorem uf:OpR X (compareOp .Gt) (rI0 λi j =>.bl (decide (j<i))):=opB0 λ_ _ _ _ _ _ _ q=>gt_int q
theorem wB3:OpR X (compareOp .GtE) (rI0 λi j =>.bl (decide (j<=i))):=opB0 λ_ _ _ _ _ _ _ q=>ge_int q
theorem qXj:OpR X (compareOp .IsNot) (λx y H Q=>y = .non/\Q (.bl (!decide (x = .non))) H):=by
 intro a s σ H x y v u Q I b c h;let⟨rfl,q⟩:=h;cases c;refine isnot_none_gen (zj I q ?_);cases x <;> first
  | (cases b;rfl)
  | (obtain⟨t,rfl⟩:=b;rfl)
theorem zO(b:Expr)(h:op ≠ .In:=by decide)(a:op ≠ .NotIn:=by decide):behindInMarks op b=false:=by
 let c:(op == CmpOp.In)=false:=by cases op <;> first | rfl | exact absurd rfl h
 let d:(op == CmpOp.NotIn)=false:=by cases op <;> first | rfl | exact absurd rfl a
 cases b <;> simp [behindInMarks,c,d]
theorem zy(d:OpR X (compareOp op) r)(e:PE X a ta)(f:PE X b tb)(g:behindInMarks op b=false):PE X (.Compare a [op] [b] pos) (tOp r ta tb):=by
 intro c s σ H Q I h;exact wpAny_Compare1 (binT e f I h λv u i x y j k l m q=>d c i σ j x y v u Q k l m q) g
def tTest(t:TE):TT:=λσ H Q=>t σ H λx H' => ∃k,x = .bl k/\Q k H'
theorem zR(f:OpR X (compareOp op) r)(g:PE X a ta)(i:PE X b tb)(j:behindInMarks op b=false):PT X (.Compare a [op] [b] pos) (tTest (tOp r ta tb)):=by
 intro d s σ H Q I h;refine wpAny_isTrue_Compare1 (thn (g d s σ H _ I h) λv l hq_=>?_) j;let⟨x,m,n,o,p⟩:=hq_;refine thn (i d l σ m _ n p) λu q hq_=>?_;let⟨y,t,w,A,B⟩:=hq_;refine thn (f d q σ t x y v u _ w o A B) λc G hq_=>?_;let⟨z,C,D,E,k,e,F⟩:=hq_;subst e;cases E;exact gM ⟨C,D,F⟩
noncomputable def TruV(K:PySem.W.Frag)(x:V)(H:Hp)(k:Bool):Prop :=
 match x with
 | .non=>k=false
 | .bl b=>k=b
 | .int i=>k=(i != 0)
 | .str y=>y.length<=sizeLine/\k=((y.length:Int) != 0)
 | .byt y=>y.size<=sizeLine/\k=((y.size:Int) != 0)
 | .ref p=>(∃xs,SqL K H p xs/\k = !xs.isEmpty)\/(∃xs,SqT K H p xs/\k = !xs.isEmpty) \/ ∃kvs,H p=some (.dK kvs)/\k = !kvs.isEmpty
 | _=>False
theorem qOg{κ : Type}{kvs:List (κ × V)}{vs:List (κ × Value)}(r:KV kvs vs):(!vs.isEmpty) = !kvs.isEmpty:=by
 cases r <;> rfl
theorem oV(r:Vals xs its):(!its.toArray.isEmpty) = !xs.isEmpty:=by
 cases r <;> simp
theorem we:(sizeLine:Nat)<2^63:=by rw [gH];decide
theorem qYu:TruR X (λx H Q => ∃k,TruV X.K x H k/\Q k H):=by
 intro u s σ H x v Q I g h;let⟨k,e,q⟩:=h;let C:=we;let D:sizeLine=16777216:=gH;cases x with
 | non =>
  cases g;let a:k=false:=e;subst a;exact truthy_none ⟨H,I,q⟩
 | bl b =>
  cases g;let a:k=b:=e;subst a;exact gM ⟨H,I,q⟩
 | int i =>
  let⟨t,rfl⟩:=g;let a:k=(i != 0):=e;subst a;exact PySem.P.truthy_int ⟨H,I,q⟩
 | str y =>
  let⟨t,rfl⟩:=g;obtain⟨A,a⟩:y.length<=sizeLine/\k=((y.length:Int) != 0):=e;subst a;exact PySem.P.truthy_str ∎ ⟨H,I.tok _,q⟩
 | byt y =>
  let⟨t,rfl⟩:=g;obtain⟨A,a⟩:y.size<=sizeLine/\k=((y.size:Int) != 0):=e;subst a;exact PySem.W.truthy_bytes ∎ ⟨H,I.tok _,q⟩
 | ref p =>
  cases g;let a:(∃f,SqL X.K H p f/\k = !f.isEmpty)\/(∃f,SqT X.K H p f/\k = !f.isEmpty) \/ ∃c,H p=some (.dK c)/\k = !c.isEmpty:=e;rcases a with ⟨f,j,a⟩ | ⟨f,j,a⟩ | ⟨c,j,a⟩
  .subst a;let⟨n,r,o,z⟩:=I.list j;let d:=r.length;exact wpAny_truthy_list o.isList (by simp only [aR];lia) ⟨H,I.tok _,by rw [oV r];exact q⟩
  .subst a;let⟨n,r,o,z⟩:=I.tuple j;let d:=r.length;exact truthy_tuple o (by simp only [aR];lia) ⟨H,I.tok _,by rw [oV r];exact q⟩
  .subst a;obtain⟨z,B,l,r,m⟩:c.length<=sizeLine/\(p == sysModules)=false /\ ∃l,KV c l/\s.heap.DictOf (zY X.prog X.w) p l:=I.hok p _ j;let d:c.length=l.length:=dD r;exact wpAny_truthy_dict B m ∎ ⟨H,I.tok _,by rw [qOg r];exact q⟩
 | _=>exact (show False from e).elim
theorem qTm(d:PE X a ta)(e:∀b,isTrue a X.env b=(do let v <-b;standAt a.pos;holding [v] (truthy v))):PT X a (λσ H Q=>ta σ H λx H' => ∃k,TruV X.K x H' k/\Q k H'):=by
 intro c s σ H Q I h;refine isTrue_plain (thn (d c s σ H _ I h) λv f hq_=>?_) (e _);let⟨x,g,i,j,l⟩:=hq_;exact qYu c f σ g x v Q i j l
theorem vals1(r:Vals [x] us):∃u,us = [u]/\RelV x u:=by
 cases r with
 | cons a b=>cases b;exact⟨_,rfl,a⟩
theorem vals2(r:Vals [x,y] us):∃u a,us = [u,a]/\RelV x u/\RelV y a:=by
 cases r with
 | cons b c =>
  cases c with
  | cons d e=>cases e;exact⟨_,_,rfl,b,d⟩
theorem oW:CallR X (.builtin "abs") (λxs H Q => ∃i,xs = [.int i]/\Q (.int (if i<0 then -i else i)) H):=by
 intro a s σ H xs b Q I r h;let⟨i,rfl,q⟩:=h;let⟨u,rfl,t,rfl⟩:=vals1 r;exact call_abs_int λu tk=>⟨.int (if i<0 then -i else i),H,I.tok _,⟨_,rfl⟩,q⟩
theorem oX(c:X.calm=true):CallR X (.builtin "max") (λxs H Q => ∃i j,xs = [.int i,.int j]/\Q (.int (if j>i then j else i)) H):=by
 intro b s σ H xs d Q I r h;let⟨i,j,rfl,q⟩:=h;obtain⟨u,e,rfl,⟨t,rfl⟩,⟨f,rfl⟩⟩:=vals2 r;refine max_two_ints (I.ok.hd c) λg tk k=>⟨_,H,I.kept k,?_,q⟩;by_cases a:j>i
 .rw [if_pos a,if_pos a];exact⟨_,rfl⟩
 .rw [if_neg a,if_neg a];exact⟨_,rfl⟩
theorem qSj(c:X.calm=true):CallR X (.builtin "min") (λxs H Q => ∃i j,xs = [.int i,.int j]/\Q (.int (if j<i then j else i)) H):=by
 intro b s σ H xs d Q I r h;let⟨i,j,rfl,q⟩:=h;obtain⟨u,e,rfl,⟨t,rfl⟩,⟨f,rfl⟩⟩:=vals2 r;refine min_two_ints (I.ok.hd c) λg tk k=>⟨_,H,I.kept k,?_,q⟩;by_cases a:j<i
 .rw [if_pos a,if_pos a];exact⟨_,rfl⟩
 .rw [if_neg a,if_neg a];exact⟨_,rfl⟩
theorem xg:CallR X (.type "int") (λxs H Q=>(∃i,xs = [.int i]/\Q (.int i) H) \/ ∃k,xs = [.bl k]/\Q (.int (if k then 1 else 0)) H):=by
 intro a s σ H xs c Q I r h;rcases h with ⟨i,rfl,q⟩ | ⟨k,rfl,q⟩
 .let⟨u,rfl,t,rfl⟩:=vals1 r;exact call_int_int ⟨.int i,H,I,⟨_,rfl⟩,q⟩
 .let⟨u,rfl,b⟩:=vals1 r;cases b;exact call_int_bool ⟨.int (if k then 1 else 0),H,I.tok _,⟨_,rfl⟩,q⟩
theorem RelO.some_of(r:RelO (some v) o):∃u,o=some u/\RelV v u:=by
 cases o with
 | none=>exact (show False from r).elim
 | some u=>exact⟨u,rfl,r⟩
structure Room(k:Nat)(A:Around):Prop where
 hd:A.handled=none
 dp:A.depth+3*k+5<recursionLimit
 un:A.units+16*k+200<cLine
 gd:A.guards=some []:=by rfl
theorem Room.mono{j k:Nat}(r:Room k A)(h:j<=k):Room j A:=⟨r.hd,by let:=r.dp;lia,by let:=r.un;lia,r.gd⟩
theorem Room.deeper{k:Nat}(r:Room (k+1) A)(env:Env):Room k (A.deeper env):=⟨r.hd,by let:=r.dp;show A.depth+1+3*k+5<_;lia,by let:=r.un;show A.units+3+16*k+200<_;lia,r.gd⟩
theorem Room.in1{k:Nat}(r:Room (k+1) A):Room k A.in1:=⟨r.hd,by let:=r.dp;show A.depth+3*k+5<_;lia,by let:=r.un;show A.units+1+16*k+200<_;lia,r.gd⟩
theorem Room.depth{k:Nat}(r:Room k A):A.depth<recursionLimit:=by let:=r.dp;lia
theorem Room.units{k:Nat}(r:Room k A):A.units+64<cLine:=by let:=r.un;lia
theorem Room.units0{k:Nat}(r:Room k A):A.units<cLine:=by let:=r.un;lia
def tNil:TA:=λ_ H Q=>Q [] H
def tCons(ta:TE)(tr:TA):TA:=λσ H Q=>ta σ H λx H1=>tr σ H1 λxs H2=>Q (x::xs) H2
theorem zB:PA X [] tNil:=λ_ _ _ _ H Q I h=>Calls.spliced_nil ⟨[],H,I,.nil,h⟩
theorem zA(b:PE X e te)(c:PA X es t)(d:starEach (e::es) X.env=(false,eval e X.env)::starEach es X.env:=by rfl):PA X (e::es) (tCons te t):=by
 intro pos a s σ H Q I h;rw [d];show wpAny _ _ (spliced ((false,eval e X.env)::backTo pos (starEach es X.env))) _ _ s;refine Calls.spliced_cons (thn (b a s σ H _ I h) λu f hq_=>?_);let⟨x,g,i,j,k⟩:=hq_;refine thn (c pos a f σ g _ i k) λq r hq_=>?_;let⟨l,m,n,o,p⟩:=hq_;exact⟨x::l,m,n,.cons j o,p⟩
def tTup(t:TA):TE:=λσ H Q=>t σ H λxs H1=>xs.length<=sizeLine /\ ∀p,H1 p=none->Q (.ref p) (upd H1 p (.tup xs))
def tLst(t:TA):TE:=λσ H Q=>t σ H λxs H1=>xs.length<=sizeLine /\ ∀p,H1 p=none->Q (.ref p) (upd H1 p (.lst xs))
theorem zm{x1}(h:PA X es t):PE X (.Tuple es x1 pos) (tTup t):=by
 intro a s σ H Q I g;refine wpAny_Tuple_spliced (thn (h pos a s σ H _ I g) λi c hq_=>?_);let⟨j,d,f,r,z,q⟩:=hq_;refine⟨by rw [<-r.length];exact z,?_⟩;let k:d c.heap.objs.size=none:=f.hok.fresh (aH _);refine⟨.ref c.heap.objs.size,upd d c.heap.objs.size (.tup j),f.laid (t':=c.toks) (λb u e=>aE _ e) (aH _) ?_,rfl,q _ k⟩;exact⟨z,i,r,⟨_,aW _ rfl,rfl,_,rfl⟩⟩
theorem zZ(h:PA X es t):PE X (.List es pos) (tLst t):=by
 intro a s σ H Q I g;refine wpAny_List_spliced (thn (h pos a s σ H _ I g) λi c hq_=>?_);let⟨j,d,f,r,z,q⟩:=hq_;refine⟨by rw [<-r.length];exact z,?_⟩;let k:d c.heap.objs.size=none:=f.hok.fresh (aH _);refine⟨.ref c.heap.objs.size,upd d c.heap.objs.size (.lst j),f.laid (t':=c.toks) (λb u e=>aE _ e) (aH _) ?_,rfl,q _ k⟩;exact⟨z,i,0,r,aW _ rfl⟩
abbrev Sp:=List V->Hp->VK->XK->Prop
abbrev CXT:=List Env->Hp->Shared->XK->Value->Shared->Prop
structure Env0(P:Program)(w:World)(K:PySem.W.Frag)(mg:Str->Option Value)(base:Heap)(A:Around)(outer:List Env)(s:Shared)(H:Hp):Prop where
 frames:A.frames=some outer
 mod:Mod K mg base
 bs:∀b o,base.get? b=some o->s.heap.get? b=some o/\H b=none
 bsz:base.objs.size<=s.heap.objs.size
 funs:s.heap.FunFrames base outer
 frf:∀b∈frs outer,H b=none
 hok:HOk P w H s.heap
 bare:AllBare s.gens
def CE(outer:List Env)(P:Program)(w:World)(H:Hp)(s:Shared)(Q:VK)(u:Value)(s':Shared):Prop :=
 ∃v H',s'.os=s.os/\AllBare s'.gens/\Un (frs outer) [] H H' s.heap s'.heap/\HOk P w H' s'.heap/\RelV v u/\Q v H'
def CR(CX:CXT)(outer:List Env)(P:Program)(w:World)(H:Hp)(s:Shared)(Q:VK)(E:XK)(r:Result)(s':Shared):Prop :=
 match r with
 | .ok (.ret u)=>CE outer P w H s Q u s'
 | .ok _=>False
 | .error e=>CX outer H s E e s'
structure FnOk(P:Program)(w:World)(K:PySem.W.Frag)(mg:Str->Option Value)(base:Heap)(CX:CXT)(k:Nat)(f:Addr)(fd:FuncData)(ps:List Str)(sp:Sp):Prop where
 len:∀vs H Q E,sp vs H Q E->vs.length=ps.length
 run:∀(A:Around) (outer:List Env) (s:Shared) (H:Hp) (args:Args) (us:List Value) (vs:List V) (Q:VK) (E:XK),Room k A->Env0 P w K mg base A outer s H->BindsTo s fd args (ps.zip us)->Vals vs us->sp vs H Q E ->
  codeAny (model P w) A (.call (.ref f) args) (CR CX outer P w H s Q E) s
theorem Env0.in1{K:PySem.W.Frag}(e:Env0 P w K mg base A outer s H):Env0 P w K mg base A.in1 outer s H:=⟨e.frames,e.mod,e.bs,e.bsz,e.funs,e.frf,e.hok,e.bare⟩
section
variable{X:Cx}{pins:List (Addr×Obj)}{σ : St}{H:Hp}{s s':Shared}
theorem Inv.env0(I:Inv X pins σ H s):Env0 X.prog X.w X.K X.mg X.base X.A X.stack s H:=⟨I.ok.frames,I.ok.mod,I.bs,cD I.ok.bsz I.sz,I.stack,I.stkFree,I.hok,I.bare⟩
theorem Inv.after(I:Inv X pins σ H s)(h:CE X.stack X.prog X.w H s Q u s'):EP X pins σ Q u s':=by
 let⟨v,c,os,bare,un,hok,r,q⟩:=h;let⟨e,g,d,t,a⟩:=s';obtain rfl:a=s.os:=os;exact⟨v,c,I.call (h':=e) (g':=g) (d':=d) (t':=t) (ch :=[]) un hok bare (λb z=>absurd z ∅),r,q⟩
end
def tCall(sp:Sp)(dvs:List V)(E:XK)(t:TA):TE:=λσ H Q=>t σ H λvs H1=>sp (vs++dvs) H1 Q E
def Binds(K:PySem.W.Frag)(fd:FuncData)(ps:List Str)(ds:List Value):Prop :=
 ∀(s:Shared) (us:List Value),K.In s.heap->(us++ds).length=ps.length->BindsTo s fd ⟨us,[]⟩ (ps.zip (us++ds))
theorem Binds.all{K:PySem.W.Frag}(h:∀us:List Value,us.length=a.length->bindArgs b ⟨us,[]⟩=pure (a.zip us)):Binds K b a []:=λs us _ c=>by
 rw [cE] at c ⊢;exact .of_eq (h us c)
def ug(CX:CXT)(X:Cx)(E:XK):Prop := ∀(pins:List (Addr×Obj)) (σ : St) (H:Hp) (s:Shared) (e:Value) (s':Shared),Inv X pins σ H s->CX X.stack H s E e s'->X.xe e s'
section
variable{X:Cx}{CX:CXT}{k:Nat}{f C:Addr}{fd:FuncData}{ps:List Str}{sp:Sp}{dvs:List V}{ds:List Value}{E:XK}{x m:Str}{p pos apos:Pos}{e o:Expr}{es:List Expr}{t:TA}
theorem qZ1{σ : St}(F:FnOk X.prog X.w X.K X.mg X.base CX k f fd ps sp)(d:Room k X.A)(g:Binds X.K fd ps ds)(hd:Vals dvs ds)(i:ug CX X E)(I:Inv X a σ H s)(r:Vals vs us)(h:sp (vs++dvs) H Q E):wpAny (model X.prog X.w) X.A (call (.ref f) us) (EP X a σ Q) X.xe s:=by
 let c:Vals (vs++dvs) (us++ds):=r.append hd;let j:(us++ds).length=ps.length:=by rw [<-c.length];exact F.len _ _ _ _ h
 refine wpAny_call (hJ (F.run X.A X.stack s H ⟨us,[]⟩ (us++ds) (vs++dvs) Q E d I.env0 (g s us I.kIn j) c h) λr l b=>?_);cases r with
 | error e=>exact i a σ H s e l I b
 | ok fl =>
  cases fl with
  | ret u=>exact I.after b
  | next=>exact False.elim b
  | brk=>exact False.elim b
  | cont=>exact False.elim b
theorem qXe(F:FnOk X.prog X.w X.K X.mg X.base CX k f fd ps sp)(g:Room k X.A)(i:Gl X x)(j:X.mg x=some (.ref f))(l:PySem.W.keepIn X.K (.ref f)=true)(m:Binds X.K fd ps ds)(hd:Vals dvs ds)(n:ug CX X E)
  (o:PA X (e::es) t) (b:(x == ("__debug__" : Str))=false:=by decide) (u:starEach (e::es) X.env=(false,eval e X.env)::starEach es X.env:=by rfl) (c:(backTo pos (starEach es X.env)).any (·.1)=false:=by rfl) :
  PE X (.Call (.Name x p) (e::es) [] pos) (tCall sp dvs E t):=by
 intro a s σ H Q I h;refine wpAny_Call_Name_kw (qY6 I i j ?_ b);refine PySem.W.callWith_K (h₀ :=X.base) I.ok.mod.kin l (thn (o pos a s σ H _ I h) λv y hq_=>?_) u c;let⟨z,B,d,r,q⟩:=hq_;refine⟨d.kIn,?_⟩;exact qZ1 F g m hd n d r q
end
structure FnScope(N P:List Str)(sc:Scope):Prop where
 kind:sc.kind = .function
 co:sc.isCoroutine=false
 gen:sc.isGenerator=false
 nd:N.Nodup
 pre:N.take P.length=P
 par:∀x∈P,sc.names.lookup x=some .local\/sc.names.lookup x=some .cell
 nofree:∀y∈sc.names,y.2 ≠ .free
theorem oY{kindOf:Str->Option NameKind}:∀ {binds:List (Str×Value)} {m:Str->Option Value},(∀v,(x,v)∉binds)->bindL kindOf binds m x=m x
 | [],_,_=>rfl
 | (n,v)::r,m,h=>by
  unfold bindL;rw [oY λw a=>h w (aS _ a)];split
  .let:x≠n:=by rintro rfl;exact h v aV
   simp [this]
  .rfl
theorem oZ{kindOf:Str->Option NameKind}:∀ {binds:List (Str×Value)} {m:Str->Option Value},(∀v,(x,v)∉binds)->bindC kindOf binds m x=m x
 | [],_,_=>rfl
 | (n,v)::r,m,h=>by
  unfold bindC;rw [oZ λw a=>h w (aS _ a)];split
  .rfl
  .let:x≠n:=by rintro rfl;exact h v aV
   simp [this]
theorem oe{kindOf:Str->Option NameKind}:∀ {P:List Str} {vs:List Value} {i:Nat} {m:Str->Option Value},P.Nodup->P[i]? = some x->vs[i]? = some v->kindOf x=some .local ->
  bindL kindOf (P.zip vs) m x=some v
 | [],_,_,_,_,h,_,_=>by simp at h
 | _::_,[],_,_,_,_,h,_=>by simp at h
 | p::P,w::vs,0,m,nd,a,b,c=>by
  simp at a b;subst a;subst b;show bindL kindOf ((p,w)::P.zip vs) m p=_;unfold bindL;rw [oY λv d=>(cK.mp nd).1 (List.of_mem_zip d).1,if_pos c];simp
 | p::P,w::vs,i+1,m,nd,a,b,c=>by
  show bindL kindOf ((p,w)::P.zip vs) m x=_;unfold bindL;exact oe (i:=i) (cK.mp nd).2 (by simpa using a) (by simpa using b) c
theorem og{kindOf:Str->Option NameKind}:∀ {P:List Str} {vs:List Value} {i:Nat} {m:Str->Option Value},P.Nodup->P[i]? = some x->vs[i]? = some v->kindOf x≠some .local ->
  bindC kindOf (P.zip vs) m x=some v
 | [],_,_,_,_,h,_,_=>by simp at h
 | _::_,[],_,_,_,_,h,_=>by simp at h
 | p::P,w::vs,0,m,nd,a,b,c=>by
  simp at a b;subst a;subst b;show bindC kindOf ((p,w)::P.zip vs) m p=_;unfold bindC;rw [oZ λv d=>(cK.mp nd).1 (List.of_mem_zip d).1,if_neg c];simp
 | p::P,w::vs,i+1,m,nd,a,b,c=>by
  show bindC kindOf ((p,w)::P.zip vs) m x=_;unfold bindC;exact og (i:=i) (cK.mp nd).2 (by simpa using a) (by simpa using b) c
noncomputable def start(N:List Str)(vs:List V):St:=vs.map some++List.replicate (N.length - vs.length) none
noncomputable def cxOf(CX:CXT)(P:Program)(w:World)(K:PySem.W.Frag)(mg:Str->Option Value)(base:Heap)(N:List Str)(qual:Str)(scope:Scope)(f:Addr)(cd:Value)(A:Around)(outer:List Env)(s:Shared)(H:Hp)(E:XK):Cx where
 prog:=P
 w:=w
 K:=K
 mg:=mg
 base:=base
 A:=A.deeper (envOfC qual scope s.heap.objs.size f cd)
 N:=N
 s₀ :=s
 H₀ :=H
 env:=envOfC qual scope s.heap.objs.size f cd
 outer:=outer
 stack:=envOfC qual scope s.heap.objs.size f cd::outer
 ex :=[]
 calm:=true
 fn:=λ_=>true
 pn :=[]
 xe:=λe s'=>wpAny (model P w) (A.deeper (envOfC qual scope s.heap.objs.size f cd)) (leaving (envOfC qual scope s.heap.objs.size f cd) e) (λ_ s''=>CX outer H s E e s'') (λe' s''=>CX outer H s E e' s'') s'
theorem oh{a:Scope}{n:Nat}(h:a.names.lookup x=some .cell):∃c,(cellsFrom n a.names []).lookup x=some c:=by
 let q:=PySem.W.cellsFrom_some a.names n [] (.inl h);exact gP.mp q
theorem oj{K:PySem.W.Frag}(S:FnScope N l scope)(hd:A.handled=none)(j:Env0 P w K mg base A outer s H)(Q:vs.length=l.length)(r:Vals vs us)(x:InCallC s s.heap.objs.size (bindL (envOfC d scope s.heap.objs.size f B).kindOf (l.zip us) λ_=>none) (cellsFrom (s.heap.objs.size+1) scope.names []) (bindC (envOfC d scope s.heap.objs.size f B).kindOf (l.zip us) λ_=>none) G):Inv (cxOf F P w K mg base N d scope f B A outer s H E) [] (start N vs) H G:=by
 let L:l.length<=N.length:=by let:=congrArg List.length S.pre;rw [bD] at this;lia
 let⟨C,tk,rfl,I⟩:=x.done;let m:∀b:Addr,b∉(cxOf F P w K mg base N d scope f B A outer s H E).ex:=λb z=>absurd (show b∈([]:List Addr) from z) ∅
 refine⟨⟨j.mod,S.kind,rfl,rfl,aH _,λy z c C g=>?_,λy hy=>?_,λy c _ h=>?_,λ_=>hd,Around.frames_deeper j.frames,.inr ⟨rfl,rfl⟩,λb z=>absurd z (m b),j.bs,j.bsz,λb _ _=>m b,λb z=>absurd z (m b),j.funs,j.frf⟩,
  rfl,j.bare,Un.kept I,⟨_,x.toInCall.ns,λi y v C g R=>?_⟩,λy c h=>⟨_,x.cell y c h⟩,j.hok.fresh (aH _),λy c h=>?_,λp o=>absurd (show p∈([]:List (Addr×Obj)) from o) ∅,j.hok.kept I,?_⟩
 .exact name_of_addr x.apart (eY C) (eY g)
 .let hy:scope.names.lookup y=some .cell\/scope.names.lookup y=some .free:=hy;rcases hy with hy | hy
  .exact oh hy
  .exact absurd rfl (S.nofree _ (eY hy))
 .exact bS (x.above y c (eY h))
 .let D:i<vs.length:=by
   unfold start at g;by_cases D:i<vs.length
   .exact D
   .rw [cZ (by simpa using D)] at g;rw [List.getElem?_replicate] at g;split at g <;> cases g
  let M:vs[i]? = some v:=by
   unfold start at g;rw [dO (by simpa using D),aU] at g;cases e:vs[i]? with
   | none=>rw [e] at g;cases g
   | some a=>rw [e] at g;cases g;rfl
  let⟨u,J,O⟩:=r.get M;let o:l[i]? = some y:=by
   rw [<-S.pre,List.getElem?_take_of_lt ∎];exact C
  let t:l.Nodup:=by rw [<-S.pre];exact S.nd.sublist (List.take_sublist _ _)
  refine⟨u,O,?_⟩;rcases S.par y (aN o) with k | k
  .exact .inl ⟨k,oe t o J k⟩
  .let⟨c,e⟩:=oh (n:=s.heap.objs.size+1) k;refine .inr ⟨.inl k,c,e,?_⟩;let q:=x.cell y c e;rw [og t o J (by show scope.names.lookup y≠_;rw [k];decide)] at q;exact q
 .exact j.hok.fresh (bS (x.above y c (eY h)))
 .unfold start;show _=N.length;rw [aG,aB,List.length_replicate];lia
theorem wAe{K:PySem.W.Frag}{k:Nat}{O kV doc R c ct Z:Value}(lk:K.lookup f=some ⟨Z,od,.func (PySem.W.fnOf name a d g scope O kV doc R T c ct),D⟩)(F:PySem.W.codeIn K c a=true)(S:FnScope N C scope)(len:∀vs H Q E,sp vs H Q E->vs.length=C.length)(j:∀(A:Around) (outer:List Env) (s:Shared) (H:Hp) (vs:List V) (Q:VK) (E:XK),Room k (A.deeper (envOfC a scope s.heap.objs.size f c))->sp vs H Q E ->
   ∃t,PSs (cxOf B P w K mg base N a scope f c A outer s H E) g t/\t { nx:=λ_ i=>Q .non i,rt:=Q } (start N vs) H) :
  FnOk P w K mg base B (k+1) f (PySem.W.fnOf name a d g scope O kV doc R T c ct) C sp:=by
 refine⟨len,λA outer s H U us vs Q E G p hb r z=>?_⟩;let hl:=len _ _ _ _ z;let X:K.In s.heap:=p.mod.kin.keeps λb o e=>(p.bs b o e).1;let lim:s.heap.NoLimit:=p.mod.nolimit.keeps λb o e=>(p.bs b o e).1;let l:∀y∈C.zip us,scope.names.lookup y.1=some .local\/(scope.names.lookup y.1=some .cell/\((cellsFrom (s.heap.objs.size+1) scope.names []).lookup y.1).isSome=true):=λ⟨n,v⟩ hy=>by
  rcases S.par n (List.of_mem_zip hy).1 with q | q
  .exact .inl q
  .exact .inr ⟨q,PySem.W.cellsFrom_some _ _ _ (.inl q)⟩
 refine codeAny_call_function G.depth (X _ _ lk) rfl S.co S.gen rfl (PySem.W.codeRec_of X F) (hb _ _ _ _ ?_);refine wpAny_newFunctionEnv_cells S.kind l λa0 he Y x=>?_;subst he;refine⟨lim.keeps x.toInCall.keep,codeAny_func ?_⟩;let⟨t,ht,hq⟩:=j A outer s H vs Q E (G.deeper _) z;let I:Inv (cxOf B P w K mg base N a scope f c A outer s H E) [] (start N vs) H Y:=oj S G.hd p hl r x;refine cX (ht [] Y (start N vs) H _ I hq) (λfl L m=>?_) λe L m=>m;let fin:∀ {h:St} {i:Hp} {v:V} {u:Value},Inv (cxOf B P w K mg base N a scope f c A outer s H E) [] h i L->RelV v u->Q v i->CE outer P w H s Q u L :=
  λ{h i v u} J M q=>⟨v,i,J.os,J.bare,J.base,J.hok,M,q⟩
 cases fl with
 | ret u =>
  let⟨v,h,i,J,M,q⟩:=m;exact fin J M q
 | next =>
  let⟨h,i,J,q⟩:=m;exact fin (v:=V.non) (u:=Value.none) J rfl q
 | brk =>
  let⟨_,_,_,q⟩:=m;exact False.elim q
 | cont =>
  let⟨_,_,_,q⟩:=m;exact False.elim q
section
variable{X:Cx}{x:Str}{p pos:Pos}{e:Expr}{es:List Expr}{t:TA}{id T:String}{r:List V->Hp->VK->Prop}
def tCB(r:List V->Hp->VK->Prop)(t:TA):TE:=λσ H Q=>t σ H λvs H1=>r vs H1 Q
theorem zk(d:CallR X (.builtin id) r)(f:Gl X x)(g:X.mg x=none)(i:bootBuiltins x=some (.builtin id))(j:PA X (e::es) t)(k:x ≠ "__name__" :=by decide)(b:(x == ("__debug__" : Str))=false:=by decide)
  (l:starEach (e::es) X.env=(false,eval e X.env)::starEach es X.env:=by rfl) (c:(backTo pos (starEach es X.env)).any (·.1)=false:=by rfl):PE X (.Call (.Name x p) (e::es) [] pos) (tCB r t):=by
 intro a s σ H Q I h;refine wpAny_Call_Name_kw (xw I f g i ?_ k b);refine PyProof.Rows.callWith_builtin1 (thn (j pos a s σ H _ I h) λm n hq_=>?_) l c;let⟨o,q,u,v,w⟩:=hq_;exact d a n σ q o m Q u v w
theorem yN(d:CallR X (.type T) r)(f:Gl X x)(g:X.mg x=none)(i:bootBuiltins x=some (.type T))(j:PA X (e::es) t)(k:x ≠ "__name__" :=by decide)(b:(x == ("__debug__" : Str))=false:=by decide)
  (l:starEach (e::es) X.env=(false,eval e X.env)::starEach es X.env:=by rfl) (c:(backTo pos (starEach es X.env)).any (·.1)=false:=by rfl):PE X (.Call (.Name x p) (e::es) [] pos) (tCB r t):=by
 intro a s σ H Q I h;refine wpAny_Call_Name_kw (xw I f g i ?_ k b);refine fP (thn (j pos a s σ H _ I h) λm n hq_=>?_) l c;let⟨o,q,u,v,w⟩:=hq_;exact d a n σ q o m Q u v w
end
end L2
namespace HT
open PySem PyProof.Rows
def lexLt:List Int->List Int->Bool
 | [],[]=>false
 | [],_::_=>true
 | _::_,[]=>false
 | x::xs,y::ys=>if x=y then lexLt xs ys else decide (x<y)
theorem lexLt_cons(x y:Int)(xs ys:List Int):lexLt (x::xs) (y::ys)=if x=y then lexLt xs ys else decide (x<y):=rfl
section
open PySem.SeqAt
open PySem.AutoSeq1 (wpAny_loadPart')
open PySem.MeetsSeq PySem.MeetsSeq2 PySem.MeetsSeq3
end
theorem cat_tup{t b:Addr}(u:IsTup s.heap t vs.toArray)(v:IsTup s.heap b ws.toArray)(k:vs ≠ [])
  (x:ws = []->Q (.ref t) s) (y:ws ≠ []->Q (.ref s.heap.objs.size) { s with heap:=s.heap.push { cls :=.type "tuple",data :=.seq (vs++ws).toArray } })
  (j:vs.length+ws.length<=sizeLine):wpAny (model prog w) A (binaryOp .Add (.ref t) (.ref b)) Q E s:=by
 obtain⟨⟨cls,l,data,m⟩,h,o,n,p⟩:=id u;obtain⟨⟨q,c,data2,d⟩,a,f,r,g⟩:=id v;simp only at o p f g;subst o p f g;let e:vs.toArray++ws.toArray=(vs++ws).toArray:=by simp
 by_cases i:ws = []
 .exact concat_meets ⟨_,h,rfl⟩ ⟨_,a,rfl⟩ noFill_tuple_add seq_tuple_add PySem.F.slot_tuple_add PySem.F.entry_tuple_add (PySem.F.args_tuple_add_2 _ _)
   (tuple_addW1 t b vs.toArray ws.toArray n r l c m d (by simpa using k) (by simp [i])) ⟨h,a,x i⟩
 .refine concat_meets ⟨_,h,rfl⟩ ⟨_,a,rfl⟩ noFill_tuple_add seq_tuple_add PySem.F.slot_tuple_add PySem.F.entry_tuple_add (PySem.F.args_tuple_add_2 _ _)
   (tuple_addW2 t b vs.toArray ws.toArray n r l c m d (by simpa using k) (by simpa using i) (by rw [aR,aR];exact j)) ⟨h,a,?_⟩
  rw [e];exact y i
def sIx(n d:Nat):Option Int->Nat
 | none=>d
 | some v=>if v<0 then (v+(n:Int)).toNat else min v.toNat n
theorem qZ0(n d:Nat)(hd:d<=n)(o:Option Int):sIx n d o<=n:=by
 cases o with
 | none=>exact hd
 | some v =>
  show (if v<0 then (v+(n:Int)).toNat else min v.toNat n)<=n;by_cases a:v<0
  .rw [if_pos a];lia
  .rw [if_neg a];exact Nat.min_le_right _ _
theorem om(v:Int)(n d:Nat):(if v<0 then max (v+(n:Int)) 0 else min v (n:Int))=((sIx n d (some v):Nat):Int):=by
 show (if v<0 then max (v+(n:Int)) 0 else min v (n:Int))=(((if v<0 then (v+(n:Int)).toNat else min v.toNat n):Nat):Int);by_cases a:v<0
 .simp only [if_pos a];lia
 .simp only [if_neg a];lia
theorem qOo(lo hi:Option Int)(n:Nat):Builtin.Slice.sliceAdjust lo hi 1 (n:Int)=(((sIx n 0 lo:Nat):Int),((sIx n n hi:Nat):Int)):=by
 let a : ¬((1:Int)<0):=by lia
 unfold Builtin.Slice.sliceAdjust;simp only [a,if_false];refine Prod.ext ?_ ?_
 .cases lo with
  | none=>rfl
  | some v=>exact om v n 0
 .cases hi with
  | none=>rfl
  | some v=>exact om v n n
theorem qO2(i j:Nat):Builtin.Slice.slicePlaces (i:Int) (j:Int) 1=j - i:=by
 unfold Builtin.Slice.slicePlaces;let a:(1:Int)>0:=by lia
 simp only [a,if_true,Int.ediv_one];split <;> lia
theorem on(p:IsPart v o)(h:Q o s):wpAny (model prog w) A (Builtin.Slice.slicePartIndex v) Q E s:=by
 cases p with
 | none=>exact slicePart_none h
 | int i t=>exact slicePart_int h
theorem qFf{lo hi:Option Int}{n:Nat}(f:s.heap.IsSliceOf e c d .none)(pl:IsPart c lo)(g:IsPart d hi)(h:Q (((sIx n 0 lo:Nat):Int),1,sIx n n hi - sIx n 0 lo) s):wpAny (model prog w) A (Builtin.Slice.sliceApplied (.ref e) (pure (n:Int))) Q E s:=by
 let⟨os,a,i,b⟩:=id f;unfold Builtin.Slice.sliceApplied Builtin.Slice.sliceFields;refine aA (aA (wpAny_field a b (x:=c) rfl (aA (wpAny_field a b (x:=d) rfl (aA (wpAny_field a b (x :=.none) rfl (aD ?_)))))));refine aA (slicePart_none ?_);show wpAny _ _ (if ((1:Int) == 0)=true then _ else _) _ _ s;rw [if_neg ⋯];refine aA (on pl (aA (on g (aA (aD ?_)))));show wpAny _ _ (match Builtin.Slice.sliceAdjust lo hi 1 (n:Int) with | (lo,hi)=>pure (lo,(1:Int),Builtin.Slice.slicePlaces lo hi 1)) _ _ s;rw [qOo lo hi n];show wpAny _ _ (pure (((sIx n 0 lo:Nat):Int),(1:Int),Builtin.Slice.slicePlaces ((sIx n 0 lo:Nat):Int) ((sIx n n hi:Nat):Int) 1)) _ _ s
 rw [qO2];exact aD h
theorem qTp(xs:Array Value)(i k:Nat):((List.range k).filterMap λ(m:Nat)=>xs[((i:Int)+(m:Int)*1).toNat]?).toArray=((xs.toList.drop i).take k).toArray:=by
 let e:(λ(m:Nat)=>xs[((i:Int)+(m:Int)*1).toNat]?)=λm=>xs[i+m]? :=by
  funext m
  let:((i:Int)+(m:Int)*1).toNat=i+m:=by lia
  rw [this]
 rw [e];let:=pick_run xs i k;rw [List.filterMap_map] at this;let a:((λx=>xs[x]?)∘λx=>i+x)=λm=>xs[i+m]? :=rfl;rw [a] at this;rw [this]
theorem getItem_tuple_cut{t c:Addr}{lo hi:Option Int}(b:IsTup s.heap t items)(k:s.heap.IsSliceOf c i j .none)(pl:IsPart i lo)(l:IsPart j hi)(hw : ¬(sIx items.size 0 lo=0/\sIx items.size items.size hi=items.size))
  (h:Q (.ref s.heap.objs.size) { s with heap:=s.heap.push { cls :=.type "tuple",data :=.seq ((items.toList.drop (sIx items.size 0 lo)).take (sIx items.size items.size hi - sIx items.size 0 lo)).toArray } })
  (n:items.size<=sizeLine):wpAny (model prog w) A (getItem (.ref t) (.ref c)) Q E s:=by
 let a:sizeOk (.seq ((items.toList.drop (sIx items.size 0 lo)).take (sIx items.size items.size hi - sIx items.size 0 lo)).toArray):=by
  show ((items.toList.drop (sIx items.size 0 lo)).take (sIx items.size items.size hi - sIx items.size 0 lo)).toArray.size<=sizeLine;rw [aR,bD,fW,aM];lia
 let p:sIx items.size items.size hi<=items.size:=qZ0 _ _ (aH _) hi;let⟨os,d,e,o⟩:=id k;let f:s.TypeIs (.ref c) "slice" :=⟨os,d,e⟩;unfold getItem
 try with_reducible refine bM ?_
 first | refine aA (aD ?_) | skip
 refine aA (wpAny_sequenceKey b.typeIs ⋯ ?_)
 refine aA (fI (name:=Str.ofString "__getitem__") b.typeIs gQ
  (cH gQ b.typeIs entry_tuple_getitem ?_ (args_tuple_getitem _ _)))
 show wpAny _ _ (Builtin.Tuple.tupleItemsOf (.ref t) >>= _) _ _ s;refine aA (tupleItemsOf_ b ?_);refine aA (wpAny_typeOf f ?_);rw [if_pos ⋯];refine aA (qFf k pl l ?_);let g : ¬((((sIx items.size 0 lo:Nat):Int) == 0&&(1:Int) == 1&&(sIx items.size items.size hi - sIx items.size 0 lo) == items.size)=true):=by
  intro q;rw [bP,bP] at q;let r:((sIx items.size 0 lo:Nat):Int)=0:=eq_of_beq q.1.1;let u:sIx items.size items.size hi - sIx items.size 0 lo=items.size:=eq_of_beq q.2;exact hw ⟨∎,∎⟩
 show wpAny _ _ (if (((sIx items.size 0 lo:Nat):Int) == 0&&(1:Int) == 1&&(sIx items.size items.size hi - sIx items.size 0 lo) == items.size)=true then _ else _) _ _ s;rw [if_neg g,qTp]
 first
  | exact aA (m:=Builtin.Tuple.tupleExact _) (cN (aD ⟨_,rfl,aD h⟩) a)
  | exact aA (m:=Builtin.Tuple.tupleExact _) (cN (aA (aD (aD ⟨_,rfl,aD h⟩))) a)
  | exact aA (aA (m:=Builtin.Tuple.tupleExact _) (cN (aD (aD ⟨_,rfl,aD h⟩)) a))
  | exact aA (aA (m:=Builtin.Tuple.tupleExact _) (cN (aD ⟨_,rfl,aD h⟩) a))
end HT
namespace L2
open PySem PySem.Spec PyProof.Rows
abbrev TO:=St->Hp->(Option Int->Hp->Prop)->Prop
def PO(X:Cx)(e:Option Expr)(t:TO):Prop :=
 ∀(pins:List (Addr×Obj)) (s:Shared) (σ : St) (H:Hp) (Q:Option Int->Hp->Prop),Inv X pins σ H s->t σ H Q ->
  wpAny (model X.prog X.w) X.A (evalPart e X.env) (λu s' => ∃o H',Inv X pins σ H' s'/\IsPart u o/\Q o H') X.xe s
def oo:TO:=λ_ H Q=>Q none H
def tPart(t:TE):TO:=λσ H Q=>t σ H λx H1 => ∃i,x = .int i/\Q (some i) H1
theorem uh:∀ {us:List Value},Vals (ns.map V.int) us->IntsAre us ns:=by
 induction ns with
 | nil=>intro us r;rw [List.map_nil] at r;cases r;exact .nil
 | cons n ns a =>
  intro us r;rw [bE] at r;cases r with
  | cons b c =>
   let⟨t,e⟩:=b;subst e;exact .cons n t (a c)
section
variable{X:Cx}{e:Expr}{te:TE}{lo hi:Option Expr}{tl th:TO}{pos p2:Pos}
theorem wf:PO X none oo:=by
 intro a s σ H Q I h;rw [evalPart_none];exact aD ⟨none,H,I,.none,h⟩
theorem wg(h:PE X e te):PO X (some e) (tPart te):=by
 intro a s σ H Q I b;rw [evalPart_some];refine thn (h a s σ H _ I b) λu j hq_=>?_;let⟨x,c,d,f,g⟩:=hq_;let⟨i,rfl,q⟩:=g;let⟨t,rfl⟩:=f;exact⟨some i,c,d,.int i t,q⟩
def SlR(X:Cx)(r:V->Option Int->Option Int->Hp->VK->Prop):Prop :=
 ∀(pins:List (Addr×Obj)) (s:Shared) (σ : St) (H:Hp) (x:V) (v vl vu:Value) (lo hi:Option Int) (sl:Addr) (Q:VK),Inv X pins σ H s->RelV x v->s.heap.IsSliceOf sl vl vu .none->IsPart vl lo->IsPart vu hi->r x lo hi H Q ->
  ∃T id,typeLookup (.type T) "__getitem__" = pure (some (.builtin id))/\s.TypeIs v T/\wpAny (model X.prog X.w) X.A (getItem v (.ref sl)) (EP X pins σ Q) X.xe s
def tSl(r:V->Option Int->Option Int->Hp->VK->Prop)(te:TE)(tl th:TO):TE:=λσ H Q=>te σ H λx H1=>tl σ H1 λl H2=>th σ H2 λu H3=>r x l u H3 Q
theorem wh(i:SlR X r)(j:PE X e te)(k:PO X lo tl)(m:PO X hi th):PE X (.Subscript e (.Slice lo hi none p2) pos) (tSl r te tl th):=by
 intro a s σ H Q I h;refine Subscript_ (thn (j a s σ H _ I h) λv n hq_=>?_);let⟨x,o,p,t,y⟩:=hq_;refine wpAny_Slice (thn (k a n σ o _ p y) λd z hq_=>?_);let⟨l,B,C,D,E⟩:=hq_;refine thn (m a z σ B _ C E) λf c hq_=>?_;let⟨u,g,F,G,J⟩:=hq_;rw [evalPart_none];refine aD ?_;let K:Inv X a σ g { c with heap:=c.heap.push { cls :=.type "slice",data :=.fields #[d,f,.none] } }:=F.kept (t':=c.toks) λb N q=>aE _ q;let⟨T,id,hT,L,M⟩:=i a { c with heap:=c.heap.push { cls :=.type "slice",data :=.fields #[d,f,.none] } } σ g x v d f l u c.heap.objs.size Q K t (Heap.IsSliceOf.new ..) D G J;show wpAny (model X.prog X.w) X.A (subscriptTail e (.Slice lo hi none p2) v (.ref c.heap.objs.size)) (EP X a σ Q) X.xe { c with heap:=c.heap.push { cls :=.type "slice",data :=.fields #[d,f,.none] } }
 exact tail_any (ops :=[.ref c.heap.objs.size,v]) L hT M (by with_unfolding_all rfl)
noncomputable def cutV(xs:List V)(lo hi:Option Int):List V:=(xs.drop (HT.sIx xs.length 0 lo)).take (HT.sIx xs.length xs.length hi - HT.sIx xs.length 0 lo)
theorem oq(xs:List V)(lo hi:Option Int):(cutV xs lo hi).length<=xs.length:=by
 unfold cutV;rw [bD,fW];lia
def rSlT(K:PySem.W.Frag):V->Option Int->Option Int->Hp->VK->Prop:=λx lo hi H Q => ∃a xs,x = .ref a/\SqT K H a xs /\
 ¬(HT.sIx xs.length 0 lo=0/\HT.sIx xs.length xs.length hi=xs.length) /\ ∀p,H p=none->Q (.ref p) (upd H p (.tup (cutV xs lo hi)))
theorem wj:SlR X (rSlT X.K):=by
 intro f s σ H x v t u lo hi w Q I j k l m h;let⟨a,d,rfl,n,p,q⟩:=h;cases j;let⟨e,r,g,i⟩:=I.tuple n;let c:e.toArray.size=d.length:=by rw [aR];exact r.length.symm
 refine⟨"tuple",_,gQ.lookup,g.typeIs,?_⟩;refine HT.getItem_tuple_cut g k l m (by rw [c];exact p) ?_ (by rw [c];exact i);rw [c];refine⟨.ref s.heap.objs.size,_,I.laid (t':=s.toks) (o :=.tup (cutV d lo hi)) (λb y q=>aE _ q) (aH _) ?_,rfl,q _ (I.hok.fresh (aH _))⟩;exact⟨cD (oq d lo hi) i,_,(r.drop (HT.sIx d.length 0 lo)).take (HT.sIx d.length d.length hi - HT.sIx d.length 0 lo),IsTup.new _ _⟩
def rCatT(K:PySem.W.Frag):R2:=λx y H Q => ∃a b xs ys,x = .ref a/\y = .ref b/\SqT K H a xs/\SqT K H b ys/\xs ≠ []/\xs.length+ys.length<=sizeLine /\
 (ys = []->Q (.ref a) H)/\(ys ≠ [] -> ∀p,H p=none->Q (.ref p) (upd H p (.tup (xs++ys))))
theorem Vals.nil_iff(r:Vals xs us):us = []↔xs = []:=by
 cases r with
 | nil=>simp
 | cons _ _=>simp
theorem qXl:OpR X (binaryOp .Add) (rCatT X.K):=by
 intro e s σ H x y v u Q I i j h;let⟨a,b,k,ys,rfl,rfl,l,m,n,f,p,r⟩:=h;cases i;cases j;let⟨t,d,A,_⟩:=I.tuple l;let⟨g,c,p2,_⟩:=I.tuple m;refine HT.cat_tup A p2 (λz=>n (d.nil_iff.mp z)) (λz=>⟨.ref a,H,I,rfl,p (c.nil_iff.mp z)⟩) (λz=>?_) (by rw [<-d.length,<-c.length];exact f);refine⟨.ref s.heap.objs.size,_,I.laid (t':=s.toks) (o :=.tup (k++ys)) (λb B q=>aE _ q) (aH _) ?_,rfl,r (λw=>z (c.nil_iff.mpr w)) _ (I.hok.fresh (aH _))⟩;exact⟨by rw [aG];exact f,_,d.append c,IsTup.new _ _⟩
end
noncomputable def ixN(n:Nat)(i:Int):Option Nat:=if 0<=i then (if i<n then some i.toNat else none) else if -(n:Int)<=i then some (i+n).toNat else none
noncomputable def atI{α : Type}(xs:List α)(i:Int):Option α :=(ixN xs.length i).bind λj=>xs[j]?
theorem ot{n:Nat}{i:Int}{j:Nat}(h:ixN n i=some j):seqIndex? i n=some j/\j<n /\ -(n:Int)<=i/\i<n:=by
 unfold ixN at h;by_cases b:0<=i
 .rw [if_pos b] at h;by_cases a:i<n
  .rw [if_pos a] at h;let e:i.toNat=j:=bB h;exact⟨by rw [seqIndex_of b a,e],∎,∎,a⟩
  .rw [if_neg a] at h;cases h
 .rw [if_neg b] at h;by_cases a : -(n:Int)<=i
  .rw [if_pos a] at h;let e:(i+n).toNat=j:=bB h;exact⟨by rw [seqIndex_neg ∎ a,e],∎,a,∎⟩
  .rw [if_neg a] at h;cases h
theorem ou{α : Type}{xs:List α}{i:Int}{v : α}(h:atI xs i=some v):∃j,seqIndex? i xs.length=some j/\xs[j]? = some v/\j<xs.length /\ -(xs.length:Int)<=i/\i<xs.length:=by
 unfold atI at h;cases e:ixN xs.length i with
 | none=>rw [e] at h;cases h
 | some j =>
  rw [e] at h;let⟨a,b,c,d⟩:=ot e;exact⟨j,a,h,b,c,d⟩
theorem zX{α : Type}{xs:List α}{j:Nat}{v : α}(h:xs[j]? = some v):atI xs (j:Int)=some v:=by
 let a:j<xs.length:=(aI.mp h).1;let e:ixN xs.length (j:Int)=some j:=by
  unfold ixN;rw [if_pos ∎,if_pos ∎];simp
 unfold atI;rw [e];exact h
theorem qV8{α : Type}(xs:List α)(v : α):atI (xs ++ [v]) (-1)=some v:=by
 let a:(xs ++ [v]).length=xs.length+1:=by simp
 let e:ixN (xs ++ [v]).length (-1)=some xs.length:=by
  unfold ixN;rw [a,if_neg ⋯,if_pos ∎]
  congr 1
  lia
 unfold atI;rw [e];show (xs ++ [v])[xs.length]? = some v;simp
def qYp(b:Expr):Prop := ∀o i,subscripted b false o i=operate [o,i] (getItem o i)
def IxR(X:Cx)(r:R2):Prop :=
 ∀(value slice:Expr) (pins:List (Addr×Obj)) (s:Shared) (σ : St) (H:Hp) (x y:V) (v u:Value) (Q:VK),Inv X pins σ H s->RelV x v->RelV y u->r x y H Q ->
  subscripted slice false v u=operate [v,u] (getItem v u)->wpAny (model X.prog X.w) X.A (subscriptTail value slice v u) (EP X pins σ Q) X.xe s
def MtR(X:Cx)(id:String)(r:V->List V->Hp->VK->Prop):Prop :=
 ∀(pins:List (Addr×Obj)) (s:Shared) (σ : St) (H:Hp) (x:V) (xs:List V) (v:Value) (us:List Value) (Q:VK),Inv X pins σ H s->RelV x v->Vals xs us->r x xs H Q ->
  wpAny (model X.prog X.w) X.A (call (.builtin id) (v::us)) (EP X pins σ Q) X.xe s
section
variable{X:Cx}{a b:Expr}
theorem zJ(d:IxR X r)(e:PE X a ta)(f:PE X b tb)(g:qYp b):PE X (.Subscript a b pos) (tOp r ta tb):=by
 intro c s σ H Q I h;exact Subscript_ (binT e f I h λv u i x y j k l m q=>d a b c i σ j x y v u Q k l m q (g _ _))
def rIxL(K:PySem.W.Frag):R2:=λx y H Q => ∃p xs i v,x = .ref p/\y = .int i/\SqL K H p xs/\atI xs i=some v/\Q v H
def rIxT(K:PySem.W.Frag):R2:=λx y H Q => ∃p xs i v,x = .ref p/\y = .int i/\SqT K H p xs/\atI xs i=some v/\Q v H
theorem zV:IxR X (rIxL X.K):=by
 intro c slice a s σ H x y v u Q I n o h k;let⟨p,J,i,z,rfl,rfl,A,B,q⟩:=h;cases n;let⟨t,rfl⟩:=o;let⟨d,r,e,L⟩:=I.list A;let⟨j,b,C,M,D,E⟩:=ou B;let⟨w,l,f⟩:=r.get C;let F:=r.length;let N:=we;let fin:EP X a σ Q w s:=⟨z,H,I,f,q⟩;by_cases m:0<=i
 .let g:i.toNat=j:=by
   rw [seqIndex_of m E] at b;exact bB b
  exact item_listR e.isList m ∎ (by rw [g];simpa using l) fin k
 .let g:(i+(d.toArray.size:Int)).toNat=j:=by
   rw [seqIndex_neg ∎ D] at b;rw [aR,<-F];exact bB b
  exact subscriptTail_builtinR (x:=w) e.isList.typeIs slot_list_getitem.lookup
   (wpAny_getItem_list_neg (Q:=λr G=>r=w/\EP X a σ Q r G) e.isList ∎ (by rw [aR] <;> lia) ∎ (by rw [g];simpa using l) ⟨rfl,fin⟩) k
theorem zq:IxR X (rIxT X.K):=by
 intro b slice a s σ H x y v u Q I e f h g;let⟨p,D,i,z,rfl,rfl,k,l,q⟩:=h;cases e;let⟨t,rfl⟩:=f;let⟨m,r,d,E⟩:=I.tuple k;let⟨j,n,o,F,G,J⟩:=ou l;let⟨w,A,c⟩:=r.get o;let B:=r.length;let L:=we;let fin:EP X a σ Q w s:=⟨z,H,I,c,q⟩;exact subscriptTail_builtinR (x:=w) d.typeIs slot_tuple_getitem.lookup
  (getItem_tuple (j:=j) (Q:=λr C=>r=w/\EP X a σ Q r C) d ∎ ∎ (by rw [aR,<-B];exact n) (by simpa using A) ⟨rfl,fin⟩) g
theorem qOe(its:List Value)(n j:Nat)(u:Value):Obj.mapSeq (·.setIfInBounds j u) { cls :=.type "list",data :=.seq its.toArray n } = { cls :=.type "list",data :=.seq (its.set j u).toArray n }:=by
 simp [Obj.mapSeq]
theorem Inv.lst{a:List (Addr×Obj)}{H:Hp}{s:Shared}{p:Addr}{xs:List V}(I:Inv X a σ H s)(h:H p=some (.lst xs)):∃(its:List Value) (n:Nat),Vals xs its/\s.heap.get? p=some { cls :=.type "list",data :=.seq its.toArray n }/\xs.length<=sizeLine:=by
 let⟨z,its,n,r,e⟩:=I.hok p _ h;exact⟨its,n,r,e,z⟩
theorem Inv.lstUpd{a:List (Addr×Obj)}{H:Hp}{s:Shared}{p:Addr}{xs ys:List V}{its its':List Value}{n c:Nat}{f:Obj->Obj}(I:Inv X a σ H s)(h:H p=some (.lst xs))
  (g:s.heap.get? p=some { cls :=.type "list",data :=.seq its.toArray n }) (d:f { cls :=.type "list",data :=.seq its.toArray n } = { cls :=.type "list",data :=.seq its'.toArray c }) (r:Vals ys its') (i:ys.length<=sizeLine) (t:Nat) :
  Inv X a σ (upd H p (.lst ys)) { s with heap:=s.heap.update p f,toks:=t }:=by
 let e:(s.heap.update p f).get? p=some { cls :=.type "list",data :=.seq its'.toArray c }:=by
  rw [cW f g (by rw [d] <;> rfl),d]
 refine I.write (x:=p) (e:=p) (by rw [h];trivial) (.inl rfl) (λb u j q=>(bO _ _ (cP j)).trans q) ⟨_,e⟩ ?_;exact⟨i,its',c,r,e⟩
def rSetL:V->V->V->Hp->(Hp->Prop)->Prop:=λo i v H Q => ∃p xs k j,o = .ref p/\i = .int k/\H p=some (.lst xs)/\ixN xs.length k=some j/\Q (upd H p (.lst (xs.set j v)))
theorem wm:PSet X rSetL:=by
 intro a s σ H o i v E F u Q I y z A h;let⟨p,B,k,j,rfl,rfl,g,C,q⟩:=h;cases y;let⟨t,rfl⟩:=z;let⟨b,n,r,d,D⟩:=I.lst g;let⟨c,G,l,m⟩:=ot C;let e:=r.length;let J:=we;let w:Inv X a σ (upd H p (.lst (B.set j v))) { s with heap:=s.heap.update p (Obj.mapSeq (·.setIfInBounds j u)) } :=
  I.lstUpd g d (qOe b n j u) (r.set A j) (by rw [List.length_set];exact D) s.toks
 by_cases x:0<=k
 .let f:k.toNat=j:=by
   rw [seqIndex_of x m] at c;exact bB c
  exact PySem.W.ki_setAt d x ∎ (by rw [aR,<-e];exact m) (by rw [f];exact⟨_,w,q⟩)
 .let f:(k+(b.toArray.size:Int)).toNat=j:=by
   rw [seqIndex_neg ∎ l] at c;rw [aR,<-e];exact bB c
  exact PySem.W.ki_setBack d ∎ (by rw [aR,<-e];exact l) ∎ (by rw [f];exact⟨_,w,q⟩)
theorem qJ6(lo hi:Option Int)(n:Nat):(sliceBounds lo hi none n).1=((HT.sIx n 0 lo:Nat):Int)/\(sliceBounds lo hi none n).2.1=((HT.sIx n n hi:Nat):Int)/\(sliceBounds lo hi none n).2.2=1:=by
 refine⟨?_,?_,rfl⟩
 .cases lo with
  | none=>simp [sliceBounds,HT.sIx]
  | some i =>
   simp only [sliceBounds,HT.sIx,Option.getD_none,show (1:Int)>0 by decide,if_true];by_cases h:i<0
   .simp only [h,if_true] <;> lia
   .simp only [h,if_false] <;> lia
 .cases hi with
  | none=>simp [sliceBounds,HT.sIx]
  | some i =>
   simp only [sliceBounds,HT.sIx,Option.getD_none,show (1:Int)>0 by decide,if_true];by_cases h:i<0
   .simp only [h,if_true] <;> lia
   .simp only [h,if_false] <;> lia
theorem qHv(its:List Value)(lo hi:Option Int):slicePick its.toArray lo hi none=((its.drop (HT.sIx its.length 0 lo)).take (HT.sIx its.length its.length hi - HT.sIx its.length 0 lo)).toArray:=by
 let⟨a,b,c⟩:=qJ6 lo hi its.toArray.size;unfold slicePick;rw [a,b,c];simp only [sliceRange_one,pick_run,aR] <;> rfl
def rSlL(K:PySem.W.Frag):V->Option Int->Option Int->Hp->VK->Prop:=λx lo hi H Q => ∃a xs,x = .ref a/\SqL K H a xs /\ ∀p,H p=none->Q (.ref p) (upd H p (.lst (cutV xs lo hi)))
theorem wAr:SlR X (rSlL X.K):=by
 intro f s σ H x v t u lo e w Q I i j k l h;let⟨a,c,rfl,m,q⟩:=h;cases i;let⟨n,r,g,p⟩:=I.list m;let d:=r.length;refine⟨"list",_,slot_list_getitem.lookup,g.isList.typeIs,?_⟩;refine wpAny_getItem_list_slice g.isList j k l .none ∅ ?_ (by rw [aR] <;> lia);rw [qHv,<-d];refine⟨.ref s.heap.objs.size,_,I.laid (t':=s.toks) (o :=.lst (cutV c lo e)) (λb y q=>aE _ q) (aH _) ?_,rfl,q _ (I.hok.fresh (aH _))⟩;exact⟨cD (oq c lo e) p,_,0,(r.drop (HT.sIx c.length 0 lo)).take (HT.sIx c.length c.length e - HT.sIx c.length 0 lo),aW _ rfl⟩
noncomputable def flatV:V->Bool
 | .non=>true
 | .bl _=>true
 | .int _=>true
 | .str _=>true
 | _=>false
noncomputable def eqV:V->V->Bool
 | .non,.non=>true
 | .bl a,.bl b=>a == b
 | .bl a,.int b=>(if a then 1 else 0) == b
 | .int a,.bl b=>a == (if b then 1 else 0)
 | .int a,.int b=>a == b
 | .str a,.str b=>a == b
 | _,_=>false
theorem wAf(e:RelV y u)(c:RelV x v)(g:flatV y=true)(f:flatV x=true):SeqAt.EqAt A s u v (eqV y x):=by
 cases y with
 | non =>
  cases e;cases x with
  | non=>cases c;exact SeqAt.EqAt.same _
  | bl b=>cases c;exact SeqAt.EqAt.none_bool b
  | int b=>obtain⟨t,rfl⟩:=c;exact SeqAt.EqAt.none_int b t
  | str b=>obtain⟨t,rfl⟩:=c;exact SeqAt.EqAt.none_str b t
  | _=>exact absurd (show false=true from f) aK
 | bl a =>
  cases e;cases x with
  | non=>cases c;exact SeqAt.EqAt.bool_none a
  | bl b=>cases c;exact SeqAt.EqAt.bool_bool a b
  | int b=>obtain⟨t,rfl⟩:=c;exact SeqAt.EqAt.bool_int a b t
  | str b=>obtain⟨t,rfl⟩:=c;exact SeqAt.EqAt.bool_str a b t
  | _=>exact absurd (show false=true from f) aK
 | int a =>
  let⟨d,rfl⟩:=e;cases x with
  | non=>cases c;exact SeqAt.EqAt.int_none a d
  | bl b=>cases c;exact SeqAt.EqAt.int_bool a d b
  | int b=>obtain⟨t,rfl⟩:=c;exact SeqAt.EqAt.int_int a d b t
  | str b=>obtain⟨t,rfl⟩:=c;exact SeqAt.EqAt.int_str a d b t
  | _=>exact absurd (show false=true from f) aK
 | str a =>
  let⟨d,rfl⟩:=e;cases x with
  | non=>cases c;exact SeqAt.EqAt.str_none a d
  | bl b=>cases c;exact SeqAt.EqAt.str_bool a d b
  | int b=>obtain⟨t,rfl⟩:=c;exact SeqAt.EqAt.str_int a d b t
  | str b=>obtain⟨t,rfl⟩:=c;exact SeqAt.EqAt.str_str a d b t
  | _=>exact absurd (show false=true from f) aK
 | _=>exact absurd (show false=true from g) aK
noncomputable def eqU(x:V)(u:Value):Bool:=match u with
 | .none=>eqV .non x
 | .bool b=>eqV (.bl b) x
 | .int i _=>eqV (.int i) x
 | .str z _=>eqV (.str z) x
 | _=>false
theorem oy(r:RelV y u)(f:flatV y=true):eqU x u=eqV y x:=by
 cases y with
 | non=>cases r;rfl
 | bl b=>cases r;rfl
 | int i=>obtain⟨t,rfl⟩:=r;rfl
 | str z=>obtain⟨t,rfl⟩:=r;rfl
 | _=>exact absurd (show false=true from f) aK
theorem vR(h:Vals xs us)(f:xs.all flatV=true):us.any (eqU x)=xs.any λy=>eqV y x:=by
 induction h with
 | nil=>rfl
 | cons r t a =>
  rw [List.all_cons,bP] at f;rw [List.any_cons,List.any_cons,oy r f.1,a f.2]
theorem vS(a:RelV x v)(b:flatV x=true)(h:Vals xs us)(f:xs.all flatV=true):∀u∈us,SeqAt.EqAt A s u v (eqU x u):=by
 induction h with
 | nil=>intro u hu;cases hu
 | cons r t c =>
  intro d hu;rw [List.all_cons,bP] at f;rcases aL.mp hu with rfl | hu
  .rw [oy r f.1];exact wAf r a f.1 b
  .exact c f.2 d hu
noncomputable def inV(x:V)(xs:List V):Bool:=xs.any λy=>eqV y x
def rIn(K:PySem.W.Frag)(neg:Bool):R2:=λx y H Q => ∃p xs,y = .ref p/\(SqL K H p xs\/SqT K H p xs)/\flatV x=true/\xs.all flatV=true/\Q (.bl (if neg then !inV x xs else inV x xs)) H
theorem vT:OpR X (compareOp .In) (rIn X.K false):=by
 intro d s σ H x y v u Q I e g h;let⟨p,j,rfl,hq,f,fs,q⟩:=h;cases g;rcases hq with hq | hq
 .let⟨a,r,b,i⟩:=I.list hq;refine SeqAt.in_listAt (eqU x) b.isList (λw c=>vS e f r fs w (by simpa using c)) ⟨.bl _,H,I,rfl,?_⟩;rw [show a.toArray.any (eqU x)=a.any (eqU x) by simp,vR r fs];exact q
 .let⟨a,r,b,i⟩:=I.tuple hq;refine SeqAt.in_tupleAt (eqU x) b (λw c=>vS e f r fs w (by simpa using c)) ⟨.bl _,H,I,rfl,?_⟩;rw [show a.toArray.any (eqU x)=a.any (eqU x) by simp,vR r fs];exact q
theorem qJs:OpR X (compareOp .NotIn) (rIn X.K true):=by
 intro d s σ H x y v u Q I e g h;let⟨p,j,rfl,hq,f,fs,q⟩:=h;cases g;rcases hq with hq | hq
 .let⟨a,r,b,i⟩:=I.list hq;refine SeqAt.notIn_listAt (eqU x) b.isList (λw c=>vS e f r fs w (by simpa using c)) ⟨.bl _,H,I,rfl,?_⟩;rw [show a.toArray.any (eqU x)=a.any (eqU x) by simp,vR r fs];exact q
 .let⟨a,r,b,i⟩:=I.tuple hq;refine SeqAt.notIn_tupleAt (eqU x) b (λw c=>vS e f r fs w (by simpa using c)) ⟨.bl _,H,I,rfl,?_⟩;rw [show a.toArray.any (eqU x)=a.any (eqU x) by simp,vR r fs];exact q
theorem yE:CallR X (.builtin "len") (λxs H Q => ∃p ys,xs = [.ref p]/\(SqL X.K H p ys\/SqT X.K H p ys)/\Q (.int ys.length) H):=by
 intro e s σ H xs i Q I r h;let⟨p,ys,rfl,hq,q⟩:=h;let⟨u,rfl,f⟩:=vals1 r;cases f;let j:=we;rcases hq with hq | hq
 .let⟨b,c,d,g⟩:=I.list hq;let a:=c.length;exact Calls.call_len_list d.isList (by simp only [aR] <;> lia) ⟨.int ys.length,H,I.tok _,⟨s.toks+1,by rw [aR,a]⟩,q⟩
 .let⟨b,c,d,g⟩:=I.tuple hq;let a:=c.length;exact len_tuple d (by simp only [aR] <;> lia) ⟨.int ys.length,H,I.tok _,⟨s.toks+1,by rw [aR,a]⟩,q⟩
theorem oz:CallR X (.type "list") (λxs H Q => ∃p ys,xs = [.ref p]/\(SqL X.K H p ys\/SqT X.K H p ys) /\ ∀l,H l=none->Q (.ref l) (upd H l (.lst ys))):=by
 intro g s σ H xs A Q I r h;let⟨p,ys,rfl,hq,q⟩:=h;let⟨u,rfl,z⟩:=vals1 r;cases z;let fin:∀(a:List Value),Vals ys a->ys.length<=sizeLine -> ∀(c:Heap) (d:Nat),(∀b y,s.heap.get? b=some y->c.get? b=some y) ->
   c.get? s.heap.objs.size=some { cls :=.type "list",dict:=none,data :=.seq a.toArray d,slots := #[] }->EP X g σ Q (.ref s.heap.objs.size) { s with heap:=c }:=λa f i c d j e =>
  ⟨.ref s.heap.objs.size,_,I.laid (t':=s.toks) j (aH _) (show ObjOk X.prog X.w _ c _ (.lst ys) from⟨i,a,d,f,e⟩),rfl,q _ (I.hok.fresh (aH _))⟩
 rcases hq with hq | hq
 .let⟨a,f,m,i⟩:=I.list hq;let k:=f.length;let⟨o,t,v,n,x⟩:=m.isList;exact call_list_seq p (.inl rfl) t v x (λc d j e=>fin a f i c d j e) (by simp only [aR] <;> lia)
 .let⟨a,f,m,i⟩:=I.tuple hq;let k:=f.length;let⟨o,t,v,n,x⟩:=m;exact call_list_seq p (.inr rfl) t v x (λc d j e=>fin a f i c d j e) (by simp only [aR] <;> lia)
def tyV(K:PySem.W.Frag)(T:String)(x:V)(H:Hp):Prop:=match x with
 | .str _=>T = "str"
 | .int _=>T = "int"
 | .ref p=>(T = "list" /\ ∃xs,SqL K H p xs)\/(T = "tuple" /\ ∃o,K.lookup p=some o/\o.cls = .type "tuple" /\ o.dict=none) \/
   (T = "dict" /\ ((∃kvs,H p=some (.dK kvs)) \/ ∃kvs,H p=some (.dT kvs)))\/(T = "set" /\ ∃S n,H p=some (.set S n))
 | _=>False
theorem QA{σ : St}(I:Inv X f σ H s)(r:RelV x v)(ty:tyV X.K T x H):s.TypeIs v T /\ ∀a,v = .ref a -> ∃k,s.heap.get? a=some k/\k.dict=none:=by
 cases x with
 | str z =>
  let⟨t,rfl⟩:=r;cases (show T = "str" from ty);exact⟨typeIs_str s z t,λ_ e=>nomatch e⟩
 | int i =>
  let⟨t,rfl⟩:=r;cases (show T = "int" from ty);exact⟨typeIs_int s i t,λ_ e=>nomatch e⟩
 | ref p =>
  cases r;rcases ty with ⟨rfl,w,m⟩ | ⟨rfl,o,b,q,g⟩ | ⟨rfl,b⟩ | ⟨rfl,S,n,b⟩
  .let⟨u,_,l,_⟩:=I.list m;refine⟨l.isList.typeIs,λa e=>?_⟩;cases e;let⟨o,n,e,c,g,_⟩:=l;exact⟨o,e,g⟩
  .refine⟨⟨o,I.kIn p o b,q⟩,λa e=>?_⟩;cases e;exact⟨o,I.kIn _ o b,g⟩
  .let z:∃o,s.heap.get? p=some o/\o.ExactDict:=by
    rcases b with ⟨h,b⟩ | ⟨h,b⟩
    .let⟨_,_,_,_,o,_,_,e,d,_⟩:=I.hok p _ b;exact⟨o,e,d⟩
    .let⟨_,_,_,_,o,_,_,e,d,_⟩:=I.hok p _ b;exact⟨o,e,d⟩
   let⟨o,e,d⟩:=z;refine⟨⟨o,e,d.1⟩,λa j=>?_⟩;cases j;exact⟨o,e,d.2.1⟩
  .let⟨o,_,_,_,e,d,_⟩:=I.hok p _ b;refine⟨⟨o,e,d.1⟩,λa j=>?_⟩;cases j;exact⟨o,e,d.2.1⟩
 | _=>exact False.elim ty
def tBM0(K:PySem.W.Frag)(T:String)(r:V->List V->Hp->VK->Prop)(to:TE):TE:=λσ H Q=>to σ H λx H1=>tyV K T x H1/\r x [] H1 Q
def tBM(K:PySem.W.Frag)(T:String)(r:V->List V->Hp->VK->Prop)(to:TE)(t:TA):TE:=λσ H Q=>to σ H λx H1=>tyV K T x H1/\t σ H1 λxs H2=>r x xs H2 Q
variable{o e:Expr}{es:List Expr}{to:TE}{t:TA}{name:Str}{apos cpos:Pos}{T id:String}{r:V->List V->Hp->VK->Prop}
theorem QB(g:PlainAttrs T)(slot:Slot T name id)(d:typeOf (.builtin id)=pure (.type "method_descriptor"))(i:MtR X id r)(j:PE X o to)
  (b:attributeBase o name X.env (eval o X.env)=eval o X.env:=by rfl) (c:(apos.endLine == cpos.line)=true:=by rfl):PE X (.Call (.Attribute o name apos) [] [] cpos) (tBM0 X.K T r to):=by
 intro a s σ H Q I h;refine wpAny_Call_method0_late b c (thn (j a s σ H _ I h) λv k hq_=>?_);let⟨x,l,e,f,ty,m⟩:=hq_;let⟨n,p⟩:=QA e f ty;exact⟨T,id,g,slot,d,n,p,gZ rfl (PySem.evalArgs_none (i a k σ l x [] v [] Q e f .nil m))⟩
theorem yH(l:PlainAttrs T)(slot:Slot T name id)(g:typeOf (.builtin id)=pure (.type "method_descriptor"))(m:MtR X id r)(n:PE X o to)(p:PA X (e::es) t)
  (c:attributeBase o name X.env (eval o X.env)=eval o X.env:=by rfl)
  (f:((backTo cpos (starEach (e::es) X.env)).all (λx => !x.1)&&(backToKw cpos (keywordEach [] X.env)).all (λx=>x.1.isSome)
   && decide ((e::es).length+([]:List Keyword).length+(if ([]:List Keyword).isEmpty then 0 else 1)<30))=true:=by rfl)
  (d:(apos.endLine == cpos.line)=true:=by rfl) (q:starEach (e::es) X.env=(false,eval e X.env)::starEach es X.env:=by rfl) (b:(backTo cpos (starEach es X.env)).any (·.1)=false:=by rfl) :
  PE X (.Call (.Attribute o name apos) (e::es) [] cpos) (tBM X.K T r to t):=by
 intro a s σ H Q I h;refine wpAny_Call_method_late c f d rfl (thn (n a s σ H _ I h) λv u hq_=>?_);let⟨x,w,i,j,ty,y⟩:=hq_;let⟨z,A⟩:=QA i j ty;refine⟨T,id,l,slot,g,z,A,?_⟩;let k:=p cpos a u σ w _ i y;rw [q] at k ⊢;refine gZ (by show (false||(backTo cpos (starEach es X.env)).any (·.1))=false;rw [b] <;> rfl) (Calls.evalArgs_plain ?_);refine thn k λB C hq_=>?_;let⟨D,E,F,G,J⟩:=hq_;exact m a C σ E x D v B Q F j G J
end
def MtM(X:Cx)(id:String)(r:V->List V->Hp->VK->Prop):Prop :=
 ∀(pins:List (Addr×Obj)) (s:Shared) (σ : St) (H:Hp) (x:V) (xs:List V) (v:Value) (us:List Value) (Q:VK),Inv X pins σ H s->RelV x v->Vals xs us->r x xs H Q ->
  wpAny (model X.prog X.w) X.A (call (.builtin id) (v::us)) (EP X pins σ Q) X.xe s
theorem Vals.one(h:Vals [x] us):∃u,us = [u]/\RelV x u:=by
 cases h with | cons r t=>cases t;exact⟨_,rfl,r⟩
theorem Vals.zero:∀ {us:List Value},Vals [] us->us = []
 | _,.nil=>rfl
theorem Vals.dropLast(h:Vals xs us):Vals xs.dropLast us.dropLast:=by
 induction h with
 | nil=>exact .nil
 | cons r t a =>
  cases t with
  | nil=>exact .nil
  | cons q b=>exact .cons r a
theorem Vals.eraseIdx:∀ {xs:List V} {us:List Value} (i:Nat),Vals xs us->Vals (xs.eraseIdx i) (us.eraseIdx i)
 | _,_,_,.nil =>.nil
 | _,_,0,.cons _ t=>t
 | _,_,i+1,.cons r t =>.cons r (Vals.eraseIdx i t)
theorem qOh{α : Type}(l:List α):l.eraseIdx (l.length - 1)=l.dropLast:=by
 induction l with
 | nil=>rfl
 | cons a r c =>
  cases r with
  | nil=>rfl
  | cons b r =>
   let e:(a::b::r).length - 1=((b::r).length - 1)+1:=by
    let d:(a::b::r).length=r.length+2:=rfl;let f:(b::r).length=r.length+1:=rfl;lia
   rw [e,List.eraseIdx_cons_succ,c]
   all_goals rfl
theorem QC{α : Type}:∀(l:List α) (i:Nat),(l.eraseIdx i).length<=l.length
 | [],_=>aH _
 | _::_,0=>cT _
 | _::r,i+1=>Nat.succ_le_succ (QC r i)
section
variable{X:Cx}{pins:List (Addr×Obj)}{σ : St}{H:Hp}{s:Shared}{l b:Addr}{xs ys zs:List V}
theorem Inv.lset{its its':List Value}{n:Nat}{t':Nat}(I:Inv X pins σ H s)(a:H l=some (.lst xs))
  (e:s.heap.get? l=some { cls :=.type "list",data :=.seq its.toArray n }) (b:f its.toArray=its'.toArray) (c:Vals ys its') (d:ys.length<=sizeLine) :
  Inv X pins σ (upd H l (.lst ys)) { s with heap:=s.heap.update l (Obj.mapSeq f),toks:=t' }:=by
 let q:=PySem.IsL.update e f;rw [b] at q;refine I.write (x:=l) (e:=l) (by rw [a];exact trivial) (.inl rfl) (λi u g h=>(bO s.heap (Obj.mapSeq f) (cP g)).trans h) ⟨_,q⟩ ?_;exact⟨d,its',_,c,q⟩
theorem Inv.lnew{t':Nat}(I:Inv X pins σ H s)(a:Vals ys its)(hz:ys.length<=sizeLine):Inv X pins σ (upd H s.heap.objs.size (.lst ys)) { s with heap:=s.heap.push { cls :=.type "list",data :=.seq its.toArray },toks:=t' } :=
 I.laid (λ_ _ q=>aE _ q) (aH _) ⟨hz,its,0,a,aW _ rfl⟩
theorem Inv.fresh(I:Inv X pins σ H s):H s.heap.objs.size=none:=I.hok.fresh (aH _)
theorem Inv.lstM(I:Inv X pins σ H s)(a:H l=some (.lst xs)):xs.length<=sizeLine /\ ∃(its:List Value) (n:Nat),Vals xs its/\xs.length=its.length/\s.heap.get? l=some { cls :=.type "list",data :=.seq its.toArray n }:=by
 let⟨z,its,n,r,e⟩:=I.hok l _ a;exact⟨z,its,n,r,r.length,e⟩
theorem qU8{n:Nat}(h:n<=sizeLine):Builtin.List.listTooLong n=false:=by
 unfold Builtin.List.listTooLong;exact decide_eq_false ∎
end
def wn:V->List V->Hp->VK->Prop:=λx vs H Q => ∃l xs y,x = .ref l/\vs = [y]/\H l=some (.lst xs)/\xs.length<sizeLine/\Q .non (upd H l (.lst (xs ++ [y])))
theorem yk:MtM X "list.append" wn:=by
 intro b s σ H x i v j Q I d f h;let⟨l,k,y,rfl,rfl,c,m,q⟩:=h;cases d;let⟨u,rfl,g⟩:=f.one;let⟨z,a,n,r,o,e⟩:=I.lstM c;refine call_meets F.slot_list_append ⟨_,e,rfl⟩ F.entry_list_append (F.args_list_append_2 _ _) (PySem.list_append l a.toArray n u (by rw [aR];lia)) ⟨e,?_⟩;refine⟨.non,_,I.lset (its':=a ++ [u]) c e ∅ (r.append (.cons g .nil)) ?_,rfl,q⟩;rw [aG,cQ];lia
def qX9:V->List V->Hp->VK->Prop:=λx vs H Q => ∃l b xs zs,x = .ref l/\vs = [.ref b]/\H l=some (.lst xs)/\H b=some (.lst zs)/\xs.length+zs.length<=sizeLine/\Q .non (upd H l (.lst (xs++zs)))
theorem ui:MtM X "list.extend" qX9:=by
 intro f s σ H x y v A Q I i j h;let⟨l,b,B,C,rfl,rfl,g,k,D,q⟩:=h;cases i;let⟨u,rfl,m⟩:=j.one;cases m;let⟨z,a,n,r,E,e⟩:=I.lstM g;let⟨G,its2,o,p,t,w⟩:=I.lstM k;let d:a.toArray.size+its2.toArray.size<=sizeLine:=by rw [aR,aR];lia
 let c : ¬(!a.toArray.isEmpty&&Builtin.List.listTooLong (a.toArray.size+its2.toArray.size))=true:=by
  rw [qU8 d,Bool.and_false];exact aK
 refine call_meets F.slot_list_extend ⟨_,e,rfl⟩ F.entry_list_extend (F.args_list_extend_2 _ _)
  (AutoSeq1.list_extend_list_list_0 l a.toArray n b its2.toArray o c (by rw [aR];lia) ∎) ⟨e,w,?_⟩
 refine⟨.non,_,I.lset (its':=a++its2) g e ∅ (r.append p) ?_,rfl,q⟩;rw [aG];lia
def rPop:V->List V->Hp->VK->Prop:=λx vs H Q => ∃l xs y,x = .ref l/\vs = []/\H l=some (.lst xs)/\xs[xs.length - 1]? = some y/\Q y (upd H l (.lst xs.dropLast))
theorem QD:MtM X "list.pop" rPop:=by
 intro d s σ H x p v t Q I g i h;let⟨l,w,y,rfl,rfl,f,j,q⟩:=h;cases g;let b:=i.zero;subst b;let⟨z,a,n,r,k,e⟩:=I.lstM f;let⟨u,m,o⟩:=r.get j;let c:a.toArray[a.toArray.size - 1]? = some u:=by
  show a.toArray[a.length - 1]? = some u;rw [<-bA,<-k];exact m
 refine call_meets F.slot_list_pop ⟨_,e,rfl⟩ F.entry_list_pop (F.args_list_pop_1 _) (MeetsSeq.list_pop_last l a.toArray n u c (by rw [aR];lia)) ⟨e,?_⟩;refine⟨y,_,I.lset (its':=a.dropLast) f e ?_ r.dropLast ?_,o,q⟩
 .show a.toArray.eraseIdxIfInBounds (a.toArray.size - 1)=a.dropLast.toArray;rw [aR,List.eraseIdxIfInBounds_toArray,qOh]
 .rw [List.length_dropLast];lia
def qZk:V->List V->Hp->VK->Prop:=λx vs H Q => ∃l xs i k y,x = .ref l/\vs = [.int i]/\H l=some (.lst xs) /\ -(2^63)<=i/\i<2^63/\seqIndex? i xs.length=some k/\xs[k]? = some y/\Q y (upd H l (.lst (xs.eraseIdx k)))
theorem QE:MtM X "list.pop" qZk:=by
 intro c s σ H x E v G Q I f g h;let⟨l,j,i,k,y,rfl,rfl,d,m,o,p,A,q⟩:=h;cases f;let⟨u,rfl,B⟩:=g.one;let⟨t,rfl⟩:=B;let⟨z,a,n,r,C,e⟩:=I.lstM d;let⟨w,D,b⟩:=r.get A;refine call_meets F.slot_list_pop ⟨_,e,rfl⟩ F.entry_list_pop (F.args_list_pop_2 _ _)
  (MeetsSeq.list_pop_at l a.toArray n i t k w (fitsIndex_both m o) (by rw [aR,<-C];exact p) (by rw [<-bA];exact D) (by rw [aR];lia)) ⟨e,?_⟩
 refine⟨y,_,I.lset (its':=a.eraseIdx k) d e ?_ (r.eraseIdx k) ?_,b,q⟩
 .show a.toArray.eraseIdxIfInBounds k=(a.eraseIdx k).toArray;rw [List.eraseIdxIfInBounds_toArray]
 .let:=QC j k;lia
def rCat:R2:=λx y H Q => ∃l b xs zs,x = .ref l/\y = .ref b/\H l=some (.lst xs)/\H b=some (.lst zs)/\xs.length+zs.length<=sizeLine /\ ∀p,H p=none->Q (.ref p) (upd H p (.lst (xs++zs)))
theorem vU:OpR X (binaryOp .Add) rCat:=by
 intro c s σ H x y v u Q I d f h;let⟨l,b,p,t,rfl,rfl,g,i,w,q⟩:=h;cases d;cases f;let⟨z,a,n,r,A,e⟩:=I.lstM g;let⟨B,its2,C,j,k,m⟩:=I.lstM i;refine PySem.P.add_list e m ?_ (by rw [aR,aR];lia);let o:a.toArray++its2.toArray=(a++its2).toArray:=by simp
 rw [o];exact⟨.ref _,_,I.lnew (t':=s.toks) (r.append j) (by rw [aG];lia),rfl,q _ I.fresh⟩
section
variable{κ : Type}[DecidableEq κ]
noncomputable def valV(kvs:List (κ × V))(k : κ):Option V:=(kvs.find? λkv=>decide (kv.1=k)).map (·.2)
noncomputable def putK(kvs:List (κ × V))(k : κ)(v:V):List (κ × V):=if (kvs.any λkv=>decide (kv.1=k))=true then kvs.map (λkv=>if kv.1=k then (kv.1,v) else kv) else kvs ++ [(k,v)]
theorem ye{k : κ}(e:p.1=k):valV (p::r) k=some p.2:=by simp [valV,hU,e]
theorem yf{k : κ}(e : ¬p.1=k):valV (p::r) k=valV r k:=by simp [valV,hU,e]
theorem wp(k : κ):∀kvs:List (κ × V),(kvs.any λa=>decide (a.1=k))=(valV kvs k).isSome
 | []=>rfl
 | p::r=>by
  rw [List.any_cons];by_cases e:p.1=k
  .simp only [ye e,decide_eq_true e,Bool.true_or,Option.isSome_some]
  .rw [yf e,decide_eq_false e,Bool.false_or];exact wp k r
theorem QF(k j : κ)(y:V):∀kvs:List (κ × V),valV (kvs.map λa=>if a.1=k then (a.1,y) else a) j=(valV kvs j).map λx=>if j=k then y else x
 | []=>rfl
 | p::r=>by
  let b:=QF k j y r;rw [bE];by_cases h:p.1=k
  .rw [if_pos h];by_cases e:p.1=j
   .rw [ye (p:=(p.1,y)) e,ye e,Option.map_some,if_pos (e.symm.trans h)]
   .rw [yf (p:=(p.1,y)) e,yf e,b]
  .rw [if_neg h];by_cases e:p.1=j
   .rw [ye (p:=p) e,ye e,Option.map_some,if_neg (λz=>h (e.trans z))]
   .rw [yf (p:=p) e,yf e,b]
theorem QG(k j : κ)(y:V):∀kvs:List (κ × V),valV kvs k=none->valV (kvs ++ [(k,y)]) j=if j=k then some y else valV kvs j
 | [],_=>by
  by_cases e:k=j
  .rw [if_pos e.symm];exact ye (p:=(k,y)) e
  .rw [if_neg (λz=>e z.symm)];exact yf (p:=(k,y)) e
 | p::r,a=>by
  rw [List.cons_append];let b : ¬p.1=k:=λz=>by rw [ye z] at a;cases a
  rw [yf b] at a;let c:=QG k j y r a;by_cases e:p.1=j
  .rw [ye e,ye e,if_neg (λz=>b (e.trans z))]
  .rw [yf e,yf e,c]
theorem QH(kvs:List (κ × V))(k j : κ)(y:V):valV (putK kvs k y) j=if j=k then some y else valV kvs j:=by
 unfold putK;by_cases a:(kvs.any λb=>decide (b.1=k))=true
 .rw [if_pos a,QF];rw [wp] at a;by_cases e:j=k
  .let⟨x,c⟩:=gP.mp a;rw [if_pos e,e,c,Option.map_some,if_pos rfl]
  .rw [if_neg e];cases valV kvs j with
   | none=>rfl
   | some x=>rw [Option.map_some,if_neg e]
 .rw [if_neg a];refine QG k j y kvs ?_;rw [wp] at a;cases q:valV kvs k with
  | none=>rfl
  | some x=>rw [q] at a;exact (a rfl).elim
theorem xy(kvs:List (κ × V))(k : κ)(v:V):(putK kvs k v).length<=kvs.length+1:=by
 unfold putK;split
 .rw [aB];lia
 .rw [aG,cB,List.length_nil];lia
theorem qTl{k : κ}(v:V)(h:valV kvs k=none):putK kvs k v=kvs ++ [(k,v)]:=by
 unfold putK;rw [wp,h];exact if_neg ⋯
theorem RelO.isSome_eq(r:RelO o u):o.isSome=u.isSome:=by
 cases o with
 | none=>cases u with
  | none=>rfl
  | some _=>exact (show False from r).elim
 | some _=>cases u with
  | none=>exact (show False from r).elim
  | some _=>rfl
theorem RelO.getD(r:RelO o u)(a:RelV d d'):RelV (o.getD d) (u.getD d'):=by
 cases o with
 | none=>cases u with
  | none=>exact a
  | some _=>exact (show False from r).elim
 | some _=>cases u with
  | none=>exact (show False from r).elim
  | some _=>exact r
theorem KV.val(r:KV kvs vs)(k : κ):RelO (valV kvs k) (valueAt vs k):=by
 unfold KV at r
 induction r with
 | nil=>exact True.intro
 | @cons p q i a h t f =>
  let⟨d,g⟩:=h;by_cases e:p.1=k
  .let c:q.1=k:=d.symm.trans e;let b:valueAt (q::a) k=some q.2:=by simp [valueAt,hU,c]
   rw [ye e,b];exact g
  .let c : ¬q.1=k:=λz=>e (d.trans z);let b:valueAt (q::a) k=valueAt a k:=by simp [valueAt,hU,c]
   rw [yf e,b];exact f
theorem KV.any(r:KV kvs vs)(k : κ):(kvs.any λa=>decide (a.1=k))=vs.any λa=>decide (a.1=k):=by
 unfold KV at r
 induction r with
 | nil=>rfl
 | cons h t b=>rw [List.any_cons,List.any_cons,b,h.1]
theorem KV.repl(r:KV kvs vs)(k : κ)(c:RelV y u):KV (kvs.map λa=>if a.1=k then (a.1,y) else a) (vs.map λa=>if a.1=k then (a.1,u) else a):=by
 unfold KV at r ⊢
 induction r with
 | nil=>exact .nil
 | @cons p q g i h t d =>
  rw [bE,bE];refine .cons ?_ d;let⟨b,f⟩:=h;by_cases e:p.1=k
  .rw [if_pos e,if_pos (b.symm.trans e)];exact⟨b,c⟩
  .rw [if_neg e,if_neg (λz=>e (b.trans z))];exact⟨b,f⟩
theorem KV.put(r:KV kvs vs)(k : κ)(a:RelV y u):KV (putK kvs k y) (stored vs k u):=by
 unfold putK stored;rw [r.any k];by_cases e:(vs.any λb=>decide (b.1=k))=true
 .rw [if_pos e,if_pos e];exact r.repl k a
 .rw [if_neg e,if_neg e];exact iN r ⟨rfl,a⟩
theorem KV.length{vs:List (κ × Value)}(r:KV kvs vs):kvs.length=vs.length:=dD r
end
theorem xO{k:Key}(r:RelV (kV k) u):(zY P w).is k u=true:=by
 cases k with
 | inl i=>obtain⟨t,e⟩:=(show ∃t,u=Value.int i t from r);subst e;exact uc P w i t
 | inr x=>obtain⟨t,e⟩:=(show ∃t,u=Value.str x t from r);subst e;exact qLo P w x t
theorem uj:∀ {ks:List Key} {us:List Value},Vals (ks.map kV) us->ItemsAre (zY P w) ks us
 | [],_,r=>by rw [List.map_nil] at r;cases r;exact .nil
 | k::ks,_,r=>by
  rw [bE] at r;cases r with
  | cons h t=>exact .cons (xO h) (uj t)
abbrev KT(H:Hp):List (List Key×V)->List (List Key×Addr×Value)->Prop:=Paired λp q=>p.1=q.1/\H q.2.1=some (.tup (p.1.map kV))/\RelV p.2 q.2.2
theorem KT.val(r:KT H kvs xs)(k:List Key):RelO (valV kvs k) ((atKey xs k).map (·.2)):=by
 induction r with
 | nil=>exact True.intro
 | @cons p q i a h t f =>
  let⟨d,_,g⟩:=h;by_cases e:p.1=k
  .let c:q.1=k:=d.symm.trans e;let b:atKey (q::a) k=some q.2:=by simp [atKey,hU,c]
   rw [ye e,b];exact g
  .let c : ¬q.1=k:=λz=>e (d.trans z);let b:atKey (q::a) k=atKey a k:=by simp [atKey,hU,c]
   rw [yf e,b];exact f
theorem KT.repl(r:KT H kvs xs)(k:List Key)(d:RelV y u):KT H (kvs.map λb=>if b.1=k then (b.1,y) else b) (xs.map (putAt k u)):=by
 induction r with
 | nil=>exact .nil
 | @cons p q i j h t f =>
  rw [bE,bE];refine .cons ?_ f;let⟨a,c,g⟩:=h;unfold putAt;by_cases e:p.1=k
  .rw [if_pos e,if_pos (a.symm.trans e)];exact⟨a,c,d⟩
  .rw [if_neg e,if_neg (λz=>e (a.trans z))];exact⟨a,c,g⟩
theorem KT.put(r:KT H kvs xs)(k:List Key)(c:H b=some (.tup (k.map kV)))(a:RelV y u):KT H (putK kvs k y) (storedH xs k b u):=by
 let e:(kvs.any λd=>decide (d.1=k))=(atKey xs k).isSome:=by
  rw [wp,(r.val k).isSome_eq,Option.isSome_map]
 unfold putK storedH;rw [e];by_cases q:(atKey xs k).isSome=true
 .rw [if_pos q,if_pos q];exact r.repl k a
 .rw [if_neg q,if_neg q];exact iN r ⟨rfl,c,a⟩
theorem KT.keeps(r:KT H kvs xs)(a:∀b ys,H b=some (.tup ys)->H' b=some (.tup ys)):KT H' kvs xs:=Paired.mapP r λ_ _ z=>⟨z.1,a _ _ z.2.1,z.2.2⟩
theorem QI(ok:HOk P w H h)(e:Rd H a u):ObjOk P w H h a u:=e.ok ok
theorem xh(ok:HOk P w H h)(e:Rd H a (.dK kvs)):kvs.length<=sizeLine/\(a == sysModules)=false /\ ∃vs,KV kvs vs/\h.DictOf (zY P w) a vs:=show ObjOk P w H h a (.dK kvs) from QI ok e
theorem wq(ok:HOk P w H h)(e:H a=some (.dK kvs)):kvs.length<=sizeLine/\(a == sysModules)=false /\ ∃vs,KV kvs vs/\h.DictOf (zY P w) a vs:=xh ok (.inl e)
theorem xz(ok:HOk P w H h)(e:H a=some (.tup (ks.map kV))):(tupleKind (zY P w)).is h ks a:=by
 let⟨_,b,r,o,c,d,n,f⟩:=(show ObjOk P w H h a (.tup (ks.map kV)) from ok a _ e);exact⟨o,b.toArray,n,c,d,f,by simpa using uj r⟩
theorem xi(ok:HOk P w H h)(e:Rd H a (.dT kvs)):kvs.length<=sizeLine/\(a == sysModules)=false /\
  ∃xs,KT H kvs xs/\h.DictOfH (tupleKind (zY P w)) a xs:=by
 let⟨z,y,xs,r,o,c,d,f,g,i,j,k⟩:=(show ObjOk P w H h a (.dT kvs) from QI ok e);refine⟨z,y,xs,r,o,c,d,f,g,i,j,λx hx=>?_,k⟩;let all:∀ {l:List (List Key×V)} {m:List (List Key×Addr×Value)},KT H l m -> ∀x∈m,(tupleKind (zY P w)).is h x.1 x.2.1:=by
  intro l m q
  induction q with
  | nil=>intro x hx;exact nomatch hx
  | @cons p q s u b t n =>
   intro x hx;rcases aL.mp hx with e | hx
   .subst e;exact xz ok (by rw [<-b.1];exact b.2.1)
   .exact n x hx
 exact all r x hx
theorem wB6(ok:HOk P w H h)(e:H a=some (.dT kvs)):kvs.length<=sizeLine/\(a == sysModules)=false /\
  ∃xs,KT H kvs xs/\h.DictOfH (tupleKind (zY P w)) a xs:=xi ok (.inl e)
def DGet(H:Hp)(a:Addr)(y:V)(r:Option V):Prop:=(∃kvs k,Rd H a (.dK kvs)/\y=kV k/\r=valV kvs k) \/ ∃kvs k b,Rd H a (.dT kvs)/\y = .ref b/\H b=some (.tup (k.map kV))/\r=valV kvs k
def DPut(H:Hp)(a:Addr)(y v:V)(H':Hp):Prop :=
 (∃kvs k,H a=some (.dK kvs)/\y=kV k/\kvs.length<sizeLine/\H'=upd H a (.dK (putK kvs k v))) \/
 ∃kvs k b,H a=some (.dT kvs)/\y = .ref b/\H b=some (.tup (k.map kV))/\kvs.length<sizeLine/\H'=upd H a (.dT (putK kvs k v))
theorem DGet.k{k:Key}(e:H a=some (.dK kvs)):DGet H a (kV k) (valV kvs k) :=.inl ⟨kvs,k,.inl e,rfl,rfl⟩
theorem DGet.t{k:List Key}(e:H a=some (.dT kvs))(c:H b=some (.tup (k.map kV))):DGet H a (.ref b) (valV kvs k) :=.inr ⟨kvs,k,b,.inl e,rfl,c,rfl⟩
theorem DPut.t{k:List Key}(e:H a=some (.dT kvs))(c:H b=some (.tup (k.map kV)))(d:kvs.length<sizeLine):DPut H a (.ref b) v (upd H a (.dT (putK kvs k v))) :=.inr ⟨kvs,k,b,e,rfl,c,d,rfl⟩
section
variable{X:Cx}{pins:List (Addr×Obj)}{σ : St}{H:Hp}{s:Shared}{a:Addr}{y v:V}{u r:Value}{o:Option V}{A:Around}{E:Value->Shared->Prop}
theorem Inv.big(I:Inv X pins σ H s):sysModules<s.heap.objs.size:=by
 let h:mainGlobals<s.heap.objs.size:=(I.mod.glob.keeps I.bk).lt;exact Nat.lt_trans ⋯ h
theorem qSc(x:A.units+1<cLine)(I:Inv X pins σ H s)(g:DGet H a y (some v))(r:RelV y u)(h:∀f t,Inv X pins σ H t->RelV v f->Q f t):wpAny (model X.prog X.w) A (getItem (.ref a) u) Q E s:=by
 rcases g with ⟨i,k,e,j,l⟩ | ⟨i,k,b,e,j,B,l⟩
 .subst j;let⟨z,C,D,c,m⟩:=xh I.hok e;let⟨f,n,d⟩:=RelO.some_of (v:=v) (o:=valueAt D k) (by rw [l];exact c.val k);exact wpAny_getItem_of (xO r) m.mapOf n (h f _ (I.tok _) d)
 .subst j;cases (show u=Value.ref b from r);let⟨z,C,F,c,m⟩:=xi I.hok e;let⟨f,n,d⟩:=RelO.some_of (v:=v) (o:=(atKey F k).map (·.2)) (by rw [l];exact c.val k);let⟨p,G,q⟩:=Option.map_eq_some_iff.mp n;refine wpAny_getItem_heap (dL x) (xz I.hok B) m G ?_;rw [q];exact h f _ (I.tok _) d
theorem d_in(p:A.units+1<cLine)(I:Inv X pins σ H s)(g:DGet H a y o)(m:RelV y u)(h:∀n,Inv X pins σ H n->Q (.bool o.isSome) n):wpAny (model X.prog X.w) A (compareOp .In u (.ref a)) Q E s:=by
 rcases g with ⟨d,k,e,f,l⟩ | ⟨d,k,b,e,f,r,l⟩
 .subst f;let⟨z,i,t,c,j⟩:=xh I.hok e;refine wpAny_in_of (xO m) i j.mapOf ?_;rw [<-(c.val k).isSome_eq,<-l];exact h _ (I.tok _)
 .subst f;cases (show u=Value.ref b from m);let⟨z,i,v,c,j⟩:=xi I.hok e;refine wpAny_in_heap (dL p) (xz I.hok r) i j ?_;let q:=(c.val k).isSome_eq;rw [Option.isSome_map] at q;rw [<-q,<-l];exact h _ (I.tok _)
theorem qYf(p:A.units+1<cLine)(I:Inv X pins σ H s)(g:DGet H a y o)(m:RelV y u)(h:∀n,Inv X pins σ H n->Q (.bool (!o.isSome)) n):wpAny (model X.prog X.w) A (compareOp .NotIn u (.ref a)) Q E s:=by
 rcases g with ⟨d,k,e,f,l⟩ | ⟨d,k,b,e,f,r,l⟩
 .subst f;let⟨z,i,t,c,j⟩:=xh I.hok e;refine wpAny_notIn_of (xO m) i j.mapOf ?_;rw [<-(c.val k).isSome_eq,<-l];exact h _ (I.tok _)
 .subst f;cases (show u=Value.ref b from m);let⟨z,i,v,c,j⟩:=xi I.hok e;refine wpAny_notIn_heap (dL p) (xz I.hok r) i j ?_;let q:=(c.val k).isSome_eq;rw [Option.isSome_map] at q;rw [<-q,<-l];exact h _ (I.tok _)
theorem xj{t':Nat}(I:Inv X pins σ H s)(mu:Mut (H a))(d:Heap.SameBut a s.heap h')(f:∃q,h'.get? a=some q)(new:ObjOk X.prog X.w (upd H a c) h' a c):Inv X pins σ (upd H a c) { s with heap:=h',toks:=t' } :=
 I.write (x:=a) (e:=a) mu (.inl rfl) (λb q g z=>(d.2 b g).trans z) f new
theorem ul(z:kvs.length<=sizeLine)(hd:(a == sysModules)=false)(b:KV kvs vs)(c:h'.DictOf (zY P w) a vs):ObjOk P w H' h' a (.dK kvs):=⟨z,hd,vs,b,c⟩
theorem qSb(L:A.units+1<cLine)(I:Inv X pins σ H s)(g:DPut H a y v H')(C:RelV y u)(D:RelV v r)(h:∀F,Inv X pins σ H' F->Q () F):wpAny (model X.prog X.w) A (setItem (.ref a) u r) Q E s:=by
 rcases g with ⟨d,k,e,m,l,n⟩ | ⟨d,k,b,e,m,G,l,n⟩
 .subst m n;let⟨z,o,M,f,p⟩:=wq I.hok e;let t:M.length<=sizeLine:=by rw [<-f.length];exact z
  let x:(putK d k v).length<=sizeLine:=by let:=xy d k v;lia
  refine wpAny_setItem_pairs (hsz:=t) (xO C) p λJ i B=>h _ ?_;let N:∃q,J.get? a=some q:=let ⟨q,_,_,j,_⟩:=i;⟨q,j⟩
  exact xj I (by rw [e];exact True.intro) B N (ul x o (f.put k D) i)
 .subst m n;cases (show u=Value.ref b from C);let⟨z,o,O,f,p⟩:=wB6 I.hok e;let t:O.length<=sizeLine:=by rw [<-dD f];exact z
  let x:(putK d k v).length<=sizeLine:=by let:=xy d k v;lia
  refine wpAny_setItem_heap (hsz:=t) (dL L) (xz I.hok G) p λJ i B=>h _ ?_;let⟨q,P,R,j,S,T,U,_,V⟩:=i;refine xj I (by rw [e];exact True.intro) B ⟨q,j⟩ ⟨x,o,_,(f.put k G D).keeps λc W K=>?_,q,P,R,j,S,T,U,V⟩;rw [zD (xv K e (λz=>nomatch z))];exact K
end
def NoSl(i:Expr):Prop := ∀ov iv,subscripted i false ov iv=operate [ov,iv] (getItem ov iv)
theorem QJ{T id:String}
  (j:typeLookup (.type T) "__getitem__" = pure (some (.builtin id))) (k:NoSl slice)
  (h:wpAny (model prog w) A (eval a env) (λo d =>wpAny (model prog w) A (eval slice env) (λi b =>b.TypeIs o T/\wpAny (model prog w) A (getItem o i) Q E b) E d) E s) :
  wpAny (model prog w) A (eval (.Subscript a slice pos) env) Q E s:=by
 refine Subscript_ (cX h (λo d f =>cX f (λi b c=>?_) λ_ _ x=>x) λ_ _ x=>x);let⟨hT,c⟩:=c;unfold subscriptTail;refine aA ?_;rw [getitemInPython_of_ne hT.not_modules];refine aA (wpAny_specialOf hT j ?_);let fin:wpAny (model prog w) A (subscripted slice false o i) (λr e =>wpAny (model prog w) A (letTemporaryGo a o r >>= λ_=>pure r) Q E e) E b :=by
  rw [k o i];exact wpAny_operating (cX c (λr e g =>aA (wpAny_letTemporaryGo (aD g))) λ_ _ x=>x)
 first
  | exact aD (aA fin)
  | exact aA (aD (aA fin))
  | exact aA fin
theorem qLu{σ : St}(I:Inv X c σ H s)(g:DGet H a y o):s.TypeIs (.ref a) "dict" :=by
 rcases g with ⟨d,k,e,_,_⟩ | ⟨d,k,b,e,_,_,_⟩
 .let⟨_,_,h,_,f⟩:=xh I.hok e;exact f.typeIs
 .let⟨_,_,i,_,f⟩:=xi I.hok e;exact f.typeIs
def tDGet(td ty:TE):TE:=λσ H Q=>td σ H λx H1=>ty σ H1 λy H2 => ∃a v,x = .ref a/\DGet H2 a y (some v)/\Q v H2
def tDIn(ty td:TE):TE:=λσ H Q=>ty σ H λy H1=>td σ H1 λx H2 => ∃a o,x = .ref a/\DGet H2 a y o/\Q (.bl o.isSome) H2
def QK(ty td:TE):TE:=λσ H Q=>ty σ H λy H1=>td σ H1 λx H2 => ∃a o,x = .ref a/\DGet H2 a y o/\Q (.bl (!o.isSome)) H2
def sDPut(td ty tv:TE):TS:=λD σ H=>tv σ H λv H1=>td σ H1 λx H2=>ty σ H2 λy H3 => ∃a H4,x = .ref a/\DPut H3 a y v H4/\D.nx σ H4
theorem qXd(e:X.A.units+1<cLine)(f:PE X o td)(hi:PE X i ty)(j:NoSl i):PE X (.Subscript o i pos) (tDGet td ty):=by
 intro b s σ H Q I h;refine QJ PySem.F.slot_dict_getitem.lookup j (thn (f b s σ H _ I h) λu k hq_=>?_);let⟨x,l,m,n,p⟩:=hq_;refine thn (hi b k σ l _ m p) λB C hq_=>?_;let⟨y,q,d,r,a,v,t,g,w⟩:=hq_;subst t;obtain rfl:u=Value.ref a:=n;exact⟨qLu d g,qSc e d g r λD E z c=>⟨v,q,z,c,w⟩⟩
theorem qZv(c:X.A.units+1<cLine)(hi:PE X i ty)(d:PE X o td):PC X .In i o (tDIn ty td):=by
 intro b s σ H Q I h;refine thn (hi b s σ H _ I h) λw e hq_=>?_;let⟨y,f,j,k,l⟩:=hq_;refine thn (d b e σ f _ j l) λu z hq_=>?_;let⟨x,m,n,p,a,q,r,g,t⟩:=hq_;subst r;obtain rfl:u=Value.ref a:=p;exact d_in c n g k λB v=>⟨.bl q.isSome,m,v,rfl,t⟩
theorem qQs(c:X.A.units+1<cLine)(hi:PE X i ty)(d:PE X o td):PC X .NotIn i o (QK ty td):=by
 intro b s σ H Q I h;refine thn (hi b s σ H _ I h) λw e hq_=>?_;let⟨y,f,j,k,l⟩:=hq_;refine thn (d b e σ f _ j l) λu z hq_=>?_;let⟨x,m,n,p,a,q,r,g,t⟩:=hq_;subst r;obtain rfl:u=Value.ref a:=p;exact qYf c n g k λB v=>⟨.bl (!q.isSome),m,v,rfl,t⟩
theorem QL(c:X.A.units+1<cLine)(d:PE X o td)(hi:PE X i ty)(e:PE X value tv)(f:swapsWith value (some (.Subscript o i pos')) pos.line X.env=pure false):PS X (.Assign [.Subscript o i pos'] value pos) (sDPut td ty tv):=by
 intro b s σ H D I h;refine wpAny_Assign_Subscript (thn (e b s σ H _ I h) λr j hq_=>?_) f;let⟨v,k,l,m,n⟩:=hq_;refine thn (d b j σ k _ l n) λu p hq_=>?_;let⟨x,q,t,w,z⟩:=hq_;refine thn (hi b p σ q _ t z) λK L hq_=>?_;let⟨y,M,B,C,a,E,F,g,G⟩:=hq_;subst F;obtain rfl:u=Value.ref a:=w;exact qSb c B g C m λN J=>⟨σ,E,J,G⟩
theorem QM(h:Heap)(a:sysModules<h.objs.size):ObjOk P w H (h.push { cls :=.type "dict",data :=.dict #[] }) h.objs.size (.dK []):=⟨aX _,beq_eq_false_iff_ne.mpr (cP (aZ a)),[],.nil,Heap.DictOf.new h⟩
theorem qV3(h:Heap)(a:sysModules<h.objs.size):ObjOk P w H (h.push { cls :=.type "dict",data :=.dict #[] }) h.objs.size (.dT []):=⟨aX _,beq_eq_false_iff_ne.mpr (cP (aZ a)),[],.nil,_,#[],0,aW _ rfl,⟨rfl,rfl,rfl⟩,rfl,rfl,gY⟩
def QN:TE:=λ_ H Q => ∀p,H p=none->Q (.ref p) (upd H p (.dK []))
def qYw:TE:=λ_ H Q => ∀p,H p=none->Q (.ref p) (upd H p (.dT []))
theorem QO:PE X (.Dict [] [] pos) QN:=λb s σ H Q I h =>
 wpAny_Dict_empty ⟨.ref s.heap.objs.size,_,I.laid (a:=s.heap.objs.size) (o :=.dK []) (t':=s.toks) (λ_ _ q=>aE _ q) (aH _) (QM s.heap I.big),rfl,h _ (I.hok.fresh (aH _))⟩
theorem qTt:PE X (.Dict [] [] pos) qYw:=λb s σ H Q I h =>
 wpAny_Dict_empty ⟨.ref s.heap.objs.size,_,I.laid (a:=s.heap.objs.size) (o :=.dT []) (t':=s.toks) (λ_ _ q=>aE _ q) (aH _) (qV3 s.heap I.big),rfl,h _ (I.hok.fresh (aH _))⟩
noncomputable def wt(kvs more:List (Key×V)):List (Key×V):=more.foldl (λacc kv=>putK acc kv.1 kv.2) kvs
theorem QP:∀(more kvs:List (Key×V)),(wt kvs more).length<=kvs.length+more.length
 | [],kvs=>by show kvs.length<=kvs.length+0;lia
 | p::r,kvs=>by
  let a:=QP r (putK kvs p.1 p.2);let b:=xy kvs p.1 p.2;show (wt (putK kvs p.1 p.2) r).length<=_;rw [cB];lia
structure M1(X:Cx)(o:Expr)(m:Str)(apos:Pos)(e:Expr)(cpos:Pos):Prop where
 base:attributeBase o m X.env (eval o X.env)=eval o X.env
 few:((backTo cpos (starEach [e] X.env)).all (λx => !x.1)&&(backToKw cpos (keywordEach [] X.env)).all (λx=>x.1.isSome)
  && decide (([e]:List Expr).length+([]:List Keyword).length+(if ([]:List Keyword).isEmpty then 0 else 1)<30))=true
 line:(apos.endLine == cpos.line)=true
 trees:backTo cpos (starEach [e] X.env) = [(false,eval e X.env)]
structure M2(X:Cx)(o:Expr)(m:Str)(apos:Pos)(e f:Expr)(cpos:Pos):Prop where
 base:attributeBase o m X.env (eval o X.env)=eval o X.env
 few:((backTo cpos (starEach [e,f] X.env)).all (λx => !x.1)&&(backToKw cpos (keywordEach [] X.env)).all (λx=>x.1.isSome)
  && decide (([e,f]:List Expr).length+([]:List Keyword).length+(if ([]:List Keyword).isEmpty then 0 else 1)<30))=true
 line:(apos.endLine == cpos.line)=true
 trees:backTo cpos (starEach [e,f] X.env) = [(false,eval e X.env),(false,eval f X.env)]
def IsD(H:Hp)(a:Addr):Prop:=(∃kvs,Rd H a (.dK kvs)) \/ ∃kvs,Rd H a (.dT kvs)
theorem wAa{σ : St}(I:Inv X f σ H s)(d:IsD H a):s.TypeIs (.ref a) "dict" /\ (∀b,Value.ref a = .ref b -> ∃c,s.heap.get? b=some c/\c.dict=none)/\(a == sysModules)=false:=by
 rcases d with ⟨h,e⟩ | ⟨h,e⟩
 .let⟨_,i,l,_,g⟩:=xh I.hok e;refine⟨g.typeIs,λb q=>?_,i⟩;cases q;let⟨c,_,_,j,k,_⟩:=g;exact⟨c,j,k.2.1⟩
 .let⟨_,i,m,_,g⟩:=xi I.hok e;refine⟨g.typeIs,λb q=>?_,i⟩;cases q;let⟨c,_,_,j,k,_⟩:=g;exact⟨c,j,k.2.1⟩
section
variable{X:Cx}{pins:List (Addr×Obj)}{σ : St}{H:Hp}{s:Shared}{a:Addr}{y d:V}{u r:Value}{o:Option V}{A:Around}{E:Value->Shared->Prop}
theorem wAg(v:A.units+1<cLine)(I:Inv X pins σ H s)(g:DGet H a y o)(n:RelV y u)(p:RelV d r)(h:∀q t,Inv X pins σ H t->RelV (o.getD d) q->Q q t):wpAny (model X.prog X.w) A (call (.builtin "dict.get") [.ref a,u,r]) Q E s:=by
 rcases g with ⟨i,k,e,j,l⟩ | ⟨i,k,b,e,j,x,l⟩
 .subst j;let⟨z,m,C,c,f⟩:=xh I.hok e;refine call_meetsIn gA f.typeIs PySem.F.entry_dict_get (PySem.F.args_dict_get_3 _ _ _) (meets_dict_get_default (zY X.prog X.w) a (xO n) m r) ⟨_,f.mapOf,h _ _ (I.tok _) ?_⟩;rw [l];exact (c.val k).getD p
 .subst j;cases (show u=Value.ref b from n);let⟨z,m,B,c,f⟩:=xi I.hok e;refine call_meetsIn gA f.typeIs PySem.F.entry_dict_get (PySem.F.args_dict_get_3 _ _ _) (meetsH_dict_get_default (tupleKind (zY X.prog X.w)) a b m r) ⟨dL v,k,B,xz I.hok x,f,h _ _ (I.tok _) ?_⟩;rw [l];exact (c.val k).getD p
end
def um(td ty tx:TE):TE:=λσ H Q=>td σ H λx H1 => ∃a,x = .ref a/\IsD H1 a/\ty σ H1 λy H2=>tx σ H2 λz H3 => ∃o,DGet H3 a y o/\Q (o.getD z) H3
theorem QQ(j:X.A.units+1<cLine)(k:PE X o td)(l:PE X e ty)(n:PE X f tx)(m:M2 X o "get" apos e f cpos):PE X (.Call (.Attribute o "get" apos) [e,f] [] cpos) (um td ty tx):=by
 intro b s σ H Q I h;refine wpAny_Call_method m.base m.few m.line gW gA PySem.F.type_dict_get (thn (k b s σ H _ I h) λu p hq_=>?_);let⟨x,q,i,r,a,t,d,v⟩:=hq_;subst t;obtain rfl:u=Value.ref a:=r;let⟨w,B,_⟩:=wAa i d;refine⟨w,B,?_⟩;rw [m.trees];refine gZ rfl (Calls.evalArgs_plain (Calls.spliced_cons (thn (l b p σ q _ i v) λP C hq_=>?_)));let⟨y,D,E,G,J⟩:=hq_;refine Calls.spliced_cons (thn (n b C σ D _ E J) λR S hq_=>?_);let⟨z,K,L,M,T,g,N⟩:=hq_;refine Calls.spliced_nil ?_;exact wAg j L g G M λU V O c=>⟨_,K,O,c,N⟩
end L2
namespace Att
open PySem PySem.W PySem.Calls PyProof.Rows
theorem qGg:∀(ns:List Int) (vs:List Value),WellAll P h vs (ns.map WData.int)->IntsAre vs ns:=by
 intro ns
 induction ns with
 | nil =>
  intro vs w;rw [List.map_nil] at w;cases w;exact .nil
 | cons n ns c =>
  intro vs w;rw [bE] at w;cases w with
  | cons a b =>
   cases a;exact .cons _ _ (c _ b)
theorem qPl{l:OpenLaw}{n:Nat}(o:l.most=some n)(c:l.row.toRowW.claim.pre args=true)(j:WellAll P h b args):∃a vs ns,b = [Value.ref a]/\args = [WData.list (ns.map WData.int)]/\h.get? a=some { cls :=.type "list",data :=.seq vs.toArray }/\IntsAre vs ns/\ns.length<=n:=by
 let k:WShape.hasAll [] args [.list .int]=true:=(pre_splitW c).1;let m:l.pre.holds [] { args:=args }=true:=(pre_splitW c).2;let⟨d,r,rfl,p,s⟩:=hasAllW_cons k;obtain rfl:=hasAllW_nil s;let⟨x,rfl,t⟩:=hasW_list p;let⟨ns,rfl⟩:=items_int t;let e:ns.length<=n:=by
  unfold OpenLaw.pre at m;let g:(WTm.not (.lt (.lit (.int (n:Int))) (.len (.arg 0)))).holds [] { args :=[.list (ns.map .int)] }=true:=by
   let g:=(holds_andW m).1;rw [o] at g;exact g
  let i:=condW_of g (w_not (w_lt w_lit (w_len_list (w_arg rfl))));rw [aB] at i;refine Nat.le_of_not_lt λq=>?_;let u:(n:Int)<((ns.length:Nat):Int):=by lia
  first
   | (rw [decide_eq_true u] at i;exact absurd i ⋯)
   | (simp at i;lia)
 cases j with
 | cons w1 v =>
  cases v;cases w1 with
  | list w f=>exact⟨_,_,ns,rfl,rfl,w,qGg ns _ f,e⟩
theorem qQk(l:OpenLaw)(args:List WData):l.row.toRowW.claim.post args (.bool true) args=true :=
 postW_of (r:=l.row.toRowW) (X:=(true == true))
  (show WShape.has [] (.bool true) .bool=true by first | rfl | decide | simp [WShape.has,WShape.arms,WShape.armsAll])
  (show (WTm.eq .res (.lit (.bool true))).value [] { args:=args,res:=some (.bool true),after:=args }=some (.bool (true == true)) from w_eq_bool (w_res rfl) w_lit) rfl
theorem attach_call{l:OpenLaw}{n:Nat}(E:l.most=some n)(p:d.params.defaults = [])(call:∀(w:World) (s₀ b : Shared) (mg s:Str->Option Value) (g:Addr) (o:Obj) (t k doc:Value) (a:Addr) (vs:List Value) (ns:List Int),
   Ground q c [] y w s₀ mg s b.heap->z w b.heap ->
   b.heap.get? g=some o->o.data = .func (docDef d.name d.params d.body d.scope t k doc)->b.heap.CodeRec k d.name->mg d.name=some (.ref g) ->
   b.heap.get? a=some { cls :=.type "list",data :=.seq vs.toArray }->IntsAre vs ns->ns.length<=n->b.gens = #[] ->
   codeAny (model l.prog w) callerA (.call (.ref g) ⟨[.ref a],[]⟩) (λr m=>r = .ok (.ret (.bool true))/\OldK b.heap m.heap/\m.os=b.os/\AllBare m.gens) b) :
  WalkO q c y z l.row.toRowW d [] (λf vs=>PySem.call f vs):=by
 intro w s₀ b mg s G Y g o t k doc F kV H I u A v J B C R h D K x L;obtain rfl:F = .none:=Dflts.none A p;obtain rfl:kV = .none:=Dflts.noKw A;let⟨a,vs,ns,rfl,rfl,i,e,j⟩:=qPl E h x;refine enter_call (hJ (call w s₀ b mg s g o t k doc a vs ns G Y H (fd_plain I) u v i e j J) λr m M=>?_);let⟨rfl,N,O,P⟩:=M;exact⟨.inl ⟨.bool true,.bool true,[],rfl,λ_=>rfl,.bool true,qQk l _,λ_=>⟨List.Pairwise.nil,λ_ Q=>(nomatch Q)⟩⟩,N,O,P⟩
end Att
namespace L2
open PySem PySem.Spec PyProof.Rows
theorem QR(h:IntsAre vs ns):Vals (ns.map V.int) vs:=by
 induction h with
 | nil=>exact .nil
 | cons n t _ a=>exact .cons ⟨t,rfl⟩ a
noncomputable def ym(s:Stmt):Arguments:=match s with
 | .FunctionDef _ a _ _ _ _ _ _ _ _=>a
 | _ =>{ posonlyargs :=[],args :=[],vararg:=none,kwonlyargs :=[],kw_defaults :=[],kwarg:=none,defaults :=[] }
noncomputable def yY(s:Stmt):List Stmt:=match s with
 | .FunctionDef _ _ b _ _ _ _ _ _ _=>b
 | _ =>[]
noncomputable def zT(s:Stmt):Scope:=match s with
 | .FunctionDef _ _ _ _ _ _ sc _ _ _=>sc
 | _ =>{ kind :=.function,names :=[],isGenerator:=false,isCoroutine:=false }
abbrev CX0:CXT:=λ_ _ _ _ _ _=>False
abbrev E0:XK:=λ_ _ _=>False
theorem pass0:ug CX0 X E0:=λ_ _ _ _ _ _ _ h=>h.elim
structure Fun(K:PySem.W.Frag)(x qual:Str)(st:Stmt)(f:Addr)(fd:FuncData):Prop where
 ex:∃(oc:Value) (od:Option Addr) (kV doc pm:Value) (an:Option Addr) (cdv ct:Value) (osl:Array (Option Value)),
  fd=PySem.W.fnOf x qual (ym st) (yY st) (zT st) .none kV doc pm an cdv ct/\K.lookup f=some ⟨oc,od,.func fd,osl⟩/\PySem.W.codeIn K cdv qual=true
 kp:PySem.W.keepIn K (.ref f)=true
section
variable{P:Program}{w:World}{K:PySem.W.Frag}{mg:Str->Option Value}{base:Heap}
theorem Fun.ok{st:Stmt}{k:Nat}(F:Fun K x a st f i)(S:FnScope N d (zT st))(len:∀vs H Q E,sp vs H Q E->vs.length=d.length)(c:∀(b:Value) (A:Around) (outer:List Env) (s:Shared) (H:Hp) (vs:List V) (Q:VK) (E:XK),Room k (A.deeper (envOfC a (zT st) s.heap.objs.size f b))->sp vs H Q E ->
   ∃t,PSs (cxOf CX0 P w K mg base N a (zT st) f b A outer s H E).nox (yY st) t/\t { nx:=λ_ j=>Q .non j,rt:=Q } (start N vs) H):FnOk P w K mg base CX0 (k+1) f i d sp:=by
 let⟨o,p,kV,doc,r,u,b,v,l,rfl,m,e⟩:=F.ex;refine wAe m e S len λA outer s H vs Q E n g=>?_;let⟨t,h,q⟩:=c b A outer s H vs Q E n g;exact⟨t,h.nox,q⟩
theorem Fun.binds{st:Stmt}(F:Fun K x a st f g)(h:∀(kV doc d:Value) (e:Option Addr) (b ct:Value) (us:List Value),us.length=c.length->bindArgs (PySem.W.fnOf x a (ym st) (yY st) (zT st) .none kV doc d e b ct) ⟨us,[]⟩=pure (c.zip us)):Binds K g c []:=by
 let⟨k,l,kV,doc,d,e,b,ct,i,rfl,m,j⟩:=F.ex;exact .all (h kV doc d e b ct)
theorem QS{st:Stmt}{kV doc g b ct:Value}(l:K.lookup f=some ⟨h,i,.func (PySem.W.fnOf x a (ym st) (yY st) (zT st) .none kV doc g e b ct),d⟩)(c:PySem.W.codeIn K b a=true)(k:PySem.W.keepIn K (.ref f)=true):Fun K x a st f (PySem.W.fnOf x a (ym st) (yY st) (zT st) .none kV doc g e b ct):=⟨⟨h,i,kV,doc,g,e,b,ct,d,rfl,l,c⟩,k⟩
end
theorem yZ{k:Nat}(a:Room k A):A.units+1<cLine:=gB (Nat.add_le_add_left (by decide:1<=64) _) a.units
theorem zb{n:Nat}(h:n<=1000):n<sizeLine:=gB h ⋯
section
variable{X:Cx}
theorem pv(i:Nat){pos:Pos}(b:X.N[i]? = some x:=by rfl)(c:Vis X.env.scope x:=by first | exact Or.inl rfl | exact Or.inr (Or.inl rfl) | exact Or.inr (Or.inr rfl))(d:(x == ("__debug__" : Str))=false:=by decide)
  (a:(x == ("__classdict__" : Str))=false:=by decide):PE X (.Name x pos) (tVar i):=oG b c d a
end
theorem iteF{A B:Prop}(h:B):if false=true then A else B:=by
 rw [if_neg aK];exact h
theorem iteT{A B:Prop}(h:A):if true=true then A else B:=by
 rw [if_pos rfl];exact h
theorem ite2{c A B:Prop} [Decidable c] (a:c->A)(b : ¬c->B):if c then A else B:=by
 by_cases h:c
 .rw [if_pos h];exact a h
 .rw [if_neg h];exact b h
def Same(H H':Hp):Prop := ∀b o,H b=some o->H' b=some o
theorem Same.seq{K:PySem.W.Frag}(e:Same H H')(h:SqL K H a xs):SqL K H' a xs:=by
 rcases h with (h | ⟨o,h⟩) | h
 .exact .inl (.inl (e _ _ h))
 .exact .inl (.inr ⟨o,e _ _ h⟩)
 .exact .inr h
end L2
set_option maxHeartbeats 4000000
namespace L2
open PySem PySem.Spec PyProof.Rows
abbrev TB:=St->Hp->(St->Hp->Prop)->Prop
def PB(X:Cx)(m:Sem Unit)(B:TB):Prop :=
 ∀(pins:List (Addr×Obj)) (s:Shared) (σ : St) (H:Hp) (Q:St->Hp->Prop),Inv X pins σ H s->B σ H Q ->
  wpAny (model X.prog X.w) X.A m (λ_ s' => ∃ σ' H',Inv X pins σ' H' s'/\Q σ' H') X.xe s
def tAll:List TT->TT
 | []=>λ_ H Q=>Q true H
 | t::r=>λσ H Q=>t σ H λb H1=>if b=true then tAll r σ H1 Q else Q false H1
inductive PTs(X:Cx):List Expr->List TT->Prop
 | nil:PTs X [] []
 | cons {e es t ts}:PT X e t->PTs X es ts->PTs X (e::es) (t::ts)
noncomputable def wA(ifs:List Expr)(env:Env)(b:Bool):Sem Bool:=forIn ifs b λc r=>if r=true then do let ok <-isTrue c env (eval c env);pure (ForInStep.yield ok) else pure (ForInStep.yield r)
theorem QT(h:Q false s):∀a:List Expr,wpAny M A (wA a env false) Q E s
 | []=>aD h
 | c::r=>by
  unfold wA;simp only [List.forIn_cons,bV,if_false];exact aA (aD (QT h r))
theorem QU:∀ {c:List Expr} {ts:List TT},PTs X c ts -> ∀(a:List (Addr×Obj)) (s:Shared) (σ : St) (H:Hp) (Q:Bool->Hp->Prop),Inv X a σ H s->tAll ts σ H Q ->
  wpAny (model X.prog X.w) X.A (wA c X.env true) (TP X a σ Q) X.xe s
 | _,_,.nil,a,s,σ,H,Q,I,h=>aD ⟨H,I,h⟩
 | _,_,.cons (es:=es) i j,a,s,σ,H,Q,I,h=>by
  unfold wA;simp only [List.forIn_cons,if_true];refine aA (aA (thn (i a s σ H _ I h) λb d hq_=>?_));let⟨e,f,g⟩:=hq_;refine aD ?_;cases b with
  | true=>exact QU j a d σ e Q f g
  | false=>exact QT (show TP X a σ Q false d from⟨e,f,g⟩) es
def LoopT(J:It)(g:TG)(tt:TT)(B:TB):TB:=λσ H Q => ∃W:Nat->Nat->St->Hp->Prop,(∃m,W 0 m σ H) /\ ∀i m σ H,W i m σ H ->
 (J.stop i H/\Q σ H)\/(J.go i H /\ ∀x H',J.yld i H x H'->g x σ H' λσ2 H2=>tt σ2 H2 λb H3 =>
  if b=true then B σ2 H3 (λσ3 H4 => ∃m',m'<m/\W (i+1) m' σ3 H4) else ∃m',m'<m/\W (i+1) m' σ2 H3)
def CompR(X:Cx)(pins:List (Addr×Obj))(Q:St->Hp->Prop):Result->Shared->Prop
 | .ok _,s' => ∃ σ' H',Inv X pins σ' H' s'/\Q σ' H'
 | .error _,_=>False
structure ClauseAt(X:Cx)(e:Expr)(d:Nat)(acc:Value)(tg iter:Expr)(ifs:List Expr)(beh:Sem Unit):Prop where
 quiet:∀it,(Code.compLoop e d it acc X.env).quiet=true
 under:∀it,X.A.under (Code.compLoop e d it acc X.env)=X.A
 den:∀it,(model X.prog X.w).den (.compLoop e d it acc X.env)=(compTurn e d it acc X.env).onRaise (λx=>do noteFrame x X.env;theTreesLotGoes x)
 turn:∀it,compTurn e d it acc X.env=(do
   standAt iter.pos
   match <-pyNext it with
   | none=>pure (.done .next)
   | some v =>
    letOwnedTupleGo tg it v
    assign tg X.env v
    let ok <-wA ifs X.env true
    if ok then beh
    again (.compLoop e d it acc X.env))
 start:∀(it:Value) (R:Result->Shared->Prop) (s:Shared),codeAny (model X.prog X.w) X.A (.compLoop e d it acc X.env) R s ->
  wpAny (model X.prog X.w) X.A (pyIter it) (λit' s'=>codeAny (model X.prog X.w) X.A (.compLoop e d it' acc X.env) R s') (λ_ _=>False) s->codeAny (model X.prog X.w) X.A (.compStart e d it acc X.env) R s
theorem QV{d:Nat}{it:Addr}{Z:Nat->Heap->Prop}{g:TG}{P:List TT}{B:TB}(a0:X.xe=λ_ _=>False)(hc:X.calm=true)(C:ClauseAt X e d L tg M N O)(T:Turn X.prog X.w X.K tg J y it Z)(hg:PG X tg g)(ht:PTs X N P)(c:PB X O B){a:List (Addr×Obj)}{σ : St}{H:Hp}{s:Shared}{Q:St->Hp->Prop}(I:Inv X a σ H s)(st:Z 0 s.heap)(f:∀b∈y,FpOk X a H b)(q:LoopT J g (tAll P) B σ H Q):codeAny (model X.prog X.w) X.A (.compLoop e d (.ref it) L X.env) (CompR X a Q) s:=by
 obtain⟨W,⟨m0,w0⟩,S⟩:=q;let j:∀ {p:Hp},(∀b∈y,p b=none) -> ∀b∈y,FpOk X a p b:=λhn b c=>⟨hn b c,(f b c).2⟩;refine codeAny_loop (C.quiet _) (λn s' => ∃i k p,Inv X a k p s'/\Z i s'.heap/\(∀b∈y,p b=none)/\W i n k p) ?_ m0 ⟨0,σ,H,I,st,λb c=>(f b c).1,w0⟩;rintro n s3 ⟨i,l,H3,I3,U,V,w3⟩;rw [C.under,C.den];refine wpAny_noted ?_;rw [C.turn];refine aA (dI ?_);let lift:∀ {α : Type} {t:Sem α} {R : α -> Shared->Prop} {s:Shared},wpAny (model X.prog X.w) X.A t R X.xe s->wpAny (model X.prog X.w) X.A t R (notedBy (model X.prog X.w) X.A X.env λx s'=>CompR X a Q (.error x) s') s:=by
  intro α t R s h;rw [a0] at h;exact cX h (λ_ _ z=>z) λ_ _ z=>z.elim
 rcases S i n l H3 w3 with ⟨stop,qn⟩ | ⟨go,step⟩
 .refine aA (lift (thn (T.done X rfl rfl rfl hc i a s3 l H3 X.xe I3 (j V) U stop) λr s4 hq_=>?_));let⟨hr,I4⟩:=hq_;subst hr;exact aD ⟨l,H3,I4,qn⟩
 .refine aA (lift (thn (T.item X rfl rfl rfl hc i a s3 l H3 X.xe I3 (j V) U go) λr s4 hq_=>?_));let⟨u,hr,h4⟩:=hq_;subst hr;refine aA (lift (thn h4 λ_ s5 hq_=>?_));let⟨x,H5,I5,r5,y5,D,a1⟩:=hq_;let a2:=I5.pinned (j a1) (T.obj _ _ D);refine aA (lift (thn (hg _ s5 l H5 x u _ a2 r5 (step x H5 y5)) λ_ s6 hq_=>?_));let⟨Y,H6,I6,q6⟩:=hq_;let again:∀ {v:St} {E:Hp} {F:Shared},Inv X (a++wW y s5.heap) v E F->(∃m',m'<n/\W (i+1) m' v E) -> ∃m,m<n /\ ∃i k p,Inv X a k p F/\Z i F.heap/\(∀b∈y,p b=none)/\W i m k p:=λ{v E F} G ⟨m',hm,w7⟩=>by
   refine⟨m',hm,i+1,v,E,G.unpinned,T.keep _ _ _ D λb c o e=>(G.pin (b,o) (cF _ (cF _ (vQ c e)))).1,λb c=>?_,w7⟩;let⟨o,e,_⟩:=T.obj _ _ D b c;exact (G.pin (b,o) (cF _ (cF _ (vQ c e)))).2.1
  refine aA (lift (thn (QU ht _ s6 Y H6 _ I6 q6) λok F hq_=>?_));let⟨E,G,q7⟩:=hq_;cases ok with
  | false =>
   exact aD ⟨rfl,again G q7⟩
  | true =>
   refine aA (lift (thn (c _ F Y E _ G q7) λ_ s8 hq_=>?_));let⟨a3,H8,I8,q8⟩:=hq_;exact aD ⟨rfl,again I8 q8⟩
theorem uo(env:Env):∀(names:List (Str×NameKind)) (g:List (Str×Addr)),(∀x∈names,x.2 = .free -> ∃c,env.cells.lookup x.1=some c) ->
  (∀x c,g.lookup x=some c->env.cells.lookup x=some c) ->
  ∃i,(forIn names g λ(x:Str×NameKind) (r:List (Str×Addr))=>(if (x.2 == NameKind.free)=true then do let c <-cellOf env x.1;pure (ForInStep.yield ((x.1,c)::r)) else pure (ForInStep.yield r):Sem (ForInStep (List (Str×Addr)))))=pure i /\
   (∀x c,i.lookup x=some c->env.cells.lookup x=some c)/\(∀x,(x,NameKind.free)∈names\/(∃c,g.lookup x=some c) -> ∃c,i.lookup x=some c)
 | [],g,_,l=>⟨g,rfl,l,λx h=>h.elim (λz=>nomatch z) id⟩
 | (n,k)::r,g,o,l=>by
  rw [List.forIn_cons];let p:∀x∈r,x.2 = .free -> ∃c,env.cells.lookup x.1=some c:=λx hx=>o x (aS _ hx);by_cases m:k = .free
  .subst m;let⟨c,q⟩:=o (n,.free) aV rfl;let j:cellOf env n=pure c:=by unfold cellOf;rw [q]
   let⟨i,e,a,b⟩:=uo env r ((n,c)::g) p (λx d hx=>by
    rw [iK] at hx;cases f:x == n with
    | true =>
     rw [f] at hx;let:x=n:=eq_of_beq f;cases hx;rw [this];exact q
    | false=>rw [f] at hx;exact l x d hx)
   refine⟨i,?_,a,λx hx=>b x ?_⟩
   .rw [j];exact e
   .by_cases f:x=n
    .exact .inr ⟨c,by rw [iK,f,beq_self_eq_true]⟩
    .rcases hx with hx | ⟨d,hx⟩
     .rcases aL.mp hx with z | z
      .exact absurd (congrArg Prod.fst z) f
      .exact .inl z
     .refine .inr ⟨d,?_⟩;let:(x == n)=false:=by simpa using f
      rw [iK,this];exact hx
  .let s:(k == NameKind.free)=false:=by simpa using m
   let⟨i,e,a,b⟩:=uo env r g p l;refine⟨i,?_,a,λx hx=>b x ?_⟩
   .show (if (k == NameKind.free)=true then _ else _) >>= _=_;rw [s];exact e
   .rcases hx with hx | hx
    .rcases aL.mp hx with z | z
     .exact absurd (congrArg Prod.snd z).symm m
     .exact .inl z
    .exact .inr hx
theorem QW(h:∀x∈scope.names,x.2 = .free -> ∃c,env.cells.lookup x.1=some c):∃d,closureFor scope env=pure d/\(∀x c,d.lookup x=some c->env.cells.lookup x=some c) /\ ∀x,(x,NameKind.free)∈scope.names -> ∃c,d.lookup x=some c:=by
 let⟨d,e,a,b⟩:=uo env scope.names [] h (λx c f=>nomatch f);refine⟨d,?_,a,λx f=>b x (.inl f)⟩;unfold closureFor;show (forIn scope.names ([]:List (Str×Addr)) _) >>= _=_;let g:(forIn scope.names ([]:List (Str×Addr)) λ(x:Str×NameKind) (r:List (Str×Addr))=>(match x with | (name,kind)=>if (kind == NameKind.free)=true then do let c <-cellOf env name;pure (ForInStep.yield ((name,c)::r)) else pure (ForInStep.yield r):Sem (ForInStep (List (Str×Addr)))))=pure d:=e;rw [g];rfl
noncomputable def relK(env:Env)(x:Str)(k:NameKind):NameKind:=if (k == .free&&env.scope.kind == .function&&env.kindOf x == some .cell)=true then .cell else k
theorem QX(env:Env)(x:Str):∀names:List (Str×NameKind),
  (names.map λ(n,k)=>if (k == NameKind.free&&env.scope.kind == .function&&env.kindOf n == some .cell) then (n,NameKind.cell) else (n,k)).lookup x=(names.lookup x).map (relK env x)
 | []=>rfl
 | (n,k)::r=>by
  let a:=QX env x r;show List.lookup x ((if (k == NameKind.free&&env.scope.kind == .function&&env.kindOf n == some .cell)=true then (n,NameKind.cell) else (n,k))::_)=_;let e:(if (k == NameKind.free&&env.scope.kind == .function&&env.kindOf n == some .cell)=true then (n,NameKind.cell) else (n,k))=(n,relK env n k):=by
   unfold relK;split <;> rfl
  rw [e,iK,iK];cases b:x == n with
  | true=>have:=eq_of_beq b;subst this;rfl
  | false=>exact a
theorem QY(scope:Scope)(env:Env)(x:Str):(relabel scope env).names.lookup x=(scope.names.lookup x).map (relK env x):=QX env x scope.names
noncomputable def zQ(X:Cx)(own:List Str)(cap:List Nat)(scope:Scope)(cl:List (Str×Addr))(s:Shared)(H:Hp)(ex:List Addr):Cx :=
 { X with N:=own++cap.map (λj=>X.N.getD j ""),env:=compEnvC scope cl s.heap.objs.size X.env,s₀ :=s,H₀ :=H,outer:=X.stack,ex:=ex,fn:=λ_=>false,pn :=[],xe:=λ_ _=>False }
noncomputable def wu(own:List Str)(cap:List Nat)(σ : St):St:=own.map (λ_=>none)++cap.map (λj=>(σ[j]?).join)
structure CompScope(X:Cx)(own:List Str)(cap:List Nat)(scope:Scope):Prop where
 kind:scope.kind = .function
 nocell:∀x∈scope.names,x.2 ≠ .cell
 names:∀x∈scope.names,x.2 = .local->scope.names.lookup x.1=some .local
 free:∀x∈scope.names,x.2 = .free->X.env.kindOf x.1=some .cell\/X.env.kindOf x.1=some .free
 own:∀x∈own,scope.names.lookup x=some .local
 caps:∀j∈cap,scope.names.lookup (X.N.getD j "")=some .free/\j<X.N.length
theorem qV7{t:List (Addr×Obj)}{σ : St}{K:List Addr}{h':Heap}{tk:Nat}(S:CompScope X a cap scope)(I:Inv X t σ H s)(f:∀x c,J.lookup x=some c->X.env.cells.lookup x=some c)(A:∀x,(x,NameKind.free)∈scope.names -> ∃c,J.lookup x=some c)(L:∀b∈K,FpOk X t H b)(P:∀b∈K,b<s.heap.objs.size)(Q:h'.Ns s.heap.objs.size (λx=>([]:List (Str×Value)).reverse.lookup x))(C:∀b u,s.heap.get? b=some u->h'.get? b=some u):Inv (zQ X a cap scope J s H K) [] (wu a cap σ) H { s with heap:=h',toks:=tk }:=by
 let kc:∀x k,(relabel scope X.env).names.lookup x=some k->(k = .cell\/k = .free)->(x,NameKind.free)∈scope.names:=by
  intro x k e C;rw [QY] at e;cases q:scope.names.lookup x with
  | none=>rw [q] at e;cases e
  | some M =>
   rw [q] at e;let O:relK X.env x M=k:=bB e;let w:=eY q;let h0:M ≠ .cell:=S.nocell _ w;let:M = .free:=by
    unfold relK at O;by_cases g:(M == NameKind.free&&X.env.scope.kind == .function&&X.env.kindOf x == some .cell)=true
    .simp only [bP,beq_iff_eq] at g;exact g.1.1
    .rw [if_neg g] at O;rcases C with z | z
     .exact absurd (O.trans z) h0
     .exact O.trans z
   rw [this] at w;exact w
 let ok:(zQ X a cap scope J s H K).Ok :={
  mod:=I.ok.mod
  kind:=S.kind
  glob:=I.ok.glob
  blt:=I.ok.blt
  above:=aH _
  inj:=λx y c B d=>I.ok.inj x y c (f x c B) (f y c d)
  has:=λx hx=>by
   rcases hx with hx | hx
   .exact A x (kc x _ hx (.inl rfl))
   .exact A x (kc x _ hx (.inr rfl))
  cab:=λx c h=>absurd h (show ¬(false=true) from aK)
  hd:=I.ok.hd
  frames:=I.ok.frames
  stk :=.inl rfl
  exf:=λb g=>⟨aZ (P b g),λx c e=>(L b g).2.2.2.2.1 x c (f x c e)⟩
  bs:=I.bs
  bsz:=cD I.ok.bsz I.sz
  noex:=λb o e g=>by
   rcases (L b g).2.2.2.1 with z | z
   .exact I.ok.noex b o e z
   .exact absurd (bK (aT e) (cD I.ok.bsz z)) (eK _)
  exfs:=λb g w=>by
   rcases aL.mp (I.stkSub b w) with z | z
   .exact (L b g).2.1 z
   .exact (L b g).2.2.1 z
  funs:=I.stack
  frf:=I.stkFree }
 refine⟨ok,rfl,I.bare,Un.kept C,⟨_,Q,λi x v B d e3=>?_⟩,λx c e=>?_,I.hok.fresh (aH _),λx c e=>I.freeC x c (f x c e),λp hp=>absurd (show p∈([]:List (Addr×Obj)) from hp) ∅,I.hok.kept C,?_⟩
 .let B:(a++cap.map (λj=>X.N.getD j ""))[i]? = some x:=B;let d:(a.map (λ_=>(none:Option V))++cap.map (λj=>(σ[j]?).join))[i]? = some (some v):=d;by_cases R:i<a.length
  .rw [dO (by simpa using R),aU] at d;cases q:a[i]? with
   | none=>rw [q] at d;cases d
   | some y=>rw [q] at d;cases d
  .rw [cZ (by simpa using R),aU] at B;rw [cZ (by simpa using R),aU,aB] at d;cases q:cap[i - a.length]? with
   | none=>rw [q] at d;cases d
   | some j =>
    rw [q] at B d;let D:X.N.getD j "" = x:=bB B;let n:(σ[j]?).join=some v:=bB d;let⟨T,E⟩:=S.caps j (aN q);rw [D] at T;let U:X.N[j]? = some x:=by
     rw [aC E,<-D,bF,aC E];rfl
    let W : σ[j]? = some (some v):=by
     cases z : σ[j]? with
     | none=>rw [z] at n;cases n
     | some o=>rw [z] at n;rw [show o=some v from n]
    let⟨m,hn,hl⟩:=I.loc;let w:=eY T;let F:=S.free _ w rfl;let Y:Vis X.env.scope x:=by
     rcases F with z | z
     .exact .inr (.inl z)
     .exact .inr (.inr z)
    let⟨u,r,l⟩:=hl j x v U W Y;refine⟨u,r,.inr ?_⟩;rcases l with ⟨kl,_⟩ | ⟨_,c,hc,z⟩
    .rcases F with z | z
     .rw [kl] at z;cases z
     .rw [kl] at z;cases z
    .let⟨c',G⟩:=A x w;let:=f x c' G;rw [hc] at this;cases this;refine⟨?_,c,G,?_⟩
     .let q:(relabel scope X.env).names.lookup x=some (relK X.env x .free):=by rw [QY,T];rfl
      show (relabel scope X.env).names.lookup x=some .cell\/(relabel scope X.env).names.lookup x=some .free;rw [q];unfold relK;split
      .exact .inl rfl
      .exact .inr rfl
     .let⟨o,Z,hd⟩:=z;exact⟨o,C c o Z,hd⟩
 .let⟨v,o,Z,hd⟩:=I.cell x c (f x c e);exact⟨v,o,C c o Z,hd⟩
 .show (a.map (λ_=>(none:Option V))++cap.map (λj=>(σ[j]?).join)).length=(a++cap.map (λj=>X.N.getD j "")).length;simp only [aG,aB]
def xk(X:Cx)(m:Sem Value)(o:HO):Prop :=
 ∀(pins:List (Addr×Obj)) (s:Shared) (σ : St) (H:Hp) (E:Value->Shared->Prop) (Q:Value->Shared->Prop),Inv X pins σ H s ->
  (∀l s',s.heap.objs.size<=l->H l=none->Inv X pins σ (upd H l o) s'->(∀b u,s.heap.get? b=some u->s'.heap.get? b=some u)->Q (.ref l) s')->wpAny (model X.prog X.w) X.A m Q E s
theorem uq:xk X (newList []) (.lst []):=by
 intro a s σ H E Q I h;exact fJ (h _ _ (aH _) I.fresh (I.lnew (its :=[]) (t':=s.toks) .nil (aX _)) λb u e=>aE _ e)
theorem QZ{o:HO}{k:List (Str×Addr)}{behOf:Value->Env->Sem Unit}{g:TG}{O:List TT}{P:Addr->TB}(hc:X.calm=true)(S:CompScope X a d scope)(U:∀x c,k.lookup x=some c->X.env.cells.lookup x=some c)(a8:∀x,(x,NameKind.free)∈scope.names -> ∃c,k.lookup x=some c)(V:xk X v o)(hC:∀s H ex l,ClauseAt (zQ X a d scope k s H ex) e 0 (.ref l) tg M N (behOf (.ref l) (zQ X a d scope k s H ex).env))(hg:∀s H ex,PG (zQ X a d scope k s H ex) tg g)(ht:∀s H ex,PTs (zQ X a d scope k s H ex) N O)(j:∀s H ex l,PB (zQ X a d scope k s H ex) (behOf (.ref l) (zQ X a d scope k s H ex).env) (P l)){i:List (Addr×Obj)}{σ : St}{s2:Shared}{W:Value}{Q:Addr->Hp->Prop}{E:Value->Shared->Prop}{R:Value->Addr->Result->Shared->Prop}(h:PIE X i σ tg (λJ H1 => ∀l,H1 l=none->LoopT J g (tAll O) (P l) (wu a d σ) (upd H1 l o) λ_ n=>Q l n) W s2)(hR:∀l C B H',Inv X i σ H' B->FpOk X i H' C->(∃m,B.heap.Ns C m)->Q l H'->R (.ref l) C (.ok .next) B)(a9:∀F C f B,R F C (.ok .next) B->R F C (.ok f) B):wpAny (model X.prog X.w) X.A v (λF Y =>wpAny (model X.prog X.w) X.A (newFunctionEnv scope X.env.globals k [] X.env.qual none .none (some X.env)) (λG Z =>
   codeAny (model X.prog X.w) X.A (.compStart e 0 W F { G with scope:=relabel scope X.env }) (R F G.locals) Z) E Y) E s2:=by
 let⟨it,D,tn,J,n,rfl,I2,T,K,f2,q⟩:=h;let b0:∀b∈D,b<s2.heap.objs.size:=λb j=>by
  let⟨ob,e,_⟩:=T.obj _ _ K b j;exact aT e
 refine V i s2 σ n E _ I2 λl t hl hn I3 k3=>?_;let q':=q l hn;let f3:∀b∈D,FpOk X i (upd n l o) b:=λb j=>by
  let⟨a1,a2⟩:=f2 b j;refine⟨?_,a2⟩;rw [zD (aZ (bK (b0 b j) hl))];exact a1
 let a6:∀b∈D,b<t.heap.objs.size:=λb j=>by
  let⟨ob,e,_⟩:=T.obj _ _ K b j;exact aT (k3 b ob e)
 refine wpAny_newFunctionEnv S.nocell (by intro y hy;simp at hy) (λh1 b1 b2=>?_) S.kind;let k4:∀b u,t.heap.get? b=some u->h1.get? b=some u:=λb u e=>by
  exact b2.extBut b u (aZ (aT e)) (aE _ e)
 let I4:Inv (zQ X a d scope k t (upd n l o) D) [] (wu a d σ) (upd n l o) { t with heap:=h1,toks:=t.toks+([]:List (Str×Value)).length }:=qV7 S I3 U a8 f3 a6 b1 k4;let a7:tn 0 h1:=T.keep _ _ _ K λb j ob e=>k4 b ob (k3 b ob e);let f4:∀b∈D,FpOk (zQ X a d scope k t (upd n l o) D) [] (upd n l o) b:=λb j=>by
  let⟨a0,a1,a2,a3,a4,a5⟩:=f3 b j;refine⟨a0,aZ (a6 b j),λhm=>?_,.inl j,λx c ex=>a4 x c (U x c ex),λp hp=>absurd (show p∈([]:List (Addr×Obj)) from hp) ∅⟩;rcases aL.mp (I3.stkSub b hm) with z | z
  .exact a1 z
  .exact a2 z
 let fin:∀(r:Result) (B:Shared),CompR (zQ X a d scope k t (upd n l o) D) [] (λ_ n=>Q l n) r B->R (.ref l) t.heap.objs.size r B:=by
  intro r B hr;cases r with
  | error x=>exact (show False from hr).elim
  | ok f =>
   let⟨b4,H5,L,q5⟩:=(show ∃ b3 H',Inv (zQ X a d scope k t (upd n l o) D) [] b3 H' B/\Q l H' from hr);let I6:Inv X i σ H5 B:=I3.call' (ch:=D) L.os L.base L.hok L.bare λb j=>(f3 b j).2.2.2 |> λ⟨z1,z2,z3⟩=>⟨z1,(f3 b j).2.1,z2,z3⟩
   refine a9 _ _ _ _ (hR l _ B H5 I6 (I3.fpOk (aH _) L.free) ?_ q5);let⟨m,hm,_⟩:=L.loc;exact⟨m,hm⟩
 let I:∀s4:Shared,s4 = { t with heap:=h1,toks:=t.toks+([]:List (Str×Value)).length } ->
   codeAny (model X.prog X.w) X.A (.compLoop e 0 (.ref it) (.ref l) (zQ X a d scope k t (upd n l o) D).env) (R (.ref l) t.heap.objs.size) s4:=by
  rintro s4 rfl;exact hJ (QV (X:=zQ X a d scope k t (upd n l o) D) rfl hc (hC _ _ _ _) T (hg _ _ _) (ht _ _ _) (j _ _ _ l) I4 a7 f4 q') fin
 exact (hC t (upd n l o) D l).start (.ref it) _ _ (I _ rfl) (T.self _ 0 _ _ _ a7 (I _ rfl))
section
variable{X:Cx}{e:Expr}{tg iter:Expr}{ifs:List Expr}{gs:List Comprehension}{scope:Scope}{own:List Str}{cap:List Nat}{newAcc:Sem Value}{o:HO}{behOf:Value->Env->Sem Unit}{wi:TI}{g:TG}{tts:List TT}{Bof:Addr->TB}{cpos:Pos}
def tComp(own:List Str)(cap:List Nat)(o:HO)(wi:TI)(g:TG)(tts:List TT)(Bof:Addr->TB):TE:=λσ H Q=>wi σ H λJ H1 => ∀l,H1 l=none->LoopT J g (tAll tts) (Bof l) (wu own cap σ) (upd H1 l o) λ_ H2=>Q (.ref l) H2
theorem vV(u:X.calm=true)(S:CompScope X own cap scope)(n:clausesOf e=⟨tg,iter,ifs,0⟩::gs)(hi:PI X tg iter wi)(i:xk X newAcc o)(y:∀c s H ex l,ClauseAt (zQ X own cap scope c s H ex) e 0 (.ref l) tg iter ifs (behOf (.ref l) (zQ X own cap scope c s H ex).env))(B:∀c s H ex,PG (zQ X own cap scope c s H ex) tg g)(D:∀c s H ex,PTs (zQ X own cap scope c s H ex) ifs tts)(p:∀c s H ex l,PB (zQ X own cap scope c s H ex) (behOf (.ref l) (zQ X own cap scope c s H ex).env) (Bof l))(E:∀x,foldedSetIterable iter X.env x=pure x):∀(a:List (Addr×Obj)) (s:Shared) (σ : St) (H:Hp) (Q:VK),Inv X a σ H s->tComp own cap o wi g tts Bof σ H Q ->
   wpAny (model X.prog X.w) X.A (comprehension e scope X.env cpos newAcc false (eval iter X.env)) (EP X a σ Q) X.xe s:=by
 intro a s σ H Q I h;let⟨c,d,F,G⟩:=QW (scope:=scope) (env:=X.env) λx J K=>I.ok.has x.1 (S.free x J K);refine wpAny_comprehension_free (use:=none) n E d S.kind S.names (thn (hi a s σ H _ I h) λv U L=>thn L λM V N=>?_);refine QZ (R:=λj C=>compPost (model X.prog X.w) X.A X.xe none (EP X a σ Q) j C) u S F G i (y c) (B c) (D c) (p c) N (λl C t O P k r q=>?_) (λj C f t z=>z);let⟨m,r⟩:=r;refine⟨m,r,λW T=>⟨.ref l,O,P.turned (t':=t.toks) (λb o p e=>(T.2 b p).trans e) k.1 k.2.1 k.2.2.2.1 k.2.2.2.2.1 k.2.2.2.2.2,rfl,q⟩⟩
theorem Qa{i:Nat}{t:Pos}(M:X.calm=true)(S:CompScope X own cap scope)(u:clausesOf e=⟨tg,iter,ifs,0⟩::gs)(hi:PI X tg iter wi)(p:xk X newAcc o)(O:∀d s H ex l,ClauseAt (zQ X own cap scope d s H ex) e 0 (.ref l) tg iter ifs (behOf (.ref l) (zQ X own cap scope d s H ex).env))(P:∀d s H ex,PG (zQ X own cap scope d s H ex) tg g)(Q:∀d s H ex,PTs (zQ X own cap scope d s H ex) ifs tts)(y:∀d s H ex l,PB (zQ X own cap scope d s H ex) (behOf (.ref l) (zQ X own cap scope d s H ex).env) (Bof l))(T:∀x,foldedSetIterable iter X.env x=pure x)(U:X.N.Nodup)(B:X.N[i]? = some x)(E:Loc X.env.scope x)(F:X.fn x=true\/X.env.scope.names.lookup x=some .local):∀(c:List (Addr×Obj)) (s:Shared) (σ : St) (H:Hp) (D:Ends),Inv X c σ H s->tComp own cap o wi g tts Bof σ H (λv V=>D.nx (σ.set i (some v)) V) ->
   wpAny (model X.prog X.w) X.A (comprehension e scope X.env cpos newAcc false (eval iter X.env) (some (assign (.Name x t) X.env))) (λ_ n=>SP X c D .next n) X.xe s:=by
 intro c s σ H D I h;let⟨d,j,W,Y⟩:=QW (scope:=scope) (env:=X.env) λx E F=>I.ok.has x.1 (S.free x E F);refine wpAny_comprehension_free (use:=some (assign (.Name x t) X.env)) u T j S.kind S.names (thn (hi c s σ H _ I h) λv s1 Z=>thn Z λa0 s2 q2=>?_);refine QZ (R:=λr C=>compPost (model X.prog X.w) X.A X.xe (some (assign (.Name x t) X.env)) (λ_ n=>SP X c D .next n) r C) M S W Y p (O d) (P d) (Q d) (y d) q2 (λl C n H' I' k G q=>?_) (λr C f n z=>z);let⟨m,G⟩:=G;show wpAny (model X.prog X.w) X.A (assign (.Name x t) X.env (.ref l)) _ X.xe n;refine wpAny_assign_Name (oF (v :=.ref l) I' U B E rfl (λJ K hq_=>?_) F);let⟨a,sa,ha⟩:=hq_
 let L:C≠a:=by
  rcases ha with z | z
  .rw [z];exact k.2.1
  .exact cP (k.2.2.2.2.1 x a z)
 refine⟨m,G.sameBut sa L,λh' sb=>⟨_,H',K.turned (t':=J.toks) (λb o y e=>(sb.2 b y).trans e) k.1 k.2.1 k.2.2.2.1 k.2.2.2.2.1 k.2.2.2.2.2,q⟩⟩
end
def eApp(te:TE)(l:Addr):TB:=λσ H Q=>te σ H λv H1 => ∃vs,H1 l=some (.lst vs)/\vs.length<sizeLine/\Q σ (upd H1 l (.lst (vs ++ [v])))
noncomputable def ww(elt:Expr)(acc:Value)(env:Env):Sem Unit:=do let _ <-call (.builtin "list.append") [acc,<-eval elt env]
theorem ut(f:PE X b d):PB X (ww b (.ref l) X.env) (eApp d l):=by
 intro a s σ H Q I h;refine aA (thn (f a s σ H _ I h) λv g hq_=>?_);let⟨x,i,j,k,m,e,n,q⟩:=hq_;refine aA (thn (yk a g σ i (.ref l) [x] (.ref l) [v] (λ_ c=>Q σ c) j rfl (.cons k .nil) ⟨l,m,x,rfl,rfl,e,n,q⟩) λu r hq_=>?_);let⟨z,c,o,_,p⟩:=hq_;exact aD ⟨σ,c,o,p⟩
theorem Qb:ClauseAt X (.ListComp b [⟨e,a,c,0⟩] scope pos) 0 d e a c (ww b d X.env) where
 quiet:=λ_=>rfl
 under:=λ_=>rfl
 den:=λ_=>rfl
 turn:=λ_=>rfl
 start:=λg R s f h=>codeAny_compStart_list f (cX h (λ_ _ z=>z) λ_ _ z=>z.elim)
theorem Inv.turnLaid{σ : St}{t':Nat}{ch:List Addr}{p:Addr}{o:HO}(I:Inv X a σ H s)(k:∀b u,b∉ch->s.heap.get? b=some u->h'.get? b=some u)(x:∀b∈ch,∃u,h'.get? b=some u)(i:∀b∈ch,FpOk X a H b)(l:s.heap.objs.size<=p)(new:ObjOk X.prog X.w (upd H p o) h' p o):Inv X a σ (upd H p o) { s with heap:=h',toks:=t' }:=by
 let g:H p=none:=I.hok.fresh l;let h:∀b u,H b=some u->b∉ch:=λb u e d=>by rw [(i b d).1] at e;cases e
 refine I.step (g':=s.gens) (d':=s.drawn) (ch:=ch) (λb d=>?_) (λb u _ _ f e _=>k b u f e) (λb u _ _ f e _=>⟨u.slots,k b u f e⟩) (λb u _ e n=>?_)
  (λb u f e=>⟨u,k b u f e⟩) (λb t e=>?_) (λb j t e=>?_) (λb J e=>?_) (λm y=>?_) (λb u e=>?_) I.bare
 .let⟨_,A,_,B,C,D⟩:=i b d;exact⟨B,A,C,D⟩
 .rw [zD (aZ (bK (aT e) l))];exact n
 .rw [zD (zF e g)];exact e
 .rw [zD (zF e g)];exact e
 .exact⟨#[],by rw [zD (zF e g),e];simp⟩
 .let⟨j,E,F,G,r⟩:=y;exact⟨j,E,F,k _ j (λd=>(i _ d).2.1 rfl) G,r⟩
 .by_cases d:b=p
  .subst d;rw [zC] at e;cases e;exact new
  .rw [zD d] at e;refine (I.hok b u e).stay (λc v f q=>k c v ?_ q) (λc q=>by rw [zD (zF q g)];exact q) λc t q=>by rw [zD (zF q g)];exact q
   rcases f with z | z
   .rw [z];exact h b u e
   .exact h c _ z
noncomputable def Ite(K:PySem.W.Frag)(a:Addr):It:=⟨λi H => ∃xs x,SqL K H a xs/\xs[i]? = some x,λi H x H' => ∃p y,x = .ref p/\H p=none/\(∀ys,SqL K H a ys->ys[i]? = some y)/\H'=upd H p (.tup [.int (i:Int),y]),λi H => ∃xs,SqL K H a xs/\xs.length<=i⟩
theorem qOy{K:PySem.W.Frag}{k:Nat}(a e it:Addr)(m:e≠it):Turn P w K (.Tuple r k pos) (Ite K a) [e,it] e (λi h=>(∃c,IsEnum h e it (i:Nat) c)/\h.IsListIter it a i) where
 mem:=by simp
 obj:=λi h st b f=>by
  obtain⟨⟨c,g⟩,⟨o,D,F,Z⟩⟩:=st;rcases aL.mp f with z | z
  .subst z
   exact⟨_,g,λv z=>by
    let z':Data.fields _=Data.cell v:=z
    cases z'⟩
  .let z:b=it:=by simpa using z
   subst z;exact⟨o,D,λv z=>by rw [Z] at z;cases z⟩
 keep:=λi h h' st V=>by
  obtain⟨⟨c,g⟩,n⟩:=st;exact⟨⟨c,V e ∅ _ g⟩,n.at λo q=>V it ∅ o q⟩
 item:=by
  intro X G J L Y i j s σ H E I B st M;subst G J L;let⟨xs,x,C,N⟩:=M;obtain⟨⟨c,g⟩,n⟩:=st;let⟨O,Q,p,hz⟩:=I.list C;let⟨u,hu,ru⟩:=Q.get N;refine wpAny_pyNext_enum_item g n p.isList (x:=u) (by simpa using hu) m λD R t ht a0 hk=>?_;refine⟨_,rfl,wpAny_letOwnedTupleGo_enum R λF y S=>?_⟩;let l:e<s.heap.objs.size:=aT g;let d:Heap.SameBut e D F:=S;let I1:Inv X j σ (upd H s.heap.objs.size (.tup [.int (i:Int),x])) { s with heap:=F,toks:=s.toks+1 }:=by
   refine I.turnLaid (ch :=[e,it]) (λb o f q=>?_) (λb f=>?_) B (aH _) ?_
   .let A:b≠e:=λz=>f (by simp [z]);let T:b≠it:=λz=>f (by simp [z]);exact (d.2 b A).trans (hk b o A T q)
   .rcases aL.mp f with z | z
    .subst z;exact⟨_,y⟩
    .let z:b=it:=by simpa using z
     subst z;let⟨o,q,_⟩:=t;exact⟨o,(d.2 _ (cP m)).trans q⟩
   .refine⟨by show 2<=sizeLine;decide,[.int (i:Int) s.toks,u],.cons ⟨_,rfl⟩ (.cons ru .nil),⟨_,(d.2 _ (fM l)).trans ht,rfl,_,rfl⟩⟩
  refine⟨.ref s.heap.objs.size,_,I1,rfl,⟨s.heap.objs.size,x,rfl,I.fresh,λys hy=>by rw [I.list_inj hy C];exact N,rfl⟩,⟨⟨_,by
   let:((i+1:Nat):Int)=(i:Int)+1:=by lia
   rw [this];exact y⟩,t.extBut d.extBut (cP m)⟩,λb f=>?_⟩
  let U:b<s.heap.objs.size:=by
   rcases aL.mp f with z | z
   .rw [z];exact l
   .let z:b=it:=by simpa using z
    rw [z];let⟨o,q,_⟩:=n;exact aT q
  rw [zD (aZ U)];exact (B b f).1
 done:=by
  intro X G J L Y i j s σ H E I B st M;subst G J L;let⟨xs,C,N⟩:=M;obtain⟨⟨c,g⟩,n⟩:=st;let⟨O,Q,p,hz⟩:=I.list C;let⟨f0,f1,f2,f3,f4,f5⟩:=B it ∅;let hl:=Q.length;exact wpAny_pyNext_enum_end (I.ok.hd Y) g n p.isList (by simp;lia) λh' eb=>⟨rfl,I.turned (t':=s.toks) (λb o f q=>eb b o f q) f0 f1 f3 f4 f5⟩
 self:=λ_ _ _ _ _ st h=>by
  obtain⟨⟨c,g⟩,_⟩:=st;exact wpAny_pyIter_enum g h
def iEnum(K:PySem.W.Frag)(ta:TA):TI:=λσ H R=>ta σ H λvs H1 => ∃a,vs = [.ref a]/\(∃xs,SqL K H1 a xs)/\R (Ite K a) H1
theorem uu(n:Gl X "enumerate")(o:X.mg "enumerate" = none)(r:PA X [a] i)(t:starEach [a] X.env = [(false,eval a X.env)]:=by rfl):PI X (.Tuple elts k tpos) (.Call (.Name "enumerate" p) [a] [] pos) (iEnum X.K i):=by
 intro d s σ H R I h;refine Call_ (xw I n o boot_enumerate (fP (thn (r pos d s σ H _ I h) λL c hq_=>?_) t rfl));let⟨M,j,g,v,w⟩:=hq_;obtain⟨l,e,⟨N,x⟩,q⟩:=w;subst e;let⟨u,rfl,y⟩:=vals1 v;cases y;let⟨A,O,B,P⟩:=g.list x;refine call_enumerate_list B.isList λC m D E F=>?_;refine wpAny_pyIter_enum m ?_;let G:Inv X d σ j { c with heap:=C }:=g.kept (t':=c.toks) F;refine⟨c.heap.objs.size+1,[c.heap.objs.size+1,c.heap.objs.size],_,_,j,rfl,G,qOy l (c.heap.objs.size+1) c.heap.objs.size (fM (fX _)),⟨⟨_,m⟩,D⟩,λb J=>?_,q⟩;let f:c.heap.objs.size<=b:=by
  rcases aL.mp J with z | z
  .rw [z];exact cT _
  .let z:b=c.heap.objs.size:=by simpa using z
   rw [z];exact aH _
 exact g.fpOk f (g.hok.fresh f)
section
variable{X:Cx}{elt tg iter tg2 iter2:Expr}{ifs ifs2:List Expr}{scope:Scope}{g g2:TG}{pos:Pos}
theorem yK(own:List Str)(cap:List Nat)(c:X.calm=true)(S:CompScope X own cap scope)(hi:PI X tg iter wi)(d:∀a s H ex,PG (zQ X own cap scope a s H ex) tg g)(e:∀a s H ex,PTs (zQ X own cap scope a s H ex) ifs tts)(f:∀a s H ex,PE (zQ X own cap scope a s H ex) elt te)(i:∀x,foldedSetIterable iter X.env x=pure x:=by intro _;rfl):PE X (.ListComp elt [⟨tg,iter,ifs,0⟩] scope pos) (tComp own cap (.lst []) wi g tts (eApp te)):=by
 intro b s σ H Q I h;exact vV (behOf:=ww elt) c S rfl hi uq (λ_ _ _ _ _=>Qb) d e (λa s H ex l=>ut (f a s H ex)) i b s σ H Q I h
theorem vW{i:Nat}{d a:Pos}(own:List Str)(cap:List Nat)(j:X.calm=true)(S:CompScope X own cap scope)(k:X.N.Nodup)(e:X.N[i]? = some x)(m:Loc X.env.scope x)(hi:PI X tg iter wi)(n:∀b s H ex,PG (zQ X own cap scope b s H ex) tg g)(o:∀b s H ex,PTs (zQ X own cap scope b s H ex) ifs tts)(p:∀b s H ex,PE (zQ X own cap scope b s H ex) elt te)(f:swapsWith (.ListComp elt [⟨tg,iter,ifs,0⟩] scope pos) (some (.Name x d)) a.line X.env=pure true:=by rfl)(q:∀x,foldedSetIterable iter X.env x=pure x:=by intro _;rfl)(r:X.fn x=true\/X.env.scope.names.lookup x=some .local:=by first | exact .inl rfl | exact .inr rfl | assumption):PS X (.Assign [.Name x d] (.ListComp elt [⟨tg,iter,ifs,0⟩] scope pos) a) (tAsg (tComp own cap (.lst []) wi g tts (eApp te)) (gName i)):=by
 intro c s σ H D I h;rw [exec_Assign_Name_used _ _ _ _ f];refine aA (dI (aA ?_));show wpAny _ X.A (do let _ <-comprehension (.ListComp elt [⟨tg,iter,ifs,0⟩] scope pos) scope X.env _ (newList []) false (eval iter X.env) (some (assign (.Name x d) X.env))) _ _ s;refine aA (thn (Qa (behOf:=ww elt) j S rfl hi uq (λ_ _ _ _ _=>Qb) n o (λb s H ex l=>ut (p b s H ex)) q k e m r c s σ H D I h) λ_ u t=>?_);exact aD (aD t)
noncomputable def vX(e iter2:Expr)(d:Nat)(acc:Value)(env:Env):Sem Unit:=do
 let x <-eval iter2 env
 standAt iter2.pos
 let x <-foldedSetIterable iter2 env x
 let _ <-runOwn (.compStart e d (<-holding [x] (pyIter x)) acc env) env
def bNext(wi2:TI)(g2:TG)(tts2:List TT)(B:TB):TB:=λσ H Q=>wi2 σ H λJ H1=>LoopT J g2 (tAll tts2) B σ H1 Q
theorem qXg{d:Nat}(i:X.xe=λ_ _=>False)(k:X.calm=true)(C:ClauseAt X e d b tg2 iter2 ifs2 c)(hi:PI X tg2 iter2 wi2)(l:PG X tg2 g2)(m:PTs X ifs2 tts2)(n:PB X c B)(o:∀x,foldedSetIterable iter2 X.env x=pure x):PB X (vX e iter2 d b X.env) (bNext wi2 g2 tts2 B):=by
 intro a s σ H Q I h;refine aA (thn (hi a s σ H _ I h) λv D p=>aA (dI (aA (wpAny_of_eq (o v) (aA (bM (thn p λt u w=>?_)))))));let⟨y,E,F,J,G,rfl,z,T,g,A,q⟩:=w;let L:=QV i k C T l m n z g A q;refine aA (wpAny_runOwn ?_);refine hJ (C.start (.ref y) (CompR X a Q) u L (T.self _ 0 _ _ _ g L)) λr K j=>?_;cases r with
 | error x=>exact (show False from j).elim
 | ok f=>exact aD j
theorem Qc{d:Nat}(hd:gens[d]? = some ⟨tg,iter,ifs,0⟩)(it:Value)(R:Result->Shared->Prop)(s:Shared)(f:codeAny (model X.prog X.w) X.A (.compLoop (.ListComp elt gens scope pos) d it a X.env) R s)(h:wpAny (model X.prog X.w) X.A (pyIter it) (λb c=>codeAny (model X.prog X.w) X.A (.compLoop (.ListComp elt gens scope pos) d b a X.env) R c) (λ_ _=>False) s):codeAny (model X.prog X.w) X.A (.compStart (.ListComp elt gens scope pos) d it a X.env) R s:=by
 refine codeAny_of_tree ?_;show wpAny _ X.A ((compStart (.ListComp elt gens scope pos) d it a X.env).onRaise (λx=>do noteFrame x X.env;standAt theWindowsPlace)) _ _ s;refine wpAny_notedAt ?_;unfold compStart;let g:(clausesOf (.ListComp elt gens scope pos))[d]? = some ⟨tg,iter,ifs,0⟩:=hd;rw [g];show wpAny _ _ (ask >>= _) _ _ s;refine aA (eV (wpAny_ite ?_));let e:wpAny (model X.prog X.w) X.A (pyIter it) (λb c=>codeAny (model X.prog X.w) X.A (.compLoop (.ListComp elt gens scope pos) d b a X.env) R c) (notedBy (model X.prog X.w) X.A X.env λx c=>R (.error x) c) s:=cX h (λ_ _ z=>z) λ_ _ z=>z.elim;split
 .first
   | exact aA (aD (aD (And.intro rfl f)))
   | exact aD (And.intro rfl f)
 .first
   | exact aA (cY (aA (dI (aA (cX e (λb c e=>aD (And.intro rfl e)) λ_ _ x=>x)))))
   | (refine aA (cY ?_);show wpAny _ _ (standAt iter.pos >>= _) _ _ s;exact aA (dI (aA (cX e (λb c e=>aD (And.intro rfl e)) λ_ _ x=>x))))
theorem qIq:ClauseAt X (.ListComp elt [⟨tg,iter,ifs,0⟩,⟨tg2,iter2,ifs2,0⟩] scope pos) 0 a tg iter ifs (vX (.ListComp elt [⟨tg,iter,ifs,0⟩,⟨tg2,iter2,ifs2,0⟩] scope pos) iter2 1 a X.env) where
 quiet:=λ_=>rfl
 under:=λ_=>rfl
 den:=λ_=>rfl
 turn:=λb=>by
  let e:compTurn (.ListComp elt [⟨tg,iter,ifs,0⟩,⟨tg2,iter2,ifs2,0⟩] scope pos) 0 b a X.env=(do
   standAt iter.pos
   match <-pyNext b with
   | none=>pure (.done .next)
   | some v =>
    letOwnedTupleGo tg b v
    assign tg X.env v
    let ok <-wA ifs X.env true
    if ok then
     let x <-eval iter2 X.env
     standAt iter2.pos
     let x <-foldedSetIterable iter2 X.env x
     let _ <-runOwn (.compStart (.ListComp elt [⟨tg,iter,ifs,0⟩,⟨tg2,iter2,ifs2,0⟩] scope pos) 1 (<-holding [x] (pyIter x)) a X.env) X.env
    again (.compLoop (.ListComp elt [⟨tg,iter,ifs,0⟩,⟨tg2,iter2,ifs2,0⟩] scope pos) 0 b a X.env)):=rfl
  rw [e];unfold vX;simp only [bind_assoc,pure_bind]
  first
   | done
   | rfl
   | (congr 1;funext _;congr 1;funext r;cases r <;> rfl)
 start:=λb R s=>Qc rfl b R s
theorem qIp:ClauseAt X (.ListComp elt [⟨tg,iter,ifs,0⟩,⟨tg2,iter2,ifs2,0⟩] scope pos) 1 a tg2 iter2 ifs2 (ww elt a X.env) where
 quiet:=λ_=>rfl
 under:=λ_=>rfl
 den:=λ_=>rfl
 turn:=λ_=>rfl
 start:=λb R s=>Qc rfl b R s
end
end L2
namespace Srt
open PySem PySem.W PyProof.Rows
section
variable(lt:Nat->Nat->Bool)
structure Ord:Prop where
 asym:∀a b,lt a b=true->lt b a=false
 trans:∀a b c,lt b a=false->lt c b=false->lt c a=false
abbrev at'(p:Array Nat)(i:Nat):Nat:=p.getD i 0
end
theorem Ord.irr(O:Ord lt)(a:Nat):lt a a=false:=by
 cases h:lt a a with
 | false=>rfl
 | true=>rw [<-h];exact (O.asym a a h)
theorem at_eq{i j:Nat}(h:p[i]? = q[j]?):at' p i=at' q j:=by
 unfold at';rw [cL,cL,h]
theorem at_rev{i j:Nat}(a:j<=p.size)(k:Nat):at' (kas_rev p i j) k=if i<=k/\k<j then at' p (i+j - 1 - k) else at' p k:=by
 let h:=getElem?_mirror_all (i:=i) a k;by_cases c:i<=k/\k<j
 .rw [if_pos c] at h ⊢;exact at_eq h
 .rw [if_neg c] at h ⊢;exact at_eq h
theorem at_bub{k l:Nat}(a:k<p.size)(b:l<=k)(i:Nat):at' (bubble p k (k - l)) i=if i=l then at' p k else if l<i/\i<=k then at' p (i - 1) else at' p i:=by
 let h:=getElem?_bubble a (k - l) ∎ i;let e:k - (k - l)=l:=by lia
 rw [e] at h;by_cases c:i=l
 .rw [if_pos c] at h ⊢;exact at_eq h
 .rw [if_neg c] at h ⊢;by_cases d:l<i/\i<=k
  .rw [if_pos d] at h ⊢;exact at_eq h
  .rw [if_neg d] at h ⊢;exact at_eq h
end Srt
namespace L2
open PySem PySem.Spec PyProof.Rows
theorem HOk.gone(x:HOk P w H h)(c:h.get? D=none):H D=none:=by
 cases q:H D with
 | none=>rfl
 | some u =>
  let z:∃a,h.get? D=some a:=by
   let:=x D u q;cases u with
   | lst xs=>obtain⟨_,_,_,_,e⟩:=this;exact⟨_,e⟩
   | tup xs=>obtain⟨_,_,_,a,e,_⟩:=this;exact⟨_,e⟩
   | dK b=>obtain⟨_,_,_,_,o,_,_,e,_⟩:=this;exact⟨_,e⟩
   | dT b=>obtain⟨_,_,_,_,o,_,_,e,_⟩:=this;exact⟨_,e⟩
   | set S n=>obtain⟨o,_,_,_,e,_⟩:=this;exact⟨_,e⟩
   | ins C dx fs=>obtain⟨_,_,_,e,_⟩:=this;exact⟨_,e⟩
   | own y=>obtain⟨_,e⟩:=this;exact⟨_,e⟩
   | xd fs=>obtain⟨_,⟨_,_,_,e,_⟩,_⟩:=this;exact⟨_,e⟩
   | rng lo d=>obtain⟨_,_,_,e⟩:=this;exact⟨_,e⟩
   | frz a u=>obtain⟨e,_⟩:=this;exact⟨_,e⟩
   | tbl g=>exact⟨_,this⟩
   | met f y=>exact⟨_,this⟩
   | ext φ =>obtain⟨_,⟨_,e⟩,_⟩:=this;exact⟨_,e⟩
  let⟨a,z⟩:=z;rw [c] at z;cases z
end L2
namespace Srt
open PySem PySem.W PyProof.Rows
theorem Qd:∀a b:List Int,HT.lexLt a b=true->HT.lexLt b a=false
 | [],[],h=>by simp [HT.lexLt] at h
 | [],_::_,_=>rfl
 | _::_,[],h=>by simp [HT.lexLt] at h
 | x::xs,y::c,h=>by
  rw [HT.lexLt_cons] at h ⊢;by_cases e:x=y
  .subst e;simp only [if_true] at h ⊢;exact Qd xs c h
  .rw [if_neg e] at h;rw [if_neg (λz=>e z.symm)];let:x<y:=of_decide_eq_true h;exact decide_eq_false ∎
theorem Qe:∀a b c:List Int,HT.lexLt b a=false->HT.lexLt c b=false->HT.lexLt c a=false
 | a,[],[],h,_=>by cases a <;> first | rfl | exact h
 | [],_,_::_,_,_=>rfl
 | _,_::_,[],_,h=>by simp [HT.lexLt] at h
 | _::_,[],_::_,h,_=>by simp [HT.lexLt] at h
 | x::xs,y::i,z::zs,e,d=>by
  rw [HT.lexLt_cons] at e d ⊢;by_cases g:y=x
  .subst g;simp only [if_true] at e;by_cases f:z=y
   .subst f;simp only [if_true] at d ⊢;exact Qe xs i zs e d
   .rw [if_neg f] at d ⊢;exact d
  .rw [if_neg g] at e;let j : ¬y<x:=of_decide_eq_false e;by_cases f:z=y
   .subst f;rw [if_neg g];exact e
   .rw [if_neg f] at d;let k : ¬z<y:=of_decide_eq_false d;rw [if_neg ∎];exact decide_eq_false ∎
theorem lex_ord(ts:List (List Int)):Ord (λi j=>HT.lexLt (ts.getD i []) (ts.getD j [])):=⟨λ_ _=>Qd _ _,λ_ _ _=>Qe _ _ _⟩
theorem katlex{fin:Bool}:∀ {ns a:List Int} {us c:List Value} {i:Nat},IntsAre us ns->IntsAre c a->fin=decide (ns.length<a.length)->Q (HT.lexLt ns a) s ->
  KatLex prog w A true fin Q (us.zip c) i s
 | [],[],_,_,_,.nil,.nil,hf,q=>by subst hf;exact q
 | [],_::_,_,_,_,.nil,.cons _ _ _,hf,q=>by subst hf;exact q
 | _::_,[],_,_,_,.cons _ _ _,.nil,hf,q=>by
  subst hf;exact q
 | n::ns,m::a,_,_,i,.cons _ t d,.cons _ g f,hf,q=>by
  rw [HT.lexLt_cons] at q;refine kat_cons (iJ ?_);by_cases e:n=m
  .subst e;rw [beq_self_eq_true];rw [if_pos rfl] at q;exact kat_yes (katlex d f (by subst hf;simp) q)
  .rw [if_neg e] at q;let:(n == m)=false:=beq_eq_false_iff_ne.mpr e;rw [this];refine kat_no ?_;cases b:(true&&i == 0) with
   | true=>exact oneLt_int q
   | false=>exact kat_one _ _ (lt_int (show PySem.W.BoolBack Q (.bool (decide (n<m))) s from q))
def TupAt(h:Heap):List Value->List (List Int)->Prop:=Paired λu t => ∃a o xs k,u=Value.ref a/\h.get? a=some o/\o.cls = .type "tuple" /\ o.data = .seq xs k/\IntsAre xs.toList t
theorem TupAt.get:∀ {us:List Value} {ts:List (List Int)} (i:Nat),TupAt h us ts->i<ts.length -> ∃a o xs k,us.getD i Value.none=Value.ref a/\h.get? a=some o/\o.data = .seq xs k/\IntsAre xs.toList (ts.getD i [])
 | _,_,_,.nil,b=>absurd b ∅
 | _,_,0,.cons ⟨a,o,xs,k,e,c,g,d,f⟩ _,_=>⟨a,o,xs,k,e,c,d,f⟩
 | _::us,_::ts,i+1,.cons _ r,b=>TupAt.get i r (by simpa using b)
theorem TupAt.firsts:∀ {us:List Value} {ts:List (List Int)},TupAt h us ts->(∀t∈ts,t ≠ []) -> ∃fs:List Value,KatTups h us fs/\fs.length=us.length /\ ∀v∈fs,∃i t,v=Value.int i t
 | _,_,.nil,_=>⟨[],trivial,rfl,λ_ h=>nomatch h⟩
 | _::us,t::ts,.cons ⟨a,o,xs,k,e,f,g,j,b⟩ r,d=>by
  let⟨fs,m,p,q⟩:=TupAt.firsts r λt s=>d t (aS _ s);let c:=d t aV;let⟨l⟩:=xs;let b:IntsAre l t:=b;cases b with
  | nil=>exact absurd rfl c
  | cons n tk w =>
   subst e;refine⟨Value.int n tk::fs,KatTups.cons f g j rfl m,by simp [p],λv u=>?_⟩;rcases aL.mp u with z | z
   .exact⟨n,tk,z⟩
   .exact q v z
end Srt
namespace L2
open PySem PySem.Spec PyProof.Rows
def TupI(K:PySem.W.Frag)(H:Hp):List V->List (List Int)->Prop:=Paired λv t => ∃a,v = .ref a/\SqT K H a (t.map V.int)
theorem TupI.len{K:PySem.W.Frag}(h:TupI K H vs ts):vs.length=ts.length:=dD h
section
variable{X:Cx}{pins:List (Addr×Obj)}{σ : St}{H:Hp}{s:Shared}
theorem TupI.at(I:Inv X pins σ H s):∀ {vs:List V} {us:List Value} {ts:List (List Int)},TupI X.K H vs ts->Vals vs us->Srt.TupAt s.heap us ts
 | _,_,_,.nil,.nil =>.nil
 | _,_,_,.cons ⟨a,e,c⟩ r,.cons d f=>by
  subst e;cases d;obtain⟨b,g,⟨o,h,i,n,j⟩,_⟩:=I.tuple c;exact .cons ⟨a,o,b.toArray,n,rfl,h,i,j,by simpa using uh g⟩ (TupI.at I r f)
end
theorem qOu(r:Vals vs us)(i:Nat):RelV (vs.getD i .non) (us.getD i Value.none):=by
 cases e:vs[i]? with
 | none =>
  let a:=r.none_of e;rw [bF,bF,e,a];rfl
 | some x =>
  let⟨u,b,c⟩:=r.get e;rw [bF,bF,e,b];exact c
theorem vY(r:Vals vs us):∀l:List Nat,Vals (l.map λi=>vs.getD i .non) (l.map λi=>us.getD i Value.none)
 | [] =>.nil
 | i::l =>.cons (qOu r i) (vY r l)
theorem uv{α β : Type}(b : α)(c : β):∀(vs:List α) (ts:List β),vs.length=ts.length->(List.range vs.length).map (λi=>(vs.getD i b,ts.getD i c))=vs.zip ts:=by
 intro vs ts h;refine List.ext_getElem? λi=>?_;rw [aU];by_cases a:i<vs.length
 .let d:i<ts.length:=by lia
  let e:i<(vs.zip ts).length:=by rw [gR];lia
  rw [List.getElem?_range a,aC e,List.getElem_zip];simp [bF,a,d]
 .rw [dF (by simpa using a),dF (by rw [gR];lia)];rfl
def qZf(K:PySem.W.Frag):List V->Hp->VK->Prop:=λxs H Q => ∃(a:Addr) (vs:List V) (ts:List (List Int)),xs = [.ref a]/\SqL K H a vs/\TupI K H vs ts/\(∀t∈ts,t ≠ [])/\ts.length<64 /\
 ∀(l:Addr) (ps:List (V×List Int)),H l=none->ps.Perm (vs.zip ts)->(ps.map (·.2)).Pairwise (λa b=>HT.lexLt b a=false)->Q (.ref l) (upd H l (.lst (ps.map (·.1))))
theorem Qf(r:s.heap.IsList l [v].toArray)
  (h:∀h' c,(∀b o,s.heap.get? b=some o->h'.get? b=some o)->h'.get? (s.heap.objs.size+1)=some (seqObj "list" #[v] c)->Q (.ref (s.heap.objs.size+1)) { s with heap:=h' }):wpAny (model prog w) A (call (.builtin "sorted") [.ref l]) Q E s:=by
 refine gI kind_sorted plain_sorted entry_sorted (args_sorted1 _) ?_;unfold Builtin.«sorted»;refine aA (m:=checkCount "sorted" 1 1 _) (aD (aA (collect_list r (aA (fJ ?_)))));generalize p:(s.heap.push (seqObj "list" #[] 0)).update s.heap.objs.size (Obj.mapSeq (· ++ [v].toArray))=a;let j:a.objs.size=s.heap.objs.size+1:=by rw [<-p,fY,size_push']
 let t:∀b o,s.heap.get? b=some o->a.get? b=some o:=λb o e=>by
  let g:b<s.heap.objs.size:=aT e;rw [<-p,fQ _ _ _ _ (aZ g),fA _ _ _ (aZ g)];exact e
 let d:(a.push (seqObj "list" [v].toArray 0)).get? a.objs.size=some (seqObj "list" [v].toArray 0):=aW _ rfl;show wpAny _ _ _ _ _ { s with heap:=a.push (seqObj "list" [v].toArray 0) };rw [j] at d ⊢;refine aA (bM (cH slot_list_sort ⟨_,d,rfl⟩ entry_list_sort ?_ (args_list_sort _)));rw [list_sort_plain];obtain⟨k,q⟩:∃k,((a.push (seqObj "list" [v].toArray 0)).update (s.heap.objs.size+1) (Obj.mapSeq λ_ => #[])).get? (s.heap.objs.size+1)=some (seqObj "list" #[] k):=⟨_,dP d λ_ => #[]⟩;refine aA (listItems_at d rfl (aA (fK d rfl (aA (iO q rfl (aA (wpAny_newTuple (aA (fJ (bM ?_)))))))))) 
 dsimp only;rw [if_pos ∅,if_pos ∅];refine aA (aD ?_);rw [StateT.run_pure];refine aA (aD ?_);dsimp only;let i:((a.push (seqObj "list" [v].toArray 0)).update (s.heap.objs.size+1) (Obj.mapSeq λ_=>(#[]:Array Value))).objs.size=s.heap.objs.size+2:=by rw [fY,size_push',j]
 let n:((((a.push (seqObj "list" [v].toArray 0)).update (s.heap.objs.size+1) (Obj.mapSeq λ_=>(#[]:Array Value))).push (seqObj "tuple" [v].toArray 0)).push (seqObj "list" #[] 0)).get? (s.heap.objs.size+1)=some (seqObj "list" #[] k):=by
  rw [fA _ _ _ (aZ (by rw [size_push',i];exact dS (fX _))),fA _ _ _ (aZ (by rw [i];exact fX _))];exact q
 let u:Array.map (λx:Keyed=>x.snd) (arrOf (SortSt.mk' general' ([v].toArray.zip [v].toArray) #[] 7 none)) = #[v]:=by
  show Array.map (λx:Keyed=>x.snd) ([v].toArray.zip [v].toArray) = #[v];simp
 rw [u];refine aA (iO n rfl (aA (fK n rfl ?_ (hsz2:=by show 1<=_;decide))));simp only [bne_self_eq_false,bV,if_false];obtain⟨c,y⟩:∃c,(((((a.push (seqObj "list" [v].toArray 0)).update (s.heap.objs.size+1) (Obj.mapSeq λ_=>(#[]:Array Value))).push (seqObj "tuple" [v].toArray 0)).push (seqObj "list" #[] 0)).update (s.heap.objs.size+1) (Obj.mapSeq λ_ => #[v])).get? (s.heap.objs.size+1)=some (seqObj "list" #[v] c):=⟨_,dP n λ_ => #[v]⟩;refine aD ⟨_,rfl,aD ⟨_,rfl,h (((((a.push (seqObj "list" [v].toArray 0)).update (s.heap.objs.size+1) (Obj.mapSeq λ_=>(#[]:Array Value))).push (seqObj "tuple" [v].toArray 0)).push (seqObj "list" #[] 0)).update (s.heap.objs.size+1) (Obj.mapSeq λ_ => #[v])) c (λb o e=>?_) y⟩⟩
 let g:b<s.heap.objs.size:=aT e;let f:b<s.heap.objs.size+1:=dS g;rw [fQ _ _ _ _ (aZ f),fA _ _ _ (aZ (by rw [size_push',i];exact dS (dS f))),fA _ _ _ (aZ (by rw [i];exact dS f)),fQ _ _ _ _ (aZ f),fA _ _ _ (aZ (by rw [j];exact f))];exact t b o e
theorem Same.seqT{K:PySem.W.Frag}(e:Same H H')(h:SqT K H a xs):SqT K H' a xs:=by
 rcases h with (h | ⟨o,h⟩) | h
 .exact .inl (.inl (e _ _ h))
 .exact .inl (.inr ⟨o,e _ _ h⟩)
 .exact .inr h
mutual
noncomputable def Den(K:PySem.W.Frag)(G:Hp):PyData->V->Prop
 | .none,v=>v = .non
 | .bool b,v=>v = .bl b
 | .int i,v=>v = .int i
 | .str x,v=>v = .str x
 | .list ds,v => ∃a vs,v = .ref a/\SqL K G a vs/\DenL K G ds vs
 | .tuple ds,v => ∃a vs,v = .ref a/\SqT K G a vs/\DenL K G ds vs
 | .dict _,_=>False
noncomputable def DenL(K:PySem.W.Frag)(G:Hp):List PyData->List V->Prop
 | [],vs=>vs = []
 | d::ds,vs => ∃v r,vs=v::r/\Den K G d v/\DenL K G ds r
end
section
variable{K:PySem.W.Frag}{G G':Hp}
mutual
theorem Den.mono(h:Same G G'):∀ {d:PyData} {v:V},Den K G d v->Den K G' d v
 | .none,_,e=>by simp only [Den] at e ⊢;exact e
 | .bool _,_,e=>by simp only [Den] at e ⊢;exact e
 | .int _,_,e=>by simp only [Den] at e ⊢;exact e
 | .str _,_,e=>by simp only [Den] at e ⊢;exact e
 | .list ds,_,e=>by
  simp only [Den] at e ⊢;let⟨a,b,c,f,g⟩:=e;exact⟨a,b,c,h.seq f,DenL.mono h g⟩
 | .tuple ds,_,e=>by
  simp only [Den] at e ⊢;let⟨a,b,c,f,g⟩:=e;exact⟨a,b,c,h.seqT f,DenL.mono h g⟩
 | .dict _,_,e=>by simp only [Den] at e
theorem DenL.mono(h:Same G G'):∀ {ds:List PyData} {vs:List V},DenL K G ds vs->DenL K G' ds vs
 | [],_,e=>by simp only [DenL] at e ⊢;exact e
 | d::ds,_,e=>by
  simp only [DenL] at e ⊢;let⟨v,r,a,b,c⟩:=e;exact⟨v,r,a,Den.mono h b,DenL.mono h c⟩
end
theorem DenL.len:∀ {ds:List PyData} {vs:List V},DenL K G ds vs->vs.length=ds.length
 | [],_,e=>by simp only [DenL] at e;rw [e];rfl
 | d::ds,_,e=>by
  simp only [DenL] at e;let⟨v,r,rfl,_,a⟩:=e;simp [DenL.len a]
theorem DenL.nil:DenL K G [] []:=by simp only [DenL]
theorem DenL.cons{d:PyData}{ds:List PyData}{v:V}{vs:List V}(a:Den K G d v)(b:DenL K G ds vs):DenL K G (d::ds) (v::vs):=by
 simp only [DenL];exact⟨v,vs,rfl,a,b⟩
theorem DenL.append:∀ {ds es:List PyData} {vs ws:List V},DenL K G ds vs->DenL K G es ws->DenL K G (ds++es) (vs++ws)
 | [],_,_,_,e,f=>by simp only [DenL] at e;subst e;exact f
 | d::ds,_,_,_,e,f=>by
  simp only [DenL] at e;let⟨v,r,rfl,a,b⟩:=e;exact .cons a (DenL.append b f)
theorem DenL.get:∀ {ds:List PyData} {vs:List V} {i:Nat} {v:V},DenL K G ds vs->vs[i]? = some v -> ∃d,ds[i]? = some d/\Den K G d v
 | [],_,_,_,e,h=>by simp only [DenL] at e;subst e;simp at h
 | d::ds,_,0,_,e,h=>by
  simp only [DenL] at e;let⟨v,r,rfl,a,b⟩:=e;simp at h;subst h;exact⟨d,rfl,a⟩
 | d::ds,_,i+1,_,e,h=>by
  simp only [DenL] at e;let⟨v,r,rfl,a,b⟩:=e;exact DenL.get (i:=i) b (by simpa using h)
theorem DenL.get':∀ {ds:List PyData} {vs:List V} {i:Nat} {d:PyData},DenL K G ds vs->ds[i]? = some d -> ∃v,vs[i]? = some v/\Den K G d v
 | [],_,_,_,e,h=>by simp at h
 | d::ds,_,0,_,e,h=>by
  simp only [DenL] at e;let⟨v,r,rfl,a,b⟩:=e;simp at h;subst h;exact⟨v,rfl,a⟩
 | d::ds,_,i+1,_,e,h=>by
  simp only [DenL] at e;let⟨v,r,rfl,a,b⟩:=e;exact DenL.get' (i:=i) b (by simpa using h)
theorem Den.int{i:Int}:Den K G (.int i) (.int i):=by simp only [Den]
theorem Den.str:Den K G (.str i) (.str i):=by simp only [Den]
theorem Den.list(h:SqL K G a vs)(e:DenL K G ds vs):Den K G (.list ds) (.ref a):=by simp only [Den];exact⟨a,vs,rfl,h,e⟩
theorem Den.tuple(h:SqT K G a vs)(e:DenL K G ds vs):Den K G (.tuple ds) (.ref a):=by simp only [Den];exact⟨a,vs,rfl,h,e⟩
theorem Den.ofInt{i:Int}(h:Den K G (.int i) v):v = .int i:=by simpa only [Den] using h
theorem Den.ofStr(h:Den K G (.str i) v):v = .str i:=by simpa only [Den] using h
theorem Den.ofList(h:Den K G (.list ds) v):∃a vs,v = .ref a/\SqL K G a vs/\DenL K G ds vs:=by simpa only [Den] using h
theorem Den.ofTuple(h:Den K G (.tuple ds) v):∃a vs,v = .ref a/\SqT K G a vs/\DenL K G ds vs:=by simpa only [Den] using h
theorem DenL.ofCons(h:DenL K G (d::ds) vs):∃v r,vs=v::r/\Den K G d v/\DenL K G ds r:=by simpa only [DenL] using h
theorem DenL.ofNil(h:DenL K G [] vs):vs = []:=by simpa only [DenL] using h
theorem DenL.ints:∀ {ns:List Int} {vs:List V},DenL K G (ns.map PyData.int) vs->vs=ns.map V.int
 | [],_,e=>e.ofNil
 | n::ns,_,e=>by
  let⟨v,r,rfl,a,b⟩:=DenL.ofCons e;rw [a.ofInt,DenL.ints b];rfl
theorem DenL.ofInts:∀ns:List Int,DenL K G (ns.map PyData.int) (ns.map V.int)
 | [] =>.nil
 | n::ns =>.cons .int (DenL.ofInts ns)
end
section
variable{X:Cx}{pins:List (Addr×Obj)}{σ : St}{H:Hp}{s:Shared}
mutual
theorem Den.reads(I:Inv X pins σ H s):∀ {d:PyData} {v:V} {u:Value},Den X.K H d v->RelV v u -> ∃as,Reads s.heap u d as
 | .none,_,_,e,r=>by simp only [Den] at e;subst e;cases r;exact⟨_,.none⟩
 | .bool b,_,_,e,r=>by simp only [Den] at e;subst e;cases r;exact⟨_,.bool b⟩
 | .int i,_,_,e,r=>by simp only [Den] at e;subst e;let⟨t,rfl⟩:=r;exact⟨_,.int i t⟩
 | .str x,_,_,e,r=>by simp only [Den] at e;subst e;let⟨t,rfl⟩:=r;exact⟨_,.str x t⟩
 | .list ds,_,_,e,r=>by
  simp only [Den] at e;let⟨a,p,rfl,c,f⟩:=e;cases r;obtain⟨g,h,⟨o,n,j,k,q,l⟩,_⟩:=I.list c;let⟨as,m⟩:=DenL.reads I f h;exact⟨_,.list j k l (by simpa using m)⟩
 | .tuple ds,_,_,e,r=>by
  simp only [Den] at e;let⟨a,p,rfl,c,f⟩:=e;cases r;obtain⟨g,h,⟨o,j,k,n,l⟩,_⟩:=I.tuple c;let⟨as,m⟩:=DenL.reads I f h;exact⟨_,.tuple j k l (by simpa using m)⟩
 | .dict _,_,_,e,_=>by simp only [Den] at e
theorem DenL.reads(I:Inv X pins σ H s):∀ {ds:List PyData} {vs:List V} {us:List Value},DenL X.K H ds vs->Vals vs us -> ∃as,ReadsAll s.heap us ds as
 | [],_,_,e,r=>by simp only [DenL] at e;subst e;cases r;exact⟨_,.nil⟩
 | d::ds,_,_,e,r=>by
  simp only [DenL] at e;let⟨v,i,rfl,a,b⟩:=e;cases r with
  | cons c f =>
   let⟨as,g⟩:=Den.reads I a c;let⟨bs,h⟩:=DenL.reads I b f;exact⟨_,.cons g h⟩
end
end
def rEqD(K:PySem.W.Frag)(neg:Bool):R2:=λx y H Q => ∃da db,Den K H da x/\Den K H db y/\SeqAt.shaped da=true/\SeqAt.shaped db=true/\Q (.bl (if neg then !PyData.eqv da db else PyData.eqv da db)) H
theorem Qg(b:Room k X.A):OpR X (compareOp .Eq) (rEqD X.K false):=by
 intro a s σ H x y v u Q I c d h;let⟨m,n,e,f,g,i,q⟩:=h;let⟨o,j⟩:=Den.reads I e c;let⟨bs,l⟩:=Den.reads I f d;exact SeqAt.compareEq_shaped j l g i b.units ⟨.bl _,H,I,rfl,q⟩
theorem ux(b:Room k X.A):OpR X (compareOp .NotEq) (rEqD X.K true):=by
 intro a s σ H x y v u Q I c d h;let⟨m,n,e,f,g,i,q⟩:=h;let⟨o,j⟩:=Den.reads I e c;let⟨bs,l⟩:=Den.reads I f d;exact SeqAt.compareNe_shaped j l g i b.units ⟨.bl _,H,I,rfl,q⟩
end L2
namespace Miss
open PySem PySem.Spec PyProof.Rows
theorem qY5:typeLookup (.type "list") "keys" = pure none:=am_miss_of_fast (by decide +kernel)
theorem wB4:typeLookup (.type "list") "__getattr__" = pure none:=am_miss_of_fast (by decide +kernel)
theorem entry:Meets (Builtin.«object.__getattribute__» ⟨[.ref a,.str "keys" u],[]⟩) (λA R s=>s.heap.get? a=some { cls :=.type "list",dict:=none,data :=.seq its n,slots := #[] }/\raisesAttr (.ref a) "keys" A R s) :=
 Meets.of_wp λprog w A R s b=>by
  let⟨c,g,d,tk,os⟩:=s;let⟨e,b⟩:=b;let hT:(⟨c,g,d,tk,os⟩:Shared).TypeIs (.ref a) "list" :=⟨_,e,rfl⟩;let f:=qY5;unfold Builtin.«object.__getattribute__»
  repeat (any_goals (first | assumption | wp_step))
  exact wpAny_raiseAttrError b.1 b.2 (attrMsg_fits (by decide +kernel) (by rw [gH];decide +kernel))
theorem no_keys(i:A.handled=none)(f:s.heap.get? a=some { cls :=.type "list",dict:=none,data :=.seq its n,slots := #[] })
  (h:∀c tk,(∀b o,s.heap.get? b=some o->c.get? b=some o)->Q none { s with heap:=c,toks:=tk }):wpAny (model prog w) A (getAttr? (.ref a) "keys") Q E s:=by
 let⟨j,g,d,tk,os⟩:=s;let hT:∀tk,(⟨j,g,d,tk,os⟩:Shared).TypeIs (.ref a) "list" :=λ_=>⟨_,f,rfl⟩;let l:=sub_AttributeError;let m:=iS.lookup;let p:=iS.bind (.ref a);let q:=wB4;unfold getAttr? getAttrBy? getAttrBy
 repeat (any_goals (first | assumption | ((with_reducible show wpAny _ _ (call (Value.builtin "list.__getattribute__") _ _) _ _ _);refine call_meets iS (hT _) F.entry_list_ga (F.args_list_getattribute_2 _ _) (entry (its:=its) (n:=n)) ⟨f,i,λc k e x=>?_⟩) | wp_step))
 let⟨r,t,u⟩:=x.there;show wpAny _ _ (getattributeRaised _ _ (Value.type "list") _ _ _ _) _ _ _;unfold getattributeRaised
 repeat (any_goals (first | assumption | wp_step))
 exact h _ _ x.keeps
theorem entry_loop:entryFor table "dict.update.loop" = some Builtin.«dict.update.loop» :=entryFor_of_tree (by kernel_rfl)
theorem plain_loop:plainId "dict.update.loop" = true:=by decide +kernel
end Miss
namespace L2
open PySem PySem.Spec PyProof.Rows
theorem qVb:xk X newDict (.dK []):=by
 intro a s σ H E Q I h;refine cN (h _ _ (aH _) I.fresh (I.laid (t':=s.toks) (λ_ _ q=>aE _ q) (aH _) (QM s.heap I.big)) λb u e=>aE _ e) ?_
 first | trivial | size_fits | decide
def ePut(tk tv:TE)(l:Addr):TB:=λσ H Q=>tk σ H λx H1=>tv σ H1 λy H2 => ∃kvs k,x=kV k/\H2 l=some (.dK kvs)/\kvs.length<sizeLine/\Q σ (upd H2 l (.dK (putK kvs k y)))
noncomputable def wx(k v:Expr)(acc:Value)(env:Env):Sem Unit:=do
 let kv <-eval k env
 let vv <-holding [kv] (eval v env)
 match acc with
 | .ref d=>do
  standAt { k.pos with endLine:=v.pos.endLine,endCol:=v.pos.endCol }
  holding [kv,vv] (dictSet d kv vv)
 | _=>unsupported "internal:dictcomp"
theorem qXh{k v:Expr}{tk g:TE}(m:PE X k tk)(n:PE X v g):PB X (wx k v (.ref l) X.env) (ePut tk g l):=by
 intro a s σ H Q I h;refine aA (thn (m a s σ H _ I h) λu o hq_=>?_);let⟨x,p,r,t,w⟩:=hq_;refine aA (bM (thn (n a o σ p _ r w) λK L hq_=>?_));let⟨y,M,i,A,b,f,e,j,N,q⟩:=hq_;subst e;let⟨z,B,O,c,C⟩:=wq i.hok j;let D:(putK b f y).length<=sizeLine:=by let:=xy b f y;lia
 refine aA (dI (bM (wpAny_dictSet_pairs (xO t) C (λE d F=>?_) (by rw [<-c.length];exact z))));let G:∃q,E.get? l=some q:=let ⟨q,_,_,J,_⟩:=d;⟨q,J⟩
 exact⟨σ,_,xj i (by rw [j];exact True.intro) F G (ul D B (c.put f A) d),q⟩
theorem Qh{k v d a:Expr}:ClauseAt X (.DictComp k v [⟨d,a,b,0⟩] scope pos) 0 c d a b (wx k v c X.env) where
 quiet:=λ_=>rfl
 under:=λ_=>rfl
 den:=λ_=>rfl
 turn:=λ_=>rfl
 start:=λf R s e h=>codeAny_compStart_dict e (cX h (λ_ _ z=>z) λ_ _ z=>z.elim)
theorem Qi(own:List Str)(cap:List Nat)(c:X.calm=true)(S:CompScope X own cap scope)(hi:PI X tg iter wi)(d:∀a s H ex,PG (zQ X own cap scope a s H ex) tg g)(e:∀a s H ex,PTs (zQ X own cap scope a s H ex) ifs tts)(f:∀a s H ex,PE (zQ X own cap scope a s H ex) ke tk)(i:∀a s H ex,PE (zQ X own cap scope a s H ex) ve tv)(j:∀x,foldedSetIterable iter X.env x=pure x:=by intro _;rfl):PE X (.DictComp ke ve [⟨tg,iter,ifs,0⟩] scope pos) (tComp own cap (.dK []) wi g tts (ePut tk tv)):=by
 intro b s σ H Q I h;exact vV (behOf:=wx ke ve) c S rfl hi qVb (λ_ _ _ _ _=>Qh) d e (λa s H ex l=>qXh (f a s H ex) (i a s H ex)) j b s σ H Q I h
noncomputable def Itd(d:Addr)(o:Obj)(kvs:List (Key×V)):It:=⟨λi H=>H d=some (.frz o (.dK kvs))/\i<kvs.length,λi H x H'=>H'=H /\ ∃k v,kvs[i]? = some (k,v)/\x=kV k,λi H=>H d=some (.frz o (.dK kvs))/\kvs.length<=i⟩
theorem wA9{k:Key}(h:(zY P w).is k u=true):RelV (kV k) u:=by
 rcases yw h with ⟨i,t,rfl,rfl⟩ | ⟨x,t,rfl,rfl⟩
 .exact⟨t,rfl⟩
 .exact⟨t,rfl⟩
theorem KV.keyAt{κ : Type}:∀ {kvs:List (κ × V)} {vs:List (κ × Value)} {i:Nat} {k : κ} {v:V},KV kvs vs->kvs[i]? = some (k,v) -> ∃x,vs[i]? = some (k,x)
 | _,_,_,_,_,.nil,e=>by simp at e
 | _,_,0,_,_,.cons (b:=b) r _,e=>by
  simp at e;subst e;let⟨a,c⟩:=b;let:_=a:=r.1;exact⟨c,by simp [<-this]⟩
 | _,_,i+1,k,v,.cons _ t,e=>KV.keyAt (i:=i) (v:=v) t (by simpa using e)
section
variable{P:Program}{w:World}{K:PySem.W.Frag}{tg:Expr}
theorem uy{ep:Nat}(ok:HOk P w H h)(e:H d=some (.frz o (.dK kvs)))(hd:o.data = .dict es ep):kvs.length<=sizeLine/\(d == sysModules)=false /\ ∃vs,KV kvs vs/\h.DictAt (zY P w) d vs ep:=by
 let⟨b,z,g,vs,a,m,i,j,c,k,f,l⟩:=ok d _ e;rw [b] at c;cases c;rw [hd] at f;cases f;exact⟨z,g,vs,a,o,es,b,k,hd,l⟩
theorem qOz(d it:Addr)(o:Obj)(kvs:List (Key×V)){ep:Nat}(hd:o.data = .dict es ep):Turn P w K tg (Itd d o kvs) [it] it (λi h=>h.IsKeyIter it d i kvs.length ep) where
 mem:=by simp
 obj:=λi h st b g=>by
  let e:b=it:=by simpa using g
  subst e;let⟨j,e,c,m⟩:=st;exact⟨j,e,λv z=>by rw [m] at z;cases z⟩
 keep:=λi h q st k=>st.at λj e=>k it ∅ j e
 item:=by
  intro X u y A N i f s σ H E I r st B;subst u y A;let⟨C,O⟩:=B;let⟨z,R,S,a,m⟩:=uy I.hok C hd;obtain⟨⟨k,v⟩,Q⟩:∃p,kvs[i]? = some p:=⟨kvs[i],by simp [O]⟩;let⟨x,D⟩:=a.keyAt Q;let⟨F,G,T,J,L,M⟩:=r it ∅;let t:=a.length;refine wpAny_pyNext_dict_item (by rw [<-t];exact st) m D λkey q n l U=>?_;let W:Inv X f σ H { s with heap:=q }:=I.turned (t':=s.toks) (λb j g e=>(U.2 b g).trans e) F G J L M;let⟨j,e,c,Y⟩:=id l;exact⟨key,rfl,wV (s :={ s with heap:=q }) e c Y ⋯ ⟨kV k,H,W,wA9 n,⟨rfl,k,v,Q,rfl⟩,by rw [<-t] at l;exact l,λb g=>(r b g).1⟩⟩
 done:=by
  intro X u y A N i f s σ H E I r st B;subst u y A;let⟨C,O⟩:=B;let⟨z,R,S,a,m⟩:=uy I.hok C hd;let⟨F,G,T,J,L,M⟩:=r it ∅;let t:=a.length;exact wpAny_pyNext_dict_end (I.ok.hd N) (by rw [<-t];exact st) m (by simp;lia) λq Z=>⟨rfl,I.turned (t':=s.toks) (λb j g e=>Z b j g e) F G J L M⟩
 self:=λ_ _ _ _ _ st h=>wpAny_pyIter_keyiter st h
end
theorem Inv.freeze{σ : St}(I:Inv X a σ H s)(e:H d=some u)(mu:Mut (some u))(c:s.heap.get? d=some o)(f:∀H':Hp,ObjOk X.prog X.w H' s.heap d u):Inv X a σ (upd H d (.frz o u)) s:=by
 let:=I.write (x:=d) (e:=d) (o :=.frz o u) (h':=s.heap) (t':=s.toks) (by rw [e];exact mu) (.inl rfl) (λb v _ q=>q) ⟨o,c⟩ ⟨c,f _⟩;exact this
def iDict(td:TE):TI:=λσ H R=>td σ H λx H1 => ∃d kvs,x = .ref d/\H1 d=some (.dK kvs) /\ ∀o,R (Itd d o kvs) (upd H1 d (.frz o (.dK kvs)))
def PairsAt(H:Hp):List V->List (Key×V)->Prop:=Paired λv kv => ∃a,v = .ref a/\H a=some (.tup [kV kv.1,kv.2])
theorem PairsAt.mono(h:∀b xs,H b=some (.tup xs)->H' b=some (.tup xs))(p:PairsAt H vs kvs):PairsAt H' vs kvs:=Paired.mapP p λ_ _ ⟨a,e,q⟩=>⟨a,e,h _ _ q⟩
theorem Qj{σ : St}(hh:X.A.handled=none):∀ {more:List (Key×V)} {items:List V} {i:Nat} {A:Around} {H:Hp} {s:Shared} {kvs:List (Key×V)} {R:Result->Shared->Prop},A.handled=none->Inv X c σ H s->s.heap.IsListIter it l i->FpOk X c H it ->
  H l=some (.lst items)->H d=some (.dK kvs)->l≠d->PairsAt H (items.drop i) more->kvs.length+more.length<=sizeLine->(∀F,Inv X c σ (upd H d (.dK (wt kvs more))) F->R (.ok (.ret .none)) F) ->
  codeAny (model X.prog X.w) A (.builtin "dict.update.loop" ⟨[.ref d,.ref it,rawInt i,.none],[]⟩) R s
 | [],items,i,A,H,s,kvs,R,P,I,st,hf,G,hd,g,m,hz,h=>by
  refine fR Miss.entry_loop ?_;rw [eU Miss.plain_loop _];let⟨j,n,r,Q,_⟩:=I.lst G;let a0:items.length<=i:=by
   let:=dD m;rw [fW] at this;let e:([]:List (Key×V)).length=0:=rfl;lia
  let S:=r.length;show wpAny _ _ (pyNext (.ref it) >>= _) _ _ s;let⟨o,J,f2,K,L,M⟩:=hf;refine aA (wpAny_pyNext_list_end (show A.in1.handled=none from P) st (l:=l) (items:=j.toArray) ⟨_,Q,rfl,n,rfl⟩ (by simp;lia) λt eb=>?_);let y:Inv X c σ H { s with heap:=t }:=I.turned (t':=s.toks) (λb N p e=>eb b N p e) o J K L M;let e1:upd H d (.dK (wt kvs []))=H:=by
   funext b
   by_cases p:b=d
   .subst p;rw [zC,hd];rfl
   .rw [zD p]
  rw [e1] at h;show wpAny _ _ (Builtin.Dict.addKeywords d [] >>= _) _ _ _;exact aA (aD (aD (h _ y)))
 | (k,w)::more,items,i,A,H,s,kvs,R,P,I,st,hf,G,hd,g,m,hz,h=>by
  refine fR Miss.entry_loop ?_;rw [eU Miss.plain_loop _];let⟨j,n,r,Q,_⟩:=I.lst G;let S:=r.length;cases O:items.drop i with
  | nil=>rw [O] at m;cases m
  | cons v rest =>
   rw [O] at m;cases m with
   | cons hv hr =>
    let⟨a,rfl,ha⟩:=hv;let hi:items[i]? = some (.ref a):=by rw [<-List.head?_drop,O];rfl
    let⟨u,hu,ru⟩:=r.get hi;cases ru;let⟨o,J,f2,K,L,M⟩:=id hf;show wpAny _ _ (pyNext (.ref it) >>= _) _ _ s;refine aA (wpAny_pyNext_list_item st (l:=l) (items:=j.toArray) ⟨_,Q,rfl,n,rfl⟩ (x :=.ref a) (by simpa using hu) λt U sb=>?_);let y:Inv X c σ H { s with heap:=t }:=I.turned (t':=s.toks) (λb N p e=>(sb.2 b p).trans e) o J K L M;let⟨_,a1,rt,N,B,W,n2,Y⟩:=(show ObjOk X.prog X.w H t a (.tup [kV k,w]) from y.hok a _ ha);let⟨uk,uw,rfl,rk,Z⟩:=vals2 rt;refine aA (bM (aA (wpAny_tryCatch ?_)));unfold Builtin.Dict.pairItems;refine aA (wpAny_typeOf (T := "tuple") ⟨N,B,W⟩ ?_);rw [if_pos ⋯];refine aA (wpAny_seqItems B Y (aD ?_))
    show wpAny _ _ (holding [uk,uw] (dictSet d uk uw)) _ _ _;let⟨z,hs,vs,C,dd⟩:=wq y.hok hd;let a2:kvs.length+(more.length+1)<=sizeLine:=hz;let a3:(putK kvs k w).length<=kvs.length+1:=xy kvs k w;refine bM (wpAny_dictSet_pairs (xO rk) dd (λh2 D E=>aD ?_) (by rw [<-C.length];exact z));let he:∃q,h2.get? d=some q:=let ⟨q,_,_,hq,_⟩:=D;⟨q,hq⟩
    let I2:Inv X c σ (upd H d (.dK (putK kvs k w))) { s with heap:=h2,toks:=s.toks+1 }:=xj (s :={ s with heap:=t }) (t':=s.toks+1) y (by rw [hd];exact True.intro) E he (ul ∎ hs (C.put k Z) D);let f:it≠d:=λz=>by rw [z,hd] at o;cases o
    let tk:∀b xs,H b=some (.tup xs)->upd H d (.dK (putK kvs k w)) b=some (.tup xs):=λb xs q=>by
     rw [zD (xv q hd (by intro z;cases z))];exact q
    refine⟨plainId_quiet Miss.plain_loop _,?_⟩;let e3:(i:Int)+1=((i+1:Nat):Int):=by lia
    rw [e3];refine Qj hh (more:=more) (items:=items) (i:=i+1) (kvs:=putK kvs k w) P I2 (U.extBut E.extBut f) ⟨by rw [zD f];exact o,J,f2,K,L,M⟩ (by rw [zD g];exact G) zC g ?_ ∎ λF I'=>h F ?_
    .let e4:items.drop (i+1)=rest:=by rw [<-List.tail_drop,O];rfl
     rw [e4];exact PairsAt.mono tk hr
    .rw [oD] at I';exact I'
def Qk:V->List V->Hp->VK->Prop:=λx vs H Q => ∃d l kvs items more,x = .ref d/\vs = [.ref l]/\H d=some (.dK kvs)/\H l=some (.lst items)/\PairsAt H items more/\kvs.length+more.length<=sizeLine/\Q .non (upd H d (.dK (wt kvs more)))
theorem qR8(A:X.calm=true):MtM X "dict.update" Qk:=by
 intro a s σ H x N v O Q I B C h;let⟨d,l,D,items,p,rfl,rfl,c,f,E,G,q⟩:=h;cases B;let⟨u,rfl,J⟩:=C.one;cases J;let g:l≠d:=xv f c (by intro z;cases z);let⟨z,P,R,K,t⟩:=wq I.hok c;let⟨j,n,r,k,_⟩:=I.lst f;let m:=I.ok.hd A;refine wpAny_call (codeAny_call_builtin iT.plain PySem.F.entry_dict_update (iT.check _ _ _ _ _ _ _ _ t.typeIs (PySem.F.args_dict_update_2 _ _) ?_));unfold Builtin.«dict.update»;refine aA ?_;unfold Builtin.Dict.selfAndRest;refine aA (wpAny_notOrdered_dict t.typeIs ?_);show wpAny _ _ (pure (d,[Value.ref l])) _ _ s;refine aD ?_;show wpAny _ _ (Builtin.Dict.updateFrom "dict.update" d (.ref l) [] .none) _ _ s
 unfold Builtin.Dict.updateFrom;refine aA (wpAny_typeOf (T := "list") ⟨_,k,rfl⟩ ?_);rw [if_pos ⋯];refine aA (Miss.no_keys m k λw tk y=>?_);let o:Inv X a σ H { s with heap:=w,toks:=tk }:=I.kept y;show wpAny _ _ (if true=true then _ else _) _ _ _;rw [if_pos rfl];refine aA (cY ?_);refine aA (wpAny_pyIter_list (l:=l) (items:=j.toArray) ⟨_,y _ _ k,rfl,n,rfl⟩ ?_);let L:Inv X a σ H { s with heap:=w.push { cls :=.type "list_iterator",data :=.fields #[.ref l,.int 0 0] },toks:=tk }:=o.kept (t':=tk) λb S e=>aE _ e;refine aD ⟨plainId_quiet Miss.plain_loop _,?_⟩;exact Qj (i:=0) m m L ⟨_,aW _ rfl,rfl,rfl⟩ (o.fpOk (aH _) (o.hok.fresh (aH _))) f c g E G λU M=>⟨.non,_,M,rfl,q⟩
noncomputable def wo(ts:List Addr)(H:Hp):Hp:=λb=>if b∈ts then none else H b
theorem vZ(h:b∈ts):wo ts H b=none:=if_pos h
theorem xP(h:b∉ts):wo ts H b=H b:=if_neg h
theorem wB(ts:List Addr)(H:Hp):Same (wo ts H) H:=λb o e=>by
 by_cases h:b∈ts
 .rw [vZ h] at e;cases e
 .rw [xP h] at e;exact e
def Ext(ts:List Addr)(H H':Hp):Prop := ∀b o,b∉ts->H b=some o->H' b=some o
theorem Ext.refl(ts:List Addr)(H:Hp):Ext ts H H:=λ_ _ _ h=>h
theorem Ext.trans(a:Ext ts H d)(b:Ext ts d f):Ext ts H f:=λc o h e=>b c o h (a c o h e)
theorem Ext.same(a:Ext ts H H'):Same (wo ts H) (wo ts H'):=λb o e=>by
 by_cases h:b∈ts
 .rw [vZ h] at e;cases e
 .rw [xP h] at e ⊢;exact a b o h e
theorem Ext.put{t:Addr}(h:t∈ts):Ext ts H (upd H t o):=λb u a e=>by
 let ne:b≠t:=λz=>a (by rw [z];exact h);rw [zD ne];exact e
theorem Ext.laid(h:H l=none):Ext ts H (upd H l o):=λb u _ e=>by
 rw [zD (zF e h)];exact e
theorem layQq(z:upd H p o=G)(h:H p=none):Ext [] H G/\G p=some o:=by subst z;exact⟨.laid h,zC⟩
theorem Ext.mono(a:Ext ts H H')(h:∀b∈ts,b∈us):Ext us H H':=λb o c e=>a b o (λz=>c (h b z)) e
theorem Ext.drop(a:Ext (l::ts) H H')(h:H l=none):Ext ts H H':=λb o c e=>a b o (λz=>by
 rcases aL.mp z with y | y
 .rw [y,h] at e;cases e
 .exact c y) e
noncomputable def yo(H0:Hp)(ts:List Addr)(H:Hp):Hp:=λb=>match H0 b with
 | some _=>none
 | none=>wo ts H b
theorem zt(a:H0 b=none)(h:b∉ts):yo H0 ts H b=H b:=by
 unfold yo;rw [a];exact xP h
theorem xE(h:yo H0 ts H b=some o):H0 b=none/\b∉ts/\H b=some o:=by
 unfold yo at h;cases z:H0 b with
 | some _=>rw [z] at h;cases h
 | none =>
  rw [z] at h;let h:wo ts H b=some o:=h;by_cases a:b∈ts
  .rw [vZ a] at h;cases h
  .rw [xP a] at h;exact⟨rfl,a,h⟩
theorem Ext.none(a:Ext ts H H')(h:b∉ts)(e:H' b=none):H b=none:=by
 cases z:H b with
 | none=>rfl
 | some o=>rw [a _ _ h z] at e;cases e
theorem Ext.young(a:Ext ts H H'):Same (yo H0 ts H) (yo H0 ts H'):=λb o e=>by
 let⟨d,c,f⟩:=xE e;rw [zt d c];exact a b o c f
theorem Ql(h:∀b∈ts,b∈us):Same (yo H0 us H) (yo H0 ts H):=λb o e=>by
 let⟨a,c,d⟩:=xE e;rw [zt a (λz=>c (h b z))];exact d
theorem yo_same:Same (yo H0 ts H) H:=λb o e=>(xE e).2.2
theorem qSu(a:Ext ts H0 c)(h:∀b∈ts,b∈us):Same (yo c us H) (yo H0 us H):=λb o e=>by
 let⟨f,d,g⟩:=xE e;rw [zt (a.none (λz=>d (h b z)) f) d];exact g
theorem Qm{H0 a:Hp}(h:∀b∈us,b∈ts\/a b≠none):Same (yo a ts H) (yo a us H):=λb o e=>by
 let⟨c,d,f⟩:=xE e;rw [zt c (λz=>(h b z).elim d (λy=>y c))];exact f
def Tape(H:Hp)(t:Addr)(k:Nat):Prop := ∃(a b c:Int),H t=some (.lst [.int a,.int b,.int c])/\0<=a/\0<=b/\b<2^62/\0<=c/\c<=k
theorem Tape.mono{t:Addr}{k j:Nat}(h:Tape H t k)(l:k<=j):Tape H t j:=by
 let⟨a,b,c,d,e,f,g,i,m⟩:=h;exact⟨a,b,c,d,e,f,g,i,∎⟩
theorem Tape.ext{t:Addr}{k:Nat}(h:Tape H t k)(e:Ext ts H H')(d:t∉ts):Tape H' t k:=by
 let⟨a,b,c,f,r⟩:=h;exact⟨a,b,c,e _ _ d f,r⟩
theorem Tape.ne{t l:Addr}{k:Nat}(h:Tape H t k)(d:H l=none):l≠t:=by
 let⟨a,b,c,e,_⟩:=h;exact (zF e d).symm
def yp:Sp:=λvs H Q _ => ∃(t:Addr) (k:Nat) (n:Int),vs = [.ref t,.int n]/\Tape H t k/\k<=2^40/\0<n/\n<2^24 /\ ∀(r:Int) (H':Hp),0<=r->r<n->Tape H' t (k+1)->Ext [t] H H'->(∀b,b≠t->H' b=H b)->Q (.int r) H'
section
variable{K:PySem.W.Frag}{H:Hp}{Q:VK}{p:Addr}{xs:List V}{i j:Int}{v:V}
theorem wC(h:ta σ H λx a=>tb σ a λy b=>r x y b Q):tOp r ta tb σ H Q:=h
theorem yS(h : σ[n]? = some (some v))(q:Q v H):tVar n σ H Q:=⟨v,h,q⟩
theorem r_c(q:Q v H):tC v σ H Q:=q
theorem wB1(q:Q (g i j) H):rI0 g (.int i) (.int j) H Q:=⟨i,j,rfl,rfl,q⟩
theorem xl(c:(-(2^64)<i/\i<2^64)\/(-(2^64)<j/\j<2^64))(q:Q (.int (i*j)) H):rI CMul (λi j =>.int (i*j)) (.int i) (.int j) H Q:=⟨i,j,rfl,rfl,c,q⟩
theorem wD(a:0<=j)(b:j<=1000000)(c:i.natAbs<2^64)(q:Q (.int (i^j.toNat)) H):rI CPow (λi j =>.int (i^j.toNat)) (.int i) (.int j) H Q:=⟨i,j,rfl,rfl,⟨a,b,c⟩,q⟩
theorem Qn(a:0<j)(b:j<1073741824)(q:Q (.int (i / j)) H):rI CDiv (λi j =>.int (i / j)) (.int i) (.int j) H Q:=⟨i,j,rfl,rfl,⟨a,b⟩,q⟩
theorem yq(c:0<j)(q:Q (.int (i%j)) H):rI (λ_ j=>0<j) (λi j =>.int (i%j)) (.int i) (.int j) H Q:=⟨i,j,rfl,rfl,c,q⟩
theorem wAt(h:ta σ H λx a=>rU g x a Q):tUn (rU g) ta σ H Q:=h
theorem r_u(q:Q (g i) H):rU g (.int i) H Q:=⟨i,rfl,q⟩
theorem ze(h:SqL K H p xs)(e:atI xs i=some v)(q:Q v H):rIxL K (.ref p) (.int i) H Q:=⟨p,xs,i,v,rfl,rfl,h,e,q⟩
theorem zf(h:SqT K H p xs)(e:atI xs i=some v)(q:Q v H):rIxT K (.ref p) (.int i) H Q:=⟨p,xs,i,v,rfl,rfl,h,e,q⟩
theorem Qo(h:t { D with nx:=u D } σ H):tSeq t u D σ H:=h
theorem wB2(h:te σ H λx a=>g x σ a D.nx):tAsg te g D σ H:=h
theorem yb(q:R (σ.set n (some v)) H):gName n v σ H R:=q
theorem wAx(h:te σ H D.rt):tRet te D σ H:=h
theorem uz(h:te σ H λ_ a=>D.nx σ a):tDrop te D σ H:=h
theorem xQ(h:D.nx σ H):tNext D σ H:=h
theorem wB7(h:tt σ H λb a=>if b=true then t D σ a else u D σ a):tIfS tt t u D σ H:=h
theorem kA(h:te σ H λx H' => ∃k,x = .bl k/\R k H'):tTest te σ H R:=h
theorem wAv(h:te σ H λx H' => ∃k,x = .bl k/\R k H'):tB te σ H R:=h
theorem wE{b:Bool}{R:Bool->Prop}(q:R b):∃k,V.bl b = .bl k/\R k:=⟨b,rfl,q⟩
theorem kB(h:to σ H λo a=>ti σ a λi b=>ts o i v b λc=>R σ c):gSub to ti ts v σ H R:=h
theorem wy(h:H p=some (.lst xs))(e:ixN xs.length i=some n)(q:R (upd H p (.lst (xs.set n v)))):rSetL (.ref p) (.int i) v H R:=⟨p,xs,i,n,rfl,rfl,h,e,q⟩
theorem xR(q:R [] H):tNil σ H R:=q
theorem wF(h:ta σ H λx a=>tr σ a λxs b=>R (x::xs) b):tCons ta tr σ H R:=h
theorem kC(h:tl σ H λxs a=>xs.length<=sizeLine /\ ∀p,a p=none->Q (.ref p) (upd a p (.tup xs))):tTup tl σ H Q:=h
theorem va(h:tl σ H λxs a=>xs.length<=sizeLine /\ ∀p,a p=none->Q (.ref p) (upd a p (.lst xs))):tLst tl σ H Q:=h
theorem kD(h:tl σ H λvs a=>sp (vs++dvs) a Q E):tCall sp dvs E tl σ H Q:=h
theorem wAn(h:tl σ H λvs b=>a vs b Q):tCB a tl σ H Q:=h
theorem kE(h:tt σ H λb a=>if b=true then ta σ a Q else tb σ a Q):tIf tt ta tb σ H Q:=h
theorem vc(h:tt σ H λc a=>if c=true then t2 σ a R else R false a):tAnd tt t2 σ H R:=h
theorem wB0(h:tt σ H λc a=>if c=true then R true a else t2 σ a R):tOr tt t2 σ H R:=h
theorem kF(h:tt σ H λc a=>R (!c) a):tNot tt σ H R:=h
theorem kG(h:tl σ H λvs a => ∃v w,vs = [v,w]/\D.nx ((σ.set n (some v)).set m (some w)) a):tPar n m tl D σ H:=h
end
section
variable{K:PySem.W.Frag}{H:Hp}{l t:Addr}{xs:List V}
theorem zn(hT:Tape H t k)(a:k<=2^40)(c:0<n)(d:n<2^24)(q:∀r H',0<=r->r<n->Tape H' t (k+1)->Ext [t] H H'->(∀b,b≠t->H' b=H b)->Q (.int r) H'):yp ([.ref t,.int n] ++ []) H Q E:=⟨t,k,n,rfl,hT,a,c,d,q⟩
theorem zw(q:Q (.bl (decide (i=j))) H):rEq (.int i) (.int j) H Q:=⟨rfl,by
 let e:decide (V.int i=V.int j)=decide (i=j):=by rw [gO];simp
 rw [e];exact q⟩
theorem yT(q:Q (.bl (decide (a=b))) H):rEq (.str a) (.str b) H Q:=⟨rfl,by
 let e:decide (V.str a=V.str b)=decide (a=b):=by rw [gO];simp
 rw [e];exact q⟩
theorem yA{R:Prop}(h:H l=some (.lst xs))(q:R):tyV K "list" (.ref l) H/\R:=⟨.inl ⟨rfl,_,SqL.of h⟩,q⟩
theorem yL(h:H l=some (.lst xs))(hz:xs.length<sizeLine)(q:Q .non (upd H l (.lst (xs ++ [y])))):wn (.ref l) [y] H Q:=⟨l,xs,y,rfl,rfl,h,hz,q⟩
theorem bit01(b:Bool):0<=(if b=true then (1:Int) else 0)/\(if b=true then (1:Int) else 0)<=1:=by cases b <;> decide
end
theorem len2{n:Nat}(h:n<=1000):n<=sizeLine:=cD h ⋯
theorem zo{K:PySem.W.Frag}:(cxOf b P w K mg base N a scope f c A outer s H E).nox.K=K:=rfl
theorem zv:(zQ X a b scope c s H ex).K=X.K:=rfl
def Has(P:Program)(w:World)(K:PySem.W.Frag)(mg:Str->Option Value)(base:Heap)(x:Str)(k:Nat)(ps:List Str)(sp:Sp):Prop :=
 ∃f fd,FnOk P w K mg base CX0 k f fd ps sp/\mg x=some (.ref f)/\PySem.W.keepIn K (.ref f)=true/\Binds K fd ps []
theorem zL{k j:Nat}{t:TA}{p pos:Pos}(h:Has X.prog X.w X.K X.mg X.base x k c sp)(d:Room j X.A)(g:k<=j)(i:PA X (e::es) t)(l:Gl X x:=by rfl)
  (a:(x == ("__debug__" : Str))=false:=by decide) (m:starEach (e::es) X.env=(false,eval e X.env)::starEach es X.env:=by rfl) (b:(backTo pos (starEach es X.env)).any (·.1)=false:=by rfl) :
  PE X (.Call (.Name x p) (e::es) [] pos) (tCall sp [] E0 t):=by
 let⟨f,r,G,n,o,q⟩:=h;exact qXe G (d.mono g) l n o q .nil pass0 i a m b
def Qp(K:PySem.W.Frag):Sp:=λvs H Q _ => ∃(a:Addr) (ns:List Int) (k:Nat),vs = [.ref a,.int k]/\SqL K H a (ns.map V.int)/\k<=100 /\ ∀(t:Addr) (H':Hp),H t=none->Tape H' t 0->Same H H'->Q (.ref t) H'
def kH(c:Nat)(lo hi:Int):Sp:=λvs H Q _ => ∃(t:Addr) (k:Nat),vs = [.ref t]/\Tape H t k/\k+c<=2^40 /\ ∀(r:Int) (H':Hp),lo<=r->r<=hi->Tape H' t (k+c)->Ext [t] H H'->Q (.int r) H'
abbrev Qq:Sp:=kH 3 1 12
abbrev Qr:Sp:=kH 3 (-(10^12)) (10^12)
noncomputable def chk(X:Cx)(own:List Str)(cap:List Nat)(scope:Scope):Bool :=
 decide (scope.kind = .function)&&(scope.names.all λx=>decide (x.2 ≠ .cell))&&(scope.names.all λx => !decide (x.2 = .local)||decide (scope.names.lookup x.1=some .local)) &&
 (scope.names.all λx => !decide (x.2 = .free)||(decide (X.env.scope.names.lookup x.1=some .cell)||decide (X.env.scope.names.lookup x.1=some .free)))&&(own.all λx=>decide (scope.names.lookup x=some .local)) &&
 (cap.all λj=>decide (scope.names.lookup (X.N.getD j "")=some .free)&&decide (j<X.N.length))
theorem CompScope.of{own:List Str}(h:chk X own a scope=true):CompScope X own a scope:=by
 unfold chk at h;simp only [bP,List.all_eq_true,decide_eq_true_eq,Bool.or_eq_true,Bool.not_eq_true',decide_eq_false_iff_not] at h;obtain⟨⟨⟨⟨⟨c,d⟩,f⟩,g⟩,i⟩,k⟩:=h;exact⟨c,λx b=>d x b,λx b e=>(f x b).resolve_left (λz=>z e),λx b e=>(g x b).resolve_left (λz=>z e),i,λj l=>k j l⟩
section
variable{K:PySem.W.Frag}{a:Addr}{xs:List V}{g:TG}{tt:TT}{B:TB}{σ : St}{H:Hp}{Q:St->Hp->Prop}
theorem xm{n:Nat}(Pv:Nat->St->Hp->Prop)(k:Pv 0 σ H)(f:∀i σ H,i<n->Pv i σ H->J.go i H)(h:∀ σ H,Pv n σ H->J.stop n H)(l:∀i σ H (R:St->Hp->Prop),i<n->Pv i σ H->(∀ a H',Pv (i+1) a H'->R a H') -> ∀x H',J.yld i H x H'->g x σ H' λc o=>tt c o λb j=>if b=true then B c j R else R c j)(hd:∀ σ H,Pv n σ H->Q σ H):LoopT J g tt B σ H Q:=by
 refine⟨λi m σ H=>m=n - i/\i<=n/\Pv i σ H,⟨n,∅,aX _,k⟩,?_⟩;rintro i m σ H ⟨rfl,r,p⟩;by_cases d:i<n
 .refine .inr ⟨f i σ H d p,λx H' y=>?_⟩;exact l i σ H _ d p (λa H' q=>⟨n - (i+1),∎,rfl,d,q⟩) x H' y
 .let e:i=n:=by lia
  subst e;exact .inl ⟨h σ H p,hd σ H p⟩
theorem yr(Pv:Nat->St->Hp->Prop)(k:Pv 0 σ H)(h:∀i σ H,i<=xs.length->Pv i σ H->SqL K H a xs)(l:∀i x σ H (R:St->Hp->Prop),xs[i]? = some x->Pv i σ H->(∀ d H',Pv (i+1) d H'->R d H')->g x σ H λc m=>tt c m λb j=>if b=true then B c j R else R c j)(hd:∀ σ H,Pv xs.length σ H->Q σ H):LoopT (Itl K a) g tt B σ H Q:=by
 refine xm (n:=xs.length) Pv k (λi σ H f p=>⟨xs,xs[i],h i σ H (bS f) p,by simp [f]⟩) (λσ H p=>⟨xs,h _ σ H (aH _) p,aH _⟩) (λi σ H R f p o x H' y=>?_) hd;let⟨e,y⟩:=y;subst e;exact l i x σ _ R (y xs (h i σ _ (bS f) p)) p o
theorem wG{lo:Int}{n:Nat}(Pv:Nat->St->Hp->Prop)(h:Pv 0 σ H)(j:∀i σ H (R:St->Hp->Prop),i<n->Pv i σ H->(∀ c H',Pv (i+1) c H'->R c H')->g (.int (lo+i)) σ H λa k=>tt a k λb f=>if b=true then B a f R else R a f)(hd:∀ σ H,Pv n σ H->Q σ H):LoopT (Itr lo n) g tt B σ H Q:=by
 refine xm (n:=n) Pv h (λi σ H d p=>d) (λσ H p=>aH _) (λi σ H R d p l x H' y=>?_) hd;let⟨e,y⟩:=y;subst e y;exact j i σ _ R d p l
theorem Qs(Pv:Nat->St->Hp->Prop)(k:Pv 0 σ H)(h:∀i σ H,i<=xs.length->Pv i σ H->SqL K H a xs)(l:∀i x σ H p (R:St->Hp->Prop),xs[i]? = some x->Pv i σ H->H p=none->(∀ d H',Pv (i+1) d H'->R d H')->g (.ref p) σ (upd H p (.tup [.int i,x])) λc m=>tt c m λb j=>if b=true then B c j R else R c j)(hd:∀ σ H,Pv xs.length σ H->Q σ H):LoopT (Ite K a) g tt B σ H Q:=by
 refine xm (n:=xs.length) Pv k (λi σ H f p=>⟨xs,xs[i],h i σ H (bS f) p,by simp [f]⟩) (λσ H p=>⟨xs,h _ σ H (aH _) p,aH _⟩) (λi σ H R f p o x H' y=>?_) hd;let⟨q,y,e,r,s,t⟩:=y;subst e t;exact l i y σ H q R (s xs (h i σ H (bS f) p)) p r o
theorem qRc(Pv:Nat->St->Hp->Prop)(l:Pv 0 σ H)(h:∀i σ H,i<=kvs.length->Pv i σ H->H a=some (.frz o (.dK kvs)))(m:∀i k v σ H (R:St->Hp->Prop),kvs[i]? = some (k,v)->Pv i σ H->(∀ d H',Pv (i+1) d H'->R d H')->g (kV k) σ H λc q=>tt c q λb j=>if b=true then B c j R else R c j)(hd:∀ σ H,Pv kvs.length σ H->Q σ H):LoopT (Itd a o kvs) g tt B σ H Q:=by
 refine xm (n:=kvs.length) Pv l (λi σ H f p=>⟨h i σ H (bS f) p,f⟩) (λσ H p=>⟨h _ σ H (aH _) p,aH _⟩) (λi σ H R f p r x H' y=>?_) hd;let⟨e,k,v,s,t⟩:=y;subst e t;exact m i k v σ _ R s p r
end
theorem qUx{K:PySem.W.Frag}{g:TG}{j:TS}{D:Ends}(Pv:Nat->St->Hp->Prop)(l:Pv 0 σ H)(n:∀i σ H,i<=xs.length->Pv i σ H->SqL K H a xs)(o:∀i x σ H p,xs[i]? = some x->Pv i σ H->H p=none->g (.ref p) σ (upd H p (.tup [.int i,x])) λb h=>j { D with nx:=Pv (i+1),ct:=Pv (i+1),bk:=D.nx } b h)(s:∀ σ H,Pv xs.length σ H->D.nx σ H):∃W:Nat->Nat->St->Hp->Prop,(∃m,W 0 m σ H) /\ ∀i m σ H,W i m σ H ->
   ((Ite K a).stop i H/\D.nx σ H)\/((Ite K a).go i H /\ ∃N:St->Hp->Prop,(∀ c d,N c d -> ∃k,k<m/\W (i+1) k c d) /\ ∀x d,(Ite K a).yld i H x d->g x σ d λb h=>j { D with nx:=N,ct:=N,bk:=D.nx } b h):=by
 refine⟨λi m σ H=>m=xs.length - i/\i<=xs.length/\Pv i σ H,⟨xs.length,∅,aX _,l⟩,?_⟩;rintro i m σ H ⟨rfl,t,p⟩;let q:=n i σ H t p;by_cases f:i<xs.length
 .refine .inr ⟨⟨xs,xs[i],q,by simp [f]⟩,Pv (i+1),λc d u=>⟨xs.length - (i+1),∎,rfl,f,u⟩,λx d y=>?_⟩;let⟨r,y,e,v,w,z⟩:=y;subst e z;exact o i y σ H r (w xs q) p v
 .let e:i=xs.length:=by lia
  subst e;exact .inl ⟨⟨xs,q,aH _⟩,s σ H p⟩
noncomputable abbrev intsD(ns:List Int):PyData :=.list (ns.map .int)
def NxOk(m:Int)(nx:List (List Int)):Prop:=(nx.length:Int)=m /\ ∀ns∈nx,ns = []\/(∃x,ns = [x]/\1<=x/\x<m) \/ ∃x y,ns = [x,y]/\x≠y/\1<=x/\x<m/\1<=y/\y<m
def Qt(K:PySem.W.Frag):Sp:=λvs H Q _ => ∃(t:Addr) (k:Nat) (m:Int),vs = [.ref t,.int m]/\Tape H t k/\k+30<=2^40/\1<=m/\m<=12 /\
 ∀(l:Addr) (nx:List (List Int)) (H':Hp),H l=none->Tape H' t (k+30)->Ext [t] H H'->NxOk m nx->Den K (yo H [t] H') (.list (nx.map intsD)) (.ref l)->Q (.ref l) H'
section
variable{K:PySem.W.Frag}{σ : St}{H:Hp}{Q:VK}{l d:Addr}{xs:List V}{v y:V}{to ta tb te td ty tk tv tx:TE}{tl:TA}
theorem wz(h:to σ H λx a=>tyV K T x a/\tl σ a λxs b=>r x xs b Q):tBM K T r to tl σ H Q:=h
theorem kI(h:to σ H λx a=>tyV K T x a/\r x [] a Q):tBM0 K T r to σ H Q:=h
theorem wAu{R:Prop}(h:H d=some (.dK kvs))(q:R):tyV K "dict" (.ref d) H/\R:=⟨.inr (.inr (.inl ⟨rfl,.inl ⟨_,h⟩⟩)),q⟩
theorem vf(h:wi σ H λJ d => ∀l,d l=none->LoopT J g (tAll tts) (c l) (wu a b σ) (upd d l o) λ_ e=>Q (.ref l) e):tComp a b o wi g tts c σ H Q:=h
theorem vg(h:te σ H λx b => ∃a,x = .ref a/\(∃xs,SqL K b a xs)/\R (Itl K a) b):iList K te σ H R:=h
theorem kJ(h:tl σ H λvs b => ∃a,vs = [.ref a]/\(∃xs,SqL K b a xs)/\R (Ite K a) b):iEnum K tl σ H R:=h
theorem kK(h:te σ H λx a => ∃d kvs,x = .ref d/\a d=some (.dK kvs) /\ ∀o,R (Itd d o kvs) (upd a d (.frz o (.dK kvs)))):iDict te σ H R:=h
theorem kL(h:te σ H λx b => ∃a,x = .ref a/\(∃xs,SqT K b a xs)/\R (Itt K a) b):iTup K te σ H R:=h
theorem kM(h:tl σ H λvs a => ∃j:Int,vs = [.int j] /\ -(2^62)<=j/\j<2^62/\R (Itr 0 j.toNat) a):iRng1 tl σ H R:=h
theorem kN(h:wi σ H λJ d => ∃W:Nat->Nat->St->Hp->Prop,(∃m,W 0 m σ d) /\ ∀i m σ H,W i m σ H ->
 (J.stop i H/\D.nx σ H)\/(J.go i H /\ ∃N:St->Hp->Prop,(∀ a H',N a H' -> ∃c,c<m/\W (i+1) c a H') /\ ∀x H',J.yld i H x H'->g x σ H' λb e=>tb2 { D with nx:=N,ct:=N,bk:=D.nx } b e)):tFor wi g tb2 D σ H:=h
theorem qX5(h:∀p,H p=none->Q (.ref p) (upd H p (.dK []))):QN σ H Q:=h
theorem kO(h:ty σ H λy c=>td σ c λx b => ∃a o,x = .ref a/\DGet b a y o/\Q (.bl o.isSome) b):tDIn ty td σ H Q:=h
theorem kP(h:ty σ H λy c=>td σ c λx b => ∃a o,x = .ref a/\DGet b a y o/\Q (.bl (!o.isSome)) b):QK ty td σ H Q:=h
theorem kQ(h:td σ H λx c=>ty σ c λy b => ∃a v,x = .ref a/\DGet b a y (some v)/\Q v b):tDGet td ty σ H Q:=h
theorem kR(h:td σ H λx b => ∃a,x = .ref a/\IsD b a/\ty σ b λy d=>tx σ d λz c => ∃o,DGet c a y o/\Q (o.getD z) c):um td ty tx σ H Q:=h
theorem kS(h:tv σ H λv c=>td σ c λx d=>ty σ d λy e => ∃a b,x = .ref a/\DPut e a y v b/\D.nx σ b):sDPut td ty tv D σ H:=h
theorem kT(h:te σ H λv a => ∃vs,a l=some (.lst vs)/\vs.length<sizeLine/\R σ (upd a l (.lst (vs ++ [v])))):eApp te l σ H R:=h
theorem kU(h:tk σ H λx b=>tv σ b λy a => ∃kvs k,x=kV k/\a l=some (.dK kvs)/\kvs.length<sizeLine/\R σ (upd a l (.dK (putK kvs k y)))):ePut tk tv l σ H R:=h
theorem kW(h:R true H):tAll [] σ H R:=h
theorem kX(h:a σ H λb c=>if b=true then R true c else R false c):tAll [a] σ H R:=h
theorem yU{n:Nat}{t:TGs}(h:SqT K H l xs)(a:xs.length=n)(q:t xs σ H R):gTup K n t (.ref l) σ H R:=⟨l,xs,rfl,h,a,q⟩
theorem kY{t:TG}(h:t v σ H λa H'=>u xs a H' R):gCons t u (v::xs) σ H R:=⟨v,xs,rfl,h⟩
theorem kZ(h:R σ H):gNil [] σ H R:=⟨rfl,h⟩
theorem wAw(h:te σ H λx c=>a σ c λl d=>b σ d λu e=>r x l u e Q):tSl r te a b σ H Q:=h
theorem kd(h:R none H):oo σ H R:=h
theorem kf(h:te σ H λx a => ∃i,x = .int i/\R (some i) a):tPart te σ H R:=h
end
def Nx(N A:St->Hp->Prop):Prop := ∀ σ H,A σ H->N σ H
theorem yF(h:Nx N A)(q:A σ H):N σ H:=h σ H q
def NxV(Q' Q:VK):Prop := ∀v H,Q v H->Q' v H
theorem vh(h:NxV a Q)(q:Q v H):a v H:=h v H q
theorem vA{K:PySem.W.Frag}{g:TG}{e:TS}{D:Ends}(Pv:Nat->St->Hp->Prop)(j:Pv 0 σ H)(k:∀i σ H,i<=xs.length->Pv i σ H->SqL K H a xs)(l:∀i x σ H,xs[i]? = some x->Pv i σ H -> ∀(N B C:St->Hp->Prop) (R:VK),Nx N (Pv (i+1))->Nx C (Pv (i+1))->NxV R D.rt->g x σ H λb d=>e ⟨N,R,B,C⟩ b d)(hd:∀ σ H,Pv xs.length σ H->D.nx σ H):∃W:Nat->Nat->St->Hp->Prop,(∃m,W 0 m σ H) /\ ∀i m σ H,W i m σ H ->
   ((Itl K a).stop i H/\D.nx σ H)\/((Itl K a).go i H /\ ∃N:St->Hp->Prop,(∀ c H',N c H' -> ∃f,f<m/\W (i+1) f c H') /\ ∀x H',(Itl K a).yld i H x H'->g x σ H' λb d=>e { D with nx:=N,ct:=N,bk:=D.nx } b d) :=
 qUw Pv j k (λi x σ H n o=>l i x σ H n o _ _ _ _ (λ_ _ h=>h) (λ_ _ h=>h) (λ_ _ h=>h)) hd
theorem xn{lo:Int}{n:Nat}{g:TG}{d:TS}{D:Ends}(Pv:Nat->St->Hp->Prop)(f:Pv 0 σ H)(j:∀i σ H,i<n->Pv i σ H -> ∀(N B C:St->Hp->Prop) (R:VK),Nx N (Pv (i+1))->Nx C (Pv (i+1))->NxV R D.rt->g (.int (lo+i)) σ H λa c=>d ⟨N,R,B,C⟩ a c)(hd:∀ σ H,Pv n σ H->D.nx σ H):∃W:Nat->Nat->St->Hp->Prop,(∃m,W 0 m σ H) /\ ∀i m σ H,W i m σ H ->
   ((Itr lo n).stop i H/\D.nx σ H)\/((Itr lo n).go i H /\ ∃N:St->Hp->Prop,(∀ b H',N b H' -> ∃e,e<m/\W (i+1) e b H') /\ ∀x H',(Itr lo n).yld i H x H'->g x σ H' λa c=>d { D with nx:=N,ct:=N,bk:=D.nx } a c) :=
 qRv Pv f (λi σ H k l=>j i σ H k l _ _ _ _ (λ_ _ h=>h) (λ_ _ h=>h) (λ_ _ h=>h)) hd
inductive Deed where
 | set (b n:Int)
 | add (b o:Int)
 | tell (b:Int)
 | call (c:Int)
 | save (b:Int)
 | back (b:Int)
noncomputable def deedD:Deed->PyData
 | .set b n =>.tuple [.str "set",.int b,.int n]
 | .add b o =>.tuple [.str "add",.int b,.int o]
 | .tell b =>.tuple [.str "tell",.int b]
 | .call c =>.tuple [.str "call",.int c]
 | .save b =>.tuple [.str "save",.int b]
 | .back b =>.tuple [.str "back",.int b]
def xo(works:Int):Deed->Prop
 | .set b n=>0<=b/\b<8 /\ -(10^12)<=n/\n<=10^12
 | .add b o=>0<=b/\b<8/\0<=o/\o<8
 | .tell b=>0<=b/\b<8
 | .call c=>0<=c/\c<works
 | .save b=>0<=b/\b<8
 | .back b=>0<=b/\b<8
noncomputable def endD:List Int->PyData
 | [] =>.tuple [.str "out"]
 | [x] =>.tuple [.str "go",.int x]
 | x::y::_ =>.tuple [.str "fork",.int x,.int y]
structure Blk where
 ds:List Deed
 ns:List Int
noncomputable def blkD(b:Blk):PyData :=.tuple [.list (b.ds.map deedD),endD b.ns]
noncomputable def workD(w:List Blk):PyData :=.list (w.map blkD)
def NsOk(m:Int)(ns:List Int):Prop:=ns = []\/(∃x,ns = [x]/\1<=x/\x<m) \/ ∃x y,ns = [x,y]/\x≠y/\1<=x/\x<m/\1<=y/\y<m
structure BlkOk(m works:Int)(b:Blk):Prop where
 ns:NsOk m b.ns
 ds:∀d∈b.ds,xo works d
 few:b.ds.length<=20
structure WorkOk(m works:Int)(w:List Blk):Prop where
 len:(w.length:Int)=m
 blk:∀b∈w,BlkOk m works b
structure BsOk(bs:List Int):Prop where
 one:1<=bs.length
 few:bs.length<=8
 all:∀b∈bs,0<=b/\b<8
theorem Qu{k c:Nat}{lo hi:Int}{t:Addr}(hT:Tape H t k)(a:k+c<=2^40)(q:∀r H',lo<=r->r<=hi->Tape H' t (k+c)->Ext [t] H H'->Q (.int r) H'):kH c lo hi ([.ref t] ++ []) H Q E:=⟨t,k,rfl,hT,a,q⟩
theorem vB{ns:List Int}{r:Int}(b:0<=r)(c:r<ns.length):∃n,n∈ns/\atI (ns.map V.int) r=some (.int n):=by
 let⟨j,rfl⟩:=eM b;let a:j<ns.length:=by exact_mod_cast c
 refine⟨ns[j],dQ a,?_⟩;let:=zX (xs:=ns.map V.int) (j:=j) (by rw [aU,aC a];rfl);exact this
def qZj:List V->Hp->VK->Prop:=λxs H Q => ∃j:Int,xs = [.int j] /\ ∀l,H l=none->Q (.ref l) (upd H l (.rng 0 j))
theorem qM0:CallR X (.type "range") qZj:=by
 intro a s σ H c d Q I r h;let⟨j,rfl,q⟩:=h;let⟨u,rfl,t,rfl⟩:=vals1 r;refine call_range_1 ⟨.ref s.heap.objs.size,_,?_,rfl,q _ (I.hok.fresh (aH _))⟩;exact I.laid (λb o e=>aE _ e) (aH _) ⟨_,_,_,aW _ rfl⟩
def qTk:List V->Hp->VK->Prop:=λxs H Q => ∃(p:Addr) (j:Nat),xs = [.ref p]/\H p=some (.rng 0 j)/\j<=1000 /\ ∀l,H l=none->Q (.ref l) (upd H l (.lst ((List.range j).map λ(i:Nat)=>V.int (i:Int))))
theorem qIs(m:X.A.handled=none):CallR X (.type "list") qTk:=by
 intro f s σ H D a Q I r h;let⟨p,j,rfl,w,x,q⟩:=h;let⟨u,rfl,y⟩:=vals1 r;cases y;obtain⟨t,u,v,e⟩:∃t u v,s.heap.get? p=some { cls :=.type "range",data :=.fields #[.int 0 t,.int (j:Int) u,.int 1 v] }:=I.hok p _ w;refine call_list_range m e (small_one ⋯ ⋯ ∎ ∎) (n:=j) (by rw [rangeSize_one];split <;> lia) ∎ λE tk b c z B g=>?_;refine⟨.ref s.heap.objs.size,_,I.laid (o :=.lst ((List.range j).map λ(i:Nat)=>V.int (i:Int))) z (aH _) (show _/\_ from⟨?_,b.toList,c,?_,?_⟩),rfl,q _ (I.hok.fresh (aH _))⟩
 .rw [aB,bQ];exact len2 x
 .let l:b.toList.length=j:=by rw [aM];exact g.1
  let d:∀(i:Nat) v,b.toList[i]? = some v -> ∃t,v=Value.int (i:Int) t:=λi v d=>by
   let⟨t,h⟩:=g.2 i v (by rw [<-d,bA]);exact⟨t,by rw [h];congr 1;lia⟩
  generalize b.toList=a at l d;subst l;let key:∀(a:List Value) (k:Nat),(∀(i:Nat) v,a[i]? = some v -> ∃t,v=Value.int ((k+i:Nat):Int) t)->Vals ((List.range' k a.length).map λ(i:Nat)=>V.int (i:Int)) a:=by
   intro a
   induction a with
   | nil=>intro k _;exact .nil
   | cons u a C =>
    intro k h;let⟨t,rfl⟩:=h 0 u rfl;refine .cons ⟨t,rfl⟩ (C (k+1) λi v e=>?_);let⟨t,e⟩:=h (i+1) v e;exact⟨t,by rw [e];congr 1;lia⟩
  let:=key a 0 (λi v e=>by let⟨t,h⟩:=d i v e;exact⟨t,by rw [h];congr 1;lia⟩)
  rwa [<-List.range_eq_range'] at this
 .rw [Array.toArray_toList];exact B
theorem Qv(K:PySem.W.Frag)(a:X.K=K):IxR X (rIxL K):=a▸zV
theorem yh(K:PySem.W.Frag)(a:X.K=K):IxR X (rIxT K):=a▸zq
theorem qWl(K:PySem.W.Frag)(a:X.K=K):SlR X (rSlT K):=a▸wj
theorem Qw(K:PySem.W.Frag)(a:X.K=K):CallR X (.builtin "len") (λxs H Q => ∃p ys,xs = [.ref p]/\(SqL K H p ys\/SqT K H p ys)/\Q (.int ys.length) H):=a▸yE
theorem qUn(K:PySem.W.Frag)(a:X.K=K):CallR X (.type "list") (λxs H Q => ∃p ys,xs = [.ref p]/\(SqL K H p ys\/SqT K H p ys) /\ ∀l,H l=none->Q (.ref l) (upd H l (.lst ys))):=a▸oz
theorem qTq(K:PySem.W.Frag)(b:X.K=K)(d:PE X l a):PI X c l (iList K a):=b▸yJ d
theorem wH(K:PySem.W.Frag)(b:X.K=K){pos:Pos}{k:Nat}{t:TGs}{n:Nat}(c:X.calm=true)(h:PGs X es t)(d:(assignEach es X.env).length=n:=by rfl)(a:(assignEach es X.env).findIdx? (·.1)=none:=by rfl):PG X (.Tuple es k pos) (gTup K n t):=b▸xC c h d a
theorem qZu(K:PySem.W.Frag)(j:X.K=K){id:String}{t:TA}{c a:Pos}(k:PlainAttrs T)(slot:Slot T name id)(h:typeOf (.builtin id)=pure (.type "method_descriptor"))(l:MtR X id r)(m:PE X o i)(n:PA X (e::es) t)
  (d:attributeBase o name X.env (eval o X.env)=eval o X.env:=by rfl)
  (g:((backTo a (starEach (e::es) X.env)).all (λx => !x.1)&&(backToKw a (keywordEach [] X.env)).all (λx=>x.1.isSome)
   && decide ((e::es).length+([]:List Keyword).length+(if ([]:List Keyword).isEmpty then 0 else 1)<30))=true:=by rfl)
  (f:(c.endLine == a.line)=true:=by rfl) (p:starEach (e::es) X.env=(false,eval e X.env)::starEach es X.env:=by rfl) (b:(backTo a (starEach es X.env)).any (·.1)=false:=by rfl) :
  PE X (.Call (.Attribute o name c) (e::es) [] a) (tBM K T r i t):=j▸yH k slot h l m n d g f p b
theorem Qx{j n:Nat}(h:j<n):seqIndex? (j:Int) n=some j:=by
 show (if (decide (0<=if (j:Int)<0 then (j:Int)+n else j)&&decide ((if (j:Int)<0 then (j:Int)+n else j)<n))=true then some (if (j:Int)<0 then (j:Int)+n else (j:Int)).toNat else none)=some j;let e:(if (j:Int)<0 then (j:Int)+n else (j:Int))=j:=if_neg ∎;rw [e,decide_eq_true (show (0:Int)<=j by lia),decide_eq_true (show (j:Int)<n by lia)];rfl
theorem kg{α β : Type}{f : α -> β}:∀(l:List α) (n:Nat),(l.eraseIdx n).map f=(l.map f).eraseIdx n
 | [],_=>rfl
 | _::_,0=>rfl
 | a::l,n+1=>congrArg (f a :: ·) (kg l n)
theorem qYc(h:ns.length<=2):∃w:Str,endD ns = .tuple (.str w::ns.map .int):=by
 match ns,h with
 | [],_=>exact⟨_,rfl⟩
 | [x],_=>exact⟨_,rfl⟩
 | [x,y],_=>exact⟨_,rfl⟩
theorem Ext.toSame(e:Ext [] H H'):Same H H':=λb o h=>e b o ∅ h
theorem vi{t u:TS}(h:∀N:St->Hp->Prop,Nx N (u D)->t ⟨N,D.rt,D.bk,D.ct⟩ σ H):tSeq t u D σ H:=h _ λ_ _ h=>h
theorem vj(h:∀b d:St->Hp->Prop,Nx b (A D)->Nx d (B D)->a σ H λc e=>if c=true then b σ e else d σ e):tIfS a A B D σ H:=h _ _ (λ_ _ h=>h) λ_ _ h=>h
theorem hide{B:Prop}(h:∀G:Prop,(B->G)->G):B:=h B id
noncomputable abbrev pairD(p:Int×Int):PyData :=.tuple [.int p.1,.int p.2]
noncomputable abbrev wI(ps:List (Int×Int)):PyData :=.list (ps.map pairD)
noncomputable def srt:List Int->List Int
 | [x,y]=>if x<=y then [x,y] else [y,x]
 | l=>l
noncomputable def outs(m i:Int)(ns:List Int):List (Int×Int):=(srt ns).map (λx=>(i,x))++(if ns = [] then [(i,m)] else [])
noncomputable def zG(w:List Blk):Nat->List (Int×Int)
 | 0 =>[(-1,0)]
 | i+1=>zG w i++outs w.length i ((w[i]?.map Blk.ns).getD [])
theorem NsOk.few{m:Int}(h:NsOk m ns):ns.length<=2:=by
 rcases h with h | ⟨x,h,_⟩ | ⟨x,y,h,_⟩ <;> subst h <;> simp
theorem NsOk.range{m:Int}(h:NsOk m ns):∀x∈ns,1<=x/\x<m:=by
 rcases h with h | ⟨x,h,a,b⟩ | ⟨x,y,h,_,a,b,d,f⟩ <;> subst h <;> intro z c
 .cases c
 .rw [aF.mp c];exact⟨a,b⟩
 .rcases aL.mp c with e | e
  .rw [e];exact⟨a,b⟩
  .rw [aF.mp e];exact⟨d,f⟩
theorem qWi:(srt ns).length=ns.length:=by
 unfold srt;split
 .split <;> rfl
 .rfl
theorem qTv{m i:Int}(h:ns.length<=2):(outs m i ns).length<=2:=by
 unfold outs;rw [aG,aB,qWi];split
 .next h=>subst h;exact cT 1
 .simp;lia
theorem xp(h:∀b∈w,b.ns.length<=2):∀i,(zG w i).length<=1+2*i
 | 0=>aH _
 | i+1=>by
  let:=xp h i;let a:((w[i]?.map Blk.ns).getD []).length<=2:=by
   cases z:w[i]? with
   | none=>decide
   | some b=>exact h b (aN z)
  let:=qTv (m:=w.length) (i:=i) a;show (zG w i++outs _ _ _).length<=_;rw [aG];lia
theorem qK8(ns:List Int):PyData.eqv (intsD ns) (.list [])=decide (ns = []):=by
 cases ns with
 | nil=>rfl
 | cons x r=>rfl
theorem Qy(K:PySem.W.Frag)(a:X.K=K):OpR X (compareOp .NotIn) (rIn K true):=a▸qJs
theorem inK(K:PySem.W.Frag)(a:X.K=K):OpR X (compareOp .In) (rIn K false):=a▸vT
theorem qYb{a b:Int}:eqV (.int a) (.int b)=decide (a=b):=by
 first | rfl | (unfold eqV;simp)
theorem xS(x:Int):∀ns:List Int,inV (.int x) (ns.map V.int)=decide (x∈ns)
 | []=>rfl
 | n::r=>by
  let c:=xS x r;show (eqV (.int n) (.int x)||inV (.int x) (r.map V.int))=_;rw [c,qYb];by_cases a:n=x
  .subst a;simp
  .by_cases b:x∈r
   .simp [b]
   .simp [a,b,cP a]
theorem xT:∀ns:List Int,(ns.map V.int).all flatV=true
 | []=>rfl
 | _::r=>xT r
theorem qZ8{K:PySem.W.Frag}{x:Int}{ns:List Int}(h:SqL K H p (ns.map V.int))(q:Q (.bl (!decide (x∈ns))) H):rIn K true (.int x) (.ref p) H Q:=⟨p,_,rfl,.inl h,rfl,xT ns,by rw [if_pos rfl,xS];exact q⟩
theorem qYx{n:Nat}(h:n<=100000):n<sizeLine:=gB h ⋯
theorem zx{α β : Type}{f : α -> β}{l:List α}{i:Nat}{y : β}(h:(l.map f)[i]? = some y):∃x,l[i]? = some x/\y=f x:=by
 rw [aU] at h;cases z:l[i]? with
 | none=>rw [z] at h;cases h
 | some x=>rw [z] at h;exact⟨x,rfl,(bB h).symm⟩
theorem yG{α : Type}{l:List α}{i:Nat}{x : α}(h:l[i]? = some x):l.take (i+1)=l.take i ++ [x]:=by rw [fB,h];rfl
noncomputable def nxt(w:List Blk)(i:Int):List Int:=if 0<=i then ((w[i.toNat]?).map Blk.ns).getD [] else []
theorem qXu{i:Nat}(h:w[i]? = some b):nxt w (i:Int)=b.ns:=by
 unfold nxt;rw [if_pos ∎,cV,h];rfl
theorem wJ{m works:Int}(h:WorkOk m works w)(i:Int):NsOk m (nxt w i):=by
 unfold nxt;split
 .cases z:w[i.toNat]? with
  | none=>exact .inl rfl
  | some b=>exact (h.blk b (aN z)).ns
 .exact .inl rfl
noncomputable def cnt(p:Int->Bool):Nat->Nat
 | 0=>0
 | m+1=>cnt p m+(if p (m:Int)=true then 1 else 0)
theorem kh(p:Int->Bool):∀m,cnt p m<=m
 | 0=>aH _
 | m+1=>by
  let:=kh p m;show cnt p m+_<=_;split <;> lia
theorem Qz(h:∀i,p i=true->q i=true):∀m,cnt p m<=cnt q m
 | 0=>aH _
 | m+1=>by
  let:=Qz h m;show cnt p m+_<=cnt q m+_;by_cases a:p (m:Int)=true
  .rw [if_pos a,if_pos (h _ a)];lia
  .rw [if_neg a];lia
theorem qW8{x:Int}(h:∀i,p i=true->q i=true)(b:q x=true)(a:p x=false):∀m:Nat,0<=x->x<m->cnt p m<cnt q m
 | 0,h0,c=>by lia
 | m+1,h0,c=>by
  show cnt p m+_<cnt q m+_;by_cases e:x=(m:Int)
  .subst e;let:=Qz h m;rw [if_neg (by rw [a];decide),if_pos b];lia
  .let:=qW8 h b a m h0 ∎;by_cases a:p (m:Int)=true
   .rw [if_pos a,if_pos (h _ a)];lia
   .rw [if_neg a];lia
def ltP(p q:Int×Int):Prop:=p.1<q.1\/(p.1=q.1/\p.2<q.2)
theorem ltP.irr : ¬ltP p p:=by rintro (h | ⟨_,h⟩) <;> lia
theorem ltP.trans(a:ltP p q)(b:ltP q r):ltP p r:=by
 rcases a with a | ⟨a,c⟩ <;> rcases b with b | ⟨b,d⟩ <;> first | (left;lia) | (right;lia)
theorem ki:∀ {b l2:List (Int×Int)},b.Pairwise ltP->l2.Pairwise ltP->(∀p,p∈b↔p∈l2)->b=l2
 | [],[],_,_,_=>rfl
 | [],q::l2,_,_,h=>absurd ((h q).mpr (aV ..)) ∅
 | p::b,[],_,_,h=>absurd ((h p).mp (aV ..)) ∅
 | p::b,q::l2,c,d,h=>by
  rw [eN] at c d;let e:p=q:=by
   rcases aL.mp ((h p).mp (aV ..)) with z | z
   .exact z
   .rcases aL.mp ((h q).mpr (aV ..)) with y | y
    .exact y.symm
    .exact absurd ((d.1 p z).trans (c.1 q y)) ltP.irr
  subst e;refine congrArg (p :: ·) (ki c.2 d.2 λx=>⟨λa=>?_,λa=>?_⟩)
  .rcases aL.mp ((h x).mp (aS _ a)) with z | z
   .rw [z] at a;exact absurd (c.1 p a) ltP.irr
   .exact z
  .rcases aL.mp ((h x).mpr (aS _ a)) with z | z
   .rw [z] at a;exact absurd (d.1 p a) ltP.irr
   .exact z
theorem kj{α : Type} [DecidableEq α]:∀ {a l2:List α},a.Nodup->(∀x∈a,x∈l2)->a.length<=l2.length
 | [],_,_,_=>aX _
 | x::r,l2,h,c=>by
  rw [cK] at h;let d:=c x (aV ..);let f:=kj (l2:=l2.erase x) h.2 λy e=>by
   let b:y≠x:=λz=>h.1 (z▸e);exact (List.mem_erase_of_ne b).mpr (c y (aS _ e))
  let g:=List.length_erase_of_mem d;let i:=List.length_pos_of_mem d;rw [cB];lia
noncomputable def betw(w:List Blk):List (Int×Int):=(List.range w.length).flatMap λ(i:Nat)=>(nxt w (i:Int)).map λx=>((i:Int),x)
theorem qUh(h:p.2∈nxt w p.1):p∈betw w:=by
 let a:0<=p.1:=by
  by_cases z:0<=p.1
  .exact z
  .unfold nxt at h;rw [if_neg z] at h;cases h
 let b:p.1.toNat<w.length:=by
  by_cases z:p.1.toNat<w.length
  .exact z
  .unfold nxt at h;rw [if_pos a,dF ∎] at h;cases h
 unfold betw;rw [cC];refine⟨p.1.toNat,bN.mpr b,?_⟩;rw [iP a];exact aY.mpr ⟨p.2,h,rfl⟩
noncomputable def tOf(p:Int×Int):List Int :=[p.1,p.2]
noncomputable def pOf(t:List Int):Int×Int:=(t.getD 0 0,t.getD 1 0)
theorem km(p:Int×Int):pOf (tOf p)=p:=rfl
theorem qN1(h:HT.lexLt (tOf q) (tOf p)=false)(e:p≠q):ltP p q:=by
 let⟨a,b⟩:=p;let⟨c,d⟩:=q;let h:HT.lexLt [c,d] [a,b]=false:=h;rw [HT.lexLt_cons,HT.lexLt_cons] at h;let e : ¬(a=c/\b=d):=λz=>e (by rw [z.1,z.2]);show a<c\/(a=c/\b<d);by_cases f:c=a
 .rw [if_pos f] at h;by_cases g:d=b
  .exact absurd ⟨f.symm,g.symm⟩ e
  .rw [if_neg g] at h;let:=of_decide_eq_false h;lia
 .rw [if_neg f] at h;let:=of_decide_eq_false h;lia
theorem DenL.ofAll{K:PySem.W.Frag}{α : Type}{f : α -> PyData}{g : α -> V}:∀ {l:List α},(∀x∈l,Den K G (f x) (g x))->DenL K G (l.map f) (l.map g)
 | [],_ =>.nil
 | _::_,h =>.cons (h _ (aV ..)) (DenL.ofAll λx a=>h x (aS _ a))
theorem qP1{K:PySem.W.Frag}(e:Same G H):∀ {b:List (Int×Int)} {vs:List V},DenL K G (b.map pairD) vs->TupI K H vs (b.map tOf)
 | [],vs,h=>by let:=h.ofNil;subst this;exact .nil
 | p::b,vs,h=>by
  let⟨v,r,rfl,d,f⟩:=h.ofCons;let⟨a,g,rfl,i,c⟩:=d.ofTuple;let c:DenL K G ([p.1,p.2].map PyData.int) g:=c;let:=c.ints;subst this;exact .cons ⟨a,rfl,e.seqT i⟩ (qP1 e f)
theorem qS5{K:PySem.W.Frag}:∀ {a:List (Int×Int)} {vs:List V},DenL K G (a.map pairD) vs -> ∀x∈vs.zip (a.map tOf),∃p,p∈a/\x.2=tOf p/\Den K G (pairD p) x.1
 | [],vs,h=>by let:=h.ofNil;subst this;intro x b;cases b
 | p::a,vs,h=>by
  let⟨v,r,rfl,c,d⟩:=h.ofCons;intro x b;rcases aL.mp (show x∈(v,tOf p)::r.zip (a.map tOf) from b) with z | z
  .rw [z];exact⟨p,aV ..,rfl,c⟩
  .let⟨e,f,g,i⟩:=qS5 d x z;exact⟨e,aS _ f,g,i⟩
theorem qJ5{K:PySem.W.Frag}{c:List (Int×Int)}{res:List (V×List Int)}(hd:DenL K G (c.map pairD) vs)(s:c.Nodup)(m:res.Perm (vs.zip (c.map tOf)))(n:(res.map (·.2)).Pairwise (λa b=>HT.lexLt b a=false)):∃f:List (Int×Int),DenL K G (f.map pairD) (res.map (·.1))/\f.Pairwise ltP /\ ∀p,p∈f↔p∈c:=by
 let d:∀x∈res,∃p,p∈c/\x.2=tOf p/\Den K G (pairD p) x.1:=λx i=>qS5 hd x (m.mem_iff.mp i);let o:vs.length=(c.map tOf).length:=by rw [hd.len,aB,aB]
 let e:(res.map λx=>pOf x.2).Perm c:=by
  let r:=m.map λx=>pOf x.2;let g:(vs.zip (c.map tOf)).map (λx=>pOf x.2)=c:=by
   rw [show (vs.zip (c.map tOf)).map (λx=>pOf x.2)=((vs.zip (c.map tOf)).map (λx=>x.2)).map pOf by rw [cU];rfl];rw [show (vs.zip (c.map tOf)).map (λx=>x.2)=c.map tOf from List.map_snd_zip ∎];rw [cU];exact List.map_id' c
  rw [g] at r;exact r
 refine⟨res.map λx=>pOf x.2,?_,?_,λp=>e.mem_iff⟩
 .rw [cU];refine DenL.ofAll λx i=>?_;let⟨p,_,g,j⟩:=d x i;show Den K G (pairD (pOf x.2)) x.1;rw [g,km];exact j
 .let k:(res.map λx=>pOf x.2).Nodup:=e.nodup_iff.mpr s;let l:(res.map λx=>pOf x.2).Pairwise (λp q=>HT.lexLt (tOf q) (tOf p)=false):=by
   rw [dJ] at n ⊢;refine n.imp_of_mem λ{x y} i t h=>?_;let⟨p,_,g,_⟩:=d x i;let⟨q,_,j,_⟩:=d y t;rw [g,j,km,km];rw [g,j] at h;exact h
  exact (l.and k).imp λ{p q} h=>qN1 h.1 h.2
theorem qJo:∀a:List (Int×Int),PyData.canLayAll0 (a.map pairD)=true
 | []=>rfl
 | p::r=>by
  show (PyData.canLay0 (pairD p)&&PyData.canLayAll0 (r.map pairD))=true;rw [qJo r];rfl
theorem qHa:∀a:List (Int×Int),PyData.depthAll (a.map pairD)<=1
 | []=>aX _
 | p::r=>by
  show max (PyData.depth (pairD p)) (PyData.depthAll (r.map pairD))<=1;let b:PyData.depth (pairD p)=1:=rfl;let:=qHa r;lia
theorem qLh(a:List (Int×Int)):PyData.depth (wI a)<=2:=by
 let:=qHa a;show PyData.depthAll (a.map pairD)+1<=2;lia
theorem qJn(a:List (Int×Int)):SeqAt.shaped (wI a)=true:=by
 let:=qLh a;show (PyData.canLayAll0 (a.map pairD)&&decide (PyData.depth (wI a)<=64))=true;rw [qJo,decide_eq_true (show PyData.depth (wI a)<=64 by lia)];rfl
noncomputable def xU(w:List Blk):Nat->List (Int×Int)
 | 0 =>[]
 | i+1=>xU w i++outs w.length i ((w[i]?.map Blk.ns).getD [])
theorem yx(w:List Blk):∀i,zG w i=(-1,0)::xU w i
 | 0=>rfl
 | i+1=>by
  show zG w i++_=_;rw [yx w i];rfl
theorem kn(w:List Blk)(i:Nat):(w[i]?.map Blk.ns).getD []=nxt w (i:Int):=by
 unfold nxt;rw [if_pos ∎,cV]
theorem srt_mem{x:Int}:x∈srt ns↔x∈ns:=by
 unfold srt;split
 .split
  .rfl
  .simp only [aL,cI,or_false];constructor <;> (intro h;rcases h with h | h <;> simp [h])
 .rfl
theorem mem_outs{m i:Int}:p∈outs m i ns↔p.1=i/\(p.2∈ns\/(ns = []/\p.2=m)):=by
 unfold outs;rw [aJ,aY];constructor
 .rintro (⟨x,c,rfl⟩ | h)
  .exact⟨rfl,.inl (srt_mem.mp c)⟩
  .split at h
   .next e=>rw [aF.mp h];exact⟨rfl,.inr ⟨e,rfl⟩⟩
   .cases h
 .rintro⟨b,a | ⟨a,d⟩⟩
  .exact .inl ⟨p.2,srt_mem.mpr a,by rw [<-b]⟩
  .refine .inr ?_;rw [if_pos a,aF,<-b,<-d]
theorem in_rest:∀ {n:Nat},p∈xU w n ↔ ∃i:Nat,i<n/\p∈outs w.length i (nxt w i)
 | 0=>by
  constructor
  .intro h;cases h
  .rintro⟨i,h,_⟩;lia
 | n+1=>by
  show p∈xU w n++outs _ _ _↔_;rw [aJ,in_rest,kn];constructor
  .rintro (⟨i,b,a⟩ | h)
   .exact⟨i,∎,a⟩
   .exact⟨n,∎,h⟩
  .rintro⟨i,b,a⟩;by_cases e:i=n
   .subst e;exact .inr a
   .exact .inl ⟨i,∎,a⟩
theorem qLj{m M i:Int}(h:NsOk M ns):(outs m i ns).Pairwise ltP:=by
 rcases h with h | ⟨x,h,_⟩ | ⟨x,y,h,a,_⟩ <;> subst h
 .show List.Pairwise ltP [(i,m)];simp
 .show List.Pairwise ltP [(i,x)];simp
 .show List.Pairwise ltP ((srt [x,y]).map (λx=>(i,x)) ++ []);rw [cE];show List.Pairwise ltP ((if x<=y then [x,y] else [y,x]).map (λx=>(i,x)));split
  .simp only [bE,List.map_nil,eN,aF,cI,false_implies,implies_true,List.Pairwise.nil,and_true];rintro q rfl;exact .inr ⟨rfl,by show x<y;lia⟩
  .simp only [bE,List.map_nil,eN,aF,cI,false_implies,implies_true,List.Pairwise.nil,and_true];rintro q rfl;exact .inr ⟨rfl,by show y<x;lia⟩
theorem qFy{m works:Int}(h:WorkOk m works w):∀n,(xU w n).Pairwise ltP
 | 0 =>.nil
 | n+1=>by
  show (xU w n++outs _ _ _).Pairwise ltP;rw [kn,bR];refine⟨qFy h n,qLj (wJ h n),λp a q b =>.inl ?_⟩;let⟨i,d,c⟩:=in_rest.mp a;let:=(mem_outs.mp c).1;let:=(mem_outs.mp b).1;lia
theorem ko{m works:Int}(h:WorkOk m works w)(b:p∈xU w w.length):0<=p.1/\p.1<m/\1<=p.2/\p.2<=m/\(p.2<m->p.2∈nxt w p.1):=by
 let e:=h.len;let⟨i,f,c⟩:=in_rest.mp b;let⟨d,a⟩:=mem_outs.mp c;rcases a with a | ⟨a,g⟩
 .let:=(wJ h i).range _ a;exact⟨∎,∎,∎,∎,λ_=>by rw [d];exact a⟩
 .exact⟨∎,∎,∎,∎,λ_=>by lia⟩
theorem qTd{m works:Int}(h:WorkOk m works w)(a:p.2∈nxt w p.1):p∈xU w w.length/\p.2<m:=by
 let b:=qUh a;unfold betw at b;let⟨i,c,d⟩:=cC.mp b;let⟨x,_,rfl⟩:=aY.mp d;exact⟨in_rest.mpr ⟨i,bN.mp c,mem_outs.mpr ⟨rfl,.inl a⟩⟩,((wJ h _).range _ a).2⟩
theorem cut1(x:V)(xs:List V):cutV (x::xs) (some 1) none=xs:=by
 unfold cutV HT.sIx;simp
theorem xV(K:PySem.W.Frag)(d:X.K=K)(e:PE X a c)(f:∀b,isTrue a X.env b=(do let v <-b;standAt a.pos;holding [v] (truthy v))):PT X a (λσ H Q=>c σ H λx H' => ∃k,TruV K x H' k/\Q k H'):=d▸qTm e f
theorem kq(xs:Array Nat)(j:Nat)(h:xs.toList.Pairwise (· < ·)):∀(fuel lo hi:Nat),lo<=hi->hi<=xs.size->hi - lo<=fuel->(∀(i x:Nat),xs[i]? = some x->i<lo->x<j)->(∀(i x:Nat),xs[i]? = some x->hi<=i->j<=x) ->
  (SetTable.below.go xs j fuel lo hi<=xs.size)/\(∀(i x:Nat),xs[i]? = some x->i<SetTable.below.go xs j fuel lo hi->x<j)/\(∀(i x:Nat),xs[i]? = some x->SetTable.below.go xs j fuel lo hi<=i->j<=x)
 | 0,lo,hi,q,d,r,f,g=>by
  let e:lo=hi:=by lia
  subst e;exact⟨d,f,g⟩
 | fuel+1,lo,hi,q,d,r,f,g=>by
  unfold SetTable.below.go;by_cases p:lo<hi
  .rw [if_pos p];dsimp only;let s:(lo+hi) / 2<xs.size:=by lia
   let le:∀(i k x y:Nat),xs[i]? = some x->xs[k]? = some y->i<=k->x<=y:=by
    intro i k x y b c l;rw [<-bA] at b c;let⟨m,rfl⟩:=aI.mp b;let⟨n,rfl⟩:=aI.mp c;rcases Nat.lt_or_eq_of_le l with z | z
    .exact bS (bL.mp h i k m n z)
    .subst z;exact aH _
   obtain⟨y,c⟩:∃y,xs[(lo+hi) / 2]? = some y:=⟨_,bC s⟩;let t:xs.getD ((lo+hi) / 2) j=y:=by rw [cL,c];rfl
   rw [t];by_cases a:y<j
   .rw [if_pos a];exact kq xs j h fuel _ _ ∎ d ∎ (λi x b o=>gB (le i _ x y b c ∎) a) g
   .rw [if_neg a];exact kq xs j h fuel _ _ ∎ ∎ ∎ f (λi x b o=>cD (Nat.le_of_not_lt a) (le _ i y x c b ∎))
  .rw [if_neg p];let e:lo=hi:=by lia
   subst e;exact⟨d,f,g⟩
theorem vk(xs:Array Nat)(j:Nat)(a:xs.toList.Pairwise (· < ·)):SetTable.below xs j<=xs.size/\(∀(i x:Nat),xs[i]? = some x->i<SetTable.below xs j->x<j)/\(∀(i x:Nat),xs[i]? = some x->SetTable.below xs j<=i->j<=x):=kq xs j a xs.size 0 xs.size (aX _) (aH _) (Nat.sub_le _ _) (λ_ _ _ h=>absurd h (fS _)) (λi x b h=>absurd (fV.mp b).1 ∎)
theorem qJe(xs:Array Nat)(j:Nat)(h:xs.toList.Pairwise (· < ·))(q:xs[SetTable.below xs j]? ≠ some j):(SetTable.insertAt xs (SetTable.below xs j) j).toList.Pairwise (· < ·):=by
 let⟨u,r,o⟩:=vk xs j h;rw [gT];generalize SetTable.below xs j=b at *;let p:∀x∈xs.toList.drop b,j<x:=by
  intro x k;let⟨i,c,e⟩:=bJ k;let a:xs.toList[b+i]? = some x:=by rw [<-List.getElem?_drop,aC c,e]
  rw [bA] at a;let l:=o _ _ a (fZ _ _);rcases Nat.lt_or_eq_of_le l with z | z
  .exact z
  .subst z;by_cases m:i=0
   .subst m;exact absurd a q
   .let d:b<xs.toList.length:=by rw [fW] at c;lia
    let s:xs[b]? = some xs.toList[b]:=by rw [<-bA,aC d]
    let v:=o _ _ s (aH _);rw [<-bA] at a;let⟨n,w⟩:=aI.mp a;let A:=bL.mp h b (b+i) d n ∎;lia
 refine bR.mpr ⟨h.sublist (List.take_sublist _ _),eN.mpr ⟨p,h.sublist (List.drop_sublist _ _)⟩,λx k y t=>?_⟩;let⟨i,c,e⟩:=bJ k;let f:i<b:=by rw [bD] at c;lia
 let a:xs.toList[i]? = some x:=by rw [<-List.getElem?_take_of_lt f,aC c,e]
 rw [bA] at a;let g:=r _ _ a f;rcases aL.mp t with z | z
 .subst z;exact g
 .exact Nat.lt_trans g (p y z)
theorem vm(n:Nat):(Array.range n).toList.Pairwise (· < ·):=by
 rw [Array.toList_range];exact fT
def qSt(t:SetTable)(j:Nat):Prop:=t.place[SetTable.below t.place j]? ≠ some j
theorem qHe{t:SetTable}{j:Nat}(h:t.slot j = .empty\/t.slot j = .dummy):qSt t j:=by
 intro e;unfold SetTable.slot at h;dsimp only at h;rw [e] at h;simp at h
theorem kr{t:SetTable}{h:Int}{j:Nat}:∀(fuel:Nat) (p:SetTable.Probe),SetTable.probe.go t f h fuel p=some (.empty j b)->(∀d,p.dummy=some d->t.slot d = .dummy) ->
  t.slot j = .empty /\ ∀d,b=some d->t.slot d = .dummy
 | 0,p,e,_=>by unfold SetTable.probe.go at e;cases e
 | fuel+1,p,e,hd=>by
  unfold SetTable.probe.go at e;let c:∀q:SetTable.Probe,(t.advance q).dummy=q.dummy:=by
   intro q;unfold SetTable.advance;split <;> rfl
  cases a:t.slot p.j with
  | empty=>rw [a] at e;dsimp only at e;cases e;exact⟨a,hd⟩
  | dummy=>rw [a] at e;dsimp only at e;exact kr fuel _ e (λd z=>by rw [c] at z;cases z;exact a)
  | live i =>
   rw [a] at e;dsimp only at e;split at e
   .cases e
   .exact kr fuel _ e (λd z=>by rw [c] at z;exact hd d z)
theorem qLr{t:SetTable}{h:Int}{slot:Nat}{c:Bool}(e:t.freeSlot h=some (slot,c)):qSt t slot:=by
 unfold SetTable.freeSlot at e;split at e
 .rename_i j f g;let⟨a,b⟩:=kr _ _ g (λd z=>by unfold SetTable.probeStart at z;cases z);cases e;cases f with
  | none=>exact qHe (.inl a)
  | some d=>exact qHe (.inr (b d rfl))
 .cases e
structure GoodT(b:Bool)(t:SetTable)(n:Nat):Prop where
 fits:t.fits n=true
 rise:t.place.toList.Pairwise (· < ·)
 led:t.led=b
theorem qLq{b:Bool}{t:SetTable}{h:Int}(g:GoodT b t es.size):GoodT b (layNew t es h x).2.1 (layNew t es h x).1.size:=by
 refine⟨layNew_fits t es h x,?_,?_⟩
 .unfold layNew;split
  .rename_i a d c;dsimp only;unfold SetTable.orStandIn;split
   .exact qJe _ _ g.rise (qLr c)
   .exact vm _
  .exact vm _
 .unfold layNew;split
  .dsimp only;unfold SetTable.orStandIn;split
   .exact g.led
   .exact g.led
  .exact g.led
theorem qI3{b:Bool}{t:SetTable}{m:Nat}(g:GoodT b t es.size):GoodT b (relayAll t es m).2.1 (relayAll t es m).1.size:=by
 refine⟨relayAll_fits t es m,?_,?_⟩
 .unfold relayAll;split
  .rename_i i d c;dsimp only;split
   .unfold SetTable.relaid SetTable.laid at c;cases e:SetTable.layClean (SetTable.sizeAbove m - 1) (es.map (·.1)) with
    | none=>rw [e] at c;cases c
    | some owner =>
     rw [e] at c;cases c;show (((List.range _).filterMap λj=>(owner.getD j none).map (j,·)).map (·.1)).Pairwise (· < ·);let f:∀l:List Nat,((l.filterMap λj=>(owner.getD j none).map (j,·)).map (·.1)).Sublist l:=by
      intro l
      induction l with
      | nil=>exact .slnil
      | cons a r h =>
       rw [dE];cases owner.getD a none with
       | none=>exact h.cons _
       | some k=>exact h.cons₂ a
     exact List.Pairwise.sublist (f _) fT
   .exact vm _
  .exact vm _
 .unfold relayAll;split
  .rename_i i d c;dsimp only;split
   .unfold SetTable.relaid SetTable.laid at c;cases e:SetTable.layClean (SetTable.sizeAbove m - 1) (es.map (·.1)) with
    | none=>rw [e] at c;cases c
    | some owner=>rw [e] at c;cases c;exact g.led
   .exact g.led
  .exact g.led
theorem GoodT.plainOff{b:Bool}{t:SetTable}{n:Nat}(g:GoodT b t n):GoodT b { t with plain:=false } n:=⟨SetTable.fits_plain_off g.fits,g.rise,g.led⟩
noncomputable def keyI:Int×Value->Int
 | (_,.int n _)=>n
 | _=>0
def EI(e:Int×Value):Prop := ∃n t,e=(hashInt n,Value.int n t)
noncomputable def yD(w:World):Bool:=w.params.followText "set-order"
def SetI(w:World)(h:Heap)(a:Addr)(ns:List Int):Prop :=
 ∃o es ep t,h.get? a=some o/\o.ExactSet/\o.data = .set es ep t/\(∀e∈es.toList,EI e)/\(es.toList.map keyI).Perm ns/\ns.Nodup/\es.size<scanBound/\GoodT (!yD w) t es.size
theorem EI.elems(h:∀e∈l,EI e):ElemsOf (intKind P w) l:=λe a=>by
 let⟨n,t,rfl⟩:=h e a;exact⟨⟨n,intKind_is P w n t,rfl⟩,rfl⟩
theorem qN0{l:List (Int×Value)}(h:∀e∈l,EI e)(n:Int):n∈l.map keyI ↔ ∃e∈l,(intKind P w).is n e.2=true:=by
 constructor
 .intro b;let⟨e,a,q⟩:=aY.mp b;let⟨m,t,rfl⟩:=h e a;cases q;exact⟨_,a,intKind_is P w m t⟩
 .rintro⟨e,a,q⟩;let⟨m,t,rfl⟩:=h e a;let:n=m:=(intKind P w).inj _ _ _ q (intKind_is P w m t);subst this;exact aY.mpr ⟨_,a,rfl⟩
theorem SetI.stay(S:SetI w h a ns)(k:∀o,h.get? a=some o->h'.get? a=some o):SetI w h' a ns:=by
 let⟨o,b,c,t,e,r⟩:=S;exact⟨o,b,c,t,k o e,r⟩
noncomputable def addN(ns:List Int)(n:Int):List Int:=if n∈ns then ns else ns ++ [n]
theorem vn{n:Int}(h:ns.Nodup):(addN ns n).Nodup:=by
 unfold addN;split
 .exact h
 .rename_i b;exact cG.mpr ⟨h,∅,by intro x c y a;simp at a;subst a;intro e;subst e;exact b c⟩
theorem qUj{n m:Int}:m∈addN ns n↔m∈ns\/m=n:=by
 unfold addN;split
 .rename_i a;constructor
  .exact .inl
  .rintro (h | rfl)
   .exact h
   .exact a
 .simp
theorem qV9{n:Int}:(addN ns n).length<=ns.length+1:=by
 unfold addN;split <;> simp
theorem SetI.store{h:Heap}{ep:Nat}{t t':SetTable}(i:h.get? a=some o)(c:o.ExactSet)(hd:o.data = .set es ep t)(d:∀e∈b.toList,EI e)(j:(b.toList.map keyI).Perm ns)(k:ns.Nodup)(l:b.size<scanBound)(g:GoodT (!yD w) t' b.size):(h.update a (Obj.putSet b t')).get? a=some { o with data :=.set b (ep+1) t' }/\SetI w (h.update a (Obj.putSet b t')) a ns:=by
 let f:=cW (Obj.putSet b t') i (by rw [putSet_of b t' hd];rfl);rw [putSet_of b t' hd] at f;exact⟨f,_,b,ep+1,t',f,c,rfl,d,j,k,l,g⟩
theorem qKq{u:Bool->Sem Unit}(D:∀(b:Bool) (i : Shared) (v:Unit->Shared->Prop),v () i -> wpAny (model P w) A (u b) v E i){ep:Nat}{t:SetTable}(x:s.heap.get? a=some o)(j:o.ExactSet)(hd:o.data = .set es ep t)(k:∀e∈c.toList,EI e)(y:(c.toList.map keyI).Perm ns)(z:ns.Nodup)(B:c.size<scanBound)(g:GoodT (!yD w) f c.size){F:Bool}(h:∀h',Heap.SameBut a s.heap h'->SetI w h' a ns->R (some true) { s with heap:=h' }):wpAny (model P w) A (do
    storeSet a c f
    if (!F&&f.tooFull)=true then do
      u (relayAll f c (SetTable.grown c.size)).2.2
      storeSet a (relayAll f c (SetTable.grown c.size)).1 (relayAll f c (SetTable.grown c.size)).2.1
      pure (some true)
     else pure (some true)) R E s:=by
 refine aA (wpAny_storeSet_of x hd ?_ (gU B));let⟨l,q⟩:=SetI.store (w:=w) x j hd k y z B g;let C:=bW s.heap a (Obj.putSet c f);split
 .let d:=relayAll_perm f c (SetTable.grown c.size);let r:=qI3 (m:=SetTable.grown c.size) g;generalize relayAll f c (SetTable.grown c.size)=G at d r ⊢;let⟨n,I,J⟩:=G;dsimp only at d r ⊢;let K:n.size=c.size:=by rw [<-aM,d.length_eq,aM]
  let p:n.size<scanBound:=by lia
  refine aA (D _ _ _ (aA (wpAny_storeSet_of l rfl ?_ (gU p))));exact aD (h _ (C.trans (bW _ a _)) (SetI.store (w:=w) l j rfl (λe H=>k e (d.mem_iff.mp H)) ((d.map keyI).trans y) z p r).2)
 .exact aD (h _ C q)
theorem addI{n:Int}{tk:Tok}(S:SetI w s.heap a ns)(M:ns.length+1<scanBound)(h:∀h',Heap.SameBut a s.heap h'->SetI w h' a (addN ns n)->Q (!decide (n∈ns)) { s with heap:=h',toks:=s.toks+1 }):wpAny (model P w) A (setAdd a (.int n tk)) Q E s:=by
 unfold setAdd;refine bM (aA ((intKind P w).pyHash (k:=n) (intKind_is _ _ _ _) ?_));let⟨o,u,W,t,y,p,B,f,C,N,R,g⟩:=S;let T:u.size=ns.length:=by rw [<-C.length_eq,aB,aM]
 let v:=EI.elems (P:=P) (w:=w) f;let D:=intKind_is P w n tk;unfold setAddHashed setAddHashedIn;refine bM (aA (dA (s :={ s with toks:=s.toks+1 }) y B g.fits ?_));dsimp only;rw [byScan_of (knd:=intKind P w) (x :=.int n tk) rfl R v];simp only [↓reduceIte];unfold setAddByScan;refine aA (aA (cY (aA (wpAny_setScan_of (knd:=intKind P w) (k:=n) D y B g.fits v ?_))));cases U:List.findIdx? (λe=>(intKind P w).is n e.2) u.toList with
 | some j =>
  dsimp only;let⟨X,O,_⟩:=List.findIdx?_eq_some_iff_getElem.mp U;let F:n∈ns:=C.mem_iff.mp ((qN0 (P:=P) (w:=w) f n).mpr ⟨_,dQ X,O⟩);refine aD (aD ?_);let q:=h s.heap (Heap.SameBut.refl a s.heap) ⟨o,u,W,t,y,p,B,f,by unfold addN;rw [if_pos F];exact C,vn N,R,g⟩;rw [decide_eq_true F] at q;exact q
 | none =>
  dsimp only;let F:n∉ns:=λz=>by
   let⟨e,v,q⟩:=(qN0 (P:=P) (w:=w) f n).mp (C.mem_iff.mpr z);let:=List.findIdx?_eq_none_iff.mp U e v;rw [q] at this;cases this
  let G:∀(b:Bool) {c : Shared} {l:Unit->Shared->Prop},l () c -> wpAny (model P w) A (match b with | true=>rule "set.scan.the-table-gave-way" | false=>pure ()) l E c :=λb c l i=>by
   cases b
   .exact aD i
   .exact cY i
  let d:=layNew_perm t u ((intKind P w).hash n) (.int n tk);let H:=qLq (h:=(intKind P w).hash n) (x :=.int n tk) g;generalize layNew t u ((intKind P w).hash n) (.int n tk)=L at d H ⊢;let⟨r,t1,wd,V⟩:=L;dsimp only at d H ⊢;rw [dX] at d;let m:∀e∈r.toList,EI e:=λe v=>by
   rcases aJ.mp (d.mem_iff.mp v) with z | z
   .exact f e z
   .rw [aF] at z;exact⟨n,tk,z⟩
  let Y:r.size=u.size+1:=by rw [<-aM,d.length_eq,aG,aM];rfl
  let I:(r.toList.map keyI).Perm (addN ns n):=by
   unfold addN;rw [if_neg F];refine (d.map keyI).trans ?_;rw [aP];exact C.append_right _
  let fin:∀h',Heap.SameBut a s.heap h'->SetI w h' a (addN ns n)->Q true { s with heap:=h',toks:=s.toks+1 }:=λh' J K=>by
   let q:=h h' J K;rw [decide_eq_false F] at q;exact q
  refine aA (G _ ?_);let Z:∀(b:Bool) (c : Shared) (l:Unit->Shared->Prop),l () c -> wpAny (model P w) A (match b with | true=>rule "set.scan.the-table-gave-way" | false=>pure ()) l E c :=λb c l i=>G b i;split
  .refine aA ?_;rw [hashByValue_scannable 8 (x :=.int n tk) rfl];refine aD ?_;refine qKq (s :={ s with toks:=s.toks+1 }) (λb c l i=>?_) y p B m I (vn N) ∎ ?_ (λh' J K=>?_)
   .cases b
    .exact aD i
    .exact cY i
   .split
    .exact H
    .exact H.plainOff
   .dsimp only;exact aD (fin h' J K)
  .refine aA (aD ?_);simp only [↓reduceIte];refine qKq (s :={ s with toks:=s.toks+1 }) (λb c l i=>?_) y p B m I (vn N) ∎ H (λh' J K=>?_)
   .cases b
    .exact aD i
    .exact cY i
   .dsimp only;exact aD (fin h' J K)
theorem slot_si_next:Slot "set_iterator" "__next__" "set_iterator.__next__" :=.of (owner := "set_iterator") (n := "__next__") (by rw [typeLookup_type,builtinLookup_eq_fast];kernel_rfl) (by decide +kernel) (by decide +kernel) (by decide +kernel) (by first | exact .inl (by decide +kernel) | exact .inr (by decide +kernel)) (by rw [isSubtype_type];kernel_rfl)
theorem qF3:Slot "set_iterator" "__iter__" "set_iterator.__iter__" :=.of (owner := "set_iterator") (n := "__iter__") (by rw [typeLookup_type,builtinLookup_eq_fast];kernel_rfl) (by decide +kernel) (by decide +kernel) (by decide +kernel) (by first | exact .inl (by decide +kernel) | exact .inr (by decide +kernel)) (by rw [isSubtype_type];kernel_rfl)
theorem qEg:entryFor table "set_iterator.__next__" = some Builtin.«set_iterator.__next__» :=entryFor_of_tree (by kernel_rfl)
theorem qIl:entryFor table "set_iterator.__iter__" = some Builtin.«dict_keyiterator.__iter__» :=entryFor_alias (id' := "dict_keyiterator.__iter__") (by kernel_rfl) rfl (by decide +kernel) (by kernel_rfl)
theorem qFe(a:Value):argsOk "set_iterator.__next__" ⟨[a],[]⟩:=by unfold argsOk;kernel_rfl
theorem qKo(a:Value):argsOk "set_iterator.__iter__" ⟨[a],[]⟩:=by unfold argsOk;kernel_rfl
theorem qGv:entryFor table "set.__iter__" = some Builtin.«frozenset.__iter__» :=entryFor_alias (id' := "frozenset.__iter__") (by kernel_rfl) rfl (by decide +kernel) (by kernel_rfl)
def SIter(h:Heap)(it:Addr)(first:Value)(i:Nat)(a:Addr)(n ep:Nat):Prop :=
 ∃o,h.get? it=some o/\o.cls = .type "set_iterator" /\ o.data = .fields #[first,.int i 0,.ref a,.int n 0,.int ep 0]
theorem SIter.ty{s:Shared}{first:Value}{i:Nat}{n ep:Nat}(h:SIter s.heap it first i a n ep):s.TypeIs (.ref it) "set_iterator" :=let ⟨o,e,c,_⟩:=h;⟨o,e,c⟩
theorem vo{α : Type}:∀ {l:List α} {i:Nat} (h:i<l.length),(l[i]::l.eraseIdx i).Perm l
 | a::r,0,_ =>.refl _
 | a::r,i+1,h=>by
  let h':i<r.length:=by simpa using h
  show ((r[i]'h')::a::r.eraseIdx i).Perm (a::r);exact (List.Perm.swap _ _ _).trans ((vo h').cons a)
theorem qWm{first:Value}{i n ep:Nat}(h:SIter s.heap it first i a n ep)(q:Q (.ref it) s):wpAny (model P w) A (pyIter (.ref it)) Q E s:=by
 refine wpAny_pyIter_slot h.ty qF3 (cH qF3 h.ty qIl ?_ (qKo _));show wpAny _ _ (ret (.ref it)) _ _ s;exact aD ⟨_,rfl,"set_iterator",_,h.ty,slot_si_next.lookup,q⟩
theorem qOt{n:Nat}(b:n≠0)(h:∀i d,i<n->Q i { s with drawn:=d }):wpAny (model P w) A (choose a n) Q E s:=λΓ p c =>by
 unfold choose;rw [Sem.wp_choose];exact⟨b,h _ _ (Nat.mod_lt _ (Nat.pos_of_ne_zero b))⟩
theorem qK9{α : Type}:∀(xs:List α) {s:Shared} {Q:List α -> Shared->Prop},(∀ys d,ys.Perm xs->Q ys { s with drawn:=d })->wpAny (model P w) A (drawOrder xs.length xs) Q E s
 | [],s,Q,h=>by
  unfold drawOrder;exact aD (h [] s.drawn (.refl _))
 | x::r,s,Q,h=>by
  show wpAny _ _ (drawOrder (r.length+1) (x::r)) _ _ s;unfold drawOrder;refine aA (qOt ∅ λi d hi=>?_);rw [aC hi];dsimp only;let hl:((x::r).eraseIdx i).length=r.length:=by rw [List.length_eraseIdx_of_lt hi];rfl
  rw [<-hl];refine aA (qK9 ((x::r).eraseIdx i) λys d' hp=>aD (h _ d' ?_));exact (hp.cons _).trans (vo hi)
 termination_by xs=>xs.length
theorem qQm{α : Type}(f:Nat->Nat):∀(fuel k:Nat) (l:List α) (out:Array α),l.length=fuel->(pickOrder.go f fuel k l out).toList.Perm (out.toList++l)
 | 0,k,l,out,h=>by
  let:l = []:=List.length_eq_zero_iff.mp h;subst this;unfold pickOrder.go;simp
 | fuel+1,k,l,out,h=>by
  unfold pickOrder.go;let a:f k%l.length<l.length:=Nat.mod_lt _ ∎;rw [aC a];dsimp only;refine (qQm f fuel (k+1) _ _ (by rw [List.length_eraseIdx_of_lt a];lia)).trans ?_;rw [dX,dB];exact hZ _ (vo a)
theorem qQl{α : Type}(f:Nat->Nat)(xs:Array α):(pickOrder f xs).toList.Perm xs.toList:=by
 unfold pickOrder;let:=qQm f xs.size 0 xs.toList #[] ∅;simpa using this
theorem vp{h:Heap}(k:Nat)(v:Value)(b:h.get? it=some o)(hd:o.data = .fields vs):∃a,(h.update it (Obj.mapFields (·.setIfInBounds k v))).get? it=some a/\a.cls=o.cls/\a.data = .fields (vs.setIfInBounds k v) :=
 ⟨_,cW _ b (Obj.isFreed_of_fields (Obj.data_mapFields hd _)),Obj.cls_mapFields ..,Obj.data_mapFields hd _⟩
noncomputable def slotI(t:SetTable):Nat->Nat
 | 0=>0
 | i+1=>t.place.getD i 0+1
theorem qOn{t:SetTable}{n:Nat}(g:t.place.toList.Pairwise (· < ·)){i:Nat}(hi:i<=t.place.size):SetTable.below t.place (slotI t i)=i:=by
 let⟨p,h,l⟩:=vk t.place (slotI t i) g;generalize SetTable.below t.place (slotI t i)=b at *;let lt:∀(i k x y:Nat),t.place[i]? = some x->t.place[k]? = some y->i<k->x<y:=by
  intro i k x y c j d;rw [<-bA] at c j;let⟨e,rfl⟩:=aI.mp c;let⟨f,rfl⟩:=aI.mp j;exact bL.mp g i k e f d
 cases i with
 | zero =>
  by_cases m:b=0
  .exact m
  .let o:0<t.place.size:=by lia
   exact absurd (h 0 _ (bC o) ∎) (fS _)
 | succ i =>
  let c:t.place[i]? = some (t.place.getD i 0):=by
   let a:i<t.place.size:=by lia
   rw [cL,bC a];rfl
  rcases Nat.lt_trichotomy b (i+1) with z | z | z
  .let:=l i _ c ∎;simp only [slotI] at this;lia
  .exact z
  .let a:i+1<t.place.size:=by lia
   let q:=h (i+1) _ (bC a) z;let r:=lt i (i+1) _ _ c (bC a) ∎;simp only [slotI] at q;lia
inductive Mode(w:World)(h:Heap)(a:Addr)(es:Array (Int×Value))(ep:Nat)(t:SetTable)(i:Nat):Value->List (Int×Value)->List Addr->Prop
 | told (sl:Nat) (b:yD w=true):Mode w h a es ep t i (.int sl 0) (pickOrder (w.params.setOrder a ep) es).toList []
 | place (b:yD w=false) (d:(!t.plain&&decide (es.size>1))=false):Mode w h a es ep t i (.int (slotI t i) 0) es.toList []
 | drawn (tp:Addr) (places:List Nat) (o:Obj) (n:Nat) (ord:List (Int×Value)) (e:h.get? tp=some o) (c:o.data = .seq (places.map λ(j:Nat)=>rawInt (j:Int)).toArray n) (q:places.map (λj=>es[j]?)=ord.map some):Mode w h a es ep t i (.ref tp) ord [tp]
def SW(w:World)(it a:Addr)(es:Array (Int×Value))(ep:Nat)(t:SetTable)(ord:List (Int×Value))(ex:List Addr)(i:Nat)(h:Heap):Prop :=
 ∃first,SIter h it first i a es.size ep/\(∃o,h.get? a=some o/\o.data = .set es ep t)/\GoodT (!yD w) t es.size/\ord.length=es.size/\Mode w h a es ep t i first ord ex
theorem qRx{t:SetTable}{n:Nat}(h:t.fits n=true):t.place.size=n:=by
 simp only [SetTable.fits,bP,beq_iff_eq] at h;exact h.1
theorem qJx{c:Nat}(d:s.heap.get? a=some o)(hd:o.data = .set es ep t)(g:GoodT (!yD w) t es.size)(b:yD w=true)(q:Q (((pickOrder (w.params.setOrder a ep) es)[i]?).map λe=>(e.2,c)) s):wpAny (model P w) A (setNext a c i ep) Q E s:=by
 unfold setNext;refine aA (dA d hd g.fits ?_);dsimp only;unfold setsByText;refine aA (aA (eV (aD ?_)));show wpAny _ _ (if w.params.followText "set-order" = true then _ else _) _ _ _;rw [if_pos (show (w.params.followText "set-order")=true from b),if_neg ∅];unfold setWalk;refine aA (aA (dA d hd g.fits ?_));dsimp only;unfold setsByText;refine aA (aA (eV (aD ?_)));show wpAny _ _ (if w.params.followText "set-order" = true then _ else _) _ _ _;rw [if_pos (show (w.params.followText "set-order")=true from b)];refine aA (eV (aD (aD ?_)))
 exact q
theorem qHf(j:s.heap.get? a=some o)(hd:o.data = .set es ep t)(g:GoodT (!yD w) t es.size)(b:yD w=false)(d:(!t.plain&&decide (es.size>1))=false)(hi:i<=es.size)(q:Q ((es[i]?).map λe=>(e.2,slotI t (i+1))) s):wpAny (model P w) A (setNext a (slotI t i) i ep) Q E s:=by
 let l:=qRx g.fits;unfold setNext;refine aA (dA j hd g.fits ?_);dsimp only;unfold setsByText;refine aA (aA (eV (aD ?_)));show wpAny _ _ (if w.params.followText "set-order" = true then _ else _) _ _ _;rw [if_neg (show ¬(w.params.followText "set-order")=true from λz=>by rw [show (w.params.followText "set-order")=false from b] at z;cases z)];let c:t.led=true:=by rw [g.led,b];rfl
 split
 .rename_i z;exact absurd (show (!t.plain&&decide (es.size>1))=true from z) (by rw [d];exact aK)
 .refine aA ?_;show wpAny _ _ (if (!t.led && !es.isEmpty)=true then unsupported "set:maker-not-led" else pure PUnit.unit) _ _ _;rw [if_neg (by rw [c];simp)];refine aD (aD ?_);rw [qOn (n:=es.size) g.rise ∎];by_cases f:i<es.size
  .let h:es[i]? = some es[i]:=bC f;let k:t.place[i]? = some (t.place.getD i 0):=by
    let:i<t.place.size:=by lia
    rw [cL,bC this];rfl
   rw [h] at q ⊢;rw [k];exact q
  .let h:es[i]? = none:=Array.getElem?_eq_none ∎;rw [h] at q ⊢;exact q
theorem Mode.stay{first:Value}(m:Mode w h a es ep t i first ord ex)(k:∀b∈ex,∀o,h.get? b=some o->h'.get? b=some o):Mode w h' a es ep t i first ord ex:=by
 cases m with
 | told g b=>exact .told g b
 | place b d=>exact .place b d
 | drawn f places o n _ e c q=>exact .drawn f places o n _ (k f ∅ _ e) c q
theorem qWd(B:it≠a)(H:it∉ex)(h:SW w it a es ep t ord ex i s.heap)(D:ord[i]? = some e)(q:∀h',SW w it a es ep t ord ex (i+1) h'->Heap.SameBut it s.heap h'->Q (some e.2) { s with heap:=h' }):wpAny (model P w) A (pyNext (.ref it)) Q E s:=by
 obtain⟨first,r,⟨o,u,x⟩,g,I,m⟩:=h;let⟨oi,f,R,k⟩:=id r;let V:i<es.size:=by rw [<-I];exact (aI.mp D).1
 unfold pyNext;refine aA (wpAny_attempt (fI (name:=Str.ofString "__next__") r.ty slot_si_next (cH slot_si_next r.ty qEg ?_ (qFe _))));unfold Builtin.«set_iterator.__next__»;refine aA (m:=slotArgs "__next__" 0 _) (aD ?_);refine aA (iI f k ?_);dsimp only;refine aA (wpAny_setEntries_of u x g.fits ?_);rw [if_neg ∅];let C:∀(y z:Nat),first = .int y 0->(∀h',Heap.SameBut it s.heap h'->Mode w h' a es ep t (i+1) (.int z 0) ord ex) ->
   wpAny (model P w) A.in1 (do setField (Value.ref it) 0 (rawInt z);setField (Value.ref it) 1 (rawInt ((i:Int)+1));ret e.2) (λfin J => ∃v,fin=Fin.done (Flow.ret v)/\wpAny (model P w) A (pure (some v)) Q E J)
    (λe J=>wpAny (model P w) A (do if (<-isInstance e (Value.type "StopIteration"))=true then pure none else throw e) Q E J) s:=by
  intro y z W X;subst W;refine aA (fN f k ∅ ?_);let⟨S,F,K,G⟩:=vp 0 (rawInt z) f k;refine aA (fN F G ∅ ?_);let⟨Y,Z,c2,d2⟩:=vp 1 (rawInt ((i:Int)+1)) F G;let p:Heap.SameBut it s.heap _:=(bW s.heap it (Obj.mapFields (·.setIfInBounds 0 (rawInt z)))).trans (bW _ it (Obj.mapFields (·.setIfInBounds 1 (rawInt ((i:Int)+1)))));refine aD ⟨_,rfl,aD (q _ ⟨.int z 0,⟨Y,Z,c2.trans (K.trans R),?_⟩,⟨o,(p.2 a (cP B)).trans u,x⟩,g,I,X _ p⟩ p)⟩;rw [d2];simp [rawInt]
 cases m with
 | told y b =>
  dsimp only;simp only [cV];refine aA (qJx (i:=i) u x g b ?_);rw [show (pickOrder (w.params.setOrder a ep) es)[i]? = some e by rw [<-bA];exact D];exact C y y rfl λh' p =>.told y b
 | place b d =>
  dsimp only;simp only [cV];refine aA (qHf (i:=i) u x g b d ∎ ?_);rw [show es[i]? = some e by rw [<-bA];exact D];exact C _ _ rfl λh' p =>.place b d
 | drawn L places op n _ T c M =>
  dsimp only;refine aA (wpAny_seqItems T c ?_);dsimp only;let a0:places.length=ord.length:=by let:=congrArg List.length M;simpa using this
  obtain⟨j,U⟩:∃j,places[i]? = some j:=⟨_,aC ∎⟩;let N:es[j]? = some e:=by
   let:=congrArg (λl=>l[i]?) M;simp only [aU,U,D,Option.map_some] at this;exact bB this
  let O:(places.map λ(j:Nat)=>rawInt (j:Int)).toArray[((i:Int)).toNat]? = some (.int (j:Int) 0):=by
   rw [cV,List.getElem?_toArray,aU,U];rfl
  rw [O];dsimp only;unfold setNextDrawn;refine aA (aA (dA u x g.fits ?_));dsimp only;rw [if_neg ∅];rw [cV,N];dsimp only;refine aD ?_;refine aA (fN f k ∅ ?_);let⟨S,F,K,G⟩:=vp 1 (rawInt ((i:Int)+1)) f k;let p:Heap.SameBut it s.heap _:=bW s.heap it (Obj.mapFields (·.setIfInBounds 1 (rawInt ((i:Int)+1))));refine aD ⟨_,rfl,aD (q _ ⟨.ref L,⟨S,F,K.trans R,?_⟩,⟨o,(p.2 a (cP B)).trans u,x⟩,g,I,.drawn L places op n _ ((p.2 L (by simpa using cP (a:=it) (by simpa using H))).trans T) c M⟩ p)⟩;rw [G];simp [rawInt]
section
variable{P:Program}{w:World}{A:Around}{E:Value->Shared->Prop}{s:Shared}{it a:Addr}{es:Array (Int×Value)}{ep:Nat}{t:SetTable}{ord:List (Int×Value)}{ex:List Addr}{i:Nat}
theorem vq{s0:Shared}{Q:Option Value->Shared->Prop}{α : Type}{d : α -> Shared->Prop}(f:A.in1.handled=none)(c:Heap.ExtBut it s0.heap s.heap)(q:∀h',Heap.ExtBut it s0.heap h'->Q none { s with heap:=h' }):wpAny (model P w) A.in1 (do raiseNew (<-newExc (.type "StopIteration") [])) d (λe g=>wpAny (model P w) A (do if (<-isInstance e (Value.type "StopIteration"))=true then pure none else throw e) Q E g) s:=by
 refine aA ?_;simp only [newExc,newTuple];refine aA (cN ?_ (by size_fits));refine aA (m:=firstArgMember _ _) (wpAny_of_eq (a:=Value.none) (by first | rfl | (simp only [firstArgMember];rfl)) ?_);refine cN ?_ (by size_fits);simp only [raiseNew];refine aA (wpAny_handled ?_);rw [f];refine aA (aD (wpAny_throw ?_));refine aA (wpAny_isInstance (T := "StopIteration") (b:=true) ⟨_,aW _ rfl,rfl⟩ isSubtype_stop ?_);exact aD (q _ ((c.push _).push _))
theorem qWe(v:A.handled=none)(h:SW w it a es ep t ord ex es.size s.heap)(q:∀h',Heap.ExtBut it s.heap h'->Q none { s with heap:=h' }):wpAny (model P w) A (pyNext (.ref it)) Q E s:=by
 obtain⟨first,k,⟨o,p,r⟩,g,D,m⟩:=h;let⟨F,e,G,f⟩:=id k;unfold pyNext;refine aA (wpAny_attempt (fI (name:=Str.ofString "__next__") k.ty slot_si_next (cH slot_si_next k.ty qEg ?_ (qFe _))));unfold Builtin.«set_iterator.__next__»;refine aA (m:=slotArgs "__next__" 0 _) (aD ?_);refine aA (iI e f ?_);dsimp only;refine aA (wpAny_setEntries_of p r g.fits ?_);rw [if_neg ∅];let l:A.in1.handled=none:=v;cases m with
 | told H b =>
  dsimp only;simp only [cV];refine aA (qJx (i:=es.size) p r g b ?_);rw [show (pickOrder (w.params.setOrder a ep) es)[es.size]? = none by rw [<-bA];exact dF ∎];dsimp only [Option.map];refine aA (fN e f ∅ ?_);exact vq (s0:=s) l (bW ..).extBut q
 | place b d =>
  dsimp only;simp only [cV];refine aA (qHf (i:=es.size) p r g b d (aH _) ?_);rw [show es[es.size]? = none from Array.getElem?_eq_none (aH _)];dsimp only [Option.map];refine aA (fN e f ∅ ?_);exact vq (s0:=s) l (bW ..).extBut q
 | drawn I places op n _ x c y =>
  dsimp only;refine aA (wpAny_seqItems x c ?_);dsimp only;let z:places.length=ord.length:=by let:=congrArg List.length y;simpa using this
  let u:(places.map λ(j:Nat)=>rawInt (j:Int)).toArray[((es.size:Int)).toNat]? = none:=by
   rw [cV,List.getElem?_toArray];exact dF (by rw [aB];lia)
  rw [u];dsimp only;refine aA (fN e f ∅ ?_);let⟨J,B,K,C⟩:=vp 0 (rawInt 0) e f;refine aA (fN B C ∅ ?_);exact vq (s0:=s) l ((bW ..).trans (bW ..)).extBut q
theorem qT0(y:A.handled=none)(f:it≠a)(j:it∉ex):Walks P w A it (it::a::ex) [it] es.size (λi v=>(ord[i]?).map (·.2)=some v) (SW w it a es ep t ord ex) where
 sub:=λb c=>by simp at c;simp [c]
 frame:=λi h d st k=>by
  obtain⟨first,⟨z,l,B,n⟩,⟨o,C,D⟩,g,u,m⟩:=st;exact⟨first,⟨z,k it ∅ _ l,B,n⟩,⟨o,k a ∅ _ C,D⟩,g,u,m.stay λb c o e=>k b (by simp [c]) o e⟩
 item:=λi s Q E H st q=>by
  let⟨first,_,_,_,u,_⟩:=id st;obtain⟨e,x⟩:∃e,ord[i]? = some e:=⟨_,aC ∎⟩;refine qWd f j st x λd p F=>q e.2 d s.toks (by rw [x];rfl) p λb o c e=>?_;exact (F.2 b (by simpa using c)).trans e
 done:=λs Q E st q=>qWe y st λd G=>q d s.toks λb o c e=>G b o (by simpa using c) e
 self:=λi s Q E st q=>by
  let⟨first,r,_⟩:=st;exact qWm r q
theorem qRl{ep:Nat}{t:SetTable}(C:s.heap.get? a=some o)(I:o.ExactSet)(hd:o.data = .set es ep t)(n:es.size<scanBound)(g:GoodT (!yD w) t es.size)(q:∀(it:Addr) (ord:List (Int×Value)) (ex:List Addr) (h':Heap) (d:Drawn),s.heap.objs.size<=it->it<h'.objs.size->(∀b∈ex,s.heap.objs.size<=b/\b<it)->a<s.heap.objs.size->(∀b u,s.heap.get? b=some u->h'.get? b=some u)->SW w it a es ep t ord ex 0 h'->ord.Perm es.toList->Q (.ref it) { s with heap:=h',drawn:=d }):wpAny (model P w) A (pyIter (.ref a)) Q E s:=by
 let hT:s.TypeIs (.ref a) "set" :=⟨o,C,I.1⟩;let T:a<s.heap.objs.size:=aT C;refine wpAny_pyIter_slot hT F.slot_set_iter (cH F.slot_set_iter hT qGv ?_ (F.args_set_iter_1 _));unfold Builtin.«frozenset.__iter__» Builtin.Frozenset.slot0;refine aA (aA (m:=slotArgs "__iter__" 0 _) (aD ?_));unfold Builtin.Frozenset.addrOf;refine aD ?_;unfold Builtin.Frozenset.sizeOf;refine aA (aA (wpAny_setEntries_of C hd g.fits (aD ?_)));unfold setDrawn;refine aA (aA (dA C hd g.fits ?_));dsimp only;unfold setsByText;refine aA (aA (eV (aD (aD ?_))));show wpAny _ _ (if (!w.params.followText "set-order" && (!t.plain&&decide (es.size>1)))=true then _ else _) _ _ _
 let fin:∀(p:Shared) (first:Value) (ord:List (Int×Value)) (ex:List Addr),(∃h' d,p = { s with heap:=h',drawn:=d })->s.heap.objs.size<=p.heap.objs.size->(∀b u,s.heap.get? b=some u->p.heap.get? b=some u)->(∀b∈ex,s.heap.objs.size<=b/\b<p.heap.objs.size)->ord.length=es.size->ord.Perm es.toList->(∀h',(∀b u,p.heap.get? b=some u->h'.get? b=some u)->Mode w h' a es ep t 0 first ord ex) ->
   wpAny (model P w) A.in1 (do let x <-setEpoch a;let y <-newFields "set_iterator" [first,rawInt 0,Value.ref a,rawInt es.size,rawInt x];ret y) (λfin M => ∃v,fin=Fin.done (Flow.ret v) /\ ∃N r,M.TypeIs v N/\typeLookup (Value.type N) (Str.ofString "__next__")=pure (some r)/\Q v M) E p:=by
  rintro p first ord ex ⟨h',d,rfl⟩ J k U V c W
  refine aA (wpAny_setEpoch_of (k _ _ C) hd g.fits ?_);refine aA (cN (aD ⟨_,rfl,"set_iterator",_,⟨_,aW _ rfl,rfl⟩,slot_si_next.lookup,?_⟩));refine q h'.objs.size ord ex _ d J (by rw [fE];exact fX _) U T (λb u e=>aE _ (k b u e)) ⟨first,⟨_,aW _ rfl,rfl,rfl⟩,⟨o,aE _ (k _ _ C),hd⟩,g,V,W _ λb u e=>aE _ e⟩ c
 cases f:yD w with
 | true =>
  rw [if_neg (by rw [show w.params.followText "set-order" = true from f];simp)];refine aA (aD ?_);let c:=qQl (w.params.setOrder a ep) es;exact fin s (rawInt 0) _ [] ⟨s.heap,s.drawn,rfl⟩ (aH _) (λ_ _ e=>e) (λb n=>by simp at n) (by rw [c.length_eq,aM]) c (λh' k =>.told 0 f)
 | false =>
  cases hd2:(!t.plain&&decide (es.size>1)) with
  | false =>
   rw [if_neg ∅];refine aA (aD ?_);exact fin s (rawInt 0) _ [] ⟨s.heap,s.drawn,rfl⟩ (aH _) (λ_ _ e=>e) (λb n=>by simp at n) (aM ..) (.refl _) (λh' k =>.place f hd2)
  | true =>
   rw [if_pos (by rw [show w.params.followText "set-order" = false from f];simp)];let O:(List.range es.size).length=es.size:=bQ;refine aA ?_;let K:∀ {G:List Nat->Shared->Prop},(∀h d,h.Perm (List.range es.size)->G h { s with drawn:=d })->wpAny (model P w) A.in1 (drawOrder es.size (List.range es.size)) G E s:=λ{G} z=>by
    let R:=qK9 (P:=P) (w:=w) (A:=A.in1) (E:=E) (List.range es.size) (s:=s) (Q:=G) z;rw [O] at R;exact R
   refine K λh d B=>?_;refine aA ?_;let X:h.length=es.size:=by rw [B.length_eq,O]
   simp only [newTuple];refine cN ?_ (by let:=gU n;show (List.map (λ(i:Nat)=>rawInt (i:Int)) h).toArray.size<=sizeLine;rw [aR,aB];lia);let D:∀l:List Nat,(∀j∈l,j<es.size)->l.map (λj=>es[j]?)=(l.filterMap λj=>es[j]?).map some:=by
    intro l
    induction l with
    | nil=>intro _;rfl
    | cons j r Y =>
     intro H;let Z:es[j]? = some (es[j]'(H j ∅)):=bC _;rw [bE,Y λk hk=>H k (by simp [hk]),dE,Z];rfl
   let L:∀j∈h,j<es.size:=λj H=>bN.mp (B.mem_iff.mp H);let S:=D h L;let c:(h.filterMap λj=>es[j]?).Perm es.toList:=(B.filterMap _).trans (by rw [filterMap_getElem?_range])
   exact fin _ (.ref s.heap.objs.size) _ [s.heap.objs.size] ⟨_,d,rfl⟩ (by show _<=(Heap.push _ _).objs.size;rw [fE];exact cT _) (λb u e=>aE _ e) (λb n=>by
    let e:b=s.heap.objs.size:=by simpa using n
    rw [e];exact⟨aH _,by show _<(Heap.push _ _).objs.size;rw [fE];exact fX _⟩) (by let:=congrArg List.length S;simp at this;lia) c (λh' k =>.drawn s.heap.objs.size h _ 0 _ (k _ _ (aW _ rfl)) rfl S)
end
theorem qK0:typeLookup (.type "set") "__len__" = pure (some (.builtin "set.__len__")):=F.slot_set_len.lookup
theorem qFb{ep:Nat}{t:SetTable}(hh:A.handled=none)(x:s.heap.get? a=some o)(j:o.ExactSet)(hd:o.data = .set es ep t)(m:es.size<scanBound)(g:GoodT (!yD w) t es.size)(q:∀(ord:List (Int×Value)) (h':Heap) (d:Drawn) (tk:Nat),(∀b u,s.heap.get? b=some u->h'.get? b=some u)->s.heap.objs.size<=h'.objs.size->ord.Perm es.toList->Q (ord.map (·.2)) { s with heap:=h',drawn:=d,toks:=tk }):wpAny (model P w) A (collect (.ref a)) Q E s:=by
 unfold collect;refine aA (wpAny_runValue (fR F.entry_proto_collect ?_));rw [eU F.plain_proto_collect _];show wpAny _ A.in1 (newList [] >>= λl=>again (.builtin "list.__iadd__" ⟨[l,.ref a],[]⟩)) _ _ s;refine aA (cN ?_);refine aD ⟨plainId_quiet F.plain_list_iadd _,fR F.entry_list_iadd ?_⟩;rw [eU F.plain_list_iadd _];let Z:∀b u,s.heap.get? b=some u->(s.heap.push { cls :=.type "list",data :=.seq ([]:List Value).toArray }).get? b=some u:=λb u e=>aE _ e;let M:=Z a o x;let hT:Shared.TypeIs { s with heap:=s.heap.push { cls :=.type "list",data :=.seq ([]:List Value).toArray } } (.ref a) "set" :=⟨o,M,j.1⟩
 let n:a<s.heap.objs.size:=aT x;show wpAny _ A.in1 (Builtin.List.listExtendWith (.ref s.heap.objs.size) (.ref a) (.ref s.heap.objs.size)) _ _ _;unfold Builtin.List.listExtendWith;refine aA (wpAny_typeOf hT ?_);let h1:Builtin.List.listSameRef (.ref s.heap.objs.size) (.ref a)=false:=by simp [Builtin.List.listSameRef];exact fM n
 let J:(Value.type "set" == Value.type "list")=false:=by decide
 let h3:(Value.type "set" == Value.type "tuple")=false:=by decide
 simp only [h1,J,h3,Bool.or_false,bV,if_false];refine aA (qRl (s :={ s with heap:=s.heap.push { cls :=.type "list",data :=.seq ([]:List Value).toArray } }) M j hd m g λit ord ex h' d f a0 hx ha k sw N=>?_);refine aA (bM ?_);let p:Shared.TypeIs { s with heap:=h',drawn:=d } (.ref a) "set" :=⟨o,k _ _ M,j.1⟩;unfold Builtin.List.listLengthHint;refine aA (wpAny_specialOf p qK0 ?_);let O:splitId "set.__len__" = some ("set","__len__"):=by kernel_rfl
 dsimp only;rw [O];dsimp only;refine aA (wpAny_isInstance p sub_set_self ?_);rw [if_neg ∅];rw [if_pos (by decide +kernel)];refine aA (wpAny_typeOf p (aD ?_));rw [if_pos (by decide +kernel)];refine aA (cY ?_);let y:h'.get? s.heap.objs.size=some { cls :=.type "list",data :=.seq ([]:List Value).toArray }:=k _ _ (aW _ rfl);refine aA ?_;show wpAny _ A.in1 (updateSeq s.heap.objs.size (·.push .none) >>= λ_=>updateSeq s.heap.objs.size (·.pop)) _ _ _;refine aA (wpAny_updateSeq (s :={ s with heap:=h',drawn:=d }) y rfl ?_);let B:=cW (Obj.mapSeq (·.push Value.none)) y rfl;refine wpAny_updateSeq B rfl ?_
 let R:=cW (Obj.mapSeq (·.pop)) B rfl;let C:∀b u,b≠s.heap.objs.size->h'.get? b=some u->((h'.update s.heap.objs.size (Obj.mapSeq (·.push Value.none))).update s.heap.objs.size (Obj.mapSeq (·.pop))).get? b=some u :=
  λb u m e=>(bO _ _ (cP m)).trans ((bO _ _ (cP m)).trans e)
 rw [fE] at f ha;let S:it≠a:=fM (bK n (cD (cT _) f));let T:it∉ex:=λz=>eK _ (hx it z).2;let D:s.heap.objs.size∉it::a::ex:=λz=>by
  rcases aL.mp z with z | z
  .exact aZ f z
  .rcases aL.mp z with z | z
   .exact fM n z
   .let K:=(hx _ z).1;rw [show (Heap.push s.heap { cls :=.type "list",data :=.seq ([]:List Value).toArray }).objs.size=s.heap.objs.size+1 from fE ..] at K;exact Nat.not_succ_le_self _ K
 let U:ord.length=es.size:=by let⟨_,_,_,_,U,_⟩:=sw;exact U
 let V:es.size<=sizeLine:=gU m;let W:=(qT0 (P:=P) (w:=w) (A:=A.in1) (it:=it) (a:=a) (es:=es) (ep:=ep) (t:=t) (ord:=ord) (ex:=ex) hh S T).toS
 refine aD ⟨plainId_quiet F.plain_extend_loop _,codeAny_extend_loopS W V _ D _ es.size 0 _ _ _ rfl (aX _)
  (W.frame 0 ({ s with heap:=h',drawn:=d }:Shared) _ s.toks sw (aH _) λb m u e=>C b u (λz=>D (z▸m)) e) R (ItemsOf.nil _) λs' c c' L G h=>?_⟩
 show wpAny _ A (load s.heap.objs.size >>= _) _ _ s';refine aA (wpAny_load G ?_);refine aD ?_;let⟨J,g2,d2,X,Y⟩:=s';let e1:g2=s.gens:=L.gens;let e2:d2=d:=L.drawn;let e3:Y=s.os:=L.os;subst e1;subst e2;subst e3;let k2:∀b u,s.heap.get? b=some u->J.get? b=some u:=λb u e=>by
  let r:=aT e
  exact L.heap b u (λz=>by
   rcases aL.mp z with z | z
   .exact aZ r z
   .let K:b=it:=by simpa using z
    exact aZ (Nat.lt_trans r f) K) (C b u (aZ r) (k b u (Z b u e)))
 let H:∀(i:Nat) (v:Value),c.toList[i]? = some v->(ord[i]?).map (·.2)=some v:=λi v e=>h.2 i v (by rw [<-bA];exact e);let I:c.toList.length=ord.length:=by rw [aM,h.1,U]
 let e:c.toList=ord.map (·.2):=by
  refine List.ext_getElem? λi=>?_;rw [aU];cases z:c.toList[i]? with
  | some v=>exact (H i v z).symm
  | none=>rw [dF (by rw [<-I];exact iH.mp z)];rfl
 show Q c.toList _;rw [e];exact q ord J d2 X k2 (bS (aT G)) N
theorem qKf(v:A.handled=none)(S:SetI w s.heap a ns)(q:∀(vs:List Value) (p:List Int) (h':Heap) (d:Drawn) (tk:Nat),(∀b u,s.heap.get? b=some u->h'.get? b=some u)->s.heap.objs.size<=h'.objs.size->IntsAre vs p->p.Perm ns->Q vs { s with heap:=h',drawn:=d,toks:=tk }):wpAny (model P w) A (collect (.ref a)) Q E s:=by
 let⟨o,F,G,t,x,i,y,j,z,H,B,g⟩:=S;refine qFb v x i y B g λf h' d tk k l c=>q _ _ h' d tk k l ?_ ((c.map keyI).trans z);let h:∀e∈f,EI e:=λe C=>j e (c.mem_iff.mp C);clear c
 induction f with
 | nil=>exact .nil
 | cons e r D =>
  let⟨n,tk,rfl⟩:=h e ∅;exact .cons n tk (D λe m=>h e (by simp [m]))
theorem qNs{n:Nat}(d:h.get? D=some (seqObj "list" vs.toArray n)):(∃c,(sortedHeap h D vs out).get? D=some { cls :=.type "list",data :=.seq out c })/\(∀b u,b≠D->h.get? b=some u->(sortedHeap h D vs out).get? b=some u)/\h.objs.size<=(sortedHeap h D vs out).objs.size:=by
 unfold sortedHeap;let f:=dP d (λ_ => #[]);let g:=aE (seqObj "tuple" vs.toArray 0) f;let i:=aE (seqObj "list" #[] 0) g;let j:=dP i (λ_=>out);refine⟨⟨_,j⟩,λb u a e=>?_,?_⟩
 .exact (bO _ _ (cP a)).trans (aE _ (aE _ ((bO _ _ (cP a)).trans e)))
 .rw [fY,fE,fE,fY];lia
section
variable{P:Program}{w:World}{A:Around}{E:Value->Shared->Prop}{s:Shared}{a:Addr}
theorem qKx(p:A.handled=none)(S:SetI w s.heap a ns)(j:ns.length<64)
  (q:∀(D:Addr) (out:Array Value) (c:Nat) (f:List Int) (h':Heap) (d:Drawn) (tk:Nat),s.heap.objs.size<=D->h'.get? D=some { cls :=.type "list",data :=.seq out c }->(∀b u,s.heap.get? b=some u->h'.get? b=some u)->IntsAre out.toList f->f.Perm ns->f.Pairwise (· <= ·)->Q (.ref D) { s with heap:=h',drawn:=d,toks:=tk }) :
  wpAny (model P w) A (call (.builtin "sorted") [.ref a]) Q E s:=by
 refine gI kind_sorted plain_sorted entry_sorted (args_sorted1 _) ?_;unfold Builtin.«sorted»;refine aA (m:=checkCount "sorted" 1 1 _) (aD ?_);refine aA (qKf (A:=A.in1) p S λi z h' d tk k l o h=>?_);let n:i.length<64:=by rw [IntsAre.length o,h.length_eq];exact j
 refine aA (fJ ?_ (by rw [gH];lia));let g:(h'.push (seqObj "list" i.toArray 0)).get? h'.objs.size=some (seqObj "list" i.toArray 0):=aW _ rfl;refine aA (bM (cH slot_list_sort (s :={ s with heap:=h'.push (seqObj "list" i.toArray 0),drawn:=d,toks:=tk }) ⟨_,g,rfl⟩ entry_list_sort (list_sort_tree g o n λout f r t v=>⟨_,rfl,?_⟩) (args_list_sort _)));obtain⟨⟨c,x⟩,y,_⟩:=qNs (out:=out) g;exact aD ⟨_,rfl,q h'.objs.size out c f _ d tk l x (λb u e=>y b u (aZ (aT (k b u e))) (aE _ (k b u e))) r (t.trans h) v⟩
end
theorem Inv.drew{σ : St}(I:Inv X a σ H s):Inv X a σ H { s with drawn:=d }:=⟨I.ok,I.os,I.bare,I.base,I.loc,I.cell,I.free,I.freeC,I.pin,I.hok,I.len⟩
noncomputable def setO(w:World)(ns:List Int):HO :=.ext λa h=>SetI w h a ns
theorem qWn(S:SetI w h a ns):ObjOk P b H h a (setO w ns):=by
 refine⟨S,?_,λd f c k=>c.stay k⟩;let⟨o,_,_,_,e,_⟩:=S;exact⟨o,e⟩
theorem Inv.setI{σ : St}(I:Inv X b σ H s)(e:H a=some (setO w ns)):SetI w s.heap a ns:=(I.hok a _ e).1
def qZg(w:World):List V->Hp->VK->Prop:=λxs H Q => ∃(a:Addr) (ns:List Int),xs = [.ref a]/\H a=some (setO w ns)/\ns.length<64 /\ ∀(l:Addr) (ns':List Int),H l=none->ns'.Perm ns->ns'.Pairwise (· <= ·)->Q (.ref l) (upd H l (.lst (ns'.map V.int)))
theorem ku(m:X.A.handled=none):CallR X (.builtin "sorted") (qZg X.w):=by
 intro i s σ H z B Q I r h;let⟨a,C,rfl,n,p,q⟩:=h;let⟨u,rfl,t⟩:=vals1 r;cases t;refine qKx m (I.setI n) p λD e c b E d tk j f k v l x=>?_;let y:H D=none:=I.hok.fresh j;let g:Vals (b.map V.int) e.toList:=QR v;refine⟨.ref D,_,(I.laid (t':=tk) (o :=.lst (b.map V.int)) k j ⟨?_,e.toList,c,g,by simpa using f⟩).drew,rfl,q _ b y l x⟩;rw [aB,l.length_eq,gH];lia
noncomputable def newS(w:World):Obj :={ cls :=.type "set",dict:=none,data :=.set #[] 0 (.fresh 0 0 (!yD w)) }
theorem qY1(e:h.get? a=some (newS w)):SetI w h a []:=⟨_,#[],0,_,e,⟨rfl,rfl,rfl⟩,rfl,λe b=>by simp at b,.refl _,.nil,⋯,⟨rfl,.nil,rfl⟩⟩
theorem qR7(q:Q (.ref s.heap.objs.size) { s with heap:=s.heap.push (newS w) }):wpAny (model P w) A (newSet (.type "set")) Q E s:=by
 unfold newSet setsByText;refine aA (aA (eV (aD ?_)));dsimp only;simp only [newObj];exact aA (wpAny_alloc (aD q))
section
variable{X:Cx}{elt tg iter tg2 iter2:Expr}{ifs ifs2:List Expr}{scope:Scope}{g g2:TG}{pos:Pos}
noncomputable def vt(elt:Expr)(acc:Value)(env:Env):Sem Unit:=do let v <-eval elt env;standAt elt.pos;let _ <-call (.builtin "set.add") [acc,v]
theorem qPb{d:Nat}(hd:gens[d]? = some ⟨tg,iter,ifs,0⟩)(it:Value)(R:Result->Shared->Prop)(s:Shared)(f:codeAny (model X.prog X.w) X.A (.compLoop (.SetComp elt gens scope pos) d it a X.env) R s)(h:wpAny (model X.prog X.w) X.A (pyIter it) (λb c=>codeAny (model X.prog X.w) X.A (.compLoop (.SetComp elt gens scope pos) d b a X.env) R c) (λ_ _=>False) s):codeAny (model X.prog X.w) X.A (.compStart (.SetComp elt gens scope pos) d it a X.env) R s:=by
 refine codeAny_of_tree ?_;show wpAny _ X.A ((compStart (.SetComp elt gens scope pos) d it a X.env).onRaise (λx=>do noteFrame x X.env;standAt theWindowsPlace)) _ _ s;refine wpAny_notedAt ?_;unfold compStart;let g:(clausesOf (.SetComp elt gens scope pos))[d]? = some ⟨tg,iter,ifs,0⟩:=hd;rw [g];show wpAny _ _ (ask >>= _) _ _ s;refine aA (eV (wpAny_ite ?_));let e:wpAny (model X.prog X.w) X.A (pyIter it) (λb c=>codeAny (model X.prog X.w) X.A (.compLoop (.SetComp elt gens scope pos) d b a X.env) R c) (notedBy (model X.prog X.w) X.A X.env λx c=>R (.error x) c) s:=cX h (λ_ _ z=>z) λ_ _ z=>z.elim;split
 .first | exact aA (aD (aD (And.intro rfl f))) | exact aD (And.intro rfl f)
 .first | exact aA (cY (aA (dI (aA (cX e (λb c e=>aD (And.intro rfl e)) λ_ _ x=>x))))) | (refine aA (cY ?_);show wpAny _ _ (standAt iter.pos >>= _) _ _ s;exact aA (dI (aA (cX e (λb c e=>aD (And.intro rfl e)) λ_ _ x=>x))))
theorem qOk:ClauseAt X (.SetComp elt [⟨tg,iter,ifs,0⟩] scope pos) 0 a tg iter ifs (vt elt a X.env) where
 quiet:=λ_=>rfl
 under:=λ_=>rfl
 den:=λ_=>rfl
 turn:=λ_=>by first | rfl | (unfold vt;simp only [bind_assoc,pure_bind];rfl)
 start:=λb R s=>qPb rfl b R s
end
noncomputable def yB(ms:List Int):List Int:=ms.foldl addN []
theorem qM3(a:List Int)(n:Int):yB (a ++ [n])=addN (yB a) n:=by unfold yB;rw [List.foldl_append];rfl
theorem qGr:∀(ms ns:List Int),(ms.foldl addN ns).length<=ns.length+ms.length
 | [],ns=>aH _
 | m::r,ns=>by
  let a:=qGr r (addN ns m);let b:=qV9 (ns:=ns) (n:=m);rw [List.foldl_cons,cB];lia
theorem vx(a:List Int):(yB a).length<=a.length:=by let h:=qGr a [];rw [List.length_nil,eW] at h;exact h
theorem qGa{m:Int}:∀(a ns:List Int),m∈a.foldl addN ns↔m∈ns\/m∈a
 | [],ns=>by simp
 | k::r,ns=>by rw [List.foldl_cons,qGa r,qUj,aL,or_assoc]
theorem vy{m:Int}(a:List Int):m∈yB a↔m∈a:=by unfold yB;rw [qGa];simp
theorem qEl:∀(a ns:List Int),ns.Nodup->(a.foldl addN ns).Nodup
 | [],ns,h=>h
 | k::r,ns,h=>qEl r _ (vn h)
theorem kx(a:List Int):(yB a).Nodup:=qEl a [] .nil
section
variable{P:Program}{w:World}{A:Around}{R:Result->Shared->Prop}{I:Addr}{fp wr:List Addr}{G:Array GenState->Array GenState->Prop}{n:Nat}{T:Nat->Value->Prop}{St:Nat->Shared->Prop}
theorem qRy(W:WalksS P w A.in1 I fp wr G n T St)(S:Addr)(j:S∉fp)(a:List Int)(B:a.length=n)(l:∀i v,T i v -> ∃t,v = .int (a.getD i 0) t)(g:n+1<scanBound):∀(k i:Nat) (s:Shared),n - i=k->i<=n->St i s->SetI w s.heap S (yB (a.take i))->(∀c,Moved (S::wr) G s c->SetI w c.heap S (yB a)->R (.ok (.ret .none)) c) ->
   codeAny (model P w) A (.builtin "set.update.loop" ⟨[.ref S,.ref I],[]⟩) R s:=by
 let m:S∉wr:=λh=>j (W.sub _ h);let d:∀b∈wr,b∈S::wr:=λb g=>aS _ g;intro k
 induction k with
 | zero =>
  intro i s L M f z C;let D:i=n:=by lia
  subst D;refine fR F.entry_set_update_loop ?_;rw [eU F.plain_set_update_loop _];show wpAny _ A.in1 (pyNext (.ref I) >>= _) _ _ s;refine aA (W.done s _ _ f λc p=>?_);show wpAny _ A.in1 (ret Value.none) _ _ c;rw [<-B,bX] at z;exact aD (C c (p.mono d) (z.stay λo e=>p.heap S _ m e))
 | succ k N =>
  intro i s L M f z C;let q:i<n:=by lia
  refine fR F.entry_set_update_loop ?_;rw [eU F.plain_set_update_loop _];show wpAny _ A.in1 (pyNext (.ref I) >>= _) _ _ s;refine aA (W.item i s _ _ q f λv c O r p=>?_);let⟨t,rfl⟩:=l i v O;let E:SetI w c.heap S (yB (a.take i)):=z.stay λo e=>p.heap S _ m e;show wpAny _ A.in1 (holding [Value.int (a.getD i 0) t] (setAdd S (.int (a.getD i 0) t)) >>= _) _ _ c;let u:=vx (a.take i);rw [bD] at u;refine aA (bM (addI E ∎ λV J K=>?_));let Q:a.take (i+1)=a.take i ++ [a.getD i 0]:=by
   let U:a[i]? = some (a.getD i 0):=by
    let:i<a.length:=by lia
    rw [bF,aC this];rfl
   rw [fB,U];rfl
  rw [<-qM3,<-Q] at K;refine aD ⟨plainId_quiet F.plain_set_update_loop _,N (i+1) _ ∎ q (W.frame _ c _ _ r (cT _) λb g o e=>?_) K λH x y=>?_⟩
  .rw [J.2 b (λh:b=S=>j (by rw [<-h];exact g))];exact e
  .refine C H (Moved.trans W.gtrans ((p.mono d).then_heap (cT _) λb o g e=>?_) x) y;rw [J.2 b (λh:b=S=>g (by rw [h];exact aV))];exact e
end
section
variable{P:Program}{w:World}{A:Around}{E:Value->Shared->Prop}{s:Shared}
theorem qNv(a:Value)(h:Q₁ (.ref s.heap.objs.size) { s with heap:=s.heap.push (newS w) }):codeAny (model P w) A (.call (.builtin "set.__new__") ⟨[.type "set",a],[]⟩) (wants Q₁ E) s:=by
 refine codeAny_of_tree ?_;show wpAny _ A.in1 (do checkBuiltinCall "set.__new__" ⟨[.type "set",a],[]⟩;again (.builtin "set.__new__" ⟨[.type "set",a],[]⟩)) _ _ s;refine aA (wpAny_of_eq (F.newCall_set_1 a) (aD ⟨plainId_quiet F.plain_set_new _,fR F.entry_set_new ?_⟩));rw [eU F.plain_set_new _];unfold Builtin.«set.__new__» Builtin.Frozenset.newClass;let b:=sub_set_self;let⟨c,g,d,tk,os⟩:=s;dsimp only
 wp_walk
 refine eV (aD ?_);dsimp only;simp only [newObj];exact aA (wpAny_alloc (aD (aD h)))
theorem qKy(hh:A.handled=none)(hl:s.heap.IsList l items)(hi:IntsAre items.toList ns)(G:items.size+1<scanBound)(h:∀(h':Heap) (tk:Nat),SetI w h' s.heap.objs.size (yB ns)->(∀b o,b<s.heap.objs.size->s.heap.get? b=some o->h'.get? b=some o)->Q (.ref s.heap.objs.size) { s with heap:=h',toks:=tk }):wpAny (model P w) A (call (.type "set") [.ref l]) Q E s:=by
 let⟨c,tl,U⟩:=iA.mro;let I:=iA.made;let V:=iA.sub;refine wpAny_call (codeAny_of_tree ?_);show wpAny _ _ (callAny (.type "set") _) _ _ _;refine aD ⟨Code.quiet_builtin _ (by decide +kernel),fR F.entry_type_call ?_⟩;rw [Around.under_plain (weight_type_call_type "set" [.ref l] []) rfl];let h1:=iA.notType;let h2:=iA.canCreate;let a1:=F.typeCall_set_1 (.ref l)
 repeat (any_goals (first | assumption | wp_step))
 refine hJ (qNv (.ref l) (E:=E) (Q₁ :=λn f =>n = .ref s.heap.objs.size/\f = { s with heap:=s.heap.push (newS w) }) ⟨rfl,rfl⟩) λr f J=>?_;cases r with
 | error e=>exact J
 | ok fl =>
  cases fl with
  | ret n =>
   let⟨rfl,rfl⟩:=J;let W:(s.heap.push (newS w)).get? s.heap.objs.size=some (newS w):=aW _ rfl;let hT:Shared.TypeIs { s with heap:=s.heap.push (newS w) } (.ref s.heap.objs.size) "set" :=⟨_,W,rfl⟩;let a2:=iA.init.lookup;let a3:=iA.init.bind (.ref s.heap.objs.size)
   repeat (any_goals (first | assumption | wp_step))
   refine hJ (codeAny_call_builtin (R:=wants (λr g =>r = .none /\ ∃h' tk,g = { s with heap:=h',toks:=tk }/\SetI w h' s.heap.objs.size (yB ns)/\(∀b o,b<s.heap.objs.size->s.heap.get? b=some o->h'.get? b=some o)) E) iA.init.plain F.entry_set_init (check_set_init_1 hT ?_)) λp g a=>?_
   .let⟨ol,q,t,X,u⟩:=hl;let⟨Y,j,K,d⟩:=ol;simp only at t u;subst t;subst u;let x:(s.heap.push (newS w)).get? l=some { cls :=.type "list",dict:=j,data :=.seq items X,slots:=d }:=aE _ q;let Z:=F.sub_list_set;let a0:=F.sub_list_frozenset;let a4:(Value.type "list" == Value.type "dict")=false:=by decide
    let y:(s.heap.push (newS w)).IsList l items:=⟨_,x,rfl,X,rfl⟩;unfold Builtin.«set.__init__» noKeywords Builtin.Frozenset.updateFrom;generalize L:pyIter=PI
    wp_walk
    subst L;refine wpAny_pyIter_list y (aA (wpAny_runValue ?_));let B:l<s.heap.objs.size:=aT q;let M:A.in1.in1.in1.handled=none:=hh;let C:l≠(s.heap.push (newS w)).objs.size:=by rw [fE];exact aZ (dS B)
    let N:s.heap.objs.size ∉ [(s.heap.push (newS w)).objs.size,l]:=by
     rw [fE];simp only [aL,aF,cI,or_false,not_or];exact⟨aZ (fX _),fM B⟩
    let D:ns.length=items.size:=by rw [<-IntsAre.length hi,aM]
    refine qRy ((Walks.list M _ l C items).toS) s.heap.objs.size N ns D (λi v hv=>IntsAre.int_at hi i v (by rw [bA];exact hv)) G (items.size - 0) 0 _ ∎ (aX _) ⟨⟨_,aW _ rfl,rfl,rfl⟩,(y.push _)⟩ (qY1 (aE _ W)) ?_;intro s' H k;let⟨h',g',d',O,S⟩:=s';let eg:g'=s.gens:=H.gens;let ed:d'=s.drawn:=H.drawn;let eo:S=s.os:=H.os;subst eg;subst ed;subst eo;show wpAny _ _ _ _ _ _;refine aD ?_;show wpAny _ _ (ret Value.none) _ _ _;refine aD ⟨rfl,h',O,rfl,k,λb o G e=>?_⟩;refine H.heap b o (λz=>?_) (aE _ (aE _ e));rcases aL.mp z with z | z
    .exact aZ G z
    .let z2:b=(s.heap.push (newS w)).objs.size:=by simpa using z
     rw [fE] at z2;exact aZ (dS G) z2
   .cases p with
    | error e=>exact a
    | ok m =>cases m with
     | ret r=>obtain⟨rfl,h',tk,rfl,k,T⟩:=a;(repeat (any_goals (first | assumption | wp_step)));exact h _ _ k T
     | _=>exact a.elim
  | _=>exact J.elim
end
def qZi(w:World)(K:PySem.W.Frag):List V->Hp->VK->Prop:=λxs H Q => ∃(a:Addr) (ns:List Int),xs = [.ref a]/\SqL K H a (ns.map V.int)/\ns.length+1<4096 /\ ∀l,H l=none->Q (.ref l) (upd H l (setO w (yB ns)))
theorem ky(g:X.A.handled=none):CallR X (.type "set") (qZi X.w X.K):=by
 intro d s σ H o p Q I r h;let⟨a,t,rfl,i,v,q⟩:=h;let⟨u,rfl,j⟩:=vals1 r;cases j;let⟨c,f,l,_⟩:=I.list i;let m:=f.length;rw [aB] at m;refine qKy g l.isList (uh f) (by rw [aR];show c.length+1<4096;lia) λx tk n k=>?_;exact⟨.ref s.heap.objs.size,_,I.laid (t':=tk) (λb u e=>k b u (aT e) e) (aH _) (qWn n),rfl,q _ (I.hok.fresh (aH _))⟩
def WorksAt(K:PySem.W.Frag)(G H:Hp)(as:List Addr)(ws:List (List Blk)):Prop:=Paired (λa w => ∃bs,H a=some (.lst bs)/\DenL K G (w.map blkD) bs) as ws
theorem WorksAt.len{K:PySem.W.Frag}(h:WorksAt K G H as a):as.length=a.length:=dD h
theorem WorksAt.mono{K:PySem.W.Frag}(g:Same G b):∀ {as:List Addr} {c:List (List Blk)},WorksAt K G H as c->(∀a∈as,∀o,H a=some o->H' a=some o)->WorksAt K b H' as c
 | _,_,.nil,_ =>.nil
 | _,_,.cons ⟨bs,e,d⟩ r,k =>.cons ⟨bs,k _ ∅ _ e,d.mono g⟩ (WorksAt.mono g r λa f o e=>k a (by simp [f]) o e)
theorem WorksAt.get{K:PySem.W.Frag}:∀ {as:List Addr} {b:List (List Blk)} {i:Nat} {a:Addr},WorksAt K G H as b->as[i]? = some a -> ∃w bs,b[i]? = some w/\H a=some (.lst bs)/\DenL K G (w.map blkD) bs
 | _,_,_,_,.nil,e=>by simp at e
 | _,_,0,_,.cons ⟨bs,e,d⟩ _,h=>by simp at h;subst h;exact⟨_,bs,rfl,e,d⟩
 | _,_,i+1,a,.cons _ r,h=>by
  let⟨w,bs,c,f⟩:=WorksAt.get (i:=i) (a:=a) r (by simpa using h);exact⟨w,bs,by simpa using c,f⟩
theorem WorksAt.snoc{K:PySem.W.Frag}{bs:List V}:∀ {as:List Addr} {b:List (List Blk)},WorksAt K G H as b->H a=some (.lst bs)->DenL K G (w.map blkD) bs->WorksAt K G H (as ++ [a]) (b ++ [w])
 | _,_,.nil,e,d =>.cons ⟨bs,e,d⟩ .nil
 | _,_,.cons h r,e,d =>.cons h (WorksAt.snoc r e d)
structure AllOk(works:Int)(ws:List (List Blk)):Prop where
 all:∀w∈ws,∃m:Int,1<=m/\m<=12/\WorkOk m works w
 one:1<=ws.length
 few:ws.length<=10
section
variable{K:PySem.W.Frag}{a:Addr}{xs:List V}{g:TG}{tt:TT}{B:TB}{σ : St}{H:Hp}{Q:St->Hp->Prop}
theorem jA(Pv:Nat->St->Hp->Prop)(k:Pv 0 σ H)(h:∀i σ H,i<=xs.length->Pv i σ H->SqT K H a xs)(l:∀i x σ H (R:St->Hp->Prop),xs[i]? = some x->Pv i σ H->(∀ d H',Pv (i+1) d H'->R d H')->g x σ H λc m=>tt c m λb j=>if b=true then B c j R else R c j)(hd:∀ σ H,Pv xs.length σ H->Q σ H):LoopT (Itt K a) g tt B σ H Q:=by
 refine xm (n:=xs.length) Pv k (λi σ H f p=>⟨xs,xs[i],h i σ H (bS f) p,by simp [f]⟩) (λσ H p=>⟨xs,h _ σ H (aH _) p,aH _⟩) (λi σ H R f p o x H' y=>?_) hd;let⟨e,y⟩:=y;subst e;exact l i x σ _ R (y xs (h i σ _ (bS f) p)) p o
end
noncomputable def xW(m i:Int)(ns:List Int):List (Int×Int):=if ns = [] then [(i,m)] else ns.map λx=>(i,x)
noncomputable def rawTo(w:List Blk):Nat->List (Int×Int)
 | 0 =>[(-1,0)]
 | i+1=>rawTo w i++xW w.length i ((w[i]?.map Blk.ns).getD [])
theorem qFz{M m i:Int}(h:NsOk M ns):(xW m i ns).Perm (outs m i ns):=by
 unfold xW outs;rcases h with z | ⟨x,z,_⟩ | ⟨x,y,z,_⟩ <;> subst z
 .exact .refl _
 .exact .refl _
 .rw [if_neg ∅,if_neg ∅,cE];refine List.Perm.map _ ?_;unfold srt;dsimp only;split
  .exact .refl _
  .exact List.Perm.swap _ _ _
theorem vz{m works:Int}(h:WorkOk m works w):∀n,(rawTo w n).Perm (zG w n)
 | 0 =>.refl _
 | i+1=>by
  show (rawTo w i++xW _ _ _).Perm (zG w i++outs w.length i ((w[i]?.map Blk.ns).getD []));refine (vz h i).append ?_;cases e:w[i]? with
  | none=>exact qFz (M:=m) (.inl rfl)
  | some b=>exact qFz (h.blk b (aN e)).ns
theorem uA{m works:Int}(h:WorkOk m works w):(zG w w.length).Pairwise ltP:=by
 rw [yx];refine eN.mpr ⟨λp a=>?_,qFy h _⟩;let:=(ko h a).1;exact .inl (by show (-1:Int)<p.1;lia)
theorem qJ9{l:List (Int×Int)}(h:l.Pairwise ltP):l.Nodup:=h.imp λ{a b} c e=>by subst e;exact ltP.irr c
theorem qL8{m works:Int}(h:WorkOk m works w):(rawTo w w.length).Nodup:=(vz h _).nodup_iff.mpr (qJ9 (uA h))
theorem qJb{m works:Int}(h:WorkOk m works w)(i:Nat):(rawTo w i).length<=1+2*i:=by
 rw [(vz h i).length_eq];exact xp (λb a=>(h.blk b a).ns.few) i
def jB(K:PySem.W.Frag):Sp:=λvs H Q _ => ∃(a:Addr) (w:List Blk) (m works:Int),vs = [.ref a]/\Den K H (workD w) (.ref a)/\WorkOk m works w/\m<=12 /\
 ∀(l:Addr) (us:List V) (H':Hp),H l=none->Ext [] H H'->H' l=some (.lst us)->DenL K (yo H [l] H') ((zG w w.length).map pairD) us->Q (.ref l) H'
noncomputable def wr:Deed->Option Int
 | .set b _=>some b
 | .add b _=>some b
 | _=>none
noncomputable def wK(w:List Blk):List Int:=w.flatMap λb=>b.ds.filterMap wr
noncomputable def boxes(w:List Blk):List Int:=((List.range 8).map λ(n:Nat)=>(n:Int)).filter λb=>decide (b∈wK w)
theorem qPy:∀ {b l2:List Int},b.Pairwise (· < ·)->l2.Pairwise (· < ·)->(∀p,p∈b↔p∈l2)->b=l2
 | [],[],_,_,_=>rfl
 | [],q::l2,_,_,h=>absurd ((h q).mpr (aV ..)) ∅
 | p::b,[],_,_,h=>absurd ((h p).mp (aV ..)) ∅
 | p::b,q::l2,c,d,h=>by
  rw [eN] at c d;let e:p=q:=by
   rcases aL.mp ((h p).mp (aV ..)) with z | z
   .exact z
   .rcases aL.mp ((h q).mpr (aV ..)) with y | y
    .exact y.symm
    .let:=d.1 p z;let:=c.1 q y;lia
  subst e;refine congrArg (p :: ·) (qPy c.2 d.2 λx=>⟨λa=>?_,λa=>?_⟩)
  .rcases aL.mp ((h x).mp (aS _ a)) with z | z
   .rw [z] at a;let:=c.1 p a;lia
   .exact z
  .rcases aL.mp ((h x).mpr (aS _ a)) with z | z
   .rw [z] at a;let:=d.1 p a;lia
   .exact z
theorem qSv{works:Int}{b:Int}(h:xo works d)(e:wr d=some b):0<=b/\b<8:=by
 cases d with
 | set x n=>cases e;exact⟨h.1,h.2.1⟩
 | add x o=>cases e;exact⟨h.1,h.2.1⟩
 | tell x=>cases e
 | call x=>cases e
 | save x=>cases e
 | back x=>cases e
theorem jC{m works:Int}(h:WorkOk m works w){b:Int}(a:b∈wK w):0<=b/\b<8:=by
 let⟨k,c,a⟩:=cC.mp a;let⟨d,f,e⟩:=bU.mp a;exact qSv ((h.blk k c).ds d f) e
theorem jD(w:List Blk):(boxes w).Pairwise (· < ·):=by
 unfold boxes;refine List.Pairwise.filter _ ?_;rw [dJ];exact fT.imp λ{a b} h=>by lia
theorem jE{m works:Int}(h:WorkOk m works w){b:Int}:b∈boxes w↔b∈wK w:=by
 unfold boxes;rw [bT,decide_eq_true_eq];refine⟨λz=>z.2,λz=>⟨?_,z⟩⟩;let:=jC h z;exact aY.mpr ⟨b.toNat,bN.mpr ∎,∎⟩
theorem qKj(w:List Blk):(boxes w).length<=8:=by
 unfold boxes;refine cD (cR _ _) ∅
mutual
noncomputable def tame:PyData->Bool
 | .int i=>decide (i.natAbs<10^13)
 | .str x=>x.cps.all (· < 0x110000)&&decide (x.cps.size<=10)
 | .list xs=>yt xs
 | .tuple xs=>yt xs
 | .none=>false
 | .bool _=>false
 | .dict _=>false
noncomputable def yt:List PyData->Bool
 | []=>true
 | x::xs=>tame x&&yt xs
end
mutual
noncomputable def cells:PyData->Nat
 | .list xs=>vC xs
 | .tuple xs=>vC xs
 | .int _=>0
 | .str _=>0
 | .none=>0
 | .bool _=>0
 | .dict _=>0
noncomputable def vC:List PyData->Nat
 | []=>0
 | x::xs=>cells x+1+vC xs
end
theorem wA3{n:Nat}(h:n<10^13):n.log2<44:=by
 by_cases a:n=0
 .subst a;decide
 .exact (Nat.log2_lt a).mpr (bK h ⋯)
mutual
theorem qP2:∀d:PyData,tame d=true->PyData.showable d=true
 | .int i,h=>by
  let a:i.natAbs<10^13:=by simpa only [tame,decide_eq_true_eq] using h
  let:=wA3 a;simp only [PyData.showable,decide_eq_true_eq];lia
 | .str x,_=>rfl
 | .list xs,h=>jF xs (by simpa only [tame] using h)
 | .tuple xs,h=>jF xs (by simpa only [tame] using h)
theorem jF:∀ds:List PyData,yt ds=true->PyData.showableAll ds=true
 | [],_=>rfl
 | x::xs,h=>by
  let a:(tame x&&yt xs)=true:=by simpa only [yt] using h
  rw [bP] at a;simp only [PyData.showableAll,qP2 x a.1,jF xs a.2,Bool.and_self]
end
mutual
theorem qMa:∀d:PyData,tame d=true->PyData.canLay0 d=true
 | .int i,h=>rfl
 | .str x,h=>by
  let a:(x.cps.all (· < 0x110000)&&decide (x.cps.size<=10))=true:=by simpa only [tame] using h
  rw [bP] at a;simpa only [PyData.canLay0,PyData.strOk] using a.1
 | .list xs,h=>jG xs (by simpa only [tame] using h)
 | .tuple xs,h=>jG xs (by simpa only [tame] using h)
theorem jG:∀ds:List PyData,yt ds=true->PyData.canLayAll0 ds=true
 | [],_=>rfl
 | x::xs,h=>by
  let a:(tame x&&yt xs)=true:=by simpa only [yt] using h
  rw [bP] at a;simp only [PyData.canLayAll0,qMa x a.1,jG xs a.2,Bool.and_self]
end
theorem jH(h:tame d=true)(hd:d.depth<=64)(b:∃xs,d = .list xs):SeqAt.shaped d=true:=by
 let⟨xs,rfl⟩:=b;let a:=qMa _ h;let a:PyData.canLayAll0 xs=true:=by simpa only [PyData.canLay0] using a
 show (PyData.canLayAll0 xs&&decide (PyData.depth (.list xs)<=64))=true;rw [a,decide_eq_true hd];rfl
theorem qFr{α : Type}{f : α -> PyData}:∀ {l:List α},(∀x∈l,tame (f x)=true)->yt (l.map f)=true
 | [],_=>rfl
 | x::r,h=>by
  simp only [bE,yt,h x (aV ..),qFr λy a=>h y (aS _ a),Bool.and_self]
theorem qFc{α : Type}{f : α -> PyData}{n:Nat}:∀ {l:List α},(∀x∈l,cells (f x)<=n)->vC (l.map f)<=(n+1)*l.length
 | [],_=>aX _
 | x::r,h=>by
  let b:=h x (aV ..);let c:=qFc (l:=r) λy a=>h y (aS _ a);simp only [bE,vC,cB,Nat.mul_add];lia
theorem qFa{α : Type}{f : α -> PyData}{n:Nat}:∀ {l:List α},(∀x∈l,(f x).depth<=n)->PyData.depthAll (l.map f)<=n
 | [],_=>aX _
 | x::r,h=>by
  let b:=h x (aV ..);let c:=qFa (l:=r) λy a=>h y (aS _ a);simp only [bE,PyData.depthAll];lia
theorem jI(h:∀n∈ns,-1<=n/\n<=100)(c:ns.length<=1000):tame (intsD ns)=true/\cells (intsD ns)<=5000/\(intsD ns).depth<=64:=by
 let b:=qFr (l:=ns) (f:=PyData.int) λn a=>by
  let:=h n a;simp only [tame,decide_eq_true_eq];lia
 let d:=qFc (l:=ns) (f:=PyData.int) (n:=0) λn a=>aH _;let e:=qFa (l:=ns) (f:=PyData.int) (n:=0) λn a=>aH _;refine⟨?_,?_,?_⟩
 .simp only [intsD,tame,b]
 .simp only [intsD,cells];lia
 .show PyData.depthAll (ns.map .int)+1<=64;lia
theorem qQ0{bs:List Bool}(c:∀i b,bs[i]? = some b->f i=b):(List.range bs.length).any f=bs.any id:=by
 rw [gO,dR,dR];constructor
 .rintro⟨i,a,h⟩;let a:=bN.mp a;let:=c i bs[i] (aC a);exact⟨bs[i],dQ a,by rw [<-this];exact h⟩
 .rintro⟨b,d,h⟩;let⟨i,a,e⟩:=bJ d;exact⟨i,bN.mpr a,by rw [c i b (by rw [aC a,e])];exact h⟩
def rAnyB(K:PySem.W.Frag):List V->Hp->VK->Prop:=λxs H Q => ∃(a:Addr) (bs:List Bool),xs = [.ref a]/\SqL K H a (bs.map V.bl)/\Q (.bl (bs.any id)) H
theorem qSk(w:X.A.handled=none):CallR X (.builtin "any") (rAnyB X.K):=by
 intro m s σ H G J Q I r h;let⟨a,bs,rfl,y,q⟩:=h;let⟨u,rfl,z⟩:=vals1 r;cases z;let⟨d,n,B,_⟩:=I.list y;let c:=n.length;rw [aB] at c;let g:=B.isList;let j:a≠s.heap.objs.size:=by let⟨o,e,_⟩:=g;exact aZ (aT e)
 let f:∀(i:Nat) (v:Value),d.toArray[i]? = some v->v = .bool (bs.getD i false):=λi v e=>by
  rw [List.getElem?_toArray] at e;let p:i<bs.length:=by rw [c];exact (aI.mp e).1
  let⟨u,t,l⟩:=n.get (i:=i) (x:=V.bl bs[i]) (by rw [aU,aC p];rfl);rw [e] at t;cases t;let l:v=Value.bool bs[i]:=l;rw [l,bF,aC p];rfl
 refine call_any_walk (wpAny_pyIter_list g ⟨_,_,_,_,_,_,λi=>bs.getD i false,rfl,Walks.list (by exact w) _ a j d.toArray,⟨⟨_,aW _ rfl,rfl,rfl⟩,g.push _⟩,λi v s Q E C D=>?_,λL tk k=>?_⟩)
 .rw [f i v C];exact gM D
 .let e:(List.range d.toArray.size).any (λi=>bs.getD i false)=bs.any id:=by
   rw [aR,<-c];exact qQ0 λi b F=>by rw [bF,F];rfl
  rw [e];exact⟨.bl (bs.any id),H,I.kept (t':=tk) (λb o e=>k b o (by simpa using aZ (aT e)) (aE _ e)),rfl,q⟩
abbrev Pl:=Int×Int
noncomputable def plK(p:Pl):List Key :=[.inl p.1,.inl p.2]
theorem qXc(h:plK p=plK q):p=q:=by
 let⟨a,b⟩:=p;let⟨c,d⟩:=q;simp only [plK,List.cons.injEq,Sum.inl.injEq,and_true] at h;rw [h.1,h.2]
def TK(H H':Hp):Prop := ∀b xs,H b=some (.tup xs)->H' b=some (.tup xs)
theorem TK.trans(a:TK H d)(b:TK d e):TK H e:=λc f h=>b c f (a c f h)
theorem Ext.tk(e:Ext [] H H'):TK H H':=λb a h=>e b _ ∅ h
theorem TK.put{t:Addr}(h:∀ys,H t≠some (.tup ys)):TK H (upd H t o):=λb a e=>by
 let n:b≠t:=λz=>by rw [z] at e;exact h a e
 rw [zD n];exact e
def PlAt(H:Hp)(v:V)(p:Pl):Prop := ∃b,v = .ref b/\H b=some (.tup [.int p.1,.int p.2])
def PlsAt(H:Hp):List V->List Pl->Prop:=Paired (PlAt H)
theorem PlsAt.mono(k:TK H H')(h:PlsAt H vs a):PlsAt H' vs a:=Paired.mapP h λ_ _ ⟨b,e,q⟩=>⟨b,e,k _ _ q⟩
theorem PlsAt.len(h:PlsAt H vs a):vs.length=a.length:=dD h
theorem PlsAt.append(h:PlsAt H vs b)(k:PlsAt H ws qs):PlsAt H (vs++ws) (b++qs):=by
 induction h with
 | nil=>exact k
 | cons a _ c=>exact .cons a c
theorem PlsAt.one(h:H b=some (.tup [.int p.1,.int p.2])):PlsAt H [.ref b] [p] :=.cons ⟨b,rfl,h⟩ .nil
theorem PlsAt.last:∀ {vs:List V} {b:List Pl} {y:Pl},PlsAt H vs (b ++ [y]) -> ∃c v,vs=c ++ [v]/\PlsAt H c b/\PlAt H v y:=by
 intro vs b
 induction b generalizing vs with
 | nil =>
  intro y h;cases h with
  | cons a r=>cases r;exact⟨[],_,rfl,.nil,a⟩
 | cons p r d =>
  intro y h;cases h with
  | cons a t =>
   let⟨c,v,rfl,e,f⟩:=d t;exact⟨_::c,v,rfl,.cons a e,f⟩
theorem PlsAt.den{K:PySem.W.Frag}(h:PlsAt H vs c):DenL K H (c.map pairD) vs:=by
 induction h with
 | nil=>exact .nil
 | cons a _ d=>obtain⟨b,e,q⟩:=a;subst e;exact .cons (.tuple (SqT.of q) (.cons .int (.cons .int .nil))) d
noncomputable def trueD(ks:List Pl):List (List Key×V):=ks.map λp=>(plK p,V.bl true)
theorem jJ(y:Pl):∀ks:List Pl,valV (trueD ks) (plK y)=if y∈ks then some (V.bl true) else none
 | []=>rfl
 | k::r=>by
  let a:=jJ y r;unfold trueD at a ⊢;by_cases e:k=y
  .subst e;rw [bE,ye rfl,if_pos (aV ..)]
  .rw [bE,yf (λz=>e (qXc z)),a];let:(y∈k::r)↔y∈r:=by simp [cP e]
   simp only [this]
noncomputable def dword:Deed->Str
 | .set _ _ => "set"
 | .add _ _ => "add"
 | .tell _ => "tell"
 | .call _ => "call"
 | .save _ => "save"
 | .back _ => "back"
noncomputable def dargs:Deed->List Int
 | .set b n =>[b,n]
 | .add b o =>[b,o]
 | .tell b =>[b]
 | .call b =>[b]
 | .save b =>[b]
 | .back b =>[b]
noncomputable def darg:Deed->Int
 | .set b _=>b
 | .add b _=>b
 | .tell b=>b
 | .call b=>b
 | .save b=>b
 | .back b=>b
theorem qYe(d:Deed):deedD d = .tuple (.str (dword d)::(dargs d).map .int):=by cases d <;> rfl
theorem qOi(d:Deed):∃r,dargs d=darg d::r:=by cases d <;> exact⟨_,rfl⟩
theorem qS6(d:Deed):inV (V.str (dword d)) [V.str "set",.str "add"]=(wr d).isSome:=by cases d <;> first | rfl | (show inV (V.str _) _=_;simp only [dword,wr];decide)
noncomputable def wrB(x:Int)(d:Deed):Bool:=(wr d).isSome&&decide (darg d=x)
noncomputable def wrote(x:Int)(ds:List Deed):Bool:=ds.any (wrB x)
noncomputable def wAl:Deed->Option Int
 | .call c=>some c
 | _=>none
noncomputable def jK(d:Deed):Bool:=(wAl d).isSome
theorem qS7(d:Deed):decide (dword d = "call")=jK d:=by
 cases d with
 | call c=>exact decide_eq_true rfl
 | set _ _=>exact decide_eq_false (show ¬("set" : Str) = "call" by decide)
 | add _ _=>exact decide_eq_false (show ¬("add" : Str) = "call" by decide)
 | tell _=>exact decide_eq_false (show ¬("tell" : Str) = "call" by decide)
 | save _=>exact decide_eq_false (show ¬("save" : Str) = "call" by decide)
 | back _=>exact decide_eq_false (show ¬("back" : Str) = "call" by decide)
noncomputable abbrev yV(ws:List (List Blk)):PyData :=.list (ws.map workD)
noncomputable def blkAt(ws:List (List Blk))(p:Pl):Option Blk:=if 0<=p.1/\0<=p.2 then (ws[p.1.toNat]?).bind λw=>w[p.2.toNat]? else none
structure WsOk(ws:List (List Blk)):Prop where
 all:∀w∈ws,∃m:Int,1<=m/\m<=12/\WorkOk m (ws.length:Int) w
 one:1<=ws.length
 few:ws.length<=25
theorem jL(b:List (List Blk))(n a:Nat):blkAt b ((n:Int),(a:Int))=(b[n]?).bind λw=>w[a]? :=by
 unfold blkAt;rw [if_pos ⟨∎,∎⟩];rfl
theorem jM(h:blkAt c p=some b):∃(n a:Nat) (w:List Blk),p=((n:Int),(a:Int))/\c[n]? = some w/\w[a]? = some b:=by
 unfold blkAt at h;split at h
 .rename_i d;cases e:c[p.1.toNat]? with
  | none=>rw [e] at h;cases h
  | some w =>
   rw [e] at h;refine⟨p.1.toNat,p.2.toNat,w,?_,e,h⟩;rw [iP d.1,iP d.2]
 .cases h
noncomputable def places(ws:List (List Blk)):List Pl:=(List.range ws.length).flatMap λ(n:Nat)=>(List.range ((ws[n]?).getD []).length).map λ(a:Nat)=>((n:Int),(a:Int))
theorem mem_places:p∈places e ↔ ∃b,blkAt e p=some b:=by
 unfold places;rw [cC];constructor
 .rintro⟨n,d,g⟩;let⟨a,c,rfl⟩:=aY.mp g;rw [jL];let d:=bN.mp d;let c:=bN.mp c;rw [aC d] at c ⊢;exact⟨_,aC c⟩
 .rintro⟨b,h⟩;let⟨n,a,w,rfl,f,c⟩:=jM h;refine⟨n,bN.mpr (aI.mp f).1,aY.mpr ⟨a,bN.mpr ?_,rfl⟩⟩;rw [f];exact (aI.mp c).1
theorem WsOk.blk(h:WsOk c)(f:blkAt c p=some b):∃(m:Int) (n:Nat) (w:List Blk),p.1=(n:Int)/\c[n]? = some w/\(w.length:Int)=m/\1<=m/\m<=12/\BlkOk m (c.length:Int) b:=by
 let⟨n,a,w,rfl,d,g⟩:=jM f;let⟨m,i,j,e⟩:=h.all w (aN d);exact⟨m,n,w,rfl,d,e.len,i,j,e.blk b (aN g)⟩
theorem qO1(h:WsOk b):(places b).length<=300:=by
 unfold places;let key:∀l:List Nat,(∀n∈l,n<b.length)->(l.flatMap λ(n:Nat)=>(List.range ((b[n]?).getD []).length).map λ(a:Nat)=>((n:Int),(a:Int))).length<=12*l.length:=by
  intro l
  induction l with
  | nil=>intro _;exact aH _
  | cons n r f =>
   intro d;rw [cO,aG,aB,bQ,cB];let e:=f λm g=>d m (aS _ g);let c:=d n (aV ..);rw [aC c];let⟨j,k,o,i⟩:=h.all b[n] (dQ c);let p:=i.len;show b[n].length+_<=_;lia
 let e:=key (List.range b.length) λn c=>bN.mp c;rw [bQ] at e;let:=h.few;lia
noncomputable def qYg(X:Cx)(own:List Str)(cap:List Nat)(scope:Scope)(y:Str)(cl:List (Str×Addr))(s:Shared)(H:Hp)(ex:List Addr):Cx :=
 { zQ X own cap scope ((y,s.heap.objs.size+1)::cl) s H ex with fn:=λx=>x == y }
theorem yi:(qYg X a b scope y c s H ex).K=X.K:=rfl
theorem qIk(a:List (Int×Int)):PyData.eqv (wI a) (.list [])=decide (a = []):=by
 cases a with
 | nil=>rfl
 | cons p r=>rfl
noncomputable def hasW(wk:List Blk)(x:Int)(i:Nat):Bool:=(wk[i]?).any λb=>wrote x b.ds
noncomputable def wrTo(wk:List Blk)(x:Int)(i:Nat):List Int:=((List.range i).filter (hasW wk x)).map λ(n:Nat)=>(n:Int)
theorem qOr(a:List Blk)(x:Int)(i:Nat):wrTo a x (i+1)=if hasW a x i=true then wrTo a x i ++ [(i:Int)] else wrTo a x i:=by
 unfold wrTo;rw [List.range_succ,eQ,List.filter_cons,List.filter_nil];split
 .rw [aP];rfl
 .rw [cE]
theorem vD(a:List Blk)(x:Int)(i:Nat):(wrTo a x i).length<=i:=by
 unfold wrTo;rw [aB];let:=cR (hasW a x) (List.range i);rw [bQ] at this;exact this
theorem qY9{x:Int}{i:Nat}(h:a[i]? = some b):hasW a x i=wrote x b.ds:=by unfold hasW;rw [h];rfl
theorem mem_wrTo{x y:Int}{i:Nat}:y∈wrTo c x i ↔ ∃n:Nat,y=(n:Int)/\n<i/\hasW c x n=true:=by
 unfold wrTo;rw [aY];constructor
 .rintro⟨n,d,rfl⟩;let⟨a,b⟩:=bT.mp d;exact⟨n,rfl,bN.mp a,b⟩
 .rintro⟨n,rfl,a,b⟩;exact⟨n,bT.mpr ⟨bN.mpr a,b⟩,rfl⟩
def uB(K:PySem.W.Frag):Sp:=λvs H Q _ => ∃(wa:Addr) (wk:List Blk) (m works x:Int),vs = [.ref wa,.int x]/\Den K H (workD wk) (.ref wa)/\WorkOk m works wk/\m<=12 /\
 ∀(l:Addr) (H':Hp),H l=none->Ext [] H H'->H' l=some (.lst ((wrTo wk x wk.length).map V.int))->Q (.ref l) H'
noncomputable def vE(wk:List Blk)(x:Int):List Int:=(wrTo wk x wk.length).flatMap (nxt wk)
theorem jN{α β : Type}(f : α -> List β)(h:∀a,(f a).length<=2):∀l:List α,(l.flatMap f).length<=2*l.length
 | []=>aH _
 | a::r=>by
  let:=jN f h r;let:=h a;rw [cO,aG,cB];lia
noncomputable def grow(nx:Int->List Int)(F:List Int)(b:Int):List Int:=F++(nx b).filter λx => !decide (x∈F)
theorem mem_grow{b x:Int}:x∈grow nx F b↔x∈F\/x∈nx b:=by
 unfold grow;rw [aJ,bT];by_cases h:x∈F <;> simp [h]
mutual
noncomputable def noI:PyData->Bool
 | .list ds=>noIs ds&&(match ds with | .int _::_=>false | _=>true)
 | .tuple ds=>noIs ds
 | _=>true
noncomputable def noIs:List PyData->Bool
 | []=>true
 | d::ds=>noI d&&noIs ds
end
section
variable{K:PySem.W.Frag}{H:Hp}{t:Addr}{x:Int}{r:List V}
theorem qVo(h:a≠t)(e:Rd H a o):Rd (wo [t] H) a o:=by
 let b:a ∉ [t]:=by simpa using h
 rcases e with e | ⟨u,e⟩
 .exact .inl (by rw [xP b];exact e)
 .exact .inr ⟨u,by rw [xP b];exact e⟩
mutual
theorem Den.off(c:H t=some (.lst (.int x::r))):∀ {d:PyData} {v:V},noI d=true->Den K H d v->Den K (wo [t] H) d v
 | .none,_,_,e=>by simp only [Den] at e ⊢;exact e
 | .bool _,_,_,e=>by simp only [Den] at e ⊢;exact e
 | .int _,_,_,e=>by simp only [Den] at e ⊢;exact e
 | .str _,_,_,e=>by simp only [Den] at e ⊢;exact e
 | .list ds,_,f,e=>by
  simp only [Den] at e ⊢;let⟨a,j,k,e2,g⟩:=e;simp only [noI,bP] at f;refine⟨a,j,k,?_,DenL.off c f.1 g⟩;rcases e2 with e2 | e2
  .refine .inl (qVo (λh=>?_) e2);subst h;rcases e2 with e2 | ⟨o,e2⟩
   .rw [c] at e2;cases e2;cases ds with
    | nil=>have:=g.ofNil;cases this
    | cons d ds =>
     let⟨v,m,l,b,_⟩:=g.ofCons;cases l;cases d with
     | int i=>simp at f
     | none=>simp only [Den] at b;cases b
     | bool=>simp only [Den] at b;cases b
     | str=>simp only [Den] at b;cases b
     | list=>simp only [Den] at b;let⟨_,_,z,_⟩:=b;cases z
     | tuple=>simp only [Den] at b;let⟨_,_,z,_⟩:=b;cases z
     | dict=>simp only [Den] at b
   .rw [c] at e2;cases e2
  .exact .inr e2
 | .tuple ds,_,f,e=>by
  simp only [Den] at e ⊢;let⟨a,j,k,e2,g⟩:=e;simp only [noI] at f;refine⟨a,j,k,?_,DenL.off c f g⟩;rcases e2 with e2 | e2
  .refine .inl (qVo (λh=>?_) e2);subst h;rcases e2 with e2 | ⟨o,e2⟩
   .rw [c] at e2;cases e2
   .rw [c] at e2;cases e2
  .exact .inr e2
 | .dict _,_,_,e=>by simp only [Den] at e
theorem DenL.off(b:H t=some (.lst (.int x::r))):∀ {ds:List PyData} {vs:List V},noIs ds=true->DenL K H ds vs->DenL K (wo [t] H) ds vs
 | [],_,_,e=>by simp only [DenL] at e ⊢;exact e
 | d::ds,_,a,e=>by
  simp only [DenL] at e ⊢;simp only [noIs,bP] at a;let⟨v,r,c,f,g⟩:=e;exact⟨v,r,c,Den.off b a.1 f,DenL.off b a.2 g⟩
end
end
theorem uC{α : Type}{f : α -> PyData}:∀ {l:List α},(∀a∈l,noI (f a)=true)->noIs (l.map f)=true
 | [],_=>rfl
 | a::l,h=>by
  simp only [bE,noIs,bP];exact⟨h a (aV ..),uC λb c=>h b (aS _ c)⟩
theorem qUb(d:Deed):noI (deedD d)=true:=by cases d <;> rfl
theorem qXz(ns:List Int):noI (endD ns)=true:=by
 match ns with
 | []=>rfl
 | [x]=>rfl
 | x::y::_=>rfl
theorem qY0(b:Blk):noI (blkD b)=true:=by
 simp only [blkD,noI,noIs,qXz,Bool.and_true,bP];refine⟨uC λd _=>qUb d,?_⟩;cases b.ds with
 | nil=>rfl
 | cons d ds=>cases d <;> rfl
theorem qUa(w:List Blk):noI (workD w)=true:=by
 simp only [workD,noI,bP];refine⟨uC λd _=>qY0 d,?_⟩;cases w <;> rfl
theorem qJw(a:List (List Blk)):noI (yV a)=true:=by
 simp only [yV,noI,bP];refine⟨uC λd _=>qUa d,?_⟩;cases a <;> rfl
theorem Tape.works{K:PySem.W.Frag}{t:Addr}{k:Nat}(T:Tape H t k)(h:Den K H (yV d) v):Den K (wo [t] H) (yV d) v:=by
 let⟨a,b,c,e,_⟩:=T;exact Den.off e (qJw d) h
theorem jO:∀ {ns:List Int} {lo hi:Int},ns.Pairwise (· <= ·)->ns.Nodup->(∀n∈ns,lo<=n/\n<hi)->(ns.length:Int)<=max 0 (hi - lo)
 | [],_,_,_,_,_=>by simp;lia
 | n::r,lo,hi,j,k,i=>by
  let⟨d,e⟩:=eN.mp j;let⟨f,g⟩:=cK.mp k;let l:=i n (aV ..);let:=jO (ns:=r) (lo:=n+1) (hi:=hi) e g λm h=>by
   let a:=d m h;let b:=i m (aS _ h);let c:m≠n:=λz=>f (z▸h);lia
  rw [cB];lia
theorem yc{K:PySem.W.Frag}:(cxOf b P w K mg base N a scope f c A outer s H E).nox.w=w:=rfl
theorem yd{K:PySem.W.Frag}:(cxOf b P w K mg base N a scope f c A outer s H E).w=w:=rfl
def BusyP(ws:List (List Blk))(n:Nat)(wk:List Blk)(x y:Int):Prop:=y∈wrTo wk x wk.length\/False
def qVk(K:PySem.W.Frag):Sp:=λvs H Q _ => ∃(wa:Addr) (ws:List (List Blk)) (n:Nat) (wk:List Blk) (x:Int),vs = [.ref wa,.int n,.int x]/\Den K H (yV ws) (.ref wa)/\WsOk ws/\ws[n]? = some wk /\
 ∀(l:Addr) (ns:List Int) (H':Hp),H l=none->Ext [] H H'->H' l=some (.lst (ns.map V.int))->ns.Pairwise (· <= ·)->ns.Nodup->(∀y∈ns,0<=y/\y<(wk.length:Int))->(∀y,BusyP ws n wk x y->y∈ns)->Q (.ref l) H'
def qVm(K:PySem.W.Frag):Sp:=λvs H Q _ => ∃(wa:Addr) (ws:List (List Blk)) (n b:Nat) (x:Int),vs = [.ref wa,.int n,.int b,.int x]/\Den K H (yV ws) (.ref wa)/\WsOk ws/\((n:Int),(b:Int))∈places ws /\ ∀(r:Bool) H',Ext [] H H'->Q (.bl r) H'
def qPf(K:PySem.W.Frag):Sp:=λvs H Q _ => ∃(v:V) (d:Deed) (x:Int),vs = [v,.int x]/\Den K H (deedD d) v /\ ∀(r:Bool) H',Ext [] H H'->Q (.bl r) H'
def qVl(K:PySem.W.Frag):Sp:=λvs H Q _ => ∃(wa:Addr) (wk:List Blk) (m works x:Int),vs = [.ref wa,.int x]/\Den K H (workD wk) (.ref wa)/\WorkOk m works wk/\m<=12 /\
 ∀(l:Addr) (ns:List Int) (H':Hp),H l=none->Ext [] H H'->H' l=some (.lst (ns.map V.int))->ns.Pairwise (· <= ·)->ns.Nodup->(∀y∈ns,0<=y/\y<m)->Q (.ref l) H'
structure BehW(ss:List Int)(m:Nat)(F:List Int):Prop where
 rg:∀x∈F,0<=x/\x<(m:Int)
 len:F.length<=ss.length+2*cnt (λx=>decide (x∈F)) m
theorem BehW.grow{m:Nat}{b:Int}(h:BehW f m F)(few:∀x,(nx x).length<=2)(g:∀y,∀x∈nx y,0<=x/\x<(m:Int)):BehW f m (L2.grow nx F b):=by
 refine⟨λx j=>(mem_grow.mp j).elim (h.rg x) (g b x),?_⟩;let k:=h.len;by_cases e:(nx b).filter (λx => !decide (x∈F)) = []
 .let:L2.grow nx F b=F:=by unfold L2.grow;rw [e,cE]
  rw [this];exact k
 .let⟨y,l⟩:=List.exists_mem_of_ne_nil _ e;let⟨a,d⟩:=bT.mp l;let c:=g b y a;let n:=qW8 (p:=λx=>decide (x∈F)) (q:=λx=>decide (x∈L2.grow nx F b)) (x:=y) (λi o=>decide_eq_true (mem_grow.mpr (.inl (of_decide_eq_true o)))) (decide_eq_true (mem_grow.mpr (.inr a))) (by simpa using d) m c.1 c.2;let r:=cR (λx => !decide (x∈F)) (nx b);let s:=few b;let:(L2.grow nx F b).length=F.length+((nx b).filter λx => !decide (x∈F)).length:=by unfold L2.grow;rw [aG]
  lia
theorem jP{n:Nat}(hw:a[n]? = some b){t:Int}(c:0<=t)(d:t<(b.length:Int)):((n:Int),t)∈places a:=by
 let⟨k,rfl⟩:=eM c;refine mem_places.mpr ?_;rw [jL,hw];exact⟨_,aC ∎⟩
theorem qOl(h:WsOk a)(hd:xo (a.length:Int) d)(e:jK d=true):(darg d,(0:Int))∈places a:=by
 cases d <;> try cases e
 rename_i c;let⟨k,rfl⟩:=eM hd.1;let b:k<a.length:=by let:=hd.2;lia
 let⟨m,g,_,f⟩:=h.all a[k] (dQ b);let i:=f.len;exact jP (aC b) (Int.le_refl _) ∎
theorem neDK(K:PySem.W.Frag){k:Nat}(a:X.K=K)(b:Room k X.A):OpR X (compareOp .NotEq) (rEqD K true):=a▸ux b
noncomputable def boxTo(wk:List Blk)(i:Nat):List Int:=((List.range i).filter λ(k:Nat) => !decide (wrTo wk (k:Int) wk.length = [])).map λ(k:Nat)=>(k:Int)
theorem qHp(a:List Blk)(i:Nat):boxTo a (i+1)=if wrTo a (i:Int) a.length = [] then boxTo a i else boxTo a i ++ [(i:Int)]:=by
 unfold boxTo;rw [List.range_succ,eQ,List.filter_cons,List.filter_nil];by_cases h:wrTo a (i:Int) a.length = []
 .rw [decide_eq_true h,if_pos h];simp
 .rw [decide_eq_false h,if_neg h];simp
theorem qSn(a:List Blk)(i:Nat):(boxTo a i).length<=i:=by
 unfold boxTo;rw [aB];let:=cR (λ(k:Nat) => !decide (wrTo a (k:Int) a.length = [])) (List.range i);rw [bQ] at this;exact this
theorem qR9{i:Nat}{y:Int}:y∈boxTo a i↔(0<=y/\y<i)/\wrTo a y a.length ≠ []:=by
 unfold boxTo;rw [aY];constructor
 .rintro⟨k,d,rfl⟩;let⟨b,c⟩:=bT.mp d;let:=bN.mp b;exact⟨∎,by simpa using c⟩
 .rintro⟨b,c⟩;refine⟨y.toNat,bT.mpr ⟨bN.mpr ∎,?_⟩,∎⟩;rw [iP b.1];simpa using c
def qMj(K:PySem.W.Frag):Sp:=λvs H Q _ => ∃(wa:Addr) (wk:List Blk) (m works:Int),vs = [.ref wa]/\Den K H (workD wk) (.ref wa)/\WorkOk m works wk/\m<=12 /\
 ∀(l:Addr) (H':Hp),H l=none->Ext [] H H'->H' l=some (.lst ((boxTo wk 8).map V.int))->Q (.ref l) H'
theorem qGw{m works x y:Int}(h:WorkOk m works a)(b:y∈wrTo a x a.length):0<=y/\y<m:=by
 let⟨n,rfl,c,_⟩:=mem_wrTo.mp b;let:=h.len;lia
def qVi(n d:Nat)(lo hi:Int):Sp:=λvs H Q _ => ∃(t:Addr) (k:Nat),vs = [.ref t]/\Tape H t k/\k+d<=2^40 /\
 ∀(l:Addr) (ns:List Int) (H':Hp),H l=none->l≠t->ns.length<=n->(∀x∈ns,lo<=x/\x<=hi)->H' l=some (.lst (ns.map V.int))->Tape H' t (k+d)->Ext [t] H H'->Q (.ref l) H'
def qZl(K:PySem.W.Frag):R2:=λx y H Q => ∃p q xs,x = .ref p/\y = .ref q/\SqL K H p xs/\SqL K H q []/\Q (.bl (!xs.isEmpty)) H
theorem qTy{k:Nat}(l:Room k X.A):OpR X (compareOp .NotEq) (qZl X.K):=by
 intro m s σ H x y v u Q I w z h;let⟨p,q,n,rfl,rfl,B,C,o⟩:=h;cases w;cases z;let⟨d,r,t,G⟩:=I.list B;let⟨f,D,g,E⟩:=I.list C;let c:d.length=n.length:=r.length.symm;let i:f.length=0:=D.length.symm;cases n with
 | nil =>
  let c:d.length=0:=c;let:=SeqAt.RcNeAt.lists (A:=X.A) (s:=s) (e:=λ_=>true) t.isList g.isList (by simp [c,i]) l.units0 (λj F J=>absurd F (by simp [c]));refine this _ _ _ _ ⟨.bl false,H,I,?_,o⟩;show Value.bool _=_;simp [c]
 | cons a b =>
  let c:d.length=b.length+1:=c;exact SeqAt.RcNeAt.lists_lengths t.isList g.isList (by simp [c,i]) l.units0 _ _ _ _ ⟨.bl true,H,I,rfl,o⟩
def DeedP(works:Int):Deed->Prop
 | .set b n=>0<=b/\b<8 /\ -(10^12)<=n/\n<=10^12
 | .add b o=>0<=b/\b<8/\0<=o/\o<8
 | .tell b=>0<=b/\b<8
 | .call c=>0<=c/\c<works
 | .save _=>False
 | .back _=>False
theorem DeedP.ok{works:Int}(h:DeedP works d):xo works d:=by
 cases d <;> first | exact h | exact h.elim
def Fw(works:Int)(b:Blk):Prop:=b.ds.length<=12 /\ ∀d∈b.ds,DeedP works d
def jQ(K:PySem.W.Frag):Sp:=λvs H Q _ => ∃(t b:Addr) (k:Nat) (most first works:Int) (bs:List Int),vs = [.ref t,.int most,.ref b,.int first,.int works]/\Tape H t k/\k+130<=2^40/\0<=most/\most<=12/\0<=first/\first<=100/\1<=works/\works<=100 /\
 H b=some (.lst (bs.map V.int))/\b≠t/\BsOk bs /\ ∀(l:Addr) (ds:List Deed) (H':Hp),H l=none->Tape H' t (k+130)->Ext [t] H H'->(∀d∈ds,DeedP works d)->ds.length<=12->Den K (yo H [t] H') (.list (ds.map deedD)) (.ref l)->Q (.ref l) H'
def qPd(K:PySem.W.Frag):Sp:=λvs H Q _ => ∃(t:Addr) (k:Nat) (m most first works:Int),vs = [.ref t,.int m,.int most,.int first,.int works]/\Tape H t k/\k+2000<=2^40/\1<=m/\m<=12/\0<=most/\most<=12/\0<=first/\first<=100/\1<=works/\works<=100 /\
 ∀(l:Addr) (w:List Blk) (bs:List V) (H':Hp),H l=none->l≠t->Tape H' t (k+2000)->Ext [t] H H'->WorkOk m works w->(∀b∈w,Fw works b)->H' l=some (.lst bs)->DenL K (yo H [l,t] H') (w.map blkD) bs->Q (.ref l) H'
def qMd(K:PySem.W.Frag):Sp:=λvs H Q _ => ∃(t:Addr) (k:Nat) (most:Int),vs = [.ref t,.int most]/\Tape H t k/\k+21000<=2^40/\0<=most/\most<=12 /\
 ∀(l:Addr) (as:List Addr) (ws:List (List Blk)) (H':Hp),H l=none->l≠t->l∉as->(∀a∈as,H a=none/\a≠t)->as.Nodup->Tape H' t (k+21000)->Ext [t] H H'->H' l=some (.lst (as.map V.ref))->WorksAt K (yo H (l::t::as) H') H' as ws->AllOk (ws.length:Int) ws->(∀w∈ws,∀b∈w,Fw (ws.length:Int) b)->Q (.ref l) H'
theorem qNm{K:PySem.W.Frag}(h:WorksAt K G H as a)(g:Same G H):DenL K H (a.map workD) (as.map V.ref):=by
 unfold WorksAt at h
 induction h with
 | nil=>exact .nil
 | cons r _ b =>
  let⟨bs,e,d⟩:=r;exact .cons (.list (SqL.of e) (d.mono g)) b
theorem jR{K:PySem.W.Frag}{Q:List V->Prop}(h:SqL K H p xs)(q:Q xs):∃a ys,[V.ref p] = [.ref a]/\(SqL K H a ys\/SqT K H a ys)/\Q ys:=⟨p,xs,rfl,.inl h,q⟩
end L2
namespace L2
open PySem PySem.W PyProof.Rows
noncomputable def qYa:Bool->Keyed->Array Keyed->Nat->Nat->Nat->StateT SortSt Sem (Option Nat):=sortPriv% PySem.Builtin.gallop
def AskOk(prog:Program)(w:World)(A:Around)(κ : SortKind)(it:Array Keyed)(lt:Nat->Nat->Bool)(I:Shared->Prop)(N:Nat):Prop :=
 ∀(i j:Nat) (s:Shared) (C:Bool->Shared->Prop),i<N->j<N->I s->(∀s',I s'->C (lt i j) s')->kas_cmp prog w A κ it i j C s
theorem vF(b:AskOk prog w A κ it lt I N){i j:Nat}{st:SortSt}(d:kindOf st = κ)(hi:i<N)(e:j<N)(f:I s)(h:∀a,I a->Q (some (lt i j)) st a):kasC (model prog w) A E (lt' (kas_item it i) (kas_item it j)) Q st s:=by
 rw [lt'_eq];refine aO (iL ?_);rw [d];refine aO (kasC_lift (wpAny_attempt (cX (b i j s (λc a=>Q (some c) st a) hi e f λa g=>h a g) (λc a k=>?_) λ_ _ l=>l.elim)));exact aQ k
theorem zg{q:Array Nat}{i x:Nat}{st:SortSt}(h:q[i]? = some x)(a:Q (kas_item it x) st s):kasC (model prog w) A E (elem' (q.map (kas_item it)) i) Q st s:=by
 rw [elem'_eq,Array.getElem?_map,h];exact aQ a
theorem zu{σ α : Type}{m:StateT σ Sem α}{Q d : α -> σ -> Shared->Prop}{st : σ}(h:kasC M A E m Q st s)(k:∀a b c,Q a b c->d a b c):kasC M A E m d st s:=cX h (λr c f=>k _ _ _ f) λ_ _ e=>e
theorem xF{σ β : Type}{f:Nat -> β -> StateT σ Sem (ForInStep β)}{Q : β -> σ -> Shared->Prop}(Pv:Nat -> β -> σ -> Shared->Prop)(e:∀k x b st s,Pv (k+1) b st s->kasC M A E (f x b) (λr a d=>match r with | .done c=>Q c a d | .yield c=>Pv k c a d) st s)(hd:∀b st s,Pv 0 b st s->Q b st s):∀(l:List Nat) {b : β} {st : σ} {s:Shared},Pv l.length b st s->kasC M A E (forIn l b f) Q st s
 | [],b,st,s,h=>kasC_nil (hd b st s h)
 | x::l,b,st,s,h=>kasC_cons (zu (e l.length x b st s h) λr a d g=>by
   cases r with
   | done c=>exact g
   | yield c=>exact xF Pv e hd l g)
theorem yO{σ β : Type}{n:Nat}{b : β}{f:Nat -> β -> StateT σ Sem (ForInStep β)}{st : σ}{Q : β -> σ -> Shared->Prop}(Pv:Nat -> β -> σ -> Shared->Prop)(e:Pv n b st s)(g:∀k x b st s,Pv (k+1) b st s->kasC M A E (f x b) (λr a d=>match r with | .done c=>Q c a d | .yield c=>Pv k c a d) st s)(hd:∀b st s,Pv 0 b st s->Q b st s):kasC M A E (forIn [0:n] b f) Q st s:=iU (xF Pv g hd _ (by rw [eR];exact e))
noncomputable def byd(lt:Nat->Nat->Bool)(left:Bool)(key:Nat)(q:Array Nat)(base i:Nat):Bool:=if left then lt (q.getD (base+i) 0) key else !lt key (q.getD (base+i) 0)
theorem vG{α : Type}(f:AskOk prog w A κ it lt I N){left:Bool}{key:Nat}{base n i:Nat}{st:SortSt}{F:Option Bool->StateT SortSt Sem α}{Q : α -> SortSt->Shared->Prop}(g:kindOf st = κ)(c:∀i,i<n -> ∃x,q[base+i]? = some x/\x<N/\q.getD (base+i) 0=x)(a:key<N)(hi:i<n)(j:I s)(h:∀b,I b->kasC (model prog w) A E (F (some (byd lt left key q base i))) Q st b):kasC (model prog w) A E ((elem' (q.map (kas_item it)) (base+i) >>= λx=>if left=true then lt' x (kas_item it key) else lt' (kas_item it key) x >>= λd=>pure (Option.map (λx => !x) d)) >>= F) Q st s:=by
 let⟨x,l,k,m⟩:=c i hi;refine aO (aO (zg l ?_));unfold byd at h;rw [m] at h;cases left with
 | true=>exact vF f g k a j λb e=>h b e
 | false=>exact aO (vF f g a k j λb e=>aQ (h b e))
theorem xX(J:AskOk prog w A κ it lt I N){left:Bool}{key:Nat}{base n hint:Nat}{st:SortSt}(K:kindOf st = κ)(W:base+n<=q.size)(P:∀x∈q,x<N)(p:key<N)(S:hint<n)(T:I s)(mono:∀i j,i<=j->j<n->byd lt left key q base j=true->byd lt left key q base i=true)(h:∀r e,r<=n->(∀i,i<r->byd lt left key q base i=true)->(∀i,r<=i->i<n->byd lt left key q base i=false)->I e->Q (some r) st e):kasC (model prog w) A E (qYa left (kas_item it key) (q.map (kas_item it)) base n hint) Q st s:=by
 let t:∀i,i<n -> ∃x,q[base+i]? = some x/\x<N/\q.getD (base+i) 0=x:=λi c=>by
  let C:base+i<q.size:=by lia
  exact⟨q[base+i],bC C,P _ (fD C),by simp [Array.getD,C]⟩
 refine vG J K t p S T λX L=>?_;dsimp only;cases M:byd lt left key q base hint with
 | true =>
  rw [if_pos rfl];refine aO (zu (yO (Q:=λb a e => ∃la ofs,b=(none,la,ofs)/\st=a/\I e/\la<ofs/\hint+la<n/\byd lt left key q base (hint+la)=true/\(n - hint<=ofs\/hint+ofs<n/\byd lt left key q base (hint+ofs)=false)) (λk b a e => ∃la ofs,b=(none,la,ofs)/\st=a/\I e/\la<ofs/\hint+la<n/\byd lt left key q base (hint+la)=true/\n<=ofs+k) ⟨0,1,rfl,rfl,L,∎,∎,M,∎⟩ ?_ ?_) ?_)
  .rintro k x b a e ⟨la,ofs,rfl,rfl,d,u,f,m,o⟩;dsimp only;by_cases l:ofs>=n - hint
   .rw [if_pos l];exact aQ ⟨la,ofs,rfl,rfl,d,u,f,m,.inl l⟩
   .rw [if_neg l];refine vG J K t p ∎ d λR g=>?_;dsimp only;cases v:byd lt left key q base (hint+ofs) with
    | true =>
     rw [if_neg ⋯];exact aQ ⟨_,_,rfl,rfl,g,∎,∎,v,∎⟩
    | false =>
     rw [if_pos ⋯];exact aQ ⟨la,ofs,rfl,rfl,g,u,f,m,.inr ⟨∎,v⟩⟩
  .rintro b a e ⟨la,ofs,rfl,rfl,d,u,f,m,o⟩;exact⟨la,ofs,rfl,rfl,d,u,f,m,.inl ∎⟩
  rintro b a U ⟨la,ofs,rfl,rfl,D,f,m,o,y⟩;dsimp only;let F:∀i,i<hint+la+1->byd lt left key q base i=true:=λi c=>mono i (hint+la) ∎ m o;let G:∀i,hint+min ofs (n - hint)<=i->i<n->byd lt left key q base i=false:=λi c H=>by
   rcases y with z | ⟨V,O⟩
   .lia
   .cases l:byd lt left key q base i with
    | false=>rfl
    | true=>rw [mono (hint+ofs) i ∎ H l] at O;cases O
  refine aO (zu (yO (Q:=λb a e => ∃c,b=(none,c,c)/\st=a/\I e/\c<=n/\(∀i,i<c->byd lt left key q base i=true) /\ ∀i,c<=i->i<n->byd lt left key q base i=false) (λk b a e => ∃lo c,b=(none,lo,c)/\st=a/\I e/\lo<=c/\c<=n/\c<=lo+k/\(∀i,i<lo->byd lt left key q base i=true) /\ ∀i,c<=i->i<n->byd lt left key q base i=false) ⟨_,_,rfl,rfl,D,∎,∎,∎,F,G⟩ ?_ ?_) ?_)
  .rintro k x b a e ⟨lo,c,rfl,rfl,d,u,f,m,o,y⟩;dsimp only;by_cases l:lo>=c
   .rw [if_pos l];obtain rfl:lo=c:=by lia
    exact aQ ⟨lo,rfl,rfl,d,f,o,y⟩
   .rw [if_neg l];refine vG J K t p ∎ d λR g=>?_;dsimp only;cases v:byd lt left key q base (lo+(c - lo) / 2) with
    | true =>
     rw [if_pos rfl];exact aQ ⟨_,_,rfl,rfl,g,∎,f,∎,λi B=>mono i (lo+(c - lo) / 2) ∎ ∎ v,y⟩
    | false =>
     rw [if_neg aK];refine aQ ⟨_,_,rfl,rfl,g,∎,∎,∎,o,λi B H=>?_⟩;cases l:byd lt left key q base i with
     | false=>rfl
     | true=>rw [mono (lo+(c - lo) / 2) i B H l] at v;cases v
  .rintro b a e ⟨lo,c,rfl,rfl,d,u,f,m,o,y⟩;obtain rfl:lo=c:=by lia
   exact⟨lo,rfl,rfl,d,f,o,y⟩
  .rintro b a e ⟨c,rfl,rfl,d,u,f,m⟩;dsimp only;exact aQ (h c e u f m d)
 | false =>
  rw [if_neg aK];refine aO (zu (yO (Q:=λb a e => ∃la ofs,b=(none,la,ofs)/\st=a/\I e/\la<ofs/\la<=hint/\byd lt left key q base (hint - la)=false/\(hint+1<=ofs\/ofs<=hint/\byd lt left key q base (hint - ofs)=true)) (λk b a e => ∃la ofs,b=(none,la,ofs)/\st=a/\I e/\la<ofs/\la<=hint/\byd lt left key q base (hint - la)=false/\n<=ofs+k) ⟨0,1,rfl,rfl,L,∎,∎,M,∎⟩ ?_ ?_) ?_)
  .rintro k x b a e ⟨la,ofs,rfl,rfl,d,u,f,m,o⟩;dsimp only;by_cases l:ofs>=hint+1
   .rw [if_pos l];exact aQ ⟨la,ofs,rfl,rfl,d,u,f,m,.inl l⟩
   .rw [if_neg l];refine vG J K t p ∎ d λR g=>?_;dsimp only;cases v:byd lt left key q base (hint - ofs) with
    | true =>
     rw [if_pos rfl];exact aQ ⟨la,ofs,rfl,rfl,g,u,f,m,.inr ⟨∎,v⟩⟩
    | false =>
     rw [if_neg aK];exact aQ ⟨_,_,rfl,rfl,g,∎,∎,v,∎⟩
  .rintro b a e ⟨la,ofs,rfl,rfl,d,u,f,m,o⟩;exact⟨la,ofs,rfl,rfl,d,u,f,m,.inl ∎⟩
  rintro b a U ⟨la,ofs,rfl,rfl,D,f,m,o,y⟩;dsimp only;let F:∀i,i<hint+1 - min ofs (hint+1)->byd lt left key q base i=true:=λi c=>by
   rcases y with z | ⟨V,O⟩
   .lia
   .exact mono i (hint - ofs) ∎ ∎ O
  let G:∀i,hint - la<=i->i<n->byd lt left key q base i=false:=λi c H=>by
   cases l:byd lt left key q base i with
   | false=>rfl
   | true=>rw [mono (hint - la) i c H l] at o;cases o
  refine aO (zu (yO (Q:=λb a e => ∃c,b=(none,c,c)/\st=a/\I e/\c<=n/\(∀i,i<c->byd lt left key q base i=true) /\ ∀i,c<=i->i<n->byd lt left key q base i=false) (λk b a e => ∃lo c,b=(none,lo,c)/\st=a/\I e/\lo<=c/\c<=n/\c<=lo+k/\(∀i,i<lo->byd lt left key q base i=true) /\ ∀i,c<=i->i<n->byd lt left key q base i=false) ⟨_,_,rfl,rfl,D,∎,∎,∎,F,G⟩ ?_ ?_) ?_)
  .rintro k x b a e ⟨lo,c,rfl,rfl,d,u,f,m,o,y⟩;dsimp only;by_cases l:lo>=c
   .rw [if_pos l];obtain rfl:lo=c:=by lia
    exact aQ ⟨lo,rfl,rfl,d,f,o,y⟩
   .rw [if_neg l];refine vG J K t p ∎ d λR g=>?_;dsimp only;cases v:byd lt left key q base (lo+(c - lo) / 2) with
    | true =>
     rw [if_pos rfl];exact aQ ⟨_,_,rfl,rfl,g,∎,f,∎,λi B=>mono i (lo+(c - lo) / 2) ∎ ∎ v,y⟩
    | false =>
     rw [if_neg aK];refine aQ ⟨_,_,rfl,rfl,g,∎,∎,∎,o,λi B H=>?_⟩;cases l:byd lt left key q base i with
     | false=>rfl
     | true=>rw [mono (lo+(c - lo) / 2) i B H l] at v;cases v
  .rintro b a e ⟨lo,c,rfl,rfl,d,u,f,m,o,y⟩;obtain rfl:lo=c:=by lia
   exact⟨lo,rfl,rfl,d,f,o,y⟩
  .rintro b a e ⟨c,rfl,rfl,d,u,f,m⟩;dsimp only;exact aQ (h c e u f m d)
noncomputable def qUf:Array Keyed->Array Keyed->StateT SortSt Sem (Array Keyed):=sortPriv% PySem.Builtin.mergeLo
noncomputable def qUg:Array Keyed->Array Keyed->StateT SortSt Sem (Array Keyed):=sortPriv% PySem.Builtin.mergeHi
def SameSt(st st':SortSt):Prop:=kindOf st'=kindOf st/\arrOf st'=arrOf st/\pendingOf st'=pendingOf st/\failedOf st'=failedOf st
theorem SameSt.refl(st:SortSt):SameSt st st:=⟨rfl,rfl,rfl,rfl⟩
abbrev Ri(lt:Nat->Nat->Bool)(l:List Nat):Prop:=l.Pairwise λx y=>lt y x=false
abbrev Be(lt:Nat->Nat->Bool)(k l:List Nat):Prop := ∀x∈k,∀y∈l,lt y x=false
structure Mg(lt:Nat->Nat->Bool)(all o a b:List Nat):Prop where
 perm:(o++(a++b)).Perm all
 up:Ri lt o
 ra:Ri lt a
 rb:Ri lt b
 oa:Be lt o a
 ob:Be lt o b
theorem Mg.takeA{all o a a' b:List Nat}(h:Mg lt all o (a++a') b)(e:Be lt a b):Mg lt all (o++a) a' b:=by
 let⟨f,g,i⟩:=bR.mp h.ra;refine⟨?_,bR.mpr ⟨h.up,f,λx d y c=>h.oa x d y (aJ.mpr (.inl c))⟩,g,h.rb,λx d y c=>?_,λx d y c=>?_⟩
 .let:=h.perm;simpa [dB] using this
 .rcases aJ.mp d with z | z
  .exact h.oa x z y (aJ.mpr (.inr c))
  .exact i x z y c
 .rcases aJ.mp d with z | z
  .exact h.ob x z y c
  .exact e x z y c
theorem Mg.swap{all o a b:List Nat}(h:Mg lt all o a b):Mg lt all o b a:=⟨((hZ o List.perm_append_comm).trans h.perm),h.up,h.rb,h.ra,h.ob,h.oa⟩
theorem Mg.takeB{all o a b b':List Nat}(h:Mg lt all o a (b++b'))(c:Be lt b a):Mg lt all (o++b) a b':=(h.swap.takeA c).swap
theorem Mg.fin{all o a b:List Nat}(h:Mg lt all o a b)(d:Be lt a b):Ri lt (o++a++b)/\(o++a++b).Perm all:=by
 refine⟨?_,by simpa [dB] using h.perm⟩;refine bR.mpr ⟨bR.mpr ⟨h.up,h.ra,h.oa⟩,h.rb,λx e y c=>?_⟩;rcases aJ.mp e with z | z
 .exact h.ob x z y c
 .exact d x z y c
theorem Mg.fin'{all o a b:List Nat}(h:Mg lt all o a b)(c:Be lt b a):Ri lt (o++b++a)/\(o++b++a).Perm all:=h.swap.fin c
theorem xY(O:Srt.Ord lt){x y:Nat}(b:Ri lt (y::l))(h:lt y x=false):Be lt [x] (y::l):=by
 intro z a v c;let a:z=x:=by simpa using a
 subst a;rcases aL.mp c with e | e
 .rw [e];exact h
 .exact O.trans _ y _ h ((eN.mp b).1 v e)
theorem yP{b:Array Nat}{i:Nat}(h:i<b.size):b.toList.drop i=b[i]::b.toList.drop (i+1):=by
 rw [List.drop_eq_getElem_cons (by simpa using h)];simp
theorem qHn{a:Array Nat}{i k:Nat}:a.toList.drop i=(a.extract i (i+k)).toList++a.toList.drop (i+k):=by
 rw [gL,List.extract_eq_drop_take,Nat.add_sub_cancel_left,<-List.drop_drop,dY]
theorem uD{a:Array Nat}{i:Nat}:(a.extract i a.size).toList=a.toList.drop i:=by
 rw [gL,List.extract_eq_drop_take,cM ∅]
theorem qS1{all:List Nat}{o a b:Array Nat}{c d:Nat}{f:Nat->Keyed}(h:Mg lt all o.toList (a.toList.drop c) (b.toList.drop d))(g:Be lt (a.toList.drop c) (b.toList.drop d)):∃r:Array Nat,o.map f++(a.map f).extract c (a.map f).size++(b.map f).extract d (b.map f).size=r.map f/\Ri lt r.toList/\r.toList.Perm all:=by
 refine⟨o++a.extract c a.size++b.extract d b.size,by simp [eX,dZ],?_⟩;let e:(o++a.extract c a.size++b.extract d b.size).toList=o.toList++a.toList.drop c++b.toList.drop d:=by
  rw [dH,dH,uD,uD]
 rw [e];exact h.fin g
theorem qYd{all:List Nat}{o a b:Array Nat}{c d:Nat}{f:Nat->Keyed}(h:Mg lt all o.toList (a.toList.drop c) (b.toList.drop d))(g:Be lt (b.toList.drop d) (a.toList.drop c)):∃r:Array Nat,o.map f++(b.map f).extract d (b.map f).size++(a.map f).extract c (a.map f).size=r.map f/\Ri lt r.toList/\r.toList.Perm all:=by
 refine⟨o++b.extract d b.size++a.extract c a.size,by simp [eX,dZ],?_⟩;let e:(o++b.extract d b.size++a.extract c a.size).toList=o.toList++b.toList.drop d++a.toList.drop c:=by
  rw [dH,dH,uD,uD]
 rw [e];exact h.fin' g
theorem vH{all:List Nat}{o a b:Array Nat}{c d:Nat}(h:Mg lt all o.toList (a.toList.drop c) (b.toList.drop d))(hi:c<a.size)(e:Be lt [a[c]] (b.toList.drop d)):Mg lt all (o.push a[c]).toList (a.toList.drop (c+1)) (b.toList.drop d):=by
 rw [yP hi] at h;rw [dX];exact Mg.takeA (a :=[a[c]]) h e
theorem uE{all:List Nat}{o a b:Array Nat}{d c:Nat}(h:Mg lt all o.toList (a.toList.drop d) (b.toList.drop c))(hi:c<b.size)(e:Be lt [b[c]] (a.toList.drop d)):Mg lt all (o.push b[c]).toList (a.toList.drop d) (b.toList.drop (c+1)):=by
 rw [yP hi] at h;rw [dX];exact Mg.takeB (b :=[b[c]]) h e
theorem qYj{all:List Nat}{o a b:Array Nat}{c d k:Nat}(h:Mg lt all o.toList (a.toList.drop c) (b.toList.drop d))(e:Be lt (a.extract c (c+k)).toList (b.toList.drop d)):Mg lt all (o++a.extract c (c+k)).toList (a.toList.drop (c+k)) (b.toList.drop d):=by
 rw [qHn (k:=k)] at h;rw [dH];exact Mg.takeA h e
theorem qSh{all:List Nat}{o a b:Array Nat}{d c k:Nat}(h:Mg lt all o.toList (a.toList.drop d) (b.toList.drop c))(e:Be lt (b.extract c (c+k)).toList (a.toList.drop d)):Mg lt all (o++b.extract c (c+k)).toList (a.toList.drop d) (b.toList.drop (c+k)):=by
 rw [qHn (a:=b) (k:=k)] at h;rw [dH];exact Mg.takeB h e
theorem jS{a:Array Nat}{i k x:Nat}(h:x∈(a.extract i (i+k)).toList):∃j,j<k/\i+j<a.size/\a.getD (i+j) 0=x:=by
 let⟨j,f,e⟩:=bJ h;let c:j<(a.extract i (i+k)).size:=by rw [<-aM];exact f
 let hl0:=c;rw [fF] at c;refine⟨j,∎,∎,?_⟩;let d:(a.extract i (i+k))[j]'hl0=x:=by rw [<-e,dC]
 rw [eD] at d;let b:i+j<a.size:=by lia
 simp [Array.getD,b,d]
theorem wL{a:Array Nat}{i x:Nat}(h:x∈a.toList.drop i):∃j,i<=j/\j<a.size/\a.getD j 0=x:=by
 let⟨j,c,e⟩:=bJ h;rw [List.getElem_drop] at e;let b:i+j<a.size:=by
  let:j<a.toList.length - i:=by simpa using c
  simp at this;lia
 exact⟨i+j,∎,b,by simp [Array.getD,b];simpa using e⟩
noncomputable def qWo:Nat->StateT SortSt Sem Unit:=sortPriv% PySem.Builtin.setMinGallop
theorem SameSt.trans{st a b:SortSt}(h:SameSt st a)(k:SameSt a b):SameSt st b:=⟨k.1.trans h.1,k.2.1.trans h.2.1,k.2.2.1.trans h.2.2.1,k.2.2.2.trans h.2.2.2⟩
theorem zH{σ α : Type}{c:Prop} [Decidable c] {t e:StateT σ Sem α}{Q : α -> σ -> Shared->Prop}{st : σ}(a:c->kasC M A E t Q st s)(b : ¬c->kasC M A E e Q st s):kasC M A E (if c then t else e) Q st s:=by
 by_cases h:c
 .rw [if_pos h];exact a h
 .rw [if_neg h];exact b h
theorem uF{g:Nat}{st:SortSt}(h:∀a,SameSt st a->Q () a s):kasC M A E (qWo g) Q st s:=gJ (h _ ⟨rfl,rfl,rfl,rfl⟩)
theorem zi{a:Array Nat}{i:Nat}(h:i<a.size):a[i]? = some a[i]:=bC h
theorem wM(O:Srt.Ord lt){left:Bool}{key:Nat}{base n:Nat}(f:base+n<=q.size)(a:Ri lt (q.toList.drop base)):∀i j,i<=j->j<n->byd lt left key q base j=true->byd lt left key q base i=true:=by
 intro i j b g h;let le:lt (q.getD (base+j) 0) (q.getD (base+i) 0)=false:=by
  by_cases e:i=j
  .subst e;exact O.irr _
  .let:=bL.mp a i j (by simp;lia) (by simp;lia) ∎;rw [List.getElem_drop,List.getElem_drop] at this;let c:base+i<q.size:=by lia
   let d:base+j<q.size:=by lia
   simpa [Array.getD,c,d] using this
 unfold byd at h ⊢;cases left with
 | true =>
  simp only [if_true] at h ⊢;cases z:lt (q.getD (base+i) 0) key with
  | true=>rfl
  | false=>rw [O.trans _ _ _ z le] at h;cases h
 | false =>
  simp only [bV,if_false,Bool.not_eq_true'] at h ⊢;exact O.trans _ _ _ le h
def Fin2(lt:Nat->Nat->Bool)(all:List Nat)(f:Nat->Keyed)(x:Array Keyed):Prop := ∃r:Array Nat,x=r.map f/\Ri lt r.toList/\r.toList.Perm all
theorem qOa(O:Srt.Ord lt)(hA:AskOk prog w A κ it lt I N){a b:Array Nat}{st:SortSt}(hk:kindOf st = κ)(hI:I s)(ha:0<a.size)(hb:0<b.size)(b5:∀x∈a,x<N)(a7:∀x∈b,x<N)(ra:Ri lt a.toList)(rb:Ri lt b.toList)(a8:∀y∈b.toList,lt a[a.size - 1] y=false)(a4:lt b[0] a[0]=true)(h:∀x B S,Fin2 lt (a.toList++b.toList) (kas_item it) x->SameSt st B->I S->Q x B S):kasC (model prog w) A E (qUf (a.map (kas_item it)) (b.map (kas_item it))) Q st s:=by
 let J:(a.map (kas_item it)).size=a.size:=fO;let K:(b.map (kas_item it)).size=b.size:=fO;let b6:∀i (hi:i<b.size),b[i]<N:=λi hi=>a7 _ (fD hi);let a9:∀i (hi:i<a.size),a[i]<N:=λi hi=>b5 _ (fD hi);let b7:∀ {x:List Nat} {i:Nat},i=b.size->Be lt x (b.toList.drop i):=λ{x i} e u hu y p=>by
  rw [e,fU ∅] at p;cases p
 let b0:∀ {j i:Nat},i+1=a.size->Be lt (b.toList.drop j) (a.toList.drop i):=λ{j i} e x r y p=>by
  rw [yP (b:=a) ∎,e,fU ∅] at p;let p:y=a[i]:=by simpa using p
  let:i=a.size - 1:=by lia
  subst this;rw [p];exact a8 x (List.mem_of_mem_drop r)
 let M1:Mg lt (a.toList++b.toList) (#[b[0]]:Array Nat).toList (a.toList.drop 0) (b.toList.drop 1):=by
  let M0:Mg lt (a.toList++b.toList) (#[]:Array Nat).toList (a.toList.drop 0) (b.toList.drop 0):=⟨∅,∅,by simpa using ra,by simpa using rb,by intro x r;simp at r,by intro x r;simp at r⟩;refine uE M0 hb ?_;rw [yP (b:=a) ∎];refine xY O (by rw [<-yP (b:=a) ∎];simpa using ra) (O.asym _ _ a4)
 let e0:(#[kas_item it b[0]]:Array Keyed)=(#[b[0]]:Array Nat).map (kas_item it):=by simp
 let fin_ab:∀ {o:Array Nat} {i j:Nat},Mg lt (a.toList++b.toList) o.toList (a.toList.drop i) (b.toList.drop j)->j=b.size->Fin2 lt (a.toList++b.toList) (kas_item it) (o.map (kas_item it)++(a.map (kas_item it)).extract i (a.map (kas_item it)).size++(b.map (kas_item it)).extract j (b.map (kas_item it)).size):=λ{o i j} hM e=>qS1 hM (b7 e);let fin_ba:∀ {o:Array Nat} {i j:Nat},Mg lt (a.toList++b.toList) o.toList (a.toList.drop i) (b.toList.drop j)->i+1=a.size->Fin2 lt (a.toList++b.toList) (kas_item it) (o.map (kas_item it)++(b.map (kas_item it)).extract j (b.map (kas_item it)).size++(a.map (kas_item it)).extract i (a.map (kas_item it)).size):=λ{o i j} hM e=>qYd hM (b0 e);refine aO (kasC_lift (cY ?_))
 refine aO (zg (zi hb) ?_);rw [e0];refine zH (λc=>aQ ?_) (λc=>?_)
 .let c:1=b.size:=by rw [K] at c;simpa using c
  exact h _ _ _ (fin_ab M1 c) (.refl _) hI
 refine zH (λT=>aQ ?_) (λT=>?_)
 .let T:0+1=a.size:=by rw [J] at T;simpa using T
  exact h _ _ _ (fin_ba M1 T) (.refl _) hI
 let c1:1<b.size:=by rw [K] at c;simp at c;lia
 let c2:0+1<a.size:=by rw [J] at T;simp at T;lia
 refine aO (iL ?_);refine aO (zu (yO (Q:=λv B S => ∃x y,v=(some x,y)/\Fin2 lt (a.toList++b.toList) (kas_item it) x/\SameSt st B/\I S) (λk v B S => ∃(o:Array Nat) (ia ib mg:Nat),v=(none,o.map (kas_item it),ia,ib,mg)/\SameSt st B/\I S/\Mg lt (a.toList++b.toList) o.toList (a.toList.drop ia) (b.toList.drop ib)/\ia+1<a.size/\ib<b.size/\(a.size - ia)+(b.size - ib)<=k) ⟨#[b[0]],0,1,gallopOf st,rfl,.refl _,hI,M1,c2,c1,by rw [J,K];lia⟩ ?_ ?_) ?_)
 .rintro k x v b8 s1 ⟨o,ia,ib,mg,rfl,a5,a6,b9,h1,h2,h3⟩;let c7:(a.size - ia)+(b.size - ib)<=a.size+b.size:=by lia
  refine aO (zu (yO (Q:=λv B S=>(∃x y,v=(some x,y)/\Fin2 lt (a.toList++b.toList) (kas_item it) x/\SameSt st B/\I S) \/ ∃(o:Array Nat) (f d X Y:Nat),v=(none,o.map (kas_item it),f,d,X,Y)/\SameSt st B/\I S/\Mg lt (a.toList++b.toList) o.toList (a.toList.drop f) (b.toList.drop d)/\f+1<a.size/\d<b.size/\(a.size - f)+(b.size - d)<(a.size - ia)+(b.size - ib))
   (λk v B S => ∃(o:Array Nat) (f d X Y:Nat),v=(none,o.map (kas_item it),f,d,X,Y)/\SameSt st B/\I S/\Mg lt (a.toList++b.toList) o.toList (a.toList.drop f) (b.toList.drop d)/\f+1<a.size/\d<b.size/\(a.size - f)+(b.size - d)+(a.size+b.size)<=(a.size - ia)+(b.size - ib)+k/\k<=a.size+b.size) ⟨o,ia,ib,0,0,rfl,a5,a6,b9,h1,h2,by rw [J,K];lia,by rw [J,K];lia⟩ ?_ ?_) ?_)
  .rintro k x v a1 s2 ⟨o,f,d,X,Y,rfl,l,C,t,g1,H,g3,g4⟩;refine aO (zg (zi H) ?_);refine aO (zg (zi (by lia:f<a.size)) ?_);refine aO (vF hA (l.1.trans hk) (b6 _ H) (a9 _ ∎) C λs3 Z=>?_);cases hw:lt b[d] a[f] with
   | true =>
    refine zH (λ_=>?_) (λz=>absurd rfl z);refine aO (zg (zi H) ?_)
    let U:=uE t H (by
     rw [yP (b:=a) ∎]
     exact xY O (by rw [<-yP (b:=a) ∎];exact t.ra) (O.asym _ _ hw))
    refine zH (λc=>aQ (.inl ⟨_,_,rfl,?_,l,Z⟩)) (λc=>?_)
    .let c:d+1=b.size:=by rw [K] at c;simpa using c
     let:=fin_ab U c;rw [bH] at this;exact this
    .let c:d+1≠b.size:=by rw [K] at c;simpa using c
     refine zH (λ_=>aQ (.inr ⟨o.push b[d],f,d+1,_,_,by rw [bH],l,Z,U,g1,∎,∎⟩)) (λ_=>aQ ⟨o.push b[d],f,d+1,_,_,by rw [bH],l,Z,U,g1,∎,∎,∎⟩)
   | false =>
    refine zH (λz=>absurd z aK) (λ_=>?_);refine aO (zg (zi (by lia:f<a.size)) ?_)
    let U:=vH t (by lia:f<a.size) (by
     rw [yP H]
     exact xY O (by rw [<-yP H];exact t.rb) hw)
    refine zH (λc=>aQ (.inl ⟨_,_,rfl,?_,l,Z⟩)) (λc=>?_)
    .let c:f+1+1=a.size:=by rw [J] at c;simpa using c
     let:=fin_ba U c;rw [bH] at this;exact this
    .let c:f+1+1≠a.size:=by rw [J] at c;simpa using c
     refine zH (λ_=>aQ (.inr ⟨o.push a[f],f+1,d,_,_,by rw [bH],l,Z,U,∎,H,∎⟩)) (λ_=>aQ ⟨o.push a[f],f+1,d,_,_,by rw [bH],l,Z,U,∎,H,∎,∎⟩)
  .rintro v a1 s2 ⟨o,f,d,X,Y,rfl,l,C,t,g1,H,g3,g4⟩;lia
  rintro v a1 s2 (⟨x,y,rfl,hF,l,C⟩ | ⟨o,f,d,X,Y,rfl,l,C,t,g1,H,g3⟩)
  .exact aQ ⟨_,_,rfl,hF,l,C⟩
  refine aO (kasC_lift (cY ?_))
  refine aO (zu (yO (Q:=λv B S=>(∃x y,v=(some x,y)/\Fin2 lt (a.toList++b.toList) (kas_item it) x/\SameSt st B/\I S) \/ ∃(o:Array Nat) (f d g X Y:Nat),v=(none,o.map (kas_item it),f,d,g,X,Y)/\SameSt st B/\I S/\Mg lt (a.toList++b.toList) o.toList (a.toList.drop f) (b.toList.drop d)/\f+1<a.size/\d<b.size/\(a.size - f)+(b.size - d)<(a.size - ia)+(b.size - ib))
   (λk v B S => ∃(o:Array Nat) (f d g X Y:Nat),v=(none,o.map (kas_item it),f,d,g,X,Y)/\SameSt st B/\I S/\Mg lt (a.toList++b.toList) o.toList (a.toList.drop f) (b.toList.drop d)/\f+1<a.size/\d<b.size/\(a.size - f)+(b.size - d)<(a.size - ia)+(b.size - ib)) ⟨o,f,d,_,_,_,rfl,l,C,t,g1,H,g3⟩ ?_ ?_) ?_)
  .clear g3 H g1 t C l;rintro k x v a1 s2 ⟨o,f,d,g,X,Y,rfl,l,C,t,g1,H,g3⟩;let g0:f<a.size:=by lia
   refine zH (λ_=>?_) (λ_=>?_)
   all_goals
    refine aO (uF λc3 b1=>?_);let m:=l.trans b1;refine aO (zg (zi H) ?_);refine aO (xX hA (left:=false) (key:=b[d]) (q:=a) (base:=f) (hint:=0) (n:=(a.map (kas_item it)).size - f) (m.1.trans hk) (by rw [J];lia) b5 (b6 _ H) (by rw [J];lia) C (wM O (by rw [J];lia) t.ra) λk1 s4 c4 c0 a2 a0=>?_);rw [J] at c4 a2;refine zH (λL=>?_) (λL=>?_)
    .let a3:=qYj (k:=k1) t (λx r y p=>by
      let⟨j,j1,j2,R⟩:=jS r;let:=c0 j j1;unfold byd at this;rw [R,if_neg aK] at this;let this:lt b[d] x=false:=by simpa using this
      exact xY O (by rw [<-yP H];exact t.rb) this x ∅ y (by rw [<-yP H];exact p))
     let b2:∀y∈a.toList.drop (f+k1),lt b[d] y=true:=λy p=>by
      let⟨j,j1,j2,R⟩:=wL p;let:=a2 (j - f) ∎ ∎;unfold byd at this;rw [show f+(j - f)=j by lia,R,if_neg aK] at this;simpa using this
     let c5:∀o:Array Nat,o.map (kas_item it)++(a.map (kas_item it)).extract f (f+k1)=(o++a.extract f (f+k1)).map (kas_item it):=λo=>by simp [eX,dZ]
     rw [c5];refine zH (λc=>aQ (.inl ⟨_,_,rfl,?_,m,a0⟩)) (λc=>?_)
     .let c:f+k1+1=a.size:=by rw [J] at c;simpa using c
      exact fin_ba a3 c
     let c8:f+k1+1≠a.size:=by rw [J] at c;simpa using c
     refine zH (λc=>aQ (.inl ⟨_,_,rfl,?_,m,a0⟩)) (λc=>?_)
     .let c:f+k1=a.size:=by rw [J] at c;simpa using c
      exact qS1 a3 (λu hu=>by rw [c,fU ∅] at hu;cases hu)
     let c9:f+k1≠a.size:=by rw [J] at c;simpa using c
     let g5:f+k1<a.size:=by lia
     refine aO (zg (zi H) ?_)
     let M:=uE a3 H (λx r y p=>by
      let r:=aF.mp r;rw [r]
      exact O.asym _ _ (b2 y p))
     rw [<-bH];refine zH (λc=>aQ (.inl ⟨_,_,rfl,?_,m,a0⟩)) (λc=>?_)
     .let c:d+1=b.size:=by rw [K] at c;simpa using c
      exact fin_ab M c
     let c:d+1≠b.size:=by rw [K] at c;simpa using c
     refine aO (zg (zi g5) ?_);refine aO (xX hA (left:=true) (key:=a[(f+k1)]'g5) (q:=b) (base:=d+1) (hint:=0) (n:=(b.map (kas_item it)).size - (d+1)) (m.1.trans hk) (by rw [K];lia) a7 (a9 _ g5) (by rw [K];lia) a0 (wM O (by rw [K];lia) M.rb) λk2 s5 b3 V D F=>?_);rw [K] at b3 D;refine zH (λL=>?_) (λL=>?_)
     .let P:=qSh (k:=k2) M (λx r y p=>by
       let⟨j,j1,j2,R⟩:=jS r;let:=V j j1;unfold byd at this;rw [R,if_pos rfl] at this
       exact xY O (by rw [<-yP (b:=a) g5];exact M.ra) (O.asym _ _ this) x ∅ y (by rw [<-yP (b:=a) g5];exact p))
      let W:∀y∈b.toList.drop (d+1+k2),lt y (a[(f+k1)]'g5)=false:=λy p=>by
       let⟨j,j1,j2,R⟩:=wL p;let:=D (j - (d+1)) ∎ ∎;unfold byd at this;rw [show d+1+(j - (d+1))=j by lia,R,if_pos rfl] at this;exact this
      let b4:∀o:Array Nat,o.map (kas_item it)++(b.map (kas_item it)).extract (d+1) (d+1+k2)=(o++b.extract (d+1) (d+1+k2)).map (kas_item it):=λo=>by simp [eX,dZ]
      rw [b4];refine zH (λc=>aQ (.inl ⟨_,_,rfl,?_,m,F⟩)) (λc=>?_)
      .let c:d+1+k2=b.size:=by rw [K] at c;simpa using c
       exact fin_ab P c
      let c6:d+1+k2≠b.size:=by rw [K] at c;simpa using c
      refine aO (zg (zi g5) ?_)
      let G:=vH P g5 (λx r y p=>by
       let r:=aF.mp r;rw [r]
       exact W y p)
      refine zH (λc=>aQ (.inl ⟨_,_,rfl,?_,m,F⟩)) (λc=>?_)
      .let c:(f+k1)+1+1=a.size:=by rw [J] at c;simpa using c
       let:=fin_ba G c;rw [bH] at this;exact this
      let c:(f+k1)+1+1≠a.size:=by rw [J] at c;simpa using c
      exact zH (λ_=>aQ (.inr ⟨_,_,_,_,_,_,by rw [<-bH],m,F,G,∎,∎,∎⟩)) (λ_=>aQ ⟨_,_,_,_,_,_,by rw [<-bH],m,F,G,∎,∎,∎⟩)
     .let L:k2=0:=by lia
      subst L;let P:=M;let W:∀y∈b.toList.drop (d+1),lt y (a[(f+k1)]'g5)=false:=λy p=>by
       let⟨j,j1,j2,R⟩:=wL p;let:=D (j - (d+1)) ∎ ∎;unfold byd at this;rw [show d+1+(j - (d+1))=j by lia,R,if_pos rfl] at this;exact this
      refine aO (zg (zi g5) ?_)
      let G:=vH P g5 (λx r y p=>by
       let r:=aF.mp r;rw [r]
       exact W y p)
      refine zH (λc=>aQ (.inl ⟨_,_,rfl,?_,m,F⟩)) (λc=>?_)
      .let c:(f+k1)+1+1=a.size:=by rw [J] at c;simpa using c
       let:=fin_ba G c;rw [bH] at this;exact this
      let c:(f+k1)+1+1≠a.size:=by rw [J] at c;simpa using c
      exact zH (λ_=>aQ (.inr ⟨_,_,_,_,_,_,by rw [<-bH],m,F,G,∎,∎,∎⟩)) (λ_=>aQ ⟨_,_,_,_,_,_,by rw [<-bH],m,F,G,∎,∎,∎⟩)
    .let L:k1=0:=by lia
     subst L;let a3:=t;let g5:f<a.size:=g0;let b2:∀y∈a.toList.drop f,lt b[d] y=true:=λy p=>by
      let⟨j,j1,j2,R⟩:=wL p;let:=a2 (j - f) ∎ ∎;unfold byd at this;rw [show f+(j - f)=j by lia,R,if_neg aK] at this;simpa using this
     refine aO (zg (zi H) ?_)
     let M:=uE a3 H (λx r y p=>by
      let r:=aF.mp r;rw [r]
      exact O.asym _ _ (b2 y p))
     rw [<-bH];refine zH (λc=>aQ (.inl ⟨_,_,rfl,?_,m,a0⟩)) (λc=>?_)
     .let c:d+1=b.size:=by rw [K] at c;simpa using c
      exact fin_ab M c
     let c:d+1≠b.size:=by rw [K] at c;simpa using c
     refine aO (zg (zi g5) ?_);refine aO (xX hA (left:=true) (key:=a[f]'g5) (q:=b) (base:=d+1) (hint:=0) (n:=(b.map (kas_item it)).size - (d+1)) (m.1.trans hk) (by rw [K];lia) a7 (a9 _ g5) (by rw [K];lia) a0 (wM O (by rw [K];lia) M.rb) λk2 s5 b3 V D F=>?_);rw [K] at b3 D;refine zH (λL=>?_) (λL=>?_)
     .let P:=qSh (k:=k2) M (λx r y p=>by
       let⟨j,j1,j2,R⟩:=jS r;let:=V j j1;unfold byd at this;rw [R,if_pos rfl] at this
       exact xY O (by rw [<-yP (b:=a) g5];exact M.ra) (O.asym _ _ this) x ∅ y (by rw [<-yP (b:=a) g5];exact p))
      let W:∀y∈b.toList.drop (d+1+k2),lt y (a[f]'g5)=false:=λy p=>by
       let⟨j,j1,j2,R⟩:=wL p;let:=D (j - (d+1)) ∎ ∎;unfold byd at this;rw [show d+1+(j - (d+1))=j by lia,R,if_pos rfl] at this;exact this
      let b4:∀o:Array Nat,o.map (kas_item it)++(b.map (kas_item it)).extract (d+1) (d+1+k2)=(o++b.extract (d+1) (d+1+k2)).map (kas_item it):=λo=>by simp [eX,dZ]
      rw [b4];refine zH (λc=>aQ (.inl ⟨_,_,rfl,?_,m,F⟩)) (λc=>?_)
      .let c:d+1+k2=b.size:=by rw [K] at c;simpa using c
       exact fin_ab P c
      let c6:d+1+k2≠b.size:=by rw [K] at c;simpa using c
      refine aO (zg (zi g5) ?_)
      let G:=vH P g5 (λx r y p=>by
       let r:=aF.mp r;rw [r]
       exact W y p)
      refine zH (λc=>aQ (.inl ⟨_,_,rfl,?_,m,F⟩)) (λc=>?_)
      .let c:f+1+1=a.size:=by rw [J] at c;simpa using c
       let:=fin_ba G c;rw [bH] at this;exact this
      let c:f+1+1≠a.size:=by rw [J] at c;simpa using c
      exact zH (λ_=>aQ (.inr ⟨_,_,_,_,_,_,by rw [<-bH],m,F,G,∎,∎,∎⟩)) (λ_=>aQ ⟨_,_,_,_,_,_,by rw [<-bH],m,F,G,∎,∎,∎⟩)
     .let L:k2=0:=by lia
      subst L;let P:=M;let W:∀y∈b.toList.drop (d+1),lt y (a[f]'g5)=false:=λy p=>by
       let⟨j,j1,j2,R⟩:=wL p;let:=D (j - (d+1)) ∎ ∎;unfold byd at this;rw [show d+1+(j - (d+1))=j by lia,R,if_pos rfl] at this;exact this
      refine aO (zg (zi g5) ?_)
      let G:=vH P g5 (λx r y p=>by
       let r:=aF.mp r;rw [r]
       exact W y p)
      refine zH (λc=>aQ (.inl ⟨_,_,rfl,?_,m,F⟩)) (λc=>?_)
      .let c:f+1+1=a.size:=by rw [J] at c;simpa using c
       let:=fin_ba G c;rw [bH] at this;exact this
      let c:f+1+1≠a.size:=by rw [J] at c;simpa using c
      exact zH (λ_=>aQ (.inr ⟨_,_,_,_,_,_,by rw [<-bH],m,F,G,∎,∎,∎⟩)) (λ_=>aQ ⟨_,_,_,_,_,_,by rw [<-bH],m,F,G,∎,∎,∎⟩)
  .rintro v a1 s2 ⟨o,f,d,g,X,Y,rfl,l,C,t,g1,H,g3⟩;exact .inr ⟨o,f,d,g,X,Y,rfl,l,C,t,g1,H,g3⟩
  rintro v a1 s2 (⟨x,y,rfl,hF,l,C⟩ | ⟨o,f,d,g,X,Y,rfl,l,C,t,g1,H,g3⟩)
  .exact aQ ⟨_,_,rfl,hF,l,C⟩
  refine aO (uF λc3 b1=>?_);exact aQ ⟨o,f,d,_,rfl,l.trans b1,C,t,g1,H,∎⟩
 .rintro v b8 s1 ⟨o,ia,ib,mg,rfl,a5,a6,b9,h1,h2,h3⟩;lia
 .rintro v b8 s1 ⟨x,y,rfl,hF,a5,a6⟩;exact aQ (h _ _ _ hF a5 a6)
noncomputable def flp(lt:Nat->Nat->Bool):Nat->Nat->Bool:=λx y=>lt y x
theorem qRw(O:Srt.Ord lt):Srt.Ord (flp lt):=⟨λa b h=>O.asym _ _ h,λa b c d e=>O.trans _ _ _ e d⟩
theorem ri_rev:Ri (flp lt) l.reverse↔Ri lt l:=List.pairwise_reverse
theorem qZ3(h:Ri (flp lt) l):Ri lt l.reverse:=List.pairwise_reverse.mpr h
theorem vI{a:Array Nat}{n:Nat}(b:0<n)(h:n<=a.size):(a.toList.take n).reverse=a[n - 1]::(a.toList.take (n - 1)).reverse:=by
 obtain⟨m,rfl⟩:∃m,n=m+1:=⟨n - 1,∎⟩;rw [fB,aC (by simp;lia)];simp
theorem qNq{a:Array Nat}{i n:Nat}(h:i<=n):(a.toList.take n).reverse=(a.extract i n).reverse.toList++(a.toList.take i).reverse:=by
 rw [iG,<-List.reverse_append]
 congr 1
 rw [gL,List.extract_eq_drop_take,<-List.take_add]
 congr 1
 lia
theorem qMb{a:Array Nat}{n:Nat}:(a.extract 0 n).toList=a.toList.take n:=by
 rw [gL,List.extract_eq_drop_take];simp
theorem wAc{all:List Nat}{o a b:Array Nat}{c d:Nat}(h:Mg (flp lt) all o.toList (a.toList.take c).reverse (b.toList.take d).reverse)(g:Be (flp lt) (b.toList.take d).reverse (a.toList.take c).reverse):Fin2 lt all f ((a.map f).extract 0 c++(b.map f).extract 0 d++(o.map f).reverse):=by
 refine⟨a.extract 0 c++b.extract 0 d++o.reverse,by simp [eX,dZ,Array.map_reverse],?_⟩;let⟨i,j⟩:=h.fin' g;let e:(a.extract 0 c++b.extract 0 d++o.reverse).toList=(o.toList++(b.toList.take d).reverse++(a.toList.take c).reverse).reverse:=by
  rw [dH,dH,qMb,qMb,iG];simp
 rw [e];exact⟨qZ3 i,(List.reverse_perm _).trans j⟩
theorem wB5{all:List Nat}{o a b:Array Nat}{c d:Nat}(h:Mg (flp lt) all o.toList (a.toList.take c).reverse (b.toList.take d).reverse)(e:Be (flp lt) (a.toList.take c).reverse (b.toList.take d).reverse):Fin2 lt all f ((b.map f).extract 0 d++(a.map f).extract 0 c++(o.map f).reverse):=wAc h.swap e
theorem xq{all:List Nat}{o a b:Array Nat}{c d:Nat}(h:Mg (flp lt) all o.toList (a.toList.take c).reverse (b.toList.take d).reverse)(e:0<c)(f:c<=a.size)(g:Be (flp lt) [a[c - 1]] (b.toList.take d).reverse):Mg (flp lt) all (o.push a[c - 1]).toList (a.toList.take (c - 1)).reverse (b.toList.take d).reverse:=by
 rw [vI e f] at h;rw [dX];exact Mg.takeA (a :=[a[c - 1]]) h g
theorem qNf{all:List Nat}{o a b:Array Nat}{c d i:Nat}(h:Mg (flp lt) all o.toList (a.toList.take c).reverse (b.toList.take d).reverse)(hi:i<=c)(e:Be (flp lt) (a.extract i c).reverse.toList (b.toList.take d).reverse):Mg (flp lt) all (o++(a.extract i c).reverse).toList (a.toList.take i).reverse (b.toList.take d).reverse:=by
 rw [qNq hi] at h;rw [dH];exact Mg.takeA h e
theorem yz{a:Array Nat}{n x:Nat}(h:x∈(a.toList.take n).reverse):∃j,j<n/\j<a.size/\a.getD j 0=x:=by
 let⟨j,c,e⟩:=bJ (List.mem_reverse.mp h);rw [List.getElem_take] at e;let b:j<n/\j<a.size:=by
  let:j<min n a.toList.length:=by simpa using c
  simp at this;lia
 exact⟨j,b.1,b.2,by simp [Array.getD,b.2];simpa using e⟩
theorem uG{a:Array Nat}{i n x:Nat}(h:x∈(a.extract i n).reverse.toList):∃j,i<=j/\j<n/\j<a.size/\a.getD j 0=x:=by
 rw [iG] at h;let⟨j,f,e⟩:=bJ (List.mem_reverse.mp h);let c:j<(a.extract i n).size:=by rw [<-aM];exact f
 let hl0:=c;rw [fF] at c;let d:(a.extract i n)[j]'hl0=x:=by rw [<-e,dC]
 rw [eD] at d;let b:i+j<a.size:=by lia
 exact⟨i+j,∎,∎,b,by simp [Array.getD,b,d]⟩
theorem jT{all:List Nat}{o a b:Array Nat}{d c:Nat}(h:Mg (flp lt) all o.toList (a.toList.take d).reverse (b.toList.take c).reverse)(e:0<c)(f:c<=b.size)(g:Be (flp lt) [b[c - 1]] (a.toList.take d).reverse):Mg (flp lt) all (o.push b[c - 1]).toList (a.toList.take d).reverse (b.toList.take (c - 1)).reverse:=(xq h.swap e f g).swap
theorem qNe{all:List Nat}{o a b:Array Nat}{d c i:Nat}(h:Mg (flp lt) all o.toList (a.toList.take d).reverse (b.toList.take c).reverse)(hi:i<=c)(e:Be (flp lt) (b.extract i c).reverse.toList (a.toList.take d).reverse):Mg (flp lt) all (o++(b.extract i c).reverse).toList (a.toList.take d).reverse (b.toList.take i).reverse:=(qNf h.swap hi e).swap
theorem jU(O:Srt.Ord lt){a:Array Nat}(h:Ri lt a.toList){i j:Nat}(b:i<=j)(c:j<a.size):lt (a[j]) (a[i]'(by lia))=false:=by
 by_cases e:i=j
 .subst e;exact O.irr _
 .let:=bL.mp h i j (by simp;lia) (by simpa using c) ∎;simpa using this
theorem qOb(O:Srt.Ord lt)(hA:AskOk prog w A κ it lt I N){a b:Array Nat}{st:SortSt}(hk:kindOf st = κ)(hI:I s)(ha:0<a.size)(hb:0<b.size)(b3:∀x∈a,x<N)(a7:∀x∈b,x<N)(ra:Ri lt a.toList)(rb:Ri lt b.toList)(a8:∀y∈b.toList,lt a[a.size - 1] y=false)(a3:lt b[0] a[0]=true)(h:∀x C L,Fin2 lt (a.toList++b.toList) (kas_item it) x->SameSt st C->I L->Q x C L):kasC (model prog w) A E (qUg (a.map (kas_item it)) (b.map (kas_item it))) Q st s:=by
 let sa:(a.map (kas_item it)).size=a.size:=fO;let sb:(b.map (kas_item it)).size=b.size:=fO;let b4:∀i (hi:i<b.size),b[i]<N:=λi hi=>a7 _ (fD hi);let a9:∀i (hi:i<a.size),a[i]<N:=λi hi=>b3 _ (fD hi);let c2:Ri lt (a.toList.drop 0):=by simpa using ra
 let b5:Ri lt (b.toList.drop 0):=by simpa using rb
 let b6:∀ {i n y:Nat},i<n->(hn:n<=a.size)->a.getD i 0=y->lt (a[n - 1]'(by lia)) y=false:=λ{i n y} h1 hn e=>by
  let hi:i<a.size:=by lia
  let:=jU O ra (i:=i) (j:=n - 1) ∎ ∎;rw [<-e];simpa [Array.getD,hi] using this
 let c3:∀ {i n y:Nat},i<n->(hn:n<=b.size)->b.getD i 0=y->lt (b[n - 1]'(by lia)) y=false:=λ{i n y} h1 hn e=>by
  let hi:i<b.size:=by lia
  let:=jU O rb (i:=i) (j:=n - 1) ∎ ∎;rw [<-e];simpa [Array.getD,hi] using this
 let fin_ab:∀ {o:Array Nat} {i j:Nat},Mg (flp lt) (a.toList++b.toList) o.toList (a.toList.take i).reverse (b.toList.take j).reverse->i=0\/j=0->Fin2 lt (a.toList++b.toList) (kas_item it) ((a.map (kas_item it)).extract 0 i++(b.map (kas_item it)).extract 0 j++(o.map (kas_item it)).reverse):=λ{o i j} hM e=>wAc hM (λx m y B=>by
  rcases e with e | e
  .rw [e] at B;simp at B
  .rw [e] at m;simp at m)
 let fin_ba:∀ {o:Array Nat} {i j:Nat},Mg (flp lt) (a.toList++b.toList) o.toList (a.toList.take i).reverse (b.toList.take j).reverse->j=1->Fin2 lt (a.toList++b.toList) (kas_item it) ((b.map (kas_item it)).extract 0 j++(a.map (kas_item it)).extract 0 i++(o.map (kas_item it)).reverse):=λ{o i j} hM e=>wB5 hM (λx m y B=>by
  subst e;let⟨p,p1,p2,p3⟩:=yz m;let⟨q,q1,q2,q3⟩:=yz B;let q0:q=0:=by lia
  subst q0;let e1:y=b[0]:=by rw [<-q3];simp [Array.getD,hb]
  let e2:x=a[p]:=by rw [<-p3];simp [Array.getD,p2]
  rw [e1,e2]
  exact O.trans _ _ _ (O.asym _ _ a3) (jU O ra (aX p) p2))
 let M1:Mg (flp lt) (a.toList++b.toList) (#[a[a.size - 1]]:Array Nat).toList (a.toList.take (a.size - 1)).reverse (b.toList.take b.size).reverse:=by
  let M0:Mg (flp lt) (a.toList++b.toList) (#[]:Array Nat).toList (a.toList.take a.size).reverse (b.toList.take b.size).reverse:=by
   rw [cM ∅,cM ∅];exact⟨by simpa using (List.Perm.append (List.reverse_perm _) (List.reverse_perm _)),∅,ri_rev.mpr ra,ri_rev.mpr rb,by intro x m;simp at m,by intro x m;simp at m⟩
  refine xq M0 ha (aH _) (λx m y B=>?_);let m:=aF.mp m;rw [m];exact a8 y (List.mem_of_mem_take (List.mem_reverse.mp B))
 let e0:(#[kas_item it a[a.size - 1]]:Array Keyed)=(#[a[a.size - 1]]:Array Nat).map (kas_item it):=by simp
 refine aO (kasC_lift (cY ?_));refine aO (zg (x:=a[a.size - 1]) (by rw [sa];exact zi ∎) ?_);rw [e0,sa,sb];refine zH (λc=>aQ ?_) (λc=>?_)
 .let c:a.size - 1=0:=by simpa using c
  exact h _ _ _ (fin_ab M1 (.inl c)) (.refl _) hI
 refine zH (λa0=>aQ ?_) (λa0=>?_)
 .let a0:b.size=1:=by simpa using a0
  exact h _ _ _ (fin_ba M1 a0) (.refl _) hI
 let c9:a.size - 1≠0:=by simpa using c
 let d0:b.size≠1:=by simpa using a0
 refine aO (iL ?_);refine aO (zu (yO (Q:=λv C L => ∃x y,v=(some x,y)/\Fin2 lt (a.toList++b.toList) (kas_item it) x/\SameSt st C/\I L) (λk v C L => ∃(o:Array Nat) (d jb mg:Nat),v=(none,d,jb,o.map (kas_item it),mg)/\SameSt st C/\I L/\Mg (flp lt) (a.toList++b.toList) o.toList (a.toList.take d).reverse (b.toList.take jb).reverse/\0<d/\d<=a.size/\1<jb/\jb<=b.size/\d+jb<=k) ⟨#[a[a.size - 1]],_,_,gallopOf st,rfl,.refl _,hI,M1,∎,∎,∎,∎,∎⟩ ?_ ?_) ?_)
 .rintro k x v b7 s1 ⟨o,ia,ib,mg,rfl,a4,a5,b8,h1,h2,h3,h4,h5⟩
  refine aO (zu (yO (Q:=λv C L=>(∃x y,v=(some x,y)/\Fin2 lt (a.toList++b.toList) (kas_item it) x/\SameSt st C/\I L) \/ ∃(o:Array Nat) (d jb V W:Nat),v=(none,d,jb,o.map (kas_item it),V,W)/\SameSt st C/\I L/\Mg (flp lt) (a.toList++b.toList) o.toList (a.toList.take d).reverse (b.toList.take jb).reverse/\0<d/\d<=a.size/\1<jb/\jb<=b.size/\d+jb<ia+ib)
   (λk v C L => ∃(o:Array Nat) (d jb V W:Nat),v=(none,d,jb,o.map (kas_item it),V,W)/\SameSt st C/\I L/\Mg (flp lt) (a.toList++b.toList) o.toList (a.toList.take d).reverse (b.toList.take jb).reverse/\0<d/\d<=a.size/\1<jb/\jb<=b.size/\d+jb+(a.size+b.size)<=ia+ib+k/\k<=a.size+b.size) ⟨o,ia,ib,0,0,rfl,a4,a5,b8,h1,h2,h3,h4,∎,∎⟩ ?_ ?_) ?_)
  .rintro k x v a1 s2 ⟨o,d,jb,V,W,rfl,l,D,F,Y,Z,g3,M,g5,g6⟩;let ga:d - 1<a.size:=by lia
   let gb:jb - 1<b.size:=by lia
   refine aO (zg (zi gb) ?_);refine aO (zg (zi ga) ?_);refine aO (vF hA (l.1.trans hk) (b4 _ gb) (a9 _ ga) D λs3 X=>?_);cases hw:lt b[jb - 1] a[d - 1] with
   | true =>
    refine zH (λ_=>?_) (λz=>absurd rfl z);refine aO (zg (zi ga) ?_)
    let P:=xq F Y Z (by
     rw [vI (a:=b) ∎ M]
     exact xY (qRw O) (by rw [<-vI (a:=b) ∎ M];exact F.rb) (O.asym _ _ hw))
    refine zH (λc=>aQ (.inl ⟨_,_,rfl,?_,l,X⟩)) (λc=>?_)
    .let c:d - 1=0:=by simpa using c
     let:=fin_ab P (.inl c);rw [bH] at this;exact this
    .let c:d - 1≠0:=by simpa using c
     exact zH (λ_=>aQ (.inr ⟨o.push a[d - 1],d - 1,jb,_,_,by rw [bH],l,X,P,∎,∎,∎,∎,∎⟩)) (λ_=>aQ ⟨o.push a[d - 1],d - 1,jb,_,_,by rw [bH],l,X,P,∎,∎,∎,∎,∎,∎⟩)
   | false =>
    refine zH (λz=>absurd z aK) (λ_=>?_);refine aO (zg (zi gb) ?_)
    let P:=jT F ∎ M (by
     rw [vI (a:=a) Y Z]
     exact xY (qRw O) (by rw [<-vI (a:=a) Y Z];exact F.ra) hw)
    refine zH (λc=>aQ (.inl ⟨_,_,rfl,?_,l,X⟩)) (λc=>?_)
    .let c:jb - 1=1:=by simpa using c
     let:=fin_ba P c;rw [bH] at this;exact this
    .let c:jb - 1≠1:=by simpa using c
     exact zH (λ_=>aQ (.inr ⟨o.push b[jb - 1],d,jb - 1,_,_,by rw [bH],l,X,P,∎,∎,∎,∎,∎⟩)) (λ_=>aQ ⟨o.push b[jb - 1],d,jb - 1,_,_,by rw [bH],l,X,P,∎,∎,∎,∎,∎,∎⟩)
  .rintro v a1 s2 ⟨o,d,jb,V,W,rfl,l,D,F,Y,Z,g3,M,g5,g6⟩;lia
  rintro v a1 s2 (⟨x,y,rfl,hF,l,D⟩ | ⟨o,d,jb,V,W,rfl,l,D,F,Y,Z,g3,M,g5⟩)
  .exact aQ ⟨_,_,rfl,hF,l,D⟩
  refine aO (kasC_lift (cY ?_))
  refine aO (zu (yO (Q:=λv C L=>(∃x y,v=(some x,y)/\Fin2 lt (a.toList++b.toList) (kas_item it) x/\SameSt st C/\I L) \/ ∃(o:Array Nat) (d jb g V W:Nat),v=(none,d,jb,o.map (kas_item it),g,V,W)/\SameSt st C/\I L/\Mg (flp lt) (a.toList++b.toList) o.toList (a.toList.take d).reverse (b.toList.take jb).reverse/\0<d/\d<=a.size/\1<jb/\jb<=b.size/\d+jb<ia+ib)
   (λk v C L => ∃(o:Array Nat) (d jb g V W:Nat),v=(none,d,jb,o.map (kas_item it),g,V,W)/\SameSt st C/\I L/\Mg (flp lt) (a.toList++b.toList) o.toList (a.toList.take d).reverse (b.toList.take jb).reverse/\0<d/\d<=a.size/\1<jb/\jb<=b.size/\d+jb<ia+ib) ⟨o,d,jb,_,_,_,rfl,l,D,F,Y,Z,g3,M,g5⟩ ?_ ?_) ?_)
  .clear g5 M g3 Z Y F D l;rintro k x v a1 s2 ⟨o,d,jb,g,V,W,rfl,l,D,F,Y,Z,g3,M,g5⟩;let ga:d - 1<a.size:=by lia
   let gb:jb - 1<b.size:=by lia
   refine zH (λ_=>?_) (λ_=>?_)
   all_goals
    refine aO (uF λc4 b0=>?_);let f:=l.trans b0;refine aO (zg (zi gb) ?_);refine aO (xX hA (left:=false) (key:=b[jb - 1]) (q:=a) (base:=0) (hint:=d - 1) (n:=d) (f.1.trans hk) ∎ b3 (b4 _ gb) ∎ D (wM O ∎ c2) λr s4 c5 b9 c0 a2=>?_);let c1:∀y∈(a.toList.take r).reverse,lt b[jb - 1] y=false:=λy B=>by
     let⟨j,R,j2,j3⟩:=yz B;let:=b9 j R;unfold byd at this;rw [eW,j3,if_neg aK] at this;simpa using this
    refine zH (λt=>?_) (λt=>?_)
    .let a6:=qNf F c5 (λx m y B=>by
      let⟨j,R,j2,j3,j4⟩:=uG m;let:=c0 j R j2;unfold byd at this;rw [eW,j4,if_neg aK] at this;let this:lt b[jb - 1] x=true:=by simpa using this
      let⟨i,i1,i2,i3⟩:=yz B
      exact O.trans _ _ _ (c3 i1 M i3) (O.asym _ _ this))
     let c6:∀o:Array Nat,o.map (kas_item it)++((a.map (kas_item it)).extract r d).reverse=(o++(a.extract r d).reverse).map (kas_item it):=λo=>by simp [eX,dZ,Array.map_reverse]
     rw [c6];refine zH (λc=>aQ (.inl ⟨_,_,rfl,?_,f,a2⟩)) (λc=>?_)
     .let c:r=0:=by simpa using c
      exact fin_ab a6 (.inl c)
     let d1:r≠0:=by simpa using c
     refine aO (zg (zi (by lia:jb - 1<b.size)) ?_)
     let S:=jT a6 (by lia:0<jb) M (λx m y B=>by
      let m:=aF.mp m;rw [m]
      exact c1 y B)
     rw [<-bH];refine zH (λc=>aQ (.inl ⟨_,_,rfl,?_,f,a2⟩)) (λc=>?_)
     .let c:jb - 1=1:=by simpa using c
      exact fin_ba S c
     let c:jb - 1≠1:=by simpa using c
     refine aO (zg (zi (by lia:r - 1<a.size)) ?_);refine aO (xX hA (left:=true) (key:=a[r - 1]'(by lia)) (q:=b) (base:=0) (hint:=jb - 1 - 1) (n:=jb - 1) (f.1.trans hk) ∎ a7 (a9 _ _) ∎ a2 (wM O ∎ b5) λH s5 b1 J T u=>?_);refine zH (λt=>?_) (λt=>?_)
     .let K:=qNe S b1 (λx m y B=>by
       let⟨j,R,j2,j3,j4⟩:=uG m;let:=T j R j2;unfold byd at this;rw [eW,j4,if_pos rfl] at this;let⟨i,i1,i2,i3⟩:=yz B
       exact O.trans _ _ _ (b6 i1 ∎ i3) this)
      let U:∀y∈(b.toList.take H).reverse,lt (a[r - 1]'(by lia)) y=false:=λy B=>by
       let⟨j,R,j2,j3⟩:=yz B;let:=J j R;unfold byd at this;rw [eW,j3,if_pos rfl] at this;exact O.asym _ _ this
      let b2:∀o:Array Nat,o.map (kas_item it)++((b.map (kas_item it)).extract H (jb - 1)).reverse=(o++(b.extract H (jb - 1)).reverse).map (kas_item it):=λo=>by simp [eX,dZ,Array.map_reverse]
      rw [b2];refine zH (λc=>aQ (.inl ⟨_,_,rfl,?_,f,u⟩)) (λc=>?_)
      .let c:H=1:=by simpa using c
       exact fin_ba K c
      let c7:H≠1:=by simpa using c
      refine zH (λc=>aQ (.inl ⟨_,_,rfl,?_,f,u⟩)) (λc=>?_)
      .let c:H=0:=by simpa using c
       exact fin_ab K (.inr c)
      let c8:H≠0:=by simpa using c
      refine aO (zg (zi (by lia:r - 1<a.size)) ?_)
      let G:=xq K (by lia:0<r) ∎ (λx m y B=>by
       let m:=aF.mp m;rw [m]
       exact U y B)
      rw [<-bH];refine zH (λc=>aQ (.inl ⟨_,_,rfl,?_,f,u⟩)) (λc=>?_)
      .let c:r - 1=0:=by simpa using c
       exact fin_ab G (.inl c)
      let c:r - 1≠0:=by simpa using c
      exact zH (λ_=>aQ (.inr ⟨_,r - 1,H,_,_,_,rfl,f,u,G,∎,∎,∎,∎,∎⟩)) (λ_=>aQ ⟨_,r - 1,H,_,_,_,rfl,f,u,G,∎,∎,∎,∎,∎⟩)
     .let t:H=jb - 1:=by
       let t : ¬(jb - 1 - H>0):=t;lia
      subst t;let K:=S;let U:∀y∈(b.toList.take (jb - 1)).reverse,lt (a[r - 1]'(by lia)) y=false:=λy B=>by
       let⟨j,R,j2,j3⟩:=yz B;let:=J j R;unfold byd at this;rw [eW,j3,if_pos rfl] at this;exact O.asym _ _ this
      refine aO (zg (zi (by lia:r - 1<a.size)) ?_)
      let G:=xq K (by lia:0<r) ∎ (λx m y B=>by
       let m:=aF.mp m;rw [m]
       exact U y B)
      rw [<-bH];refine zH (λc=>aQ (.inl ⟨_,_,rfl,?_,f,u⟩)) (λc=>?_)
      .let c:r - 1=0:=by simpa using c
       exact fin_ab G (.inl c)
      let c:r - 1≠0:=by simpa using c
      exact zH (λ_=>aQ (.inr ⟨_,r - 1,(jb - 1),_,_,_,rfl,f,u,G,∎,∎,∎,∎,∎⟩)) (λ_=>aQ ⟨_,r - 1,(jb - 1),_,_,_,rfl,f,u,G,∎,∎,∎,∎,∎⟩)
    .let t:r=d:=by
      let t : ¬(d - r>0):=t;lia
     subst t;let a6:=F;refine aO (zg (zi (by lia:jb - 1<b.size)) ?_)
     let S:=jT a6 (by lia:0<jb) M (λx m y B=>by
      let m:=aF.mp m;rw [m]
      exact c1 y B)
     rw [<-bH];refine zH (λc=>aQ (.inl ⟨_,_,rfl,?_,f,a2⟩)) (λc=>?_)
     .let c:jb - 1=1:=by simpa using c
      exact fin_ba S c
     let c:jb - 1≠1:=by simpa using c
     refine aO (zg (zi (by lia:r - 1<a.size)) ?_);refine aO (xX hA (left:=true) (key:=a[r - 1]'(by lia)) (q:=b) (base:=0) (hint:=jb - 1 - 1) (n:=jb - 1) (f.1.trans hk) ∎ a7 (a9 _ _) ∎ a2 (wM O ∎ b5) λH s5 b1 J T u=>?_);refine zH (λt=>?_) (λt=>?_)
     .let K:=qNe S b1 (λx m y B=>by
       let⟨j,R,j2,j3,j4⟩:=uG m;let:=T j R j2;unfold byd at this;rw [eW,j4,if_pos rfl] at this;let⟨i,i1,i2,i3⟩:=yz B
       exact O.trans _ _ _ (b6 i1 ∎ i3) this)
      let U:∀y∈(b.toList.take H).reverse,lt (a[r - 1]'(by lia)) y=false:=λy B=>by
       let⟨j,R,j2,j3⟩:=yz B;let:=J j R;unfold byd at this;rw [eW,j3,if_pos rfl] at this;exact O.asym _ _ this
      let b2:∀o:Array Nat,o.map (kas_item it)++((b.map (kas_item it)).extract H (jb - 1)).reverse=(o++(b.extract H (jb - 1)).reverse).map (kas_item it):=λo=>by simp [eX,dZ,Array.map_reverse]
      rw [b2];refine zH (λc=>aQ (.inl ⟨_,_,rfl,?_,f,u⟩)) (λc=>?_)
      .let c:H=1:=by simpa using c
       exact fin_ba K c
      let c7:H≠1:=by simpa using c
      refine zH (λc=>aQ (.inl ⟨_,_,rfl,?_,f,u⟩)) (λc=>?_)
      .let c:H=0:=by simpa using c
       exact fin_ab K (.inr c)
      let c8:H≠0:=by simpa using c
      refine aO (zg (zi (by lia:r - 1<a.size)) ?_)
      let G:=xq K (by lia:0<r) ∎ (λx m y B=>by
       let m:=aF.mp m;rw [m]
       exact U y B)
      rw [<-bH];refine zH (λc=>aQ (.inl ⟨_,_,rfl,?_,f,u⟩)) (λc=>?_)
      .let c:r - 1=0:=by simpa using c
       exact fin_ab G (.inl c)
      let c:r - 1≠0:=by simpa using c
      exact zH (λ_=>aQ (.inr ⟨_,r - 1,H,_,_,_,rfl,f,u,G,∎,∎,∎,∎,∎⟩)) (λ_=>aQ ⟨_,r - 1,H,_,_,_,rfl,f,u,G,∎,∎,∎,∎,∎⟩)
     .let t:H=jb - 1:=by
       let t : ¬(jb - 1 - H>0):=t;lia
      subst t;let K:=S;let U:∀y∈(b.toList.take (jb - 1)).reverse,lt (a[r - 1]'(by lia)) y=false:=λy B=>by
       let⟨j,R,j2,j3⟩:=yz B;let:=J j R;unfold byd at this;rw [eW,j3,if_pos rfl] at this;exact O.asym _ _ this
      refine aO (zg (zi (by lia:r - 1<a.size)) ?_)
      let G:=xq K (by lia:0<r) ∎ (λx m y B=>by
       let m:=aF.mp m;rw [m]
       exact U y B)
      rw [<-bH];refine zH (λc=>aQ (.inl ⟨_,_,rfl,?_,f,u⟩)) (λc=>?_)
      .let c:r - 1=0:=by simpa using c
       exact fin_ab G (.inl c)
      let c:r - 1≠0:=by simpa using c
      exact zH (λ_=>aQ (.inr ⟨_,r - 1,(jb - 1),_,_,_,rfl,f,u,G,∎,∎,∎,∎,∎⟩)) (λ_=>aQ ⟨_,r - 1,(jb - 1),_,_,_,rfl,f,u,G,∎,∎,∎,∎,∎⟩)
  .rintro v a1 s2 ⟨o,d,jb,g,V,W,rfl,l,D,F,Y,Z,g3,M,g5⟩;exact .inr ⟨o,d,jb,g,V,W,rfl,l,D,F,Y,Z,g3,M,g5⟩
  rintro v a1 s2 (⟨x,y,rfl,hF,l,D⟩ | ⟨o,d,jb,g,V,W,rfl,l,D,F,Y,Z,g3,M,g5⟩)
  .exact aQ ⟨_,_,rfl,hF,l,D⟩
  refine aO (uF λc4 b0=>?_);exact aQ ⟨o,d,jb,_,rfl,l.trans b0,D,F,Y,Z,g3,M,∎⟩
 .rintro v b7 s1 ⟨o,ia,ib,mg,rfl,a4,a5,b8,h1,h2,h3,h4,h5⟩;lia
 .rintro v b7 s1 ⟨x,y,rfl,hF,a4,a5⟩;exact aQ (h _ _ _ hF a4 a5)
theorem jV{α : Type}(b:Nat):∀(m:List α) (i:Nat) (q:Array α),b+i+m.length<=q.size->((m.zipIdx i).foldl (λ(a:Array α) (x : α × Nat)=>a.setIfInBounds (b+x.2) x.1) q).toList=q.toList.take (b+i)++m++q.toList.drop (b+i+m.length)
 | [],i,q,h=>by simp
 | x::m,i,q,h=>by
  rw [List.zipIdx_cons,List.foldl_cons];let c:(x::m).length=m.length+1:=rfl;rw [c] at h;let:=jV b m (i+1) (q.setIfInBounds (b+i) x) (by rw [Array.size_setIfInBounds];lia);rw [this,Array.toList_setIfInBounds,c];let d:b+i<q.toList.length:=by rw [aM];lia
  let e:(q.toList.set (b+i) x).take (b+(i+1))=q.toList.take (b+i) ++ [x]:=by
   rw [show b+(i+1)=b+i+1 by lia,fB,List.getElem?_set_self d,List.take_set_of_le (aH _)];rfl
  let f:(q.toList.set (b+i) x).drop (b+(i+1)+m.length)=q.toList.drop (b+i+(m.length+1)):=by
   rw [List.drop_set_of_lt ∎]
   congr 1;lia
  rw [e,f];simp
theorem qPk(f:Ri lt (c++X2))(g:Ri lt (Y1++Y2))(h:Ri lt R)(d:R.Perm (X2++Y1))(e:Be lt c (Y1++Y2))(i:Be lt X2 Y2):Ri lt (c++R++Y2):=by
 let⟨j,p,k⟩:=bR.mp f;let⟨q,l,m⟩:=bR.mp g;let n:Be lt c R:=λu b v a=>by
  rcases aJ.mp (d.mem_iff.mp a) with z | z
  .exact k u b v z
  .exact e u b v (aJ.mpr (.inl z))
 let o:Be lt R Y2:=λu b v a=>by
  rcases aJ.mp (d.mem_iff.mp b) with z | z
  .exact i u z v a
  .exact m u z v a
 refine bR.mpr ⟨bR.mpr ⟨j,h,n⟩,l,λu b v a=>?_⟩;rcases aJ.mp b with z | z
 .exact e u z v (aJ.mpr (.inr a))
 .exact o u z v a
theorem qKi(O:Srt.Ord lt){left:Bool}{key:Nat}{base n:Nat}(b:∀i j,i<=j->j<n->lt (q.getD (base+j) 0) (q.getD (base+i) 0)=false):∀i j,i<=j->j<n->byd lt left key q base j=true->byd lt left key q base i=true:=by
 intro i j a c h;let le:=b i j a c;unfold byd at h ⊢;cases left with
 | true =>
  simp only [if_true] at h ⊢;cases z:lt (q.getD (base+i) 0) key with
  | true=>rfl
  | false=>rw [O.trans _ _ _ z le] at h;cases h
 | false =>
  simp only [bV,if_false,Bool.not_eq_true'] at h ⊢;exact O.trans _ _ _ le h
theorem jW(O:Srt.Ord lt){q:Array Nat}{base n:Nat}(d:base+n<=q.size)(h:Ri lt (q.extract base (base+n)).toList):∀i j,i<=j->j<n->lt (q.getD (base+j) 0) (q.getD (base+i) 0)=false:=by
 intro i j a f;by_cases e:i=j
 .subst e;exact O.irr _
 .let sz:(q.extract base (base+n)).size=n:=by rw [fF];lia
  let:=bL.mp h i j (by rw [aM,sz];lia) (by rw [aM,sz];lia) ∎;rw [dC,dC,eD,eD] at this;let b:base+i<q.size:=by lia
  let c:base+j<q.size:=by lia
  simpa [Array.getD,b,c] using this
theorem qUr{σ : Type}{st a : σ}{Q:PUnit -> σ -> Shared->Prop}(h:Q ⟨⟩ a s):kasC M A E (set a:StateT σ Sem PUnit) Q st s:=by
 unfold kasC;show wpAny M A (pure ((PUnit.unit,a):PUnit × σ)) _ E s;exact aD h
theorem wO{p:Array Nat}{i n:Nat}:(p.extract i (i+n)).toList=(p.toList.drop i).take n:=by
 rw [gL,List.extract_eq_drop_take,Nat.add_sub_cancel_left]
theorem xG{p:Array Nat}{i j l:Nat}(a:i<=j)(b:j<=l):(p.extract i l).toList=(p.extract i j).toList++(p.extract j l).toList:=by
 obtain⟨m,rfl⟩:∃m,j=i+m:=⟨j - i,∎⟩;obtain⟨n,rfl⟩:∃n,l=i+m+n:=⟨l - (i+m),∎⟩;rw [wO,wO,Nat.add_assoc,wO,<-List.drop_drop,<-List.take_add]
theorem qNp{p:Array Nat}{i j:Nat}(a:i<=j):p.toList.take j=p.toList.take i++(p.extract i j).toList:=by
 obtain⟨m,rfl⟩:∃m,j=i+m:=⟨j - i,∎⟩;rw [wO,List.take_add]
theorem qHm{p:Array Nat}{i j:Nat}(a:i<=j):p.toList.drop i=(p.extract i j).toList++p.toList.drop j:=by
 obtain⟨m,rfl⟩:∃m,j=i+m:=⟨j - i,∎⟩;rw [wO,<-List.drop_drop,dY]
theorem xZ{p:Array Nat}{i j:Nat}(h:j<=p.size):(p.extract i j).toList.length=j - i:=by rw [aM,fF];lia
theorem xr{a:Array Nat}{i j x:Nat}(h:x∈(a.extract i j).toList):∃l,i<=l/\l<j/\l<a.size/\a.getD l 0=x:=uG (by rw [iG];exact List.mem_reverse.mpr h)
theorem qJf{lt:Nat->Nat->Bool}{p:Array Nat}{a na nb k n2:Nat}(w:k<=na)(x:n2<=nb)(hsz:a+na+nb<=p.size)(q:Ri lt r)(f:r.Perm ((p.extract (a+k) (a+na)).toList++(p.extract (a+na) (a+na+n2)).toList))(s:Ri lt (p.extract a (a+na)).toList)(t:Ri lt (p.extract (a+na) (a+na+nb)).toList)(n:Be lt (p.extract a (a+k)).toList (p.extract (a+na) (a+na+nb)).toList)(u:Be lt (p.extract (a+k) (a+na)).toList (p.extract (a+na+n2) (a+na+nb)).toList):∃c:Array Nat,c.toList=p.toList.take (a+k)++r++p.toList.drop (a+k+r.length)/\c.size=p.size/\c.toList.take a=p.toList.take a/\c.toList.drop (a+na+nb)=p.toList.drop (a+na+nb)/\Ri lt (c.extract a (a+na+nb)).toList/\c.toList.Perm p.toList:=by
 let o:r.length=(na - k)+n2:=by
  rw [f.length_eq,aG,xZ ∎,xZ ∎];lia
 let b:p.toList.take (a+k)++r++p.toList.drop (a+k+r.length)=p.toList.take a++((p.extract a (a+k)).toList++r++(p.extract (a+na+n2) (a+na+nb)).toList)++p.toList.drop (a+na+nb):=by
  rw [o,show a+k+(na - k+n2)=a+na+n2 by lia,qNp (i:=a) (j:=a+k) ∎,qHm (i:=a+na+n2) (j:=a+na+nb) ∎];simp [dB]
 let g:(p.toList.take a).length=a:=by rw [bD,aM];lia
 let h:((p.extract a (a+k)).toList++r++(p.extract (a+na+n2) (a+na+nb)).toList).length=na+nb:=by
  rw [aG,aG,xZ ∎,xZ ∎,o];lia
 let v:p.toList=p.toList.take a++((p.extract a (a+k)).toList++((p.extract (a+k) (a+na)).toList++(p.extract (a+na) (a+na+n2)).toList)++(p.extract (a+na+n2) (a+na+nb)).toList)++p.toList.drop (a+na+nb):=by
  conv=>lhs;rw [<-dY a p.toList,qHm (i:=a) (j:=a+na+nb) ∎,xG (i:=a) (j:=a+na) ∎ ∎,xG (i:=a) (j:=a+k) (l:=a+na) ∎ ∎,xG (i:=a+na) (j:=a+na+n2) (l:=a+na+nb) ∎ ∎]
  simp [dB]
 let d:=s;rw [xG (i:=a) (j:=a+k) (l:=a+na) ∎ ∎] at d;let e:=t;rw [xG (i:=a+na) (j:=a+na+n2) (l:=a+na+nb) ∎ ∎] at e n;let m:=qPk d e q f n u;refine⟨(p.toList.take (a+k)++r++p.toList.drop (a+k+r.length)).toArray,∅,?_,?_,?_,?_,?_⟩
 .rw [aR,b,aG,aG,h,g,fW,aM];lia
 .rw [iQ,b,dB,List.take_append_of_le_length ∎,cM ∎]
 .rw [iQ,b,List.drop_append_of_le_length (by rw [aG,h,g];lia),fU (by rw [aG,h,g];lia)];rfl
 .rw [show a+na+nb=a+(na+nb) by lia,wO,iQ,b,dB,List.drop_append_of_le_length ∎,fU ∎,List.nil_append,List.take_append_of_le_length ∎,cM ∎];exact m
 .rw [iQ,b]
  conv=>rhs;rw [v]
  exact ((((hZ _ f).append_right _).append_left _).append_right _)
theorem xH{p:Array Nat}{i:Nat}(h:i<p.size):p.getD i 0=p[i]:=by simp [Array.getD,h]
theorem qOc(O:Srt.Ord lt)(hA:AskOk prog w A κ it lt I N){p:Array Nat}{st:SortSt}{i b na nb pw a5:Nat}(a6:arrOf st=p.map (kas_item it))(H:kindOf st = κ)(hf:failedOf st=none)(a7:(pendingOf st)[i]? = some (b,na,pw))(a8:(pendingOf st)[i+1]? = some (b+na,nb,a5))(h0:0<na)(h1:0<nb)(hsz:b+na+nb<=p.size)(J:∀x∈p,x<N)(hI:I s)(V:Ri lt (p.extract b (b+na)).toList)(W:Ri lt (p.extract (b+na) (b+na+nb)).toList)(h:∀(u:Array Nat) v s',arrOf v=u.map (kas_item it)->kindOf v = κ -> failedOf v=none->pendingOf v=((pendingOf st).setIfInBounds i (b,na+nb,pw)).eraseIdxIfInBounds (i+1)->u.size=p.size->u.toList.take b=p.toList.take b->u.toList.drop (b+na+nb)=p.toList.drop (b+na+nb)->Ri lt (u.extract b (b+na+nb)).toList->u.toList.Perm p.toList->I s'->Q true v s'):kasC (model prog w) A E (mergeAt' i) Q st s:=by
 let hm:∀i (hi:i<p.size),p[i]<N:=λi hi=>J _ (fD hi);let px:=jW O (base:=b) (n:=na) ∎ V;let py:=jW O (base:=b+na) (n:=nb) ∎ W;let K:b+na<p.size:=by lia
 let L:b+na - 1<p.size:=by lia
 let z:Be lt (p.extract b (b+na)).toList (p.extract (b+na) (b+na+nb)).toList->Ri lt (p.extract b (b+na+nb)).toList:=λhb=>by
  rw [xG (i:=b) (j:=b+na) ∎ ∎];exact bR.mpr ⟨V,W,hb⟩
 let X:∀ {y:Nat},y∈(p.extract (b+na) (b+na+nb)).toList->lt y p[b+na]=false:=λ{y} m=>by
  let⟨l,l1,l2,G,o⟩:=xr m;let:=py 0 (l - (b+na)) (aX _) ∎;rw [show b+na+(l - (b+na))=l by lia,o,gC,xH K] at this;exact this
 let Y:∀ {x:Nat},x∈(p.extract b (b+na)).toList->lt p[b+na - 1] x=false:=λ{x} e=>by
  let⟨l,l1,l2,G,o⟩:=xr e;let:=px (l - b) (na - 1) ∎ ∎;rw [show b+(l - b)=l by lia,o,show b+(na - 1)=b+na - 1 by lia,xH L] at this;exact this
 refine aO (iL ?_);rw [a7,a8];refine aO (qUr ?_);let Z:(sortPriv% PySem.Builtin.SortState.a) st=p.map (kas_item it):=a6;rw [Z];refine aO (zg (zi K) ?_);refine aO (xX hA (left:=false) (key:=p[b+na]) (q:=p) (base:=b) (hint:=0) (n:=na) H ∎ J (hm _ K) h0 hI (qKi O px) λk s1 a0 a1 a2 a3=>?_);let B:∀ {x:Nat},x∈(p.extract b (b+k)).toList->lt p[b+na] x=false:=λ{x} e=>by
  let⟨l,l1,l2,G,o⟩:=xr e;let:=a1 (l - b) ∎;unfold byd at this;rw [show b+(l - b)=l by lia,o,if_neg aK] at this;simpa using this
 refine zH (λhc=>aQ ?_) (λhc=>?_)
 .let hc:na - k=0:=by simpa using hc
  let a9:k=na:=by lia
  subst a9;exact h p _ _ rfl H hf rfl rfl rfl rfl (z λx e y m=>O.trans _ _ _ (B e) (X m)) (.refl _) a3
 let hc:na - k≠0:=by simpa using hc
 refine aO (zg (x:=p[b+na - 1]) (by
  show p[b+k+(na - k) - 1]? = _
  rw [show b+k+(na - k) - 1=b+na - 1 by lia];exact zi L) ?_)
 refine aO (xX hA (left:=true) (key:=p[b+na - 1]) (q:=p) (base:=b+na) (hint:=nb - 1) (n:=nb) H ∎ J (hm _ L) ∎ a3 (qKi O py) λn2 s2 a4 M P R=>?_);let C:∀ {y:Nat},y∈(p.extract (b+na+n2) (b+na+nb)).toList->lt y p[b+na - 1]=false:=λ{y} m=>by
  let⟨l,l1,l2,G,o⟩:=xr m;let:=P (l - (b+na)) ∎ ∎;unfold byd at this;rw [show b+na+(l - (b+na))=l by lia,o,if_pos rfl] at this;exact this
 refine zH (λt=>aQ ?_) (λt=>?_)
 .let t:n2=0:=by simpa using t
  subst t;exact h p _ _ rfl H hf rfl rfl rfl rfl (z λx e y m=>O.trans _ _ _ (Y e) (C (by simpa using m))) (.refl _) R
 let t:n2≠0:=by simpa using t
 let em:∀i j,(p.map (kas_item it)).extract i j=(p.extract i j).map (kas_item it):=λi j=>by simp
 let b0:(p.extract (b+k) (b+na)).size=na - k:=by rw [fF];lia
 let b4:(p.extract (b+na) (b+na+n2)).size=n2:=by rw [fF];lia
 let S:=V;rw [xG (i:=b) (j:=b+k) (l:=b+na) ∎ ∎] at S;let T:=W;rw [xG (i:=b+na) (j:=b+na+n2) (l:=b+na+nb) ∎ ∎] at T;let f0:(p.extract (b+na) (b+na+n2))[0]'(by lia)=p[b+na]:=by simp
 let f1:(p.extract (b+k) (b+na))[0]'(by lia)=p[b+k]'(by lia):=by simp
 let f2:(p.extract (b+k) (b+na))[(p.extract (b+k) (b+na)).size - 1]'(by lia)=p[b+na - 1]:=by
  rw [eD]
  congr 1
  rw [b0];lia
 let e1:∀x∈p.extract (b+k) (b+na),x<N:=λx e=>by
  let⟨l,_,_,G,o⟩:=xr (fL.mp e);rw [<-o,xH G];exact hm _ G
 let e2:∀x∈p.extract (b+na) (b+na+n2),x<N:=λx e=>by
  let⟨l,_,_,G,o⟩:=xr (fL.mp e);rw [<-o,xH G];exact hm _ G
 let D:∀y∈(p.extract (b+na) (b+na+n2)).toList,lt ((p.extract (b+k) (b+na))[(p.extract (b+k) (b+na)).size - 1]'(by lia)) y=false:=λy m=>by
  rw [f2];let⟨l,l1,l2,G,o⟩:=xr m;let:=M (l - (b+na)) ∎;unfold byd at this;rw [show b+na+(l - (b+na))=l by lia,o,if_pos rfl] at this;exact O.asym _ _ this
 let g:lt ((p.extract (b+na) (b+na+n2))[0]'(by lia)) ((p.extract (b+k) (b+na))[0]'(by lia))=true:=by
  rw [f0,f1];let:=a2 k (aH _) ∎;unfold byd at this;rw [if_neg aK,xH ∎] at this;simpa using this
 let b1:Be lt (p.extract b (b+k)).toList (p.extract (b+na) (b+na+nb)).toList:=λx e y m=>O.trans _ _ _ (B e) (X m);let b2:Be lt (p.extract (b+k) (b+na)).toList (p.extract (b+na+n2) (b+na+nb)).toList:=λx e y m=>O.trans _ _ _ (Y (by rw [xG (i:=b) (j:=b+k) (l:=b+na) ∎ ∎];exact aJ.mpr (.inr e))) (C m);rw [em,em];refine zH (λb3=>?_) (λb3=>?_)
 .refine aO (qOa O hA H R ∎ ∎ e1 e2 (bR.mp S).2.1 (bR.mp T).1 D g λx f s3 hF c U=>?_);let⟨r,rfl,hr,hp⟩:=hF;let⟨u,q1,q2,q3,q4,q5,q6⟩:=qJf (k:=k) (n2:=n2) a0 a4 hsz hr hp V W b1 b2;let ef:failedOf f=none:=c.2.2.2.trans hf;let ea:arrOf f=p.map (kas_item it):=c.2.1;let rl:r.toList.length=(na - k)+n2:=by rw [hp.length_eq,aG,xZ ∎,xZ ∎];lia
  let key:=jV (b+k) (r.map (kas_item it)).toList 0 (p.map (kas_item it)) (by rw [fG,aB,rl,fO];lia)
  let F:=key.trans (show _=(u.map (kas_item it)).toList by
   rw [fG,fG,fG,q1,aB];simp)
  let d:=Array.toList_inj.mp F;rw [<-ea] at d;refine aO (gJ (aO (iL (aQ ?_))));show Q (failedOf f).isNone _ _;rw [ef];exact h u _ _ d (c.1.trans H) ef c.2.2.1 q2 q3 q4 q5 q6 U
 .refine aO (qOb O hA H R ∎ ∎ e1 e2 (bR.mp S).2.1 (bR.mp T).1 D g λx f s3 hF c U=>?_);let⟨r,rfl,hr,hp⟩:=hF;let⟨u,q1,q2,q3,q4,q5,q6⟩:=qJf (k:=k) (n2:=n2) a0 a4 hsz hr hp V W b1 b2;let ef:failedOf f=none:=c.2.2.2.trans hf;let ea:arrOf f=p.map (kas_item it):=c.2.1;let rl:r.toList.length=(na - k)+n2:=by rw [hp.length_eq,aG,xZ ∎,xZ ∎];lia
  let key:=jV (b+k) (r.map (kas_item it)).toList 0 (p.map (kas_item it)) (by rw [fG,aB,rl,fO];lia)
  let F:=key.trans (show _=(u.map (kas_item it)).toList by
   rw [fG,fG,fG,q1,aB];simp)
  let d:=Array.toList_inj.mp F;rw [<-ea] at d;refine aO (gJ (aO (iL (aQ ?_))));show Q (failedOf f).isNone _ _;rw [ef];exact h u _ _ d (c.1.trans H) ef c.2.2.1 q2 q3 q4 q5 q6 U
def SameA(st st':SortSt):Prop:=kindOf st'=kindOf st/\pendingOf st'=pendingOf st/\failedOf st'=failedOf st/\gallopOf st'=gallopOf st
theorem SameA.refl(st:SortSt):SameA st st:=⟨rfl,rfl,rfl,rfl⟩
theorem SameA.trans{a b c:SortSt}(h:SameA a b)(k:SameA b c):SameA a c:=⟨k.1.trans h.1,k.2.1.trans h.2.1,k.2.2.1.trans h.2.2.1,k.2.2.2.trans h.2.2.2⟩
theorem qHk{σ β : Type}{f:Nat -> β -> StateT σ Sem (ForInStep β)}{Q : β -> σ -> Shared->Prop}(Pv:Nat -> β -> σ -> Shared->Prop):∀(c a:Nat) {b : β} {st : σ} {s:Shared},(∀i b st s,a<=i->i<a+c->Pv i b st s->kasC M A E (f i b) (λr d g=>match r with | .done e=>Q e d g | .yield e=>Pv (i+1) e d g) st s)->(∀b st s,Pv (a+c) b st s->Q b st s)->Pv a b st s->kasC M A E (forIn (List.range' a c) b f) Q st s
 | 0,a,b,st,s,j,hd,h=>kasC_nil (hd b st s h)
 | c+1,a,b,st,s,j,hd,h=>by
  rw [List.range'_succ];refine kasC_cons (zu (j a b st s (aH _) ∎ h) λr d g k=>?_);cases r with
  | done e=>exact k
  | yield e=>exact qHk Pv c (a+1) (λi b st s l m=>j i b st s ∎ ∎) (λb st s h=>hd b st s (by rw [show a+(c+1)=a+1+c by lia];exact h)) k
theorem yu(e:AskOk prog w A κ it lt I N){i j:Nat}{st:SortSt}(c:arrOf st=p.map (kas_item it))(f:kindOf st = κ)(a:∀x∈p,x<N)(hi:i<p.size)(d:j<p.size)(g:I s)(h:∀b,I b->Q (some (lt (Srt.at' p i) (Srt.at' p j))) st b):kasC (model prog w) A E (ltAt' i j) Q st s:=by
 rw [ltAt'_eq];refine aO (iL ?_);dsimp only;rw [show arrOf st=p.map (kas_item it) from c];refine aO (zg (zi hi) ?_);refine aO (zg (zi d) ?_);refine vF e f (a _ (fD hi)) (a _ (fD d)) g λb k=>?_;let:=h b k;unfold Srt.at' at this;rw [xH hi,xH d] at this;exact this
theorem qY4{k l:Nat}{st:SortSt}(b:arrOf st=p.map (kas_item it))(h:∀a,arrOf a=(bubble p k (k - l)).map (kas_item it)->SameA st a->Q () a s):kasC M A E (moveDown' k l) Q st s:=by
 rw [moveDown'_eq];refine gJ (h _ ?_ ⟨rfl,rfl,rfl,rfl⟩);show bubble (arrOf st) k (k - l)=_;rw [b];exact kas_swaps_map (kas_item it) (λi=>k - i) (λi=>k - i - 1) _ p
def UpAt(lt:Nat->Nat->Bool)(p:Array Nat)(lo k:Nat):Prop := ∀i j,i<=j->j<k->lt (Srt.at' p (lo+j)) (Srt.at' p (lo+i))=false
theorem UpAt.ins(O:Srt.Ord lt){lo k l:Nat}(h:UpAt lt p lo k)(n:lo+k<p.size)(r:l<=k)(o:∀i,i<l->lt (Srt.at' p (lo+k)) (Srt.at' p (lo+i))=false)(q:∀i,l<=i->i<k->lt (Srt.at' p (lo+k)) (Srt.at' p (lo+i))=true):UpAt lt (bubble p (lo+k) (lo+k - (lo+l))) lo (k+1):=by
 let a:∀i,Srt.at' (bubble p (lo+k) (lo+k - (lo+l))) (lo+i)=if i=l then Srt.at' p (lo+k) else if l<i/\i<=k then Srt.at' p (lo+(i - 1)) else Srt.at' p (lo+i):=λi=>by
  rw [Srt.at_bub n ∎];by_cases e:i=l
  .rw [if_pos e,if_pos ∎]
  .rw [if_neg e,if_neg ∎];by_cases c:l<i/\i<=k
   .rw [if_pos c,if_pos ∎,show lo+i - 1=lo+(i - 1) by lia]
   .rw [if_neg c,if_neg ∎]
 intro i j d s;rw [a,a];by_cases f:i=l
 .rw [if_pos f];by_cases b:j=l
  .rw [if_pos b];exact O.irr _
  .rw [if_neg b,if_pos ∎];exact O.asym _ _ (q (j - 1) ∎ ∎)
 .rw [if_neg f];by_cases g:l<i/\i<=k
  .rw [if_pos g,if_neg ∎,if_pos ∎];exact h (i - 1) (j - 1) ∎ ∎
  .rw [if_neg g];by_cases b:j=l
   .rw [if_pos b];exact o i ∎
   .rw [if_neg b];by_cases m:l<j/\j<=k
    .rw [if_pos m];exact h i (j - 1) ∎ ∎
    .rw [if_neg m];exact h i j d ∎
theorem qSo(O:Srt.Ord lt)(Y:AskOk prog w A κ it lt I N){st:SortSt}{lo n ok:Nat}(M:arrOf st=p.map (kas_item it))(Z:kindOf st = κ)(P:∀x∈p,x<N)(hsz:lo+n<=p.size)(hI:I s)(up:UpAt lt p lo (max ok 1))(a0:max ok 1<=n)(h:∀(b:Array Nat) a t,arrOf a=b.map (kas_item it)->SameA st a->b.size=p.size->b.toList.Perm p.toList->(∀i,i<lo\/lo+n<=i->Srt.at' b i=Srt.at' p i)->UpAt lt b lo n->I t->Q true a t):kasC (model prog w) A E (binarySort' lo n ok) Q st s:=by
 refine aO (zu (iU (qHk (Q:=λv a t => ∃b:Array Nat,v.1=none/\arrOf a=b.map (kas_item it)/\SameA st a/\b.size=p.size/\b.toList.Perm p.toList/\(∀i,i<lo\/lo+n<=i->Srt.at' b i=Srt.at' p i)/\UpAt lt b lo n/\I t) (λk v a t => ∃b:Array Nat,v.1=none/\arrOf a=b.map (kas_item it)/\SameA st a/\b.size=p.size/\b.toList.Perm p.toList/\(∀i,i<lo\/lo+n<=i->Srt.at' b i=Srt.at' p i)/\UpAt lt b lo k/\I t) (n - max ok 1) (max ok 1) ?_ ?_ ⟨p,rfl,M,.refl _,rfl,.refl _,λ_ _=>rfl,up,hI⟩)) ?_)
 .rintro k v j R k1 k2 ⟨q,B,C,e,d,f,m,up1,o⟩
  let H:∀x∈q,x<N:=λx hx=>P x (by
   let:=f.mem_iff.mp (fL.mp hx)
   exact fL.mpr this)
  let y:lo+k<q.size:=by lia
  refine aO (zu (yO (Q:=λv a t => ∃l r,v=(none,l,r)/\l=r/\j=a/\I t/\r<=k/\(∀i,i<l->lt (Srt.at' q (lo+k)) (Srt.at' q (lo+i))=false) /\ ∀i,r<=i->i<k->lt (Srt.at' q (lo+k)) (Srt.at' q (lo+i))=true) (λc v a t => ∃l r,v=(none,l,r)/\l<=r/\r<=l+c/\j=a/\I t/\r<=k/\(∀i,i<l->lt (Srt.at' q (lo+k)) (Srt.at' q (lo+i))=false) /\ ∀i,r<=i->i<k->lt (Srt.at' q (lo+k)) (Srt.at' q (lo+i))=true) ⟨0,k,rfl,∎,∎,rfl,o,aH _,λi S=>by lia,λi V W=>by lia⟩ ?_ ?_) ?_)
  .rintro c x v J X ⟨l,r,rfl,g1,g2,rfl,g,D,F,G⟩;refine zH (λK=>aQ ⟨l,r,rfl,by let K:l>=r:=K;lia,rfl,g,D,F,G⟩) (λK=>?_);let K : ¬l>=r:=K;refine aO (yu Y C (e.1.trans Z) H y (show lo+(l+r) / 2<q.size by lia) g λs3 L=>?_);cases T:lt (Srt.at' q (lo+k)) (Srt.at' q (lo+(l+r) / 2)) with
   | true =>
    refine zH (λ_=>aQ ⟨l,(l+r) / 2,rfl,∎,∎,rfl,L,∎,F,λi V W=>?_⟩) (λz=>absurd rfl z);cases hz:lt (Srt.at' q (lo+k)) (Srt.at' q (lo+i)) with
    | true=>rfl
    | false=>rw [O.trans _ _ _ (up1 ((l+r) / 2) i V W) hz] at T;cases T
   | false =>
    refine zH (λz=>absurd z aK) (λ_=>aQ ⟨(l+r) / 2+1,r,rfl,∎,∎,rfl,L,D,λi S=>?_,G⟩);exact O.trans _ _ _ (up1 i ((l+r) / 2) ∎ ∎) T
  .rintro v J X ⟨l,r,rfl,g1,g2,rfl,g,D,F,G⟩;exact⟨l,r,rfl,∎,rfl,g,D,F,G⟩
  .rintro v J X ⟨l,r,rfl,rfl,rfl,g,D,F,G⟩;refine aO (qY4 C λa1 h3 U=>aQ ⟨_,rfl,h3,e.trans U,?_,?_,λi S=>?_,up1.ins O y D F G,g⟩)
   .rw [bubble_size];exact d
   .exact (Array.perm_iff_toList_perm.mp (bubble_perm q _ _)).trans f
   .rw [Srt.at_bub (l:=lo+l) y ∎,if_neg ∎,if_neg ∎];exact m i S
 .rintro v j R ⟨q,B,C,e,d,f,m,up1,o⟩;rw [show max ok 1+(n - max ok 1)=n by lia] at up1;exact⟨q,B,C,e,d,f,m,up1,o⟩
 .rintro⟨v,u⟩ j R ⟨q,B,C,e,d,f,m,up1,o⟩;let B:v=none:=B;subst B;exact aQ (h q j R C e d f m up1 o)
theorem xI{i j:Nat}{st:SortSt}(b:arrOf st=p.map (kas_item it))(h:∀a,arrOf a=(kas_rev p i j).map (kas_item it)->SameA st a->Q () a s):kasC M A E (reverseSlice' i j) Q st s:=by
 rw [reverseSlice'_eq];refine gJ (h _ ?_ ⟨rfl,rfl,rfl,rfl⟩);show mirror (arrOf st) i j ((j - i) / 2)=_;rw [b];exact kas_swaps_map (kas_item it) (λk=>i+k) (λk=>j - 1 - k) _ p
def DnAt(lt:Nat->Nat->Bool)(p:Array Nat)(lo k:Nat):Prop := ∀i j,i<=j->j<k->lt (Srt.at' p (lo+i)) (Srt.at' p (lo+j))=false
def EqAt(lt:Nat->Nat->Bool)(p:Array Nat)(lo a b:Nat):Prop := ∀i j,a<=i->i<b->a<=j->j<b->lt (Srt.at' p (lo+i)) (Srt.at' p (lo+j))=false
structure Cr(p q:Array Nat)(lo n:Nat):Prop where
 size:q.size=p.size
 perm:q.toList.Perm p.toList
 out:∀i,i<lo\/lo+n<=i->Srt.at' q i=Srt.at' p i
theorem Cr.refl(p:Array Nat)(lo n:Nat):Cr p p lo n:=⟨rfl,.refl _,λ_ _=>rfl⟩
theorem uH{lo a b:Nat}(h:lo+b<=p.size)(i:Nat):Srt.at' (kas_rev p (lo+a) (lo+b)) (lo+i)=if a<=i/\i<b then Srt.at' p (lo+(a+b - 1 - i)) else Srt.at' p (lo+i):=by
 rw [Srt.at_rev h];by_cases c:a<=i/\i<b
 .rw [if_pos c,if_pos ∎]
  congr 1;lia
 .rw [if_neg c,if_neg ∎]
theorem Cr.rev{lo n a b:Nat}(h:Cr p q lo n)(e:b<=n)(f:lo+n<=p.size):Cr p (kas_rev q (lo+a) (lo+b)) lo n:=by
 let c:lo+b<=q.size:=by rw [h.size];lia
 refine⟨by rw [kas_rev_size];exact h.size,(Array.perm_iff_toList_perm.mp (mirror_perm _ _ _ _)).trans h.perm,λi d=>?_⟩;rw [Srt.at_rev c,if_neg ∎];exact h.out i d
theorem UpAt.snoc(O:Srt.Ord lt){lo n:Nat}(c:1<=n)(u:UpAt lt p lo n)(h:lt (Srt.at' p (lo+n)) (Srt.at' p (lo+n - 1))=false):UpAt lt p lo (n+1):=by
 intro i j a d;by_cases e:j=n
 .subst e;by_cases b:i=j
  .subst b;exact O.irr _
  .let:=u i (j - 1) ∎ ∎;rw [show lo+(j - 1)=lo+j - 1 by lia] at this;exact O.trans _ _ _ this h
 .exact u i j a ∎
theorem DnAt.snoc(O:Srt.Ord lt){lo n:Nat}(c:1<=n)(u:DnAt lt p lo n)(h:lt (Srt.at' p (lo+n - 1)) (Srt.at' p (lo+n))=false):DnAt lt p lo (n+1):=by
 intro i j a d;by_cases e:j=n
 .subst e;by_cases b:i=j
  .subst b;exact O.irr _
  .let:=u i (j - 1) ∎ ∎;rw [show lo+(j - 1)=lo+j - 1 by lia] at this;exact O.trans _ _ _ h this
 .exact u i j a ∎
theorem DnAt.revEq{lo k a b:Nat}(u:DnAt lt p lo k)(e:EqAt lt p lo a b)(l:a<=b)(m:b<=k)(f:lo+b<=p.size):DnAt lt (kas_rev p (lo+a) (lo+b)) lo k:=by
 intro i j d g;rw [uH f,uH f];by_cases h:a<=i/\i<b
 .rw [if_pos h];by_cases c:a<=j/\j<b
  .rw [if_pos c];exact e _ _ ∎ ∎ ∎ ∎
  .rw [if_neg c];exact u _ _ ∎ g
 .rw [if_neg h];by_cases c:a<=j/\j<b
  .rw [if_pos c];exact u _ _ ∎ ∎
  .rw [if_neg c];exact u _ _ d g
theorem DnAt.rev{lo n:Nat}(u:DnAt lt p lo n)(c:lo+n<=p.size):UpAt lt (kas_rev p lo (lo+n)) lo n:=by
 intro i j f g;let d:=uH (p:=p) (lo:=lo) (a:=0) (b:=n) c i;let e:=uH (p:=p) (lo:=lo) (a:=0) (b:=n) c j;rw [gC] at d e;rw [d,e,if_pos ∎,if_pos ∎];exact u _ _ ∎ ∎
theorem EqAt.snoc(O:Srt.Ord lt){lo a n:Nat}(l:a<n)(e:EqAt lt p lo a n)(b:lt (Srt.at' p (lo+n)) (Srt.at' p (lo+n - 1))=false)(f:lt (Srt.at' p (lo+n - 1)) (Srt.at' p (lo+n))=false):EqAt lt p lo a (n+1):=by
 intro i j g m h o;let k:lo+n - 1=lo+(n - 1):=by lia
 rw [k] at b f;by_cases c:i=n
 .subst c;by_cases d:j=i
  .subst d;exact O.irr _
  .exact O.trans _ _ _ (e (i - 1) j ∎ ∎ h ∎) b
 .by_cases d:j=n
  .subst d;exact O.trans _ _ _ f (e i (j - 1) g ∎ ∎ ∎)
  .exact e i j g ∎ h ∎
theorem qV6(O:Srt.Ord lt)(hA:AskOk prog w A κ it lt I N){st:SortSt}{lo nrem:Nat}(a3:arrOf st=p.map (kas_item it))(hk:kindOf st = κ)(a8:∀x∈p,x<N)(h1:1<=nrem)(hsz:lo+nrem<=p.size)(hI:I s)(h:∀(q:Array Nat) n e r,arrOf e=q.map (kas_item it)->SameA st e->Cr p q lo nrem->1<=n->n<=nrem->UpAt lt q lo n->I r->Q (some n) e r):kasC (model prog w) A E (countRun' lo nrem) Q st s:=by
 let B:∀ {q:Array Nat},Cr p q lo nrem -> ∀x∈q,x<N:=λ{q} c x hx=>a8 x (fL.mpr (c.perm.mem_iff.mp (fL.mp hx)));refine aO (zu (iU (xF (Q:=λv e r => ∃n,v=(none,n)/\st=e/\I r/\1<=n/\n<=nrem/\UpAt lt p lo n/\(n=nrem\/n<nrem/\lt (Srt.at' p (lo+n)) (Srt.at' p (lo+n - 1))=true)) (λk v e r => ∃n,v=(none,n)/\st=e/\I r/\1<=n/\n+k=nrem/\UpAt lt p lo n) ?_ ?_ _ ⟨1,rfl,rfl,hI,aH _,by rw [eR];lia,λi j b7 hj=>by rw [show i=0 by lia,show j=0 by lia];exact O.irr _⟩)) ?_)
 .rintro k x v a9 s1 ⟨n,rfl,rfl,S,g1,g2,g3⟩;refine aO (yu hA a3 hk a8 (show lo+n<p.size by lia) (show lo+n - 1<p.size by lia) S λs2 L=>?_);cases M:lt (Srt.at' p (lo+n)) (Srt.at' p (lo+n - 1)) with
  | true=>exact zH (λ_=>aQ ⟨n,rfl,rfl,L,g1,∎,g3,.inr ⟨∎,M⟩⟩) (λz=>absurd rfl z)
  | false=>exact zH (λz=>absurd z aK) (λ_=>aQ ⟨n+1,rfl,rfl,L,∎,∎,g3.snoc O g1 M⟩)
 .rintro v a9 s1 ⟨n,rfl,rfl,S,g1,g2,g3⟩;exact⟨n,rfl,rfl,S,g1,∎,g3,.inl ∎⟩
 rintro v a9 s1 ⟨n,rfl,rfl,S,g1,g2,g3,g4⟩;refine zH (λhc=>aQ (h p n _ _ a3 (.refl _) (.refl _ _ _) g1 g2 g3 S)) (λhc=>?_);let hc:n≠nrem:=by simpa using hc
 obtain⟨g5,g6⟩:n<nrem/\lt (Srt.at' p (lo+n)) (Srt.at' p (lo+n - 1))=true:=by
  rcases g4 with z | z
  .exact absurd z hc
  .exact z
 refine zH (λhn=>?_) (λhn=>?_)
 .let hn:n>1:=hn;refine aO (yu hA a3 hk a8 (show lo<p.size by lia) (show lo+n - 1<p.size by lia) S λs3 a7=>?_);cases M:lt (Srt.at' p lo) (Srt.at' p (lo+n - 1)) with
  | true=>exact zH (λ_=>aQ (h p n _ _ a3 (.refl _) (.refl _ _ _) g1 g2 g3 a7)) (λz=>absurd rfl z)
  | false =>
   refine zH (λz=>absurd z aK) (λ_=>?_);let R:EqAt lt p lo 0 n:=λi j _ hi _ hj=>by
    let e3:=g3 0 i (aX _) hi;let e4:=g3 j (n - 1) ∎ ∎;rw [gC] at e3;rw [show lo+(n - 1)=lo+n - 1 by lia] at e4;exact O.trans _ _ _ e4 (O.trans _ _ _ M e3)
   let b8:DnAt lt p lo (n+1):=DnAt.snoc O g1 (λi j _ hj=>R i j (aX _) ∎ (aX _) hj) (O.asym _ _ g6);refine aO (xI a3 λa9 b0 b4=>?_);let b5:Cr p (kas_rev p lo (lo+n)) lo nrem:=by
    let:=(Cr.refl p lo nrem).rev (a:=0) (b:=n) g2 hsz;rw [gC] at this;exact this
   let b6:DnAt lt (kas_rev p lo (lo+n)) lo (n+1):=by
    let:=b8.revEq R (aX _) ∎ ∎;rw [gC] at this;exact this
   refine aO (kasC_lift (cY ?_));refine aO (zu (iU (xF (Q:=λv e r => ∃(q:Array Nat) (m d:Nat),v=(none,m,d)/\arrOf e=q.map (kas_item it)/\SameA st e/\Cr p q lo nrem/\I r/\d+1<=m/\m<=nrem/\DnAt lt q lo m/\EqAt lt q lo (m - (d+1)) m) (λk v e r => ∃(q:Array Nat) (m d:Nat),v=(none,m,d)/\arrOf e=q.map (kas_item it)/\SameA st e/\Cr p q lo nrem/\I r/\d+1<=m/\m+k=nrem/\DnAt lt q lo m/\EqAt lt q lo (m - (d+1)) m) ?_ ?_ _ ⟨_,n+1,0,rfl,b0,b4,b5,a7,∎,by rw [eR];show n+1+(nrem - (n+1))=nrem;lia,b6,λi j i1 i2 j1 j2=>by rw [show i=j by lia];exact O.irr _⟩)) ?_)
   .rintro k x v T s2 ⟨q,m,d,rfl,C,D,o,L,a1,a2,P,R⟩;refine aO (yu hA C (D.1.trans hk) (B o) (show lo+m<q.size by rw [o.size];lia) (show lo+m - 1<q.size by rw [o.size];lia) L λs3 t=>?_);let ei:lo+m - (d+1)=lo+(m - (d+1)):=by lia
    let U:lo+m<=q.size:=by rw [o.size];lia
    cases M:lt (Srt.at' q (lo+m)) (Srt.at' q (lo+m - 1)) with
    | true =>
     refine zH (λ_=>?_) (λz=>absurd rfl z);refine zH (λhn=>?_) (λhn=>?_)
     .refine aO (xI C λa4 h3 V=>aQ ⟨_,m+1,0,rfl,h3,D.trans V,?_,t,∎,∎,?_,λi j i1 i2 j1 j2=>by rw [show i=j by lia];exact O.irr _⟩)
      .show Cr p (kas_rev q (lo+m - (d+1)) (lo+m)) lo nrem;rw [ei];exact o.rev ∎ hsz
      .show DnAt lt (kas_rev q (lo+m - (d+1)) (lo+m)) lo (m+1);rw [ei];exact (P.snoc O ∎ (O.asym _ _ M)).revEq R ∎ ∎ U
     .exact aQ ⟨q,m+1,0,rfl,C,D,o,t,∎,∎,P.snoc O ∎ (O.asym _ _ M),λi j i1 i2 j1 j2=>by rw [show i=j by lia];exact O.irr _⟩
    | false =>
     refine zH (λz=>absurd z aK) (λ_=>?_);refine aO (yu hA C (D.1.trans hk) (B o) (show lo+m - 1<q.size by lia) (show lo+m<q.size by rw [o.size];lia) t λs5 a5=>?_);cases a6:lt (Srt.at' q (lo+m - 1)) (Srt.at' q (lo+m)) with
     | true=>exact zH (λ_=>aQ ⟨q,m,d,rfl,C,D,o,a5,a1,∎,P,R⟩) (λz=>absurd rfl z)
     | false=>exact zH (λz=>absurd z aK) (λ_=>aQ ⟨q,m+1,d+1,rfl,C,D,o,a5,∎,∎,P.snoc O ∎ a6,by rw [show m+1 - (d+1+1)=m - (d+1) by lia];exact R.snoc O ∎ M a6⟩)
   .rintro v T s2 ⟨q,m,d,rfl,C,D,o,L,a1,a2,P,R⟩;exact⟨q,m,d,rfl,C,D,o,L,a1,∎,P,R⟩
   rintro v T s2 ⟨q,m,d,rfl,C,D,o,t,a1,a2,P,R⟩;let U:lo+m<=q.size:=by rw [o.size];lia
   let ei:lo+m - (d+1)=lo+(m - (d+1)):=by lia
   refine zH (λhn=>?_) (λhn=>?_)
   .refine aO (xI C λa4 h3 V=>?_)
    obtain⟨l,W,F,X⟩:∃l:Array Nat,arrOf a4=l.map (kas_item it)/\Cr p l lo nrem/\DnAt lt l lo m:=⟨_,h3,by
     show Cr p (kas_rev q (lo+m - (d+1)) (lo+m)) lo nrem;rw [ei];exact o.rev ∎ hsz,by
     show DnAt lt (kas_rev q (lo+m - (d+1)) (lo+m)) lo m
     rw [ei];exact P.revEq R ∎ (aH _) U⟩
    let Y:=D.trans V;refine aO (xI W λG h5 Z=>?_);let f:=F.rev (a:=0) (b:=m) a2 hsz;rw [gC] at f;let a0:=X.rev (by rw [F.size];lia);let H:=Y.trans Z;refine aO (zu (iU (xF (Q:=λv e r => ∃n,v=(none,n)/\G=e/\I r/\1<=n/\n<=nrem/\UpAt lt (kas_rev l lo (lo+m)) lo n) (λk v e r => ∃n,v=(none,n)/\G=e/\I r/\1<=n/\n+k=nrem/\UpAt lt (kas_rev l lo (lo+m)) lo n) ?_ ?_ _ ⟨m,rfl,rfl,t,∎,by rw [eR];show m+(nrem - m)=nrem;lia,a0⟩)) ?_)
    .rintro k x v J s7 ⟨n,rfl,rfl,g,u,b2,y⟩;refine aO (yu hA h5 (H.1.trans hk) (B f) (show lo+n<_ by rw [f.size];lia) (show lo+n - 1<_ by rw [f.size];lia) g λs8 K=>?_);cases M:lt (Srt.at' (kas_rev l lo (lo+m)) (lo+n)) (Srt.at' (kas_rev l lo (lo+m)) (lo+n - 1)) with
     | true=>exact zH (λ_=>aQ ⟨n,rfl,rfl,K,u,∎,y⟩) (λz=>absurd rfl z)
     | false=>exact zH (λz=>absurd z aK) (λ_=>aQ ⟨n+1,rfl,rfl,K,∎,∎,y.snoc O u M⟩)
    .rintro v J s7 ⟨n,rfl,rfl,g,u,b2,y⟩;exact⟨n,rfl,rfl,g,u,∎,y⟩
    rintro v J s7 ⟨n,rfl,rfl,g,u,b2,y⟩;exact aQ (h _ n _ _ h5 H f u b2 y g)
   .obtain⟨l,W,F,X⟩:∃l:Array Nat,arrOf T=l.map (kas_item it)/\Cr p l lo nrem/\DnAt lt l lo m:=⟨q,C,o,P⟩;let Y:=D;refine aO (xI W λG h5 Z=>?_);let f:=F.rev (a:=0) (b:=m) a2 hsz;rw [gC] at f;let a0:=X.rev (by rw [F.size];lia);let H:=Y.trans Z;refine aO (zu (iU (xF (Q:=λv e r => ∃n,v=(none,n)/\G=e/\I r/\1<=n/\n<=nrem/\UpAt lt (kas_rev l lo (lo+m)) lo n) (λk v e r => ∃n,v=(none,n)/\G=e/\I r/\1<=n/\n+k=nrem/\UpAt lt (kas_rev l lo (lo+m)) lo n) ?_ ?_ _ ⟨m,rfl,rfl,t,∎,by rw [eR];show m+(nrem - m)=nrem;lia,a0⟩)) ?_)
    .rintro k x v J s7 ⟨n,rfl,rfl,g,u,b2,y⟩;refine aO (yu hA h5 (H.1.trans hk) (B f) (show lo+n<_ by rw [f.size];lia) (show lo+n - 1<_ by rw [f.size];lia) g λs8 K=>?_);cases M:lt (Srt.at' (kas_rev l lo (lo+m)) (lo+n)) (Srt.at' (kas_rev l lo (lo+m)) (lo+n - 1)) with
     | true=>exact zH (λ_=>aQ ⟨n,rfl,rfl,K,u,∎,y⟩) (λz=>absurd rfl z)
     | false=>exact zH (λz=>absurd z aK) (λ_=>aQ ⟨n+1,rfl,rfl,K,∎,∎,y.snoc O u M⟩)
    .rintro v J s7 ⟨n,rfl,rfl,g,u,b2,y⟩;exact⟨n,rfl,rfl,g,u,∎,y⟩
    rintro v J s7 ⟨n,rfl,rfl,g,u,b2,y⟩;exact aQ (h _ n _ _ h5 H f u b2 y g)
 .let hn : ¬n>1:=hn;let b9:n=1:=by lia
  subst b9;let a7:=S;let b0:=a3;let b4:SameA st st :=.refl _;let b5:Cr p p lo nrem :=.refl _ _ _;let b6:DnAt lt p lo (1+1):=DnAt.snoc O (aH _) (λi j b7 hj=>by rw [show i=0 by lia,show j=0 by lia];exact O.irr _) (O.asym _ _ g6);refine aO (kasC_lift (cY ?_));refine aO (zu (iU (xF (Q:=λv e r => ∃(q:Array Nat) (m d:Nat),v=(none,m,d)/\arrOf e=q.map (kas_item it)/\SameA st e/\Cr p q lo nrem/\I r/\d+1<=m/\m<=nrem/\DnAt lt q lo m/\EqAt lt q lo (m - (d+1)) m) (λk v e r => ∃(q:Array Nat) (m d:Nat),v=(none,m,d)/\arrOf e=q.map (kas_item it)/\SameA st e/\Cr p q lo nrem/\I r/\d+1<=m/\m+k=nrem/\DnAt lt q lo m/\EqAt lt q lo (m - (d+1)) m) ?_ ?_ _ ⟨_,1+1,0,rfl,b0,b4,b5,a7,∎,by rw [eR];show 1+1+(nrem - (1+1))=nrem;lia,b6,λi j i1 i2 j1 j2=>by rw [show i=j by lia];exact O.irr _⟩)) ?_)
  .rintro k x v T s2 ⟨q,m,d,rfl,C,D,o,L,a1,a2,P,R⟩;refine aO (yu hA C (D.1.trans hk) (B o) (show lo+m<q.size by rw [o.size];lia) (show lo+m - 1<q.size by rw [o.size];lia) L λs3 t=>?_);let ei:lo+m - (d+1)=lo+(m - (d+1)):=by lia
   let U:lo+m<=q.size:=by rw [o.size];lia
   cases M:lt (Srt.at' q (lo+m)) (Srt.at' q (lo+m - 1)) with
   | true =>
    refine zH (λ_=>?_) (λz=>absurd rfl z);refine zH (λhn=>?_) (λhn=>?_)
    .refine aO (xI C λa4 h3 V=>aQ ⟨_,m+1,0,rfl,h3,D.trans V,?_,t,∎,∎,?_,λi j i1 i2 j1 j2=>by rw [show i=j by lia];exact O.irr _⟩)
     .show Cr p (kas_rev q (lo+m - (d+1)) (lo+m)) lo nrem;rw [ei];exact o.rev ∎ hsz
     .show DnAt lt (kas_rev q (lo+m - (d+1)) (lo+m)) lo (m+1);rw [ei];exact (P.snoc O ∎ (O.asym _ _ M)).revEq R ∎ ∎ U
    .exact aQ ⟨q,m+1,0,rfl,C,D,o,t,∎,∎,P.snoc O ∎ (O.asym _ _ M),λi j i1 i2 j1 j2=>by rw [show i=j by lia];exact O.irr _⟩
   | false =>
    refine zH (λz=>absurd z aK) (λ_=>?_);refine aO (yu hA C (D.1.trans hk) (B o) (show lo+m - 1<q.size by lia) (show lo+m<q.size by rw [o.size];lia) t λs5 a5=>?_);cases a6:lt (Srt.at' q (lo+m - 1)) (Srt.at' q (lo+m)) with
    | true=>exact zH (λ_=>aQ ⟨q,m,d,rfl,C,D,o,a5,a1,∎,P,R⟩) (λz=>absurd rfl z)
    | false=>exact zH (λz=>absurd z aK) (λ_=>aQ ⟨q,m+1,d+1,rfl,C,D,o,a5,∎,∎,P.snoc O ∎ a6,by rw [show m+1 - (d+1+1)=m - (d+1) by lia];exact R.snoc O ∎ M a6⟩)
  .rintro v T s2 ⟨q,m,d,rfl,C,D,o,L,a1,a2,P,R⟩;exact⟨q,m,d,rfl,C,D,o,L,a1,∎,P,R⟩
  rintro v T s2 ⟨q,m,d,rfl,C,D,o,t,a1,a2,P,R⟩;let U:lo+m<=q.size:=by rw [o.size];lia
  let ei:lo+m - (d+1)=lo+(m - (d+1)):=by lia
  refine zH (λhn=>?_) (λhn=>?_)
  .refine aO (xI C λa4 h3 V=>?_)
   obtain⟨l,W,F,X⟩:∃l:Array Nat,arrOf a4=l.map (kas_item it)/\Cr p l lo nrem/\DnAt lt l lo m:=⟨_,h3,by
    show Cr p (kas_rev q (lo+m - (d+1)) (lo+m)) lo nrem;rw [ei];exact o.rev ∎ hsz,by
    show DnAt lt (kas_rev q (lo+m - (d+1)) (lo+m)) lo m
    rw [ei];exact P.revEq R ∎ (aH _) U⟩
   let Y:=D.trans V;refine aO (xI W λG h5 Z=>?_);let f:=F.rev (a:=0) (b:=m) a2 hsz;rw [gC] at f;let a0:=X.rev (by rw [F.size];lia);let H:=Y.trans Z;refine aO (zu (iU (xF (Q:=λv e r => ∃n,v=(none,n)/\G=e/\I r/\1<=n/\n<=nrem/\UpAt lt (kas_rev l lo (lo+m)) lo n) (λk v e r => ∃n,v=(none,n)/\G=e/\I r/\1<=n/\n+k=nrem/\UpAt lt (kas_rev l lo (lo+m)) lo n) ?_ ?_ _ ⟨m,rfl,rfl,t,∎,by rw [eR];show m+(nrem - m)=nrem;lia,a0⟩)) ?_)
   .rintro k x v J s7 ⟨n,rfl,rfl,g,u,b2,y⟩;refine aO (yu hA h5 (H.1.trans hk) (B f) (show lo+n<_ by rw [f.size];lia) (show lo+n - 1<_ by rw [f.size];lia) g λs8 K=>?_);cases M:lt (Srt.at' (kas_rev l lo (lo+m)) (lo+n)) (Srt.at' (kas_rev l lo (lo+m)) (lo+n - 1)) with
    | true=>exact zH (λ_=>aQ ⟨n,rfl,rfl,K,u,∎,y⟩) (λz=>absurd rfl z)
    | false=>exact zH (λz=>absurd z aK) (λ_=>aQ ⟨n+1,rfl,rfl,K,∎,∎,y.snoc O u M⟩)
   .rintro v J s7 ⟨n,rfl,rfl,g,u,b2,y⟩;exact⟨n,rfl,rfl,g,u,∎,y⟩
   rintro v J s7 ⟨n,rfl,rfl,g,u,b2,y⟩;exact aQ (h _ n _ _ h5 H f u b2 y g)
  .obtain⟨l,W,F,X⟩:∃l:Array Nat,arrOf T=l.map (kas_item it)/\Cr p l lo nrem/\DnAt lt l lo m:=⟨q,C,o,P⟩;let Y:=D;refine aO (xI W λG h5 Z=>?_);let f:=F.rev (a:=0) (b:=m) a2 hsz;rw [gC] at f;let a0:=X.rev (by rw [F.size];lia);let H:=Y.trans Z;refine aO (zu (iU (xF (Q:=λv e r => ∃n,v=(none,n)/\G=e/\I r/\1<=n/\n<=nrem/\UpAt lt (kas_rev l lo (lo+m)) lo n) (λk v e r => ∃n,v=(none,n)/\G=e/\I r/\1<=n/\n+k=nrem/\UpAt lt (kas_rev l lo (lo+m)) lo n) ?_ ?_ _ ⟨m,rfl,rfl,t,∎,by rw [eR];show m+(nrem - m)=nrem;lia,a0⟩)) ?_)
   .rintro k x v J s7 ⟨n,rfl,rfl,g,u,b2,y⟩;refine aO (yu hA h5 (H.1.trans hk) (B f) (show lo+n<_ by rw [f.size];lia) (show lo+n - 1<_ by rw [f.size];lia) g λs8 K=>?_);cases M:lt (Srt.at' (kas_rev l lo (lo+m)) (lo+n)) (Srt.at' (kas_rev l lo (lo+m)) (lo+n - 1)) with
    | true=>exact zH (λ_=>aQ ⟨n,rfl,rfl,K,u,∎,y⟩) (λz=>absurd rfl z)
    | false=>exact zH (λz=>absurd z aK) (λ_=>aQ ⟨n+1,rfl,rfl,K,∎,∎,y.snoc O u M⟩)
   .rintro v J s7 ⟨n,rfl,rfl,g,u,b2,y⟩;exact⟨n,rfl,rfl,g,u,∎,y⟩
   rintro v J s7 ⟨n,rfl,rfl,g,u,b2,y⟩;exact aQ (h _ n _ _ h5 H f u b2 y g)
theorem qYs{lo n:Nat}(h:UpAt lt p lo n)(d:lo+n<=p.size):Ri lt (p.extract lo (lo+n)).toList:=by
 refine bL.mpr ?_;intro i j b a c;let sz:(p.extract lo (lo+n)).size=n:=by rw [fF];lia
 rw [aM,sz] at b a;let:=h i j ∎ a;unfold Srt.at' at this;rw [xH ∎,xH ∎] at this;rw [dC,dC,eD,eD];exact this
theorem wAs(O:Srt.Ord lt){lo n:Nat}(h:Ri lt (p.extract lo (lo+n)).toList)(a:lo+n<=p.size):UpAt lt p lo n:=jW O a h
def Chain(lt:Nat->Nat->Bool)(p:Array Nat):Nat->List (Nat×Nat×Nat)->Nat->Prop
 | a,[],b=>a=b
 | a,x::r,b=>x.1=a/\0<x.2.1/\UpAt lt p x.1 x.2.1/\Chain lt p (a+x.2.1) r b
theorem Chain.le:∀ {l:List (Nat×Nat×Nat)} {a b:Nat},Chain lt p a l b->a+l.length<=b
 | [],a,b,h=>by let h:a=b:=h;simp;lia
 | x::r,a,b,h=>by
  let⟨_,d,_,c⟩:=h;let:=Chain.le c;rw [cB];lia
theorem UpAt.agree{lo n:Nat}(h:UpAt lt p lo n)(e:∀i,lo<=i->i<lo+n->Srt.at' b i=Srt.at' p i):UpAt lt b lo n:=λi j a c=>by
 rw [e _ ∎ ∎,e _ ∎ ∎];exact h i j a c
theorem Chain.agree:∀ {l:List (Nat×Nat×Nat)} {a b:Nat},(∀i,a<=i->i<b->Srt.at' c i=Srt.at' p i)->Chain lt p a l b->Chain lt c a l b
 | [],a,b,_,h=>h
 | x::r,a,b,e,h=>by
  let⟨g,j,k,d⟩:=h;let n:=Chain.le d;exact⟨g,j,k.agree λi m f=>e i ∎ ∎,Chain.agree (λi m f=>e i ∎ f) d⟩
theorem Chain.snoc{n w:Nat}(c:0<n):∀ {l:List (Nat×Nat×Nat)} {a b:Nat},Chain lt p a l b->UpAt lt p b n->Chain lt p a (l ++ [(b,n,w)]) (b+n)
 | [],a,b,h,u=>by
  let h:a=b:=h;subst h;exact⟨rfl,c,u,rfl⟩
 | x::r,a,b,h,u=>by
  let⟨d,e,f,g⟩:=h;exact⟨d,e,f,Chain.snoc c g u⟩
theorem Chain.get:∀ {l:List (Nat×Nat×Nat)} {a b i:Nat} {x y:Nat×Nat×Nat},Chain lt p a l b->l[i]? = some x->l[i+1]? = some y->y.1=x.1+x.2.1/\0<x.2.1/\0<y.2.1/\UpAt lt p x.1 x.2.1/\UpAt lt p y.1 y.2.1/\y.1+y.2.1<=b/\a<=x.1
 | [],_,_,_,_,_,_,e,_=>by simp at e
 | [_],_,_,0,_,_,_,_,e=>by simp at e
 | x::y::r,a,b,0,m,n,h,c,d=>by
  simp at c d;subst c d;let⟨g,j,k,f,o,q,s⟩:=h;let:=Chain.le s;exact⟨by rw [f,g],j,o,k,q,∎,∎⟩
 | x::r,a,b,i+1,m,n,h,c,d=>by
  let⟨g,j,k,f⟩:=h;let⟨t,u,v,w,z,A,B⟩:=Chain.get (i:=i) f (by simpa using c) (by simpa using d);exact⟨t,u,v,w,z,A,∎⟩
theorem Chain.merge:∀ {l:List (Nat×Nat×Nat)} {a b i s n w n2 k:Nat},Chain lt p a l b->l[i]? = some (s,n,w)->l[i+1]? = some (s+n,n2,k)->(∀j,j<s\/s+n+n2<=j->Srt.at' g j=Srt.at' p j)->UpAt lt g s (n+n2)->Chain lt g a ((l.set i (s,n+n2,w)).eraseIdx (i+1)) b
 | [],_,_,_,_,_,_,_,_,_,e,_,_,_=>by simp at e
 | [_],_,_,0,_,_,_,_,_,_,_,e,_,_=>by simp at e
 | x::y::r,a,b,0,s,n,w,n2,k,h,c,d,m,up=>by
  simp at c d;subst c d;let⟨f,o,t,q,z,A,u⟩:=h;let f:s=a:=f;subst f;refine⟨rfl,by show 0<n+n2;let:0<n:=o;lia,up,?_⟩;show Chain lt g (s+(n+n2)) r b;rw [<-Nat.add_assoc];exact Chain.agree (λi v B=>m i (.inr v)) u
 | x::r,a,b,i+1,s,n,w,n2,k,h,c,d,m,up=>by
  let⟨f,o,t,q⟩:=h;let c:r[i]? = some (s,n,w):=by simpa using c
  let d:r[i+1]? = some (s+n,n2,k):=by simpa using d
  let⟨C,D,E,F,G,H,I⟩:=Chain.get q c d;exact⟨f,o,t.agree λj J K=>m j (.inl ∎),Chain.merge q c d m up⟩
theorem Chain.modi(c:∀x,(f x).1=x.1/\(f x).2.1=x.2.1):∀ {l:List (Nat×Nat×Nat)} {a b i:Nat},Chain lt p a l b->Chain lt p a (l.modify i f) b
 | [],_,_,_,h=>by simpa using h
 | x::r,a,b,0,h=>by
  let⟨d,e,g,j⟩:=h;rw [List.modify_zero_cons];refine⟨(c x).1.trans d,by rw [(c x).2];exact e,by rw [(c x).1,(c x).2];exact g,by rw [(c x).2];exact j⟩
 | x::r,a,b,i+1,h=>by
  let⟨d,e,g,j⟩:=h;rw [List.modify_succ_cons];exact⟨d,e,g,Chain.modi c j⟩
theorem qWa{n:Nat}(h:q.toList.take n=p.toList.take n){i:Nat}(hi:i<n):Srt.at' q i=Srt.at' p i:=by
 refine Srt.at_eq ?_;let:=congrArg (λl=>l[i]?) h;simp only [List.getElem?_take,hi,if_true] at this;simpa using this
theorem qS0{n:Nat}(h:q.toList.drop n=p.toList.drop n){i:Nat}(hi:n<=i):Srt.at' q i=Srt.at' p i:=by
 refine Srt.at_eq ?_;let:=congrArg (λl=>l[i - n]?) h;simp only [List.getElem?_drop,show n+(i - n)=i by lia] at this;simpa using this
structure Mid(κ : SortKind)(it:Array Keyed)(lt:Nat->Nat->Bool)(p0:Array Nat)(st:SortSt)(lo:Nat)(q:Array Nat):Prop where
 arr:arrOf st=q.map (kas_item it)
 kind:kindOf st = κ
 failed:failedOf st=none
 size:q.size=p0.size
 perm:q.toList.Perm p0.toList
 chain:Chain lt q 0 (pendingOf st).toList lo
theorem jX(O:Srt.Ord lt)(M:AskOk prog w A κ it lt I N){st:SortSt}{lo i:Nat}(n:∀x∈f,x<N)(m:Mid κ it lt f st lo q)(P:lo<=f.size)(hi:i+1<(pendingOf st).size)(R:I s)(h:∀B d g,Mid κ it lt f d lo B->(pendingOf d).size+1=(pendingOf st).size->(∀j,lo<=j->Srt.at' B j=Srt.at' q j)->I g->Q true d g):kasC (model prog w) A E (mergeAt' i) Q st s:=by
 let k:(pendingOf st)[i]? = some (pendingOf st)[i]:=bC ∎;let l:(pendingOf st)[i+1]? = some (pendingOf st)[i+1]:=bC hi;obtain⟨x1,x2,x3⟩:∃a b c,(pendingOf st)[i]=(a,b,c):=⟨_,_,_,rfl⟩;generalize C:(pendingOf st)[i]=x at k;generalize hy:(pendingOf st)[i+1]=y at l;let⟨e,na,o⟩:=x;let⟨D,nb,p⟩:=y;let⟨r,S,T,U,V,t,g7⟩:=m.chain.get (i:=i) (x:=(e,na,o)) (y:=(D,nb,p)) (by simpa using k) (by simpa using l);let r:D=e+na:=r;subst r;let u:e+na+nb<=q.size:=by
  let t:e+na+nb<=lo:=t;rw [m.size];lia
 refine qOc O M m.arr m.kind m.failed k l S T u (λx C=>n x (fL.mpr (m.perm.mem_iff.mp (fL.mp C)))) R (qYs U ∎) (qYs V ∎) λW d g X Y Z F G a6 H a8 a9 v=>?_;let J:(((pendingOf st).setIfInBounds i (e,na+nb,o)).eraseIdxIfInBounds (i+1)).toList=((pendingOf st).toList.set i (e,na+nb,o)).eraseIdx (i+1):=by simp
 refine h W d g ⟨X,Y,Z,G.trans m.size,a9.trans m.perm,?_⟩ ?_ (λj K=>qS0 H (by let L:e+na+nb<=lo:=t;lia)) v
 .rw [F];rw [J];refine m.chain.merge (i:=i) (by simpa using k) (by simpa using l) (λj K=>?_) (wAs O (by rw [<-Nat.add_assoc];exact a8) (by rw [G];lia));rcases K with z | z
  .exact qWa a6 z
  .exact qS0 H z
 .rw [F,<-aM,J,List.length_eraseIdx,List.length_set,aM,if_pos hi];lia
theorem wAb{c:Prop} [Decidable c] {x z:Nat}(h:x+1<z):(if c then x - 1 else x)+1<z:=by
 split <;> lia
theorem qPw(O:Srt.Ord lt)(hA:AskOk prog w A κ it lt I N){p:Array Nat}{st:SortSt}(a1:arrOf st=p.map (kas_item it))(hk:kindOf st = κ)(hf:failedOf st=none)(a4:pendingOf st = #[])(P:∀x∈p,x<N)(h2:1<=p.size)(hI:I s)(h:∀(q:Array Nat) d t,arrOf d=q.map (kas_item it)->failedOf d=none->q.size=p.size->q.toList.Perm p.toList->UpAt lt q 0 p.size->I t->Q () d t):kasC (model prog w) A E sortRuns' Q st s:=by
 let a5:(arrOf st).size=p.size:=by rw [a1,fO]
 refine aO (iL ?_);let a2:((sortPriv% PySem.Builtin.SortState.a) st).size=p.size:=a5;rw [a2];generalize (sortPriv% PySem.Builtin.minRun) p.size p.size 0=mr;refine aO (zu (yO (Q:=λv d t => ∃q,v.1=none/\Mid κ it lt p d p.size q/\I t) (λk v d t => ∃q lo,v=(none,lo)/\Mid κ it lt p d lo q/\lo<=p.size/\p.size<=lo+k/\I t) ⟨p,0,rfl,⟨a1,hk,hf,rfl,.refl _,by rw [a4];rfl⟩,∎,∎,hI⟩ ?_ ?_) ?_)
 .rintro k x v a3 s1 ⟨q,lo,rfl,m,l1,l2,H⟩
  refine zH (λK=>aQ ⟨q,rfl,by
   let K:lo>=p.size:=K;obtain rfl:lo=p.size:=by lia
   exact m,H⟩) (λK=>?_)
  let K : ¬lo>=p.size:=K;let S:∀ {q:Array Nat},q.toList.Perm p.toList -> ∀x∈q,x<N:=λ{q} c x hx=>P x (fL.mpr (c.mem_iff.mp (fL.mp hx)));refine aO (qV6 O hA (lo:=lo) (nrem:=p.size - lo) m.arr m.kind (S m.perm) ∎ (by rw [m.size];lia) H λq1 n l s2 b1 b2 b3 b4 b5 b6 r=>?_)
  let T:Mid κ it lt p l lo q1:=⟨b1,b2.1.trans m.kind,b2.2.2.1.trans m.failed,b3.size.trans m.size,b3.perm.trans m.perm,by
   rw [b2.2.1]
   exact m.chain.agree λi _ i2=>b3.out i (.inl i2)⟩
  refine zH (λU=>?_) (λU=>?_)
  .refine aO (kasC_lift (cY ?_));let U:n<(sortPriv% PySem.Builtin.minRun) p.size p.size 0:=U;generalize hF:min (p.size - lo) ((sortPriv% PySem.Builtin.minRun) p.size p.size 0)=F at *;refine aO (qSo O hA (lo:=lo) (n:=F) (ok:=n) b1 (b2.1.trans m.kind) (S T.perm) (by rw [T.size];lia) r (by rw [Nat.max_eq_left b4];exact b6) ∎ λL R s3 c1 c2 c3 c4 c5 c6 V=>?_);refine zH (λz=>absurd z ⋯) (λ_=>?_)
   let B:Mid κ it lt p R lo L:=⟨c1,c2.1.trans T.kind,c2.2.2.1.trans T.failed,c3.trans T.size,c4.trans T.perm,by
    rw [c2.2.1]
    exact T.chain.agree λi _ i2=>c5 i (.inl i2)⟩
   let hu:=c6;let J:=V;let a6:1<=F:=by lia
   let a7:lo+F<=p.size:=by lia
   refine aO (iL ?_);rcases hb:(pendingOf R).back? with _ | ⟨g,n1',a8⟩
   .skip
    refine aO (gJ (aQ ⟨L,lo+F,rfl,⟨B.arr,B.kind,B.failed,B.size,B.perm,?_⟩,∎,∎,J⟩));show Chain lt L 0 ((pendingOf R).push (lo,F,0)).toList (lo+F);rw [dX];exact Chain.snoc ∎ B.chain hu
   .skip
    refine aO (zu (yO (Q:=λv d t=>v.1=none /\ ∃q,Mid κ it lt p d lo q/\UpAt lt q lo F/\I t) (λ_ v d t=>v=(none,()) /\ ∃q,Mid κ it lt p d lo q/\UpAt lt q lo F/\I t) ⟨rfl,L,B,hu,J⟩ ?_ ?_) ?_)
    .rintro k' x' W b s6 ⟨rfl,y,o,C,e⟩;refine aO (iL ?_);by_cases hp:(pendingOf b).size>1
     .obtain⟨⟨y1,y2,y3⟩,D⟩:∃x6,(if ((sortPriv% PySem.Builtin.SortState.pending) b).size>1 then ((sortPriv% PySem.Builtin.SortState.pending) b)[((sortPriv% PySem.Builtin.SortState.pending) b).size - 2]? else none)=some x6:=⟨(pendingOf b)[(pendingOf b).size - 2]'(by lia),by
       rw [if_pos hp];exact bC _⟩
      dsimp only;rw [D];refine zH (λ_=>aQ ⟨rfl,y,o,C,e⟩) (λ_=>?_);refine aO (jX O hA P o l1 (show (pendingOf b).size - 2+1<(pendingOf b).size by lia) e λq7 a9 s7 m7 _ ag X=>?_);exact zH (λz=>absurd z ⋯) (λ_=>aQ ⟨rfl,q7,m7,C.agree λj j1 _=>ag j j1,X⟩)
     .let D:(if ((sortPriv% PySem.Builtin.SortState.pending) b).size>1 then ((sortPriv% PySem.Builtin.SortState.pending) b)[((sortPriv% PySem.Builtin.SortState.pending) b).size - 2]? else none)=none:=if_neg hp;dsimp only;rw [D];exact aQ ⟨rfl,y,o,C,e⟩
    .rintro W b s6 ⟨rfl,y,o,C,e⟩;exact⟨rfl,y,o,C,e⟩
    rintro⟨W,u'⟩ b s6 ⟨G,y,o,C,e⟩;let G:W=none:=G;subst G;refine aO (gJ ?_);let Y:Chain lt y 0 (((pendingOf b).modify ((pendingOf b).size - 1) λx=>(x.1,x.2.1,(sortPriv% PySem.Builtin.power) p.size (2*g+n1') (2*g+n1'+n1'+F) p.size)).toList) lo:=by
     rw [Array.toList_modify];exact Chain.modi (f:=λx=>(x.1,x.2.1,(sortPriv% PySem.Builtin.power) p.size (2*g+n1') (2*g+n1'+n1'+F) p.size)) (λx=>⟨rfl,rfl⟩) o.chain
    refine aO (gJ (aQ ⟨y,lo+F,rfl,⟨o.arr,o.kind,o.failed,o.size,o.perm,?_⟩,∎,∎,e⟩));show Chain lt y 0 (((pendingOf b).modify ((pendingOf b).size - 1) λx=>(x.1,x.2.1,(sortPriv% PySem.Builtin.power) p.size (2*g+n1') (2*g+n1'+n1'+F) p.size)).push (lo,F,0)).toList (lo+F);rw [dX];exact Chain.snoc ∎ Y C
  .let B:=T;let hu:=b6;let J:=r;let a6:1<=n:=b4;let a7:lo+n<=p.size:=by lia
   refine aO (iL ?_);rcases hb:(pendingOf l).back? with _ | ⟨g,n1',a8⟩
   .skip
    refine aO (gJ (aQ ⟨q1,lo+n,rfl,⟨B.arr,B.kind,B.failed,B.size,B.perm,?_⟩,∎,∎,J⟩));show Chain lt q1 0 ((pendingOf l).push (lo,n,0)).toList (lo+n);rw [dX];exact Chain.snoc ∎ B.chain hu
   .skip
    refine aO (zu (yO (Q:=λv d t=>v.1=none /\ ∃q,Mid κ it lt p d lo q/\UpAt lt q lo n/\I t) (λ_ v d t=>v=(none,()) /\ ∃q,Mid κ it lt p d lo q/\UpAt lt q lo n/\I t) ⟨rfl,q1,B,hu,J⟩ ?_ ?_) ?_)
    .rintro k' x' W b s6 ⟨rfl,y,o,C,e⟩;refine aO (iL ?_);by_cases hp:(pendingOf b).size>1
     .obtain⟨⟨y1,y2,y3⟩,D⟩:∃x6,(if ((sortPriv% PySem.Builtin.SortState.pending) b).size>1 then ((sortPriv% PySem.Builtin.SortState.pending) b)[((sortPriv% PySem.Builtin.SortState.pending) b).size - 2]? else none)=some x6:=⟨(pendingOf b)[(pendingOf b).size - 2]'(by lia),by
       rw [if_pos hp];exact bC _⟩
      dsimp only;rw [D];refine zH (λ_=>aQ ⟨rfl,y,o,C,e⟩) (λ_=>?_);refine aO (jX O hA P o l1 (show (pendingOf b).size - 2+1<(pendingOf b).size by lia) e λq7 a9 s7 m7 _ ag X=>?_);exact zH (λz=>absurd z ⋯) (λ_=>aQ ⟨rfl,q7,m7,C.agree λj j1 _=>ag j j1,X⟩)
     .let D:(if ((sortPriv% PySem.Builtin.SortState.pending) b).size>1 then ((sortPriv% PySem.Builtin.SortState.pending) b)[((sortPriv% PySem.Builtin.SortState.pending) b).size - 2]? else none)=none:=if_neg hp;dsimp only;rw [D];exact aQ ⟨rfl,y,o,C,e⟩
    .rintro W b s6 ⟨rfl,y,o,C,e⟩;exact⟨rfl,y,o,C,e⟩
    rintro⟨W,u'⟩ b s6 ⟨G,y,o,C,e⟩;let G:W=none:=G;subst G;refine aO (gJ ?_);let Y:Chain lt y 0 (((pendingOf b).modify ((pendingOf b).size - 1) λx=>(x.1,x.2.1,(sortPriv% PySem.Builtin.power) p.size (2*g+n1') (2*g+n1'+n1'+n) p.size)).toList) lo:=by
     rw [Array.toList_modify];exact Chain.modi (f:=λx=>(x.1,x.2.1,(sortPriv% PySem.Builtin.power) p.size (2*g+n1') (2*g+n1'+n1'+n) p.size)) (λx=>⟨rfl,rfl⟩) o.chain
    refine aO (gJ (aQ ⟨y,lo+n,rfl,⟨o.arr,o.kind,o.failed,o.size,o.perm,?_⟩,∎,∎,e⟩));show Chain lt y 0 (((pendingOf b).modify ((pendingOf b).size - 1) λx=>(x.1,x.2.1,(sortPriv% PySem.Builtin.power) p.size (2*g+n1') (2*g+n1'+n1'+n) p.size)).push (lo,n,0)).toList (lo+n);rw [dX];exact Chain.snoc ∎ Y C
 .rintro v a3 s1 ⟨q,lo,rfl,m,l1,l2,H⟩;obtain rfl:lo=p.size:=by lia
  exact⟨q,rfl,m,H⟩
 rintro⟨v,u⟩ a3 s1 ⟨q,hv,m,H⟩;let hv:v=none:=hv;subst hv;refine aO (zu (yO (Q:=λv d t=>v.1=none /\ ∃q,Mid κ it lt p d p.size q/\(pendingOf d).size<=1/\I t) (λk v d t=>v=(none,()) /\ ∃q,Mid κ it lt p d p.size q/\(pendingOf d).size<=k+1/\I t) ⟨rfl,q,m,by let:=m.chain.le;rw [aM] at this;lia,H⟩ ?_ ?_) ?_)
 .rintro k x v l s2 ⟨rfl,L,M,Z,r⟩;refine aO (iL ?_);refine zH (λK=>aQ ⟨rfl,L,M,K,r⟩) (λK=>?_);let K : ¬(pendingOf l).size<=1:=K;refine aO (jX O hA P M (aH _) ?_ r λq3 R s3 m3 b0 _ V=>?_)
  .exact wAb (show (pendingOf l).size - 2+1<(pendingOf l).size by lia)
  .exact zH (λz=>absurd z ⋯) (λ_=>aQ ⟨rfl,q3,m3,∎,V⟩)
 .rintro v l s2 ⟨rfl,L,M,Z,r⟩;exact⟨rfl,L,M,∎,r⟩
 rintro⟨v2,u2⟩ l s2 ⟨a0,L,M,Z,r⟩;let a0:v2=none:=a0;subst a0;refine aQ (h L l s2 M.arr M.failed M.size M.perm ?_ r);let ch:=M.chain;let hl:(pendingOf l).toList.length<=1:=by rw [aM];exact Z
 match hL:(pendingOf l).toList,hl with
 | [],_ =>
  rw [hL] at ch;let ch:0=p.size:=ch;lia
 | [x],_ =>
  rw [hL] at ch;let⟨c1,c2,c3,c4⟩:=ch;let c4:0+x.2.1=p.size:=c4;rw [c1] at c3;rw [show p.size=x.2.1 by lia];exact c3
end L2
namespace L2
open PySem PySem.Spec PyProof.Rows
section
variable{X:Cx}{pins:List (Addr×Obj)}{σ : St}{H:Hp}{s:Shared}
theorem Inv.thaw(I:Inv X pins σ H s)(e:H d=some (.frz o u))(k:∀o u,X.H₀ d≠some (.frz o u)):Inv X pins σ (upd H d u) s:=by
 let ne:∀b,H b=none->b≠d:=λb a z=>by rw [z,e] at a;cases a
 refine⟨I.ok,I.os,I.bare,⟨I.base.keep,I.base.slot,?_,I.base.there,?_,?_,?_⟩,I.loc,I.cell,?_,?_,?_,?_,I.len⟩
 .intro b g q n l;let:=I.base.free b g q n l;rw [zD (ne b this)];exact this
 .intro b i q;let:=I.base.tups b i q;rw [zD (λz=>by rw [z,e] at this;cases this)];exact this
 .intro b g v q;let:=I.base.frzs b g v q;rw [zD (λz=>k g v (by rw [<-z];exact q))];exact this
 .intro b m q;let⟨f,this⟩:=I.base.tbls b m q;exact⟨f,by rw [zD (λz=>by rw [z,e] at this;cases this)];exact this⟩
 .rw [zD (ne _ I.free)];exact I.free
 .intro x c q;let:=I.freeC x c q;rw [zD (ne c this)];exact this
 .intro p r;let⟨t,j,y⟩:=I.pin p r;exact⟨t,by rw [zD (ne _ j)];exact j,y⟩
 .intro b v q
  let st:∀ {b v},ObjOk X.prog X.w H s.heap b v->ObjOk X.prog X.w (upd H d u) s.heap b v:=λ{b v} h=>h.stay (λc w _ q=>q) (λc q=>by
   rw [zD (λz=>by rw [z,e] at q;cases q)];exact q) λc i q=>by
   rw [zD (λz=>by rw [z,e] at q;cases q)];exact q
  by_cases a:b=d
  .subst a;rw [zC] at q;let q:u=v:=bB q;rw [<-q];exact st (show ObjOk X.prog X.w H s.heap b (.frz o u) from I.hok b _ e).2
  .rw [zD a] at q;exact st (I.hok b v q)
def tThaw(H0:Hp)(te:TE):TE:=λσ H Q=>te σ H λv H1 => ∃d o u,H1 d=some (.frz o u)/\(∀o u,H0 d≠some (.frz o u))/\Q v (upd H1 d u)
theorem qQq(b:PE X e a):PE X e (tThaw X.H₀ a):=by
 intro pins s σ H Q I h;refine thn (b pins s σ H _ I h) λv j hq_=>?_;let⟨x,k,c,f,d,o,u,g,i,q⟩:=hq_;exact⟨x,_,c.thaw g i,f,q⟩
theorem qZ6(h:a σ H λv b => ∃d o u,b d=some (.frz o u)/\(∀o u,H0 d≠some (.frz o u))/\Q v (upd b d u)):tThaw H0 a σ H Q:=h
end
theorem Inv.laidN{σ : St}{t':Nat}(I:Inv X a σ H s)(k:∀b u,s.heap.get? b=some u->h'.get? b=some u)(h:s.heap.get? D=none)(new:ObjOk X.prog X.w (upd H D o) h' D o):Inv X a σ (upd H D o) { s with heap:=h',toks:=t' }:=by
 let d:H D=none:=I.hok.gone h;let f:∀b u,s.heap.get? b=some u->b≠D:=λb u e z=>by rw [z,h] at e;cases e
 refine I.step (g':=s.gens) (d':=s.drawn) (ch :=[]) (λ_ z=>nomatch z) (λb u _ _ _ e _=>k b u e) (λb u _ _ _ e _=>⟨u.slots,k b u e⟩) (λb u _ e n=>by rw [zD (f b u e)];exact n)
  (λb u _ e=>⟨u,k b u e⟩) (λb i e=>by rw [zD (zF e d)];exact e) (λb g i e=>by rw [zD (zF e d)];exact e) (λb x e=>⟨#[],by rw [zD (zF e d),e];simp⟩) (λy l=>?_) (λb u e=>?_) I.bare
 .let⟨g,m,p,t,r⟩:=l;exact⟨g,m,p,k _ g t,r⟩
 .by_cases j:b=D
  .subst j;rw [zC] at e;cases e;exact new
  .rw [zD j] at e;exact (I.hok b u e).stay (λc v _ q=>k c v q) (λc q=>by rw [zD (zF q d)];exact q) λc i q=>by rw [zD (zF q d)];exact q
end L2
namespace L2
open PySem PySem.W PyProof.Rows
theorem qMk(O:Srt.Ord lt){us:List Value}{n:Nat}(k:s.heap.get? a=some (seqObj "list" us.toArray n))(N:2<=us.length)(hz:us.length<=sizeLine)
  (G:∀(h':Heap) (Q:SortKind->Shared->Prop),(∀b o,b≠a->s.heap.get? b=some o->h'.get? b=some o)->Q κ { s with heap:=h' }->wpAny (model prog w) A (keyKind' us.toArray) Q E { s with heap:=h' })
  (H:∀h':Heap,(∀b o,b≠a->s.heap.get? b=some o->h'.get? b=some o)->AskOk prog w A κ (us.toArray.zip us.toArray) lt (λf=>f = { s with heap:=h' }) us.length)
  (h:∀(h':Heap) (c:Nat) (q:Array Nat),(∀b o,b≠a->s.heap.get? b=some o->h'.get? b=some o)->q.toList.Perm (List.range us.length)->UpAt lt q 0 us.length->h'.get? a=some (seqObj "list" (q.toList.map λi=>us.getD i Value.none).toArray c)->R (.done (.ret .none)) { s with heap:=h' }) :
  wpAny (model prog w) A (Builtin.«list.sort» ⟨[.ref a],[]⟩) R E s:=by
 let P:a<s.heap.objs.size:=aT k;rw [list_sort_plain];obtain⟨u,F⟩:∃u,(s.heap.update a (Obj.mapSeq λ_ => #[])).get? a=some (seqObj "list" #[] u):=⟨_,dP k λ_ => #[]⟩;refine aA (listItems_at k rfl (aA (fK k rfl (aA (iO F rfl (aA (wpAny_newTuple (aA (fJ (bM ?_) (aX _))) (by show us.length<=_;exact hz))))) (by rw [aR];exact hz) (aX _))));dsimp only;let l:∀b o,b≠a->s.heap.get? b=some o->(((s.heap.update a (Obj.mapSeq λ_=>(#[]:Array Value))).push (seqObj "tuple" us.toArray 0)).push (seqObj "list" #[] 0)).get? b=some o:=λb o m e=>aE _ (aE _ ((bO _ _ (cP m)).trans e))
 let p:(((s.heap.update a (Obj.mapSeq λ_=>(#[]:Array Value))).push (seqObj "tuple" us.toArray 0)).push (seqObj "list" #[] 0)).get? a=some (seqObj "list" #[] u):=aE _ (aE _ F);show wpAny (model prog w) A _ R E { s with heap:=((s.heap.update a (Obj.mapSeq λ_=>(#[]:Array Value))).push (seqObj "tuple" us.toArray 0)).push (seqObj "list" #[] 0) };generalize ((s.heap.update a (Obj.mapSeq λ_=>(#[]:Array Value))).push (seqObj "tuple" us.toArray 0)).push (seqObj "list" #[] 0)=t at l p ⊢;let g : ¬us.toArray.size<2:=by rw [aR];lia
 rw [if_neg g,if_neg g];refine aA (G t _ l ?_);let v:arrOf (SortSt.mk' κ (us.toArray.zip us.toArray) #[] 7 none)=(List.toArray (List.range us.length)).map (kas_item (us.toArray.zip us.toArray)):=by
  let e:=kas_range (us.toArray.zip us.toArray);rw [show (us.toArray.zip us.toArray).size=us.length by simp] at e;exact e.symm
 let run:=qPw O (H t l) (E:=E) (Q:=λ_ d f => ∃q:Array Nat,arrOf d=q.map (kas_item (us.toArray.zip us.toArray))/\failedOf d=none/\q.toList.Perm (List.range us.length)/\UpAt lt q 0 us.length/\f = { s with heap:=t }) v rfl rfl rfl (λx I=>by simpa using I) (by simp;lia) rfl λq d f y z B C J K=>⟨q,y,z,by simpa using C,by simpa using J,K⟩;refine aA (cX run (λr f L=>?_) λ_ _ e=>e);obtain⟨⟨⟩,d⟩:=r;let⟨q,y,z,B,C,rfl⟩:=L;dsimp only;let j:(arrOf d).map (·.2)=List.toArray (q.toList.map λi=>us.getD i Value.none):=kat_snds rfl y;let D:(List.toArray (q.toList.map λi=>us.getD i Value.none)).size=us.length:=by rw [aR,aB,B.length_eq,bQ]
 rw [j];refine aA (iO p rfl (aA (fK p rfl ?_ (aX _) (by rw [D];lia))));rw [z];simp only [bne_self_eq_false,bV,if_false];obtain⟨c,M⟩:∃c,(t.update a (Obj.mapSeq λ_=>List.toArray (q.toList.map λi=>us.getD i Value.none))).get? a=some (seqObj "list" (List.toArray (q.toList.map λi=>us.getD i Value.none)) c):=⟨_,dP p λ_=>_⟩;exact aD (h _ c q (λb o m e=>(bO _ _ (cP m)).trans (l b o m e)) B C M)
section
variable{s:Shared}
theorem qH1(O:Srt.Ord lt){us:List Value}(n:s.heap.IsList l us.toArray)(p:2<=us.length)(hz:us.length<=sizeLine)(r:∀(h':Heap) (R:SortKind->Shared->Prop),(∀b o,s.heap.get? b=some o->h'.get? b=some o)->R κ { s with heap:=h' }->wpAny (model prog w) A.in1.in1 (keyKind' us.toArray) R (λ_ _=>False) { s with heap:=h' })(t:∀h':Heap,(∀b o,s.heap.get? b=some o->h'.get? b=some o)->AskOk prog w A.in1.in1 κ (us.toArray.zip us.toArray) lt (λu=>u = { s with heap:=h' }) us.length)
  (h:∀(h':Heap) (c:Nat) (q:Array Nat),(∀b o,s.heap.get? b=some o->h'.get? b=some o)->q.toList.Perm (List.range us.length)->UpAt lt q 0 us.length->h'.get? (s.heap.objs.size+1)=some (seqObj "list" (q.toList.map λi=>us.getD i Value.none).toArray c)->Q (.ref (s.heap.objs.size+1)) { s with heap:=h' }) :
  wpAny (model prog w) A (call (.builtin "sorted") [.ref l]) Q E s:=by
 refine gI kind_sorted plain_sorted entry_sorted (args_sorted1 _) ?_;unfold Builtin.«sorted»;refine aA (m:=checkCount "sorted" 1 1 _) (aD (aA (collect_list n (aA (fJ ?_ hz)) hz)));generalize g:(s.heap.push (seqObj "list" #[] 0)).update s.heap.objs.size (Obj.mapSeq (· ++ us.toArray))=a;let v:a.objs.size=s.heap.objs.size+1:=by rw [<-g,fY,size_push']
 let y:∀b o,s.heap.get? b=some o->a.get? b=some o:=λb o e=>by
  let j:b<s.heap.objs.size:=aT e;rw [<-g,fQ _ _ _ _ (aZ j),fA _ _ _ (aZ j)];exact e
 let f:(a.push (seqObj "list" us.toArray 0)).get? a.objs.size=some (seqObj "list" us.toArray 0):=aW _ rfl;let d:∀b o,s.heap.get? b=some o->b≠s.heap.objs.size+1/\(a.push (seqObj "list" us.toArray 0)).get? b=some o:=λb o e=>⟨aZ (dS (aT e)),aE _ (y b o e)⟩;show wpAny _ _ _ _ _ { s with heap:=a.push (seqObj "list" us.toArray 0) };rw [v] at f ⊢;refine aA (bM (cH slot_list_sort ⟨_,f,rfl⟩ entry_list_sort (qMk O (s :={ s with heap:=a.push (seqObj "list" us.toArray 0) }) f p hz (λh' R k z=>?_) (λh' k=>t h' λb o e=>k b o (d b o e).1 (d b o e).2) λh' c q k B C D=>⟨_,rfl,aD ⟨_,rfl,h h' c q (λb o e=>k b o (d b o e).1 (d b o e).2) B C D⟩⟩) (args_list_sort _)))
 exact cX (r h' R (λb o e=>k b o (d b o e).1 (d b o e).2) z) (λ_ _ x=>x) λ_ _ x=>x.elim
abbrev K4:=(Int×Int)×Bool×Int
noncomputable def wdS(b:Bool):Str:=if b then "save" else "back"
noncomputable def wN(b:Bool):Int:=if b then 1 else 0
noncomputable def lt4(x y:K4):Bool:=decide (x.1.1<y.1.1\/x.1.1=y.1.1/\(x.1.2<y.1.2\/x.1.2=y.1.2/\(wN x.2.1<wN y.2.1\/wN x.2.1=wN y.2.1/\x.2.2<y.2.2)))
theorem ord4(f:Nat->K4):Srt.Ord (λi j=>lt4 (f i) (f j)):=by
 refine⟨λa b h=>?_,λa b c d e=>?_⟩
 .let h:=of_decide_eq_true h;refine decide_eq_false ?_;generalize wN (f a).2.1=u at *;generalize wN (f b).2.1=v at *;lia
 .let d:=of_decide_eq_false d;let e:=of_decide_eq_false e;refine decide_eq_false ?_;generalize wN (f a).2.1=u at *;generalize wN (f b).2.1=v at *;generalize wN (f c).2.1=z at *;lia
def PairAt(h:Heap)(a:Addr)(p q:Int):Prop := ∃(o:Obj) (t1 t2:Tok) (n:Nat),h.get? a=some o/\o.cls = .type "tuple" /\ o.data = .seq #[.int p t1,.int q t2] n
def RowAt(h:Heap)(a:Addr)(k:K4):Prop := ∃(o:Obj) (wa:Addr) (t1 t2:Tok) (n:Nat),h.get? a=some o/\o.cls = .type "tuple" /\ o.data = .seq #[.ref wa,.str (wdS k.2.1) t1,.int k.2.2 t2] n/\PairAt h wa k.1.1 k.1.2
theorem PairAt.key{p q:Int}(x:PairAt h a p q):IsTupleKey (zY prog w) h [.inl p,.inl q] a:=by
 let⟨o,b,c,n,d,e,f⟩:=x;exact⟨o,_,n,d,e,f,.cons (uc prog w p b) (.cons (uc prog w q c) .nil)⟩
theorem PairAt.ty{p q:Int}(x:PairAt s.heap a p q):s.TypeIs (.ref a) "tuple" :=by
 let⟨o,d,e,n,b,c,f⟩:=x;exact⟨o,b,c⟩
theorem qJq{p q c d:Int}(B:PairAt s.heap a p q)(t:PairAt s.heap b c d)(h:R (.done (.ret (.bool (decide (p<c\/p=c/\q<d))))) s):wpAny (model prog w) A (Builtin.«tuple.__lt__» ⟨[.ref a,.ref b],[]⟩) R E s:=by
 let i:=t.ty;let⟨F,C,x,G,j,_,k⟩:=B;let⟨H,D,y,I,l,_,m⟩:=t;show wpAny _ _ (isInstance (.ref b) (.type "tuple") >>= _) _ _ s;refine aA (wpAny_isInstance i isSubtype_tuple_tuple ?_);simp only [Bool.not_true,bV,if_false];refine aA (wpAny_tupleItemsOf j k ?_);refine aA (wpAny_tupleItemsOf l m ?_);refine aA ?_;refine wpAny_forIn_list _ (λrest r n=>s=n/\((r.1=none/\(rest = [(Value.int p C,Value.int c D),(Value.int q x,Value.int d y)]\/(rest = [(Value.int q x,Value.int d y)]/\p=c)\/(rest = []/\p=c/\q=d))))) _ ?_ ?_ _ _ ⟨rfl,rfl,.inl rfl⟩
 .rintro⟨u,v⟩ rest r n ⟨rfl,o,z | ⟨z,e⟩ | ⟨z,_⟩⟩
  .cases z;refine aA (iJ ?_);by_cases f:p=c
   .rw [show (p == c)=true from beq_iff_eq.mpr f];simp only [Bool.not_true,bV,if_false];exact aD ⟨rfl,rfl,.inr (.inl ⟨by first | rfl | trivial,f⟩)⟩
   .rw [show (p == c)=false from beq_eq_false_iff_ne.mpr f];simp only [Bool.not_false,if_true];rw [show decide (p<c\/p=c/\q<d)=decide (p<c) from by simp [f]] at h;refine aA (cY (aA ?_));show wpAny _ _ (compareOp .Lt _ _) _ _ _;refine lt_int ?_;exact aA (aD (aD (aD h)))
  .cases z;refine aA (iJ ?_);by_cases f:q=d
   .rw [show (q == d)=true from beq_iff_eq.mpr f];simp only [Bool.not_true,bV,if_false];exact aD ⟨rfl,rfl,.inr (.inr ⟨by first | rfl | trivial,e,f⟩)⟩
   .rw [show (q == d)=false from beq_eq_false_iff_ne.mpr f];simp only [Bool.not_false,if_true];rw [show decide (p<c\/p=c/\q<d)=decide (q<d) from by simp [e]] at h;refine aA (cY (aA ?_));show wpAny _ _ (compareOp .Lt _ _) _ _ _;refine lt_int ?_;exact aA (aD (aD (aD h)))
  .cases z
 .rintro⟨J,K⟩ n ⟨rfl,o,z | ⟨z,_⟩ | ⟨z,e,g⟩⟩
  .cases z
  .cases z
  .simp only at o;subst o;refine aD ?_;rw [show decide (p<c\/p=c/\q<d)=false from by simp [e,g]] at h;exact h
theorem qXi{p q c f:Int}(i:A.units<cLine)(d:PairAt s.heap a p q)(g:PairAt s.heap b c f)(h:Q (decide (p<c\/p=c/\q<f)) s):wpAny (model prog w) A (oneLt' false (.ref a) (.ref b)) Q E s:=by
 refine kat_one _ _ ?_;show wpAny _ _ (richCompare .Lt _ _) _ _ _;exact wpAny_richCompare_same_room (op :=.Lt) d.ty g.ty F.slot_tuple_lt (cH F.slot_tuple_lt d.ty F.entry_tuple_lt (qJq d g ⟨_,rfl,(λe=>nomatch e),h⟩) (F.args_tuple_lt_2 _ _)) i
theorem wAq{b c:Bool}:decide (wdS b=wdS c)=decide (b=c):=by cases b <;> cases c <;> decide
theorem wAp{b c:Bool}:decide ((wdS b).cps.toList<(wdS c).cps.toList)=decide (wN b<wN c):=by cases b <;> cases c <;> decide
theorem qZ2(g:A.units<cLine)(k:RowAt s.heap a x)(l:RowAt s.heap b y)(h:Q (lt4 x y) s):wpAny (model prog w) A (keyLt' (tuples' false) (.ref a) (.ref b)) Q E s:=by
 let⟨F,m,n,o,G,p,H,q,i⟩:=k;let⟨I,r,t,B,J,C,K,D,j⟩:=l;refine kat_lt p q C D ?_;show KatLex prog w A false false Q [(.ref m,.ref r),(.str (wdS x.2.1) n,.str (wdS y.2.1) t),(.int x.2.2 o,.int y.2.2 B)] 0 s;refine kat_cons (wpAny_eqBool_tuple g i.key j.key ?_);by_cases c:x.1=y.1
 .rw [decide_eq_true (show ([Sum.inl x.1.1,Sum.inl x.1.2]:List Key) = [Sum.inl y.1.1,Sum.inl y.1.2] by rw [c])];refine kat_yes (kat_cons (wpAny_eqBool_str ?_));rw [wAq];by_cases d:x.2.1=y.2.1
  .rw [decide_eq_true d];refine kat_yes (kat_cons (iJ ?_));by_cases e:x.2.2=y.2.2
   .rw [show (x.2.2 == y.2.2)=true from beq_iff_eq.mpr e];refine kat_yes (kat_nil ?_);rw [show lt4 x y=false from decide_eq_false (by rw [c,d,e];lia)] at h;exact h
   .rw [show (x.2.2 == y.2.2)=false from beq_eq_false_iff_ne.mpr e];refine kat_no (kat_one _ _ (lt_int ?_));show Q (decide (x.2.2<y.2.2)) s;rw [show lt4 x y=decide (x.2.2<y.2.2) by unfold lt4;rw [c,d];simp] at h;exact h
  .rw [decide_eq_false d];refine kat_no (kat_one _ _ (PyProof.Rows.lt_str ?_));show Q (decide ((wdS x.2.1).cps.toList<(wdS y.2.1).cps.toList)) s;rw [wAp];let:wN x.2.1≠wN y.2.1:=λz=>d (by revert z;cases x.2.1 <;> cases y.2.1 <;> decide);rw [show lt4 x y=decide (wN x.2.1<wN y.2.1) by unfold lt4;rw [c];simp [this]] at h;exact h
 .let f : ¬(x.1.1=y.1.1/\x.1.2=y.1.2):=λz=>c (Prod.ext z.1 z.2);rw [decide_eq_false (show ¬([Sum.inl x.1.1,Sum.inl x.1.2]:List Key) = [Sum.inl y.1.1,Sum.inl y.1.2] from λz=>f (by simpa using z))];refine kat_no (qXi g i j ?_)
  rw [show lt4 x y=decide (x.1.1<y.1.1\/x.1.1=y.1.1/\x.1.2<y.1.2) by
   unfold lt4;generalize wN x.2.1=u;generalize wN y.2.1=v
   exact decide_eq_decide.mpr ∎] at h
  exact h
end
end L2
namespace L2
open PySem PySem.Spec PyProof.Rows
def RowsI(K:PySem.W.Frag)(H:Hp):List V->List K4->Prop:=Paired λv k => ∃a wa,v = .ref a/\SqT K H a [.ref wa,.str (wdS k.2.1),.int k.2.2]/\SqT K H wa [.int k.1.1,.int k.1.2]
def RowsAt(h:Heap):List Value->List K4->Prop:=Paired λu k => ∃a,u=Value.ref a/\RowAt h a k
theorem RowsI.len{K:PySem.W.Frag}(h:RowsI K H vs ks):vs.length=ks.length:=dD h
theorem RowAt.keeps{k:K4}(c:∀b o,h.get? b=some o->h'.get? b=some o)(x:RowAt h a k):RowAt h' a k:=by
 let⟨o,d,e,f,n,g,i,j,l,m,p,q,r,s,t⟩:=x;exact⟨o,d,e,f,n,c _ _ g,i,j,l,m,p,q,c _ _ r,s,t⟩
theorem RowsAt.keeps(c:∀b o,h.get? b=some o->h'.get? b=some o):∀ {us:List Value} {ks:List K4},RowsAt h us ks->RowsAt h' us ks
 | _,_,.nil =>.nil
 | _,_,.cons ⟨a,e,x⟩ r =>.cons ⟨a,e,x.keeps c⟩ (RowsAt.keeps c r)
theorem RowsAt.get:∀ {us:List Value} {ks:List K4} (i:Nat),RowsAt h us ks->i<ks.length -> ∃a,us.getD i Value.none=Value.ref a/\RowAt h a (ks.getD i ((0,0),false,0))
 | _,_,_,.nil,b=>absurd b ∅
 | _,_,0,.cons ⟨a,e,x⟩ _,_=>⟨a,e,x⟩
 | _::us,_::ks,i+1,.cons _ r,b=>RowsAt.get i r (by simpa using b)
theorem RowsAt.firsts:∀ {us:List Value} {ks:List K4},RowsAt h us ks -> ∃fs:List Value,PySem.W.KatTups h us fs/\fs.length=us.length /\ ∀v∈fs,PySem.W.Looks M h (typeOf v) (.type "tuple")
 | _,_,.nil=>⟨[],trivial,rfl,λ_ h=>nomatch h⟩
 | _::us,k::ks,.cons ⟨a,e,o,wa,t1,l,n,b,c,d,m,t3,p,q,g1,g2,g3⟩ r=>by
  let⟨fs,f,g,i⟩:=RowsAt.firsts (M:=M) r;subst e;refine⟨.ref wa::fs,PySem.W.KatTups.cons b c d rfl f,by simp [g],λv j=>?_⟩;rcases aL.mp j with z | z
  .subst z;rw [<-g2];exact (PySem.W.Looks.ld g1).andThen .now
  .exact i v z
section
variable{X:Cx}{pins:List (Addr×Obj)}{σ : St}{H:Hp}{s:Shared}
theorem RowsI.at(I:Inv X pins σ H s):∀ {vs:List V} {us:List Value} {ks:List K4},RowsI X.K H vs ks->Vals vs us->RowsAt s.heap us ks
 | _,_,_,.nil,.nil =>.nil
 | _,_,_,.cons ⟨a,wa,e,h,hw⟩ r,.cons i j=>by
  subst e;cases i;obtain⟨k,b,⟨o,l,m,n,p⟩,_⟩:=I.tuple h;obtain⟨g,c,⟨q,t,u,v,w⟩,_⟩:=I.tuple hw;cases b with | cons d b=>cases b with | cons f b=>cases b with | cons x b=>cases b with | nil =>
  cases d;let⟨y,rfl⟩:=f;let⟨z,rfl⟩:=x;cases c with | cons d b=>cases b with | cons f b=>cases b with | nil =>
  let⟨A,rfl⟩:=d;let⟨B,rfl⟩:=f;exact .cons ⟨a,rfl,o,wa,y,z,n,l,m,p,q,A,B,v,t,u,w⟩ (RowsI.at I r j)
end
def qZh(K:PySem.W.Frag):List V->Hp->VK->Prop:=λxs H Q => ∃(a:Addr) (vs:List V) (ks:List K4),xs = [.ref a]/\SqL K H a vs/\RowsI K H vs ks /\
 ∀(l:Addr) (ps:List (V×K4)),H l=none->ps.Perm (vs.zip ks)->(ps.map (·.2)).Pairwise (λa b=>lt4 b a=false)->Q (.ref l) (upd H l (.lst (ps.map (·.1))))
theorem qOm(hu:X.A.units+2<cLine):CallR X (.builtin "sorted") (qZh X.K):=by
 intro a0 s σ H xs us Q I r h;let⟨a,n,t,rfl,hq,hT,q⟩:=h;let⟨u,rfl,ru⟩:=vals1 r;cases ru;let⟨f,v,F,big⟩:=I.list hq;let G:=v.length;let y:=hT.len;by_cases h0:f.length=0
 .let e0:f = []:=List.eq_nil_of_length_eq_zero h0;subst e0;cases v;cases hT;refine sorted_ints (ns :=[]) F.isList .nil ∅ λm J L a2 a3=>?_;let:J = []:=a2.eq_nil;subst this;let⟨e,he⟩:=sortedAll_at s.heap [] m;let ho:m.toList = []:=by cases N:m.toList with
   | nil=>rfl
   | cons x l=>rw [N] at L;cases L
  let z:m = #[]:=by apply Array.toList_inj.mp;rw [ho]
  subst z;exact⟨.ref (s.heap.objs.size+1),_,I.laid (t':=s.toks) (o :=.lst []) (λb u e=>sortedAll_old e) (cT _) ⟨aX _,[],e,.nil,he⟩,rfl,q _ [] (I.hok.fresh (cT _)) List.Perm.nil List.Pairwise.nil⟩
 .by_cases O:f.length=1
  .let⟨v1,rfl⟩:=dN.mp O;let⟨x1,rfl⟩:=dN.mp (G.trans O);let⟨t1,rfl⟩:=dN.mp (y.symm.trans (G.trans O));refine Qf F.isList λE c k g=>?_;exact⟨.ref (s.heap.objs.size+1),_,I.laid (t':=s.toks) (o :=.lst [x1]) k (cT _) ⟨by show 1<=sizeLine;decide,[v1],c,v,g⟩,rfl,q _ [(x1,t1)] (I.hok.fresh (cT _)) (List.Perm.refl _) (List.pairwise_singleton _ _)⟩
  .let TA:=RowsI.at I hT v;refine qH1 (κ :=tuples' false) (ord4 λi=>t.getD i ((0,0),false,0)) F.isList ∎ ∎ (λE R k hR=>?_) (λE k i j s' C hi hj hs hC=>?_) λE c p k d up g=>?_
   .let⟨fs,kt,a4,P⟩:=(TA.keeps k).firsts (M:=model X.prog X.w);exact PySem.W.kat_kind (T :=.type "tuple") (fs:=fs) kt ∎ P rfl hR
   .subst hs;let B:=TA.keeps k;let⟨L,b1,b2⟩:=B.get i ∎;let⟨a2,c1,c2⟩:=B.get j ∎;unfold PySem.W.kas_cmp;rw [gX rfl,gX rfl,b1,c1];exact qZ2 (s :={ s with heap:=E }) (show X.A.units+1+1<cLine by lia) b2 c2 (hC _ rfl)
   .let S:(p.toList.map λi=>(n.getD i .non,t.getD i ((0,0),false,0))).Perm (n.zip t):=by
     rw [<-uv V.non ((0,0),false,0) n t y,G];exact d.map _
    let e1:(p.toList.map λi=>(n.getD i V.non,t.getD i ((0,0),false,0))).map (·.1)=p.toList.map λi=>n.getD i V.non:=by rw [cU];rfl
    let D:(p.toList.map λi=>n.getD i V.non).length<=sizeLine:=by
     rw [aB,d.length_eq,bQ];lia
    refine⟨.ref (s.heap.objs.size+1),_,I.laid (t':=s.toks) (o :=.lst (p.toList.map λi=>n.getD i V.non)) k (cT _) ⟨D,_,c,vY v p.toList,g⟩,rfl,?_⟩;let:=q _ _ (I.hok.fresh (cT _)) S ?_
    .rw [e1] at this;exact this
    .rw [cU,bL];intro i j hi hj U;let hp:p.toList.length=f.length:=by rw [d.length_eq,bQ]
     let Y:j<p.size:=by simpa using hj
     let Z:i<p.size:=by simpa using hi
     let u:=up i j (bS U) (by simp at hp;lia);let g1:Srt.at' p (0+i)=p[i]:=by simp [Srt.at',Array.getD,Z]
     let g2:Srt.at' p (0+j)=p[j]:=by simp [Srt.at',Array.getD,Y]
     rw [g1,g2] at u;simpa using u
theorem jY(k:∀b u,h.get? b=some u->h'.get? b=some u):∀ {us:List Value} {ts:List (List Int)},Srt.TupAt h us ts->Srt.TupAt h' us ts
 | _,_,.nil =>.nil
 | _,_,.cons ⟨a,o,xs,n,e,c,d,f,g⟩ r =>.cons ⟨a,o,xs,n,e,k a o c,d,f,g⟩ (jY k r)
theorem qLy:CallR X (.builtin "sorted") (qZf X.K):=by
 intro a4 s σ H xs us Q I r h;let⟨a,n,w,rfl,hq,hT,G,hz,q⟩:=h;let⟨u,rfl,ru⟩:=vals1 r;cases ru;let⟨f,y,J,big⟩:=I.list hq;let L:=y.length;let z:=hT.len;by_cases h0:f.length=0
 .let e0:f = []:=List.eq_nil_of_length_eq_zero h0;subst e0;cases y;cases hT;refine sorted_ints (ns :=[]) J.isList .nil ∅ λm M N a2 a3=>?_;let:M = []:=a2.eq_nil;subst this;let⟨e,he⟩:=sortedAll_at s.heap [] m;let ho:m.toList = []:=by cases O:m.toList with
   | nil=>rfl
   | cons x l=>rw [O] at N;cases N
  let A:m = #[]:=by apply Array.toList_inj.mp;rw [ho]
  subst A;exact⟨.ref (s.heap.objs.size+1),_,I.laid (t':=s.toks) (o :=.lst []) (λb u e=>sortedAll_old e) (cT _) ⟨aX _,[],e,.nil,he⟩,rfl,q _ [] (I.hok.fresh (cT _)) List.Perm.nil List.Pairwise.nil⟩
 .by_cases P:f.length=1
  .let⟨v1,rfl⟩:=dN.mp P;let⟨x1,rfl⟩:=dN.mp (L.trans P);let⟨t1,rfl⟩:=dN.mp (z.symm.trans (L.trans P));refine Qf J.isList λE c k g=>?_;exact⟨.ref (s.heap.objs.size+1),_,I.laid (t':=s.toks) (o :=.lst [x1]) k (cT _) ⟨by show 1<=sizeLine;decide,[v1],c,y,g⟩,rfl,q _ [(x1,t1)] (I.hok.fresh (cT _)) (List.Perm.refl _) (List.pairwise_singleton _ _)⟩
  .let TA:=TupI.at I hT y;refine qH1 (κ :=tuples' (Value.type "int" != Value.type "tuple")) (Srt.lex_ord w) J.isList ∎ ∎ (λE R k hR=>?_) (λE k i j s' C hi hj hs hC=>?_) λE c p k d up g=>?_
   .let⟨fs,kt,a5,S⟩:=(jY k TA).firsts G;refine PySem.W.kat_kind (T :=.type "int") (fs:=fs) kt ∎ (λv hv=>?_) rfl hR;let⟨i,t,rfl⟩:=S v hv;exact PySem.W.Looks.of_pure rfl
   .subst hs;let B:=jY k TA;let⟨N,o1,a6,k1,b1,b2,b3,b4⟩:=B.get i ∎;let⟨a2,o2,a7,k2,c1,c2,c3,c4⟩:=B.get j ∎;unfold PySem.W.kas_cmp;rw [gX rfl,gX rfl,b1,c1]
    exact PySem.W.kat_lt (s :={ s with heap:=E }) b2 b3 c2 c3 (Srt.katlex b4 c4 (by
     let F:=b4.length;let e2:=c4.length;simp only [aM] at F e2
     rw [F,e2]) (hC _ rfl))
   .let U:(p.toList.map λi=>(n.getD i .non,w.getD i [])).Perm (n.zip w):=by
     rw [<-uv V.non [] n w z,L];exact d.map _
    let F:(p.toList.map λi=>(n.getD i V.non,w.getD i [])).map (·.1)=p.toList.map λi=>n.getD i V.non:=by rw [cU];rfl
    let D:(p.toList.map λi=>n.getD i V.non).length<=sizeLine:=by
     rw [aB,d.length_eq,bQ];lia
    refine⟨.ref (s.heap.objs.size+1),_,I.laid (t':=s.toks) (o :=.lst (p.toList.map λi=>n.getD i V.non)) k (cT _) ⟨D,_,c,vY y p.toList,g⟩,rfl,?_⟩;let:=q _ _ (I.hok.fresh (cT _)) U ?_
    .rw [F] at this;exact this
    .rw [cU,bL];intro i j hi hj Y;let hp:p.toList.length=f.length:=by rw [d.length_eq,bQ]
     let Z:j<p.size:=by simpa using hj
     let a0:i<p.size:=by simpa using hi
     let u:=up i j (bS Y) (by simp at hp;lia);let g1:Srt.at' p (0+i)=p[i]:=by simp [Srt.at',Array.getD,a0]
     let g2:Srt.at' p (0+j)=p[j]:=by simp [Srt.at',Array.getD,Z]
     rw [g1,g2] at u;simpa using u
theorem qVp(h:a σ H λx d => ∃c,x = .bl c/\if c=true then b σ d Q else Q (.bl false) d):tAndV a b σ H Q:=h
theorem jZ(d:Deed)(b:Int):wrB b d=true↔wr d=some b:=by
 cases d <;> simp [wrB,wr,darg] <;> exact decide_eq_true_iff
theorem qM1{m works:Int}(h:WorkOk m works c):boxTo c 8=boxes c:=by
 refine qPy ?_ (jD c) λb=>?_
 .unfold boxTo;rw [dJ];exact (List.Pairwise.filter _ fT).imp λ{a b} h=>by lia
 .rw [qR9,jE h];unfold wK;constructor
  .intro ⟨_,j⟩;obtain⟨y,l⟩:∃y,y∈wrTo c b c.length:=by
    cases e:wrTo c b c.length with
    | nil=>exact absurd e j
    | cons y r=>exact⟨y,aV ..⟩
   let⟨n,rfl,f,g⟩:=mem_wrTo.mp l;unfold hasW at g;rw [aC f] at g;let g:wrote b c[n].ds=true:=g;let⟨d,k,e⟩:=dR.mp g;refine cC.mpr ⟨c[n],dQ f,bU.mpr ⟨d,k,?_⟩⟩;exact (jZ d b).mp e
  .intro i;let s:=jC h (by unfold wK;exact i);refine⟨∎,λe=>?_⟩;let⟨blk,o,i⟩:=cC.mp i;let⟨d,k,p⟩:=bU.mp i;let⟨n,f,q⟩:=bJ o
   let:(n:Int)∈wrTo c b c.length:=mem_wrTo.mpr ⟨n,rfl,f,by
    unfold hasW;rw [aC f,q]
    exact dR.mpr ⟨d,k,(jZ d b).mpr p⟩⟩
   rw [e] at this;cases this
theorem qNj{m works y:Int}(h:WorkOk m works a)(b:y∈boxes a):0<=y/\y<8:=jC h ((jE h).mp b)
section
variable{K:PySem.W.Frag}{G G':Hp}
mutual
theorem Den.monoS(b:∀a xs,SqL K G a xs->SqL K G' a xs)(hT:∀a xs,SqT K G a xs->SqT K G' a xs):∀ {d:PyData} {v:V},Den K G d v->Den K G' d v
 | .none,_,e=>by simp only [Den] at e ⊢;exact e
 | .bool _,_,e=>by simp only [Den] at e ⊢;exact e
 | .int _,_,e=>by simp only [Den] at e ⊢;exact e
 | .str _,_,e=>by simp only [Den] at e ⊢;exact e
 | .list ds,_,e=>by
  simp only [Den] at e ⊢;let⟨a,c,f,g,h⟩:=e;exact⟨a,c,f,b _ _ g,DenL.monoS b hT h⟩
 | .tuple ds,_,e=>by
  simp only [Den] at e ⊢;let⟨a,c,f,g,h⟩:=e;exact⟨a,c,f,hT _ _ g,DenL.monoS b hT h⟩
 | .dict _,_,e=>by simp only [Den] at e
theorem DenL.monoS(b:∀a xs,SqL K G a xs->SqL K G' a xs)(hT:∀a xs,SqT K G a xs->SqT K G' a xs):∀ {ds:List PyData} {vs:List V},DenL K G ds vs->DenL K G' ds vs
 | [],_,e=>by simp only [DenL] at e ⊢;exact e
 | d::ds,_,e=>by
  simp only [DenL] at e ⊢;let⟨v,r,c,f,g⟩:=e;exact⟨v,r,c,Den.monoS b hT f,DenL.monoS b hT g⟩
end
end
def ListsAt(H:Hp)(as:List Addr)(ls:List (List Int)):Prop:=Paired (λa ns=>H a=some (.lst (ns.map V.int))) as ls
theorem ListsAt.mono(h:ListsAt H as c)(k:∀a∈as,∀o,H a=some o->H' a=some o):ListsAt H' as c:=by
 unfold ListsAt at h ⊢
 induction h with
 | nil=>exact .nil
 | @cons a n as ns r _ d=>exact .cons (k a (aV ..) _ r) (d λb f o e=>k b (aS _ f) o e)
theorem ListsAt.snoc(h:ListsAt H as b)(e:H a=some (.lst (ns.map V.int))):ListsAt H (as ++ [a]) (b ++ [ns]):=iN h e
theorem ListsAt.get(h:ListsAt H as c):∀ {i:Nat} {a:Addr},as[i]? = some a -> ∃ns,c[i]? = some ns/\H a=some (.lst (ns.map V.int)):=by
 unfold ListsAt at h
 induction h with
 | nil=>intro i a e;simp at e
 | @cons a n as ns r _ d =>
  intro i b e;cases i with
  | zero=>simp at e;subst e;exact⟨n,rfl,r⟩
  | succ i=>simpa using d (i:=i) (a:=b) (by simpa using e)
noncomputable def planK(bs:List Int)(as:List Addr):List (Key×V):=(bs.zip as).map λp=>(Sum.inl p.1,V.ref p.2)
theorem qJj{bs:List Int}(h:as.length=bs.length):(planK bs as).length=bs.length:=by unfold planK;rw [aB,gR];lia
theorem qTo{bs:List Int}{j:Nat}{k:Key}(h:(planK bs as)[j]? = some (k,v)):∃b a,bs[j]? = some b/\as[j]? = some a/\k=Sum.inl b/\v=V.ref a:=by
 unfold planK at h;rw [aU] at h;cases e:(bs.zip as)[j]? with
 | none=>rw [e] at h;cases h
 | some p =>
  rw [e] at h;let⟨c,d⟩:=gK.mp e;let h:(Sum.inl p.1,V.ref p.2)=(k,v):=bB h;exact⟨p.1,p.2,c,d,(congrArg Prod.fst h).symm,(congrArg Prod.snd h).symm⟩
theorem qH8:∀ {bs:List Int} {as:List Addr},as.length=bs.length->(planK bs as).map (·.1)=bs.map Sum.inl
 | [],[],_=>rfl
 | [],_::_,h=>by cases h
 | _::_,[],h=>by cases h
 | b::bs,a::as,h=>by
  let:=qH8 (bs:=bs) (as:=as) (by simpa using h);unfold planK at this ⊢;rw [gE,bE,bE,bE,this]
theorem qO0{bs:List Int}{b:Int}(h:as.length=bs.length)(d:b∉bs):putK (planK bs as) (Sum.inl b) (V.ref a)=planK (bs ++ [b]) (as ++ [a]):=by
 unfold putK;rw [if_neg]
 .unfold planK;rw [List.zip_append h.symm,aP];rfl
 .intro z;let⟨p,f,e⟩:=dR.mp z;let e:p.1=Sum.inl b:=of_decide_eq_true e;let:p.1∈(planK bs as).map (·.1):=aY.mpr ⟨p,f,rfl⟩;rw [qH8 h,e] at this;let⟨c,g,i⟩:=aY.mp this;let:c=b:=Sum.inl.inj i;exact d (this▸g)
theorem qJi:∀ {bs:List Int} {as:List Addr} {j:Nat} {b:Int} {a:Addr},bs.Nodup->bs[j]? = some b->as[j]? = some a->valV (planK bs as) (Sum.inl b)=some (V.ref a)
 | [],_,_,_,_,_,e,_=>by simp at e
 | _::_,[],_,_,_,_,_,e=>by simp at e
 | c::bs,d::as,0,b,a,_,f,g=>by
  simp at f g;subst f g;simp [planK,valV]
 | c::bs,d::as,j+1,b,a,h,f,g=>by
  let h:=cK.mp h;let f:bs[j]? = some b:=by simpa using f
  let ne:c≠b:=λz=>h.1 (z▸aN f);let:=qJi h.2 f (show as[j]? = some a by simpa using g);unfold planK valV at this ⊢;rw [gE,bE,List.find?_cons_of_neg]
  .exact this
  .simp [ne]
structure PlanAt(H:Hp)(d:Addr)(bs:List Int)(as:List Addr)(ls:List (List Int)):Prop where
 dict:H d=some (.dK (planK bs as))
 lists:ListsAt H as ls
 len:as.length=bs.length
 nd:as.Nodup
 nda:d∉as
theorem PlanAt.snoc{G k:Hp}{bs:List Int}{b:Int}(h:PlanAt G d bs as n)(e:Ext [] G k)(l:G c=none)(r:k c=some (.lst (ns.map V.int)))(f:b∉bs):PlanAt (upd k d (.dK (putK (planK bs as) (Sum.inl b) (.ref c)))) d (bs ++ [b]) (as ++ [c]) (n ++ [ns]):=by
 let g:c≠d:=λz=>by rw [z,h.dict] at l;cases l
 let m:∀a∈as,∃o,G a=some o:=λa j=>by
  let⟨i,s,e⟩:=bJ j;let⟨_,_,z⟩:=h.lists.get (i:=i) (a:=a) (by rw [aC s,e]);exact⟨_,z⟩
 refine⟨by rw [zC,qO0 h.len f],?_,by simp [h.len],?_,?_⟩
 .refine ListsAt.snoc (h.lists.mono λa j o q=>?_) (by rw [zD g];exact r);rw [zD (show a≠d from λz=>h.nda (z▸j))];exact e _ _ ∅ q
 .refine cG.mpr ⟨h.nd,∅,λa j b f z=>?_⟩;let f:b=c:=by simpa using f
  let⟨o,p⟩:=m a j;rw [z,f,l] at p;cases p
 .intro z;rcases aJ.mp z with z | z
  .exact h.nda z
  .exact g (by simpa using z:d=c).symm
theorem qZn{i:Nat}{d b:Pos}(own:List Str)(cap:List Nat)(o:X.calm=true)(S:CompScope X own cap scope)(p:X.N.Nodup)(e:X.N[i]? = some x)(q:Loc X.env.scope x)(hi:PI X tg iter wi)(r:∀a s H ex,PG (zQ X own cap scope a s H ex) tg g)(t:∀a s H ex,PTs (zQ X own cap scope a s H ex) ifs tts)(f:∀a s H ex,PI (zQ X own cap scope a s H ex) tg2 iter2 wi2)(j:∀a s H ex,PG (zQ X own cap scope a s H ex) tg2 g2)(k:∀a s H ex,PTs (zQ X own cap scope a s H ex) ifs2 tts2)(u:∀a s H ex,PE (zQ X own cap scope a s H ex) elt te)(m:swapsWith (.ListComp elt [⟨tg,iter,ifs,0⟩,⟨tg2,iter2,ifs2,0⟩] scope pos) (some (.Name x d)) b.line X.env=pure true:=by rfl)(v:∀x,foldedSetIterable iter X.env x=pure x:=by intro _;rfl)(n:∀a s H ex x,foldedSetIterable iter2 (zQ X own cap scope a s H ex).env x=pure x:=by intros;rfl)(w:X.fn x=true\/X.env.scope.names.lookup x=some .local:=by first | exact .inl rfl | exact .inr rfl | assumption):PS X (.Assign [.Name x d] (.ListComp elt [⟨tg,iter,ifs,0⟩,⟨tg2,iter2,ifs2,0⟩] scope pos) b) (tAsg (tComp own cap (.lst []) wi g tts λl=>bNext wi2 g2 tts2 (eApp te l)) (gName i)):=by
 intro c s σ H D I h;rw [exec_Assign_Name_used _ _ _ _ m];refine aA (dI (aA ?_));show wpAny _ X.A (do let _ <-comprehension (.ListComp elt [⟨tg,iter,ifs,0⟩,⟨tg2,iter2,ifs2,0⟩] scope pos) scope X.env _ (newList []) false (eval iter X.env) (some (assign (.Name x d) X.env))) _ _ s
 refine aA (thn (Qa (behOf:=vX (.ListComp elt [⟨tg,iter,ifs,0⟩,⟨tg2,iter2,ifs2,0⟩] scope pos) iter2 1) o S rfl hi uq (λ_ _ _ _ _=>qIq) r t
  (λa s H ex l=>qXg rfl o qIp (f a s H ex) (j a s H ex) (k a s H ex) (ut (u a s H ex)) (n a s H ex)) v p e q w c s σ H D I h) λ_ z y=>?_)
 exact aD (aD y)
theorem qM8(h:H a=some o):upd H a o=H:=by
 funext b
 by_cases z:b=a
 .subst z;rw [zC,h]
 .rw [zD z]
def qW2(td:TE):TI:=λσ H R=>td σ H λx H1 => ∃d kvs,x = .ref d/\Rd H1 d (.dK kvs) /\ ∀o,R (Itd d o kvs) (upd H1 d (.frz o (.dK kvs)))
theorem qTr(G:PE X l E):PI X tg l (qW2 E):=by
 intro g s σ H R I h;refine thn (G g s σ H _ I h) λv i hq_=>?_;let⟨x,F,A,J,K⟩:=hq_;let⟨d,a,e,j,q⟩:=K;subst e;cases J;obtain⟨o,z,r,k,c,f,m,n,t,p,C,B⟩:∃o,a.length<=sizeLine/\(d == sysModules)=false /\ ∃k,KV a k /\ ∃f m,i.heap.get? d=some o/\o.ExactDict/\o.data = .dict f m/\(f.toList.map λe=>(e.key,e.val),0)=(f.toList.map λe=>(e.key,e.val),0)/\Inv X g σ (upd F d (.frz o (.dK a))) i:=by
  rcases j with j | ⟨o,j⟩
  .let⟨z,r,k,c,o,f,m,n,t,p,C⟩:=wq A.hok j;exact⟨o,z,r,k,c,f,m,n,t,p,rfl,A.freeze j True.intro n λO=>⟨z,r,k,c,o,f,m,n,t,p,C⟩⟩
  .let⟨n,z,r,k,c,P,f,m,u,t,p,C⟩:=(show ObjOk X.prog X.w F i.heap d (.frz o (.dK a)) from A.hok d _ j);rw [n] at u;cases u;exact⟨o,z,r,k,c,f,m,n,t,p,rfl,by rw [qM8 j];exact A⟩
 let⟨Q,D,L,y,M⟩:=uy B.hok (zC) p;refine wpAny_pyIter_dict D M ?_;refine⟨i.heap.objs.size,[i.heap.objs.size],_,_,_,rfl,B.kept (t':=i.toks) λb S e=>aE _ e,qOz d _ o a p,⟨_,aW _ rfl,rfl,by rw [y.length];rfl⟩,λb N=>?_,q o⟩;let e:b=i.heap.objs.size:=by simpa using N
 subst e;exact B.fpOk (aH _) (B.hok.fresh (aH _))
theorem qTh(h:a σ H λx b => ∃d kvs,x = .ref d/\Rd b d (.dK kvs) /\ ∀o,R (Itd d o kvs) (upd b d (.frz o (.dK kvs)))):qW2 a σ H R:=h
def sThaw(H0:Hp)(ts:TS):TS:=λD σ H=>ts { D with nx:=λσ1 H1 => ∃d o u,H1 d=some (.frz o u)/\(∀o u,H0 d≠some (.frz o u))/\D.nx σ1 (upd H1 d u) } σ H
theorem qXa{st:Stmt}(h:PS X st ts):PS X st (sThaw X.H₀ ts):=by
 intro a s σ H D I q;refine thn (h a s σ H _ I q) λf i r=>?_;cases f with
 | next =>
  let⟨b,j,c,d,o,u,e,g,r⟩:=r;exact⟨b,_,c.thaw e g,r⟩
 | brk=>exact r
 | cont=>exact r
 | ret u=>exact r
theorem qWz(h:ts { D with nx:=λa b => ∃d o u,b d=some (.frz o u)/\(∀o u,H0 d≠some (.frz o u))/\D.nx a (upd b d u) } σ H):sThaw H0 ts D σ H:=h
theorem uI{α β : Type}{R : α -> β -> Prop}{as:List α}{bs:List β}(h:Paired R as bs):∀ {i:Nat} {a : α},as[i]? = some a -> ∃b,bs[i]? = some b/\R a b:=by
 induction h with
 | nil=>intro i a e;simp at e
 | @cons a n as ns r _ c =>
  intro i b e;cases i with
  | zero=>simp at e;subst e;exact⟨n,rfl,r⟩
  | succ i=>simpa using c (i:=i) (a:=b) (by simpa using e)
noncomputable def wordV(i j:Bool):V:=if i=j then .non else .str (wdS j)
def qMe(K:PySem.W.Frag):Sp:=λvs H Q _ => ∃(p la:Addr) (b t:Int) (ns:List Int),vs = [.ref p,.ref la]/\SqT K H p [.int b,.int t]/\SqL K H la (ns.map V.int)/\Q (wordV (decide (b∈ns)) (decide (t∈ns))) H
noncomputable def rowOf(f:Int->List Int)(w:Int×Int)(b:Int):Option K4:=if decide (w.1∈f b)=decide (w.2∈f b) then none else some (w,decide (w.2∈f b),b)
noncomputable def rowsL(ways:List (Int×Int))(bs:List Int)(f:Int->List Int):List K4:=ways.flatMap λw=>bs.filterMap (rowOf f w)
def Tri(K:PySem.W.Frag)(f:Int->List Int)(G:Hp)(t:Addr)(p:(Int×Int)×Int):Prop := ∃wa,G t=some (.tup [.ref wa,wordV (decide (p.1.1∈f p.2)) (decide (p.1.2∈f p.2)),.int p.2])/\SqT K G wa [.int p.1.1,.int p.1.2]
def TriL(K:PySem.W.Frag)(f:Int->List Int)(G:Hp):List Addr->List ((Int×Int)×Int)->Prop:=Paired (Tri K f G)
theorem TriL.len{K:PySem.W.Frag}(h:TriL K f G ts a):ts.length=a.length:=dD h
noncomputable def Tups(G G':Hp):Prop := ∀b xs,Rd G b (.tup xs)->Rd G' b (.tup xs)
theorem Tups.sq{K:PySem.W.Frag}(h:Tups G b)(q:SqT K G a xs):SqT K b a xs:=by
 rcases q with q | q
 .exact .inl (h a xs q)
 .exact .inr q
theorem Tups.trans(h:Tups G c)(k:Tups c a):Tups G a:=λb d q=>k b d (h b d q)
theorem Same.tups(h:Same G a):Tups G a:=λb c q=>by
 rcases q with q | ⟨o,q⟩
 .exact .inl (h _ _ q)
 .exact .inr ⟨o,h _ _ q⟩
theorem Ext.tups(e:Ext us G a)(h:∀u∈us,∀xs,¬Rd G u (.tup xs)):Tups G a:=λb xs q=>by
 let c:b∉us:=λz=>h b z xs q;rcases q with q | ⟨o,q⟩
 .exact .inl (e _ _ c q)
 .exact .inr ⟨o,e _ _ c q⟩
theorem Tri.mono{K:PySem.W.Frag}{t:Addr}(h:Tups G a)(k:∀b xs,G b=some (.tup xs)->a b=some (.tup xs))(q:Tri K f G t p):Tri K f a t p:=by
 let⟨c,d,e⟩:=q;exact⟨c,k _ _ d,h.sq e⟩
theorem TriL.mono{K:PySem.W.Frag}(q:TriL K f G ts c)(h:Tups G a)(k:∀b xs,G b=some (.tup xs)->a b=some (.tup xs)):TriL K f a ts c:=Paired.mapP q λ_ _ x=>x.mono h k
theorem qH4(a:List (Int×Int))(bs:List Int)(f:Int->List Int):rowsL a bs f=(a.flatMap λw=>bs.map λb=>(w,b)).filterMap λp=>rowOf f p.1 p.2:=by
 unfold rowsL
 induction a with
 | nil=>rfl
 | cons w r c=>rw [cO,cO,List.filterMap_append,c,List.filterMap_map];rfl
theorem qM4{K:PySem.W.Frag}(h:RowsI K H vs ks){c:List (V×K4)}(b:c.Perm (vs.zip ks)):RowsI K H (c.map (·.1)) (c.map (·.2))/\(c.map (·.2)).Perm ks:=by
 let g:∀p∈vs.zip ks,∃a d,p.1 = .ref a/\SqT K H a [.ref d,.str (wdS p.2.2.1),.int p.2.2.2]/\SqT K H d [.int p.2.1.1,.int p.2.1.2]:=by
  clear b;unfold RowsI at h
  induction h with
  | nil=>intro p b;cases b
  | cons r _ f =>
   intro p b;rcases aL.mp b with z | z
   .subst z;exact r
   .exact f p z
 refine⟨?_,?_⟩
 .let:∀p∈c,∃a d,p.1 = .ref a/\SqT K H a [.ref d,.str (wdS p.2.2.1),.int p.2.2.2]/\SqT K H d [.int p.2.1.1,.int p.2.1.2]:=λp h=>g p (b.mem_iff.mp h);clear b g;unfold RowsI
  induction c with
  | nil=>exact .nil
  | cons p r f=>exact .cons (this p (aV ..)) (f λq i=>this q (aS _ i))
 .let e:(vs.zip ks).map (·.2)=ks:=by rw [List.map_snd_zip];rw [h.len];exact aH _
  let:=b.map (·.2);rw [e] at this;exact this
def ja(K:PySem.W.Frag):Sp:=λvs H Q _ => ∃(wa d:Addr) (wk:List Blk) (m works:Int) (bs:List Int) (as:List Addr) (f:Int->List Int),vs = [.ref wa,.ref d]/\Den K H (workD wk) (.ref wa)/\WorkOk m works wk/\m<=12/\PlanAt H d bs as (bs.map f)/\bs.Nodup/\bs.length<=8 /\
 ∀(l:Addr) (us:List V) (ks:List K4) (H':Hp),H l=none->Ext [] H H'->H' l=some (.lst us)->RowsI K H' us ks->ks.Perm (rowsL (zG wk wk.length) bs f)->ks.Pairwise (λa b=>lt4 b a=false)->Q (.ref l) H'
structure PlanF(ws:List (List Blk))(n:Nat)(wk:List Blk)(bs:List Int)(f:Int->List Int):Prop where
 perm:bs.Perm (boxes wk)
 rise:∀b∈bs,(f b).Pairwise (· < ·)
 rg:∀b∈bs,∀y∈f b,0<=y/\y<(wk.length:Int)
 busy:∀b∈bs,∀y,BusyP ws n wk b y->y∈f b
def qVh(K:PySem.W.Frag):Sp:=λvs H Q _ => ∃(t wa:Addr) (k:Nat) (ws:List (List Blk)) (n:Nat) (wk:List Blk),vs = [.ref t,.ref wa,.int n]/\Tape H t k/\k+200<=2^40/\Den K H (yV ws) (.ref wa)/\WsOk ws/\ws[n]? = some wk /\
 ∀(d:Addr) (bs:List Int) (as:List Addr) (f:Int->List Int) (H':Hp),H d=none->(∀a∈as,H a=none)->Tape H' t (k+200)->Ext [t] H H'->PlanAt H' d bs as (bs.map f)->PlanF ws n wk bs f->Q (.ref d) H'
def NoTup(v:HO):Prop := ∀xs,v ≠ .tup xs /\ ∀o,v ≠ .frz o (.tup xs)
theorem qXv(xs:List V):NoTup (.lst xs):=λ_=>⟨(λz=>by cases z),λ_ z=>by cases z⟩
theorem qXx(kvs:List (Key×V)):NoTup (.dK kvs):=λ_=>⟨(λz=>by cases z),λ_ z=>by cases z⟩
theorem qXw(o:Obj)(kvs:List (Key×V)):NoTup (.frz o (.dK kvs)):=λ_=>⟨(λz=>by cases z),λ_ z=>by cases z⟩
theorem qYt{k:Nat}(a:Room k A):A.units+2<cLine:=by let:=a.un;lia
theorem vJ{α β : Type}(a:List α)(bs:List β):(a.flatMap λw=>bs.map λb=>(w,b)).length=a.length*bs.length:=by
 induction a with
 | nil=>simp
 | cons w r c=>rw [cO,aG,c,aB,cB,Nat.add_mul,Nat.one_mul,Nat.add_comm]
theorem RowsI.mono{K:PySem.W.Frag}(h:RowsI K G vs ks)(k:Tups G b):RowsI K b vs ks:=Paired.mapP h λ_ _ ⟨a,c,e,d,f⟩=>⟨a,c,e,k.sq d,k.sq f⟩
theorem Ext.melt(hd:G d=some u)(e:Ext (d::us) G a):Ext us G (upd a d u):=λb f c h=>by
 by_cases z:b=d
 .subst z;rw [zC];rw [hd] at h;exact h
 .rw [zD z];exact e _ _ (by simpa using ⟨z,c⟩) h
theorem Tups.melt(hd:G d=some v)(a:NoTup v:=by first | exact qXv _ | exact qXx _ | exact qXw _ _):Tups G (upd G d u):=λb c q=>by
 let ne:b≠d:=λz=>by
  subst z;rcases q with q | ⟨o,q⟩
  .rw [hd] at q;exact (a c).1 (bB q)
  .rw [hd] at q;exact (a c).2 o (bB q)
 rcases q with q | ⟨o,q⟩
 .exact .inl (by rw [zD ne];exact q)
 .exact .inr ⟨o,by rw [zD ne];exact q⟩
structure PlI(H:Hp)(t d lf:Addr)(ws:List (List Blk))(n:Nat)(wk:List Blk)(ls rs bs:List Int)(as:List Addr)(f:Int->List Int)(k:Nat)(G:Hp):Prop where
 tape:Tape G t k
 ext:Ext [t] H G
 left:G lf=some (.lst (ls.map V.int))
 plan:PlanAt G d bs as (bs.map f)
 fd:H d=none
 fl:H lf=none
 fa:∀a∈as,H a=none
 nl:lf∉as
 nd:lf≠d
 perm:(bs++rs).Perm (boxes wk)
 rise:∀b∈bs,(f b).Pairwise (· < ·)
 rg:∀b∈bs,∀y∈f b,0<=y/\y<(wk.length:Int)
 busy:∀b∈bs,∀y,BusyP ws n wk b y->y∈f b
theorem PlanAt.keep{bs:List Int}(h:PlanAt G d bs as c)(k:∀a∈d::as,∀o,G a=some o->b a=some o):PlanAt b d bs as c:=⟨k d (aV ..) _ h.dict,h.lists.mono λa e o=>k a (aS _ e) o,h.len,h.nd,h.nda⟩
section
variable{H:Hp}{t d lf:Addr}{ws:List (List Blk)}{n:Nat}{wk:List Blk}{ls rs bs:List Int}{as:List Addr}{f:Int->List Int}{k k':Nat}{G G':Hp}
theorem PlI.keep(h:PlI H t d lf ws n wk ls rs bs as f k G)(c:∃o,H t=some o)(e:Ext [t] G G')(T:Tape G' t k'):PlI H t d lf ws n wk ls rs bs as f k' G':=by
 let⟨o,c⟩:=c;let g:∀a,H a=none->a≠t:=λa b z=>by rw [z,c] at b;cases b
 refine⟨T,h.ext.trans e,e _ _ (by simpa using g _ h.fl) h.left,h.plan.keep λa b o q=>e _ _ ?_ q,h.fd,h.fl,h.fa,h.nl,h.nd,h.perm,h.rise,h.rg,h.busy⟩;rcases aL.mp b with z | z
 .subst z;simpa using g _ h.fd
 .simpa using g _ (h.fa a z)
theorem PlI.grown(h:PlI H t d lf ws n wk ls rs bs as f k G)(a:∃o,H t=some o)(e:Ext [] G G'):PlI H t d lf ws n wk ls rs bs as f k G':=h.keep a (e.mono ∅) (h.tape.ext e ∅)
theorem PlI.popped(h:PlI H t d lf ws n wk ls rs bs as f k G)(i:∃o,H t=some o)(g:List Int):PlI H t d lf ws n wk g rs bs as f k (upd G lf (.lst (g.map V.int))):=by
 let⟨o,i⟩:=i;let j:t≠lf:=λz=>by let:=h.fl;rw [<-z,i] at this;cases this
 refine⟨?_,λb u l e=>?_,zC,h.plan.keep λa m o q=>?_,h.fd,h.fl,h.fa,h.nl,h.nd,h.perm,h.rise,h.rg,h.busy⟩
 .let⟨a,b,c,p,r⟩:=h.tape;exact⟨a,b,c,by rw [zD j];exact p,r⟩
 .rw [zD (zF e h.fl)];exact h.ext b u l e
 .rw [zD];exact q;rcases aL.mp m with z | z
  .rw [z];exact cP h.nd
  .exact λy=>h.nl (y▸z)
theorem PlI.put{m works x:Int}(h:PlI H t d lf ws n wk ls rs bs as f k G)(C:∃o,H t=some o)(e:Ext [] G G')(j:G i=none)(D:G' i=some (.lst (ns.map V.int)))(E:rs.Perm (x::rs'))(r:x∉bs)(F:ns.Pairwise (· < ·))(I:∀y∈ns,0<=y/\y<(wk.length:Int))(J:∀y,BusyP ws n wk x y->y∈ns):PlI H t d lf ws n wk ls rs' (bs ++ [x]) (as ++ [i]) (λy=>if y=x then ns else f y) k (upd G' d (.dK (putK (planK bs as) (Sum.inl x) (.ref i)))):=by
 let K:=h.plan.snoc e j D r;let em:bs.map (λy=>if y=x then ns else f y)=bs.map f:=iR λb g=>by
  show (if b=x then ns else f b)=f b;exact if_neg λ(z:b=x)=>r (z▸g)
 let⟨o,s⟩:=id C;let v:t≠d:=λz=>by let:=h.fd;rw [<-z,s] at this;cases this
 let w:H i=none:=h.ext.none (by
  intro z;let z:i=t:=by simpa using z
  let⟨a,b,c,A,_⟩:=h.tape
  rw [z,A] at j;cases j) j
 let B:∀b∈bs ++ [x],(b∈bs/\b≠x)\/b=x:=λb g=>by
  rcases aJ.mp g with z | z
  .exact .inl ⟨z,λy=>r (y▸z)⟩
  .exact .inr (by simpa using z)
 refine⟨?_,λb u g q=>?_,?_,?_,h.fd,h.fl,λa L=>?_,?_,h.nd,?_,λb g=>?_,λb g=>?_,λb g=>?_⟩
 .let⟨a,b,c,A,M⟩:=h.tape;exact⟨a,b,c,by rw [zD v];exact e _ _ ∅ A,M⟩
 .rw [zD (zF q h.fd)];exact e _ _ ∅ (h.ext b u g q)
 .rw [zD h.nd];exact e _ _ ∅ h.left
 .rw [aP,em,List.map_singleton,if_pos rfl];exact K
 .rcases aJ.mp L with z | z
  .exact h.fa a z
  .rw [show a=i by simpa using z];exact w
 .intro z;rcases aJ.mp z with z | z
  .exact h.nl z
  .let z:lf=i:=by simpa using z
   rw [<-z,h.left] at j;cases j
 .rw [dB];exact (hZ bs E.symm).trans h.perm
 .rcases B b g with ⟨l,p⟩ | z
  .simp only [if_neg p];exact h.rise b l
  .simp only [if_pos z];exact F
 .rcases B b g with ⟨l,p⟩ | z
  .simp only [if_neg p];exact h.rg b l
  .simp only [if_pos z];exact I
 .rcases B b g with ⟨l,p⟩ | z
  .simp only [if_neg p];exact h.busy b l
  .simp only [if_pos z];rw [z];exact J
end
def LpW(H:Hp)(t wa d lf:Addr)(ws:List (List Blk))(n:Nat)(wk:List Blk)(k:Nat)(μ : Nat)(σ':St)(G:Hp):Prop := ∃(ls bs:List Int) (as:List Addr) (f:Int->List Int) (kk:Nat) (o5 o6 o7 o8:Option V),μ = ls.length /\ σ' = [some (.ref t),some (.ref wa),some (.int n),some (.ref d),some (.ref lf),o5,o6,o7,o8]/\kk+20*ls.length<=k+200/\PlI H t d lf ws n wk ls ls bs as f kk G
theorem qPx(a:List (Int×Int))(bs:List Int)(f:Int->List Int):(rowsL a bs f).length<=a.length*bs.length:=by
 rw [qH4,<-vJ];exact List.length_filterMap_le _ _
theorem SqL.keepN{K:PySem.W.Frag}(h:SqL K H a xs)(e:Ext us H H')(n:a∉us):SqL K H' a xs:=by
 rcases h with (z | ⟨o,z⟩) | z
 .exact .inl (.inl (e _ _ n z))
 .exact .inl (.inr ⟨o,e _ _ n z⟩)
 .exact .inr z
theorem qH7{m works:Int}{n:Nat}{bs:List Int}(h:PlanF c n a bs f)(d:WorkOk m works a):(∀b∈bs,0<=b/\b<8)/\bs.length<=8/\bs.Nodup:=by
 refine⟨λb e=>qNj d (h.perm.mem_iff.mp e),?_,h.perm.symm.nodup ((jD a).imp λh=>by lia)⟩;rw [h.perm.length_eq];exact qKj a
theorem qWv{bs:List Int}{k:K4}(h:k∈rowsL a bs f):k.1∈a/\k.2.2∈bs/\k.2.1=decide (k.1.2∈f k.2.2):=by
 unfold rowsL at h;let⟨w,d,h⟩:=cC.mp h;let⟨b,e,h⟩:=bU.mp h;unfold rowOf at h;by_cases c:decide (w.1∈f b)=decide (w.2∈f b)
 .rw [if_pos c] at h;cases h
 .rw [if_neg c] at h;let h:=bB h;subst h;exact⟨d,e,rfl⟩
theorem qTc{m works:Int}{bs:List Int}{ks:List K4}(k:m<=12)(e:WorkOk m works a)(c:bs.length<=8)(g:ks.Perm (rowsL (zG a a.length) bs f)):ks.length<=200:=by
 let d:∀b∈a,b.ns.length<=2:=λb h=>(e.blk b h).ns.few;let i:=e.len;let j:=xp d a.length;rw [g.length_eq];refine cD (qPx _ _ _) ?_;exact (Nat.mul_le_mul (show (zG a a.length).length<=25 by lia) c)
noncomputable def orb5(m:Nat):Nat->Nat->Nat
 | 0,i=>i
 | n+1,i=>orb5 m n ((i*5+1)%(m+1))
theorem uJ(m:Nat):∀(a b i:Nat),orb5 m (a+b) i=orb5 m b (orb5 m a i)
 | 0,b,i=>by rw [eW];rfl
 | a+1,b,i=>by rw [Nat.succ_add];exact uJ m a b _
def Cov(m:Nat):Prop := ∀i e,i<=m->e<=m -> ∃n,n<=m/\orb5 m n i=e
theorem wAj{m:Nat}(full:∀e,e<=m -> ∃n,n<=m/\orb5 m n 0=e)(back:orb5 m (m+1) 0=0):Cov m:=by
 intro i e f g;let⟨a,j,c⟩:=full i f;let⟨b,k,d⟩:=full e g;by_cases h:a<=b
 .refine⟨b - a,∎,?_⟩;rw [<-c,<-uJ,show a+(b - a)=b by lia,d]
 .refine⟨b+(m+1) - a,∎,?_⟩;rw [<-c,<-uJ,show a+(b+(m+1) - a)=(m+1)+b by lia,uJ,back,d]
noncomputable def fullB(m:Nat):Bool:=(List.range (m+1)).all (λe=>(List.range (m+1)).any λn=>orb5 m n 0 == e)&&(orb5 m (m+1) 0 == 0)
theorem jc{m:Nat}(h:fullB m=true):Cov m:=by
 unfold fullB at h;rw [bP] at h;refine wAj (λe b=>?_) (by simpa using h.2);let:=List.all_eq_true.mp h.1 e (bN.mpr ∎);let⟨n,a,q⟩:=dR.mp this;exact⟨n,by let:=bN.mp a;lia,by simpa using q⟩
theorem cov7:Cov 7:=jc (by decide +kernel)
theorem cov31:Cov 31:=jc (by decide +kernel)
theorem wAk:Cov 127:=jc (by decide +kernel)
noncomputable def stepP(m:Nat)(p:SetTable.Probe):SetTable.Probe:=SetTable.advance { SetTable.fresh 0 0 false with mask:=m } p
noncomputable def advN(m:Nat):Nat->SetTable.Probe->SetTable.Probe
 | 0,p=>p
 | n+1,p=>advN m n (stepP m p)
theorem xA(m:Nat):∀(a b:Nat) (p:SetTable.Probe),advN m (a+b) p=advN m b (advN m a p)
 | 0,b,p=>by rw [eW];rfl
 | a+1,b,p=>by rw [Nat.succ_add];exact xA m a b _
theorem qKp(m n:Nat)(p:SetTable.Probe):advN m (n+1) p=stepP m (advN m n p):=by rw [xA];rfl
noncomputable def za(m:Nat)(h:Int):SetTable.Probe:=SetTable.probeStart { SetTable.fresh 0 0 false with mask:=m } h
structure PrS(m:Nat)(p:SetTable.Probe):Prop where
 i:p.i<=m
 j:p.j+p.more=SetTable.runEnd m p.i
 ge:p.i<=p.j
 pt:p.perturb<2^64
 dm:p.dummy=none
theorem vK(m i:Nat):i<=SetTable.runEnd m i:=by unfold SetTable.runEnd;split <;> lia
theorem jd(m i:Nat)(h:i<=m):SetTable.runEnd m i<=m/\SetTable.runEnd m i<=i+9:=by unfold SetTable.runEnd;split <;> lia
theorem PrS.jm{m:Nat}(h:PrS m p):p.j<=m:=by
 let:=(jd m p.i h.i).1;let:=h.j;lia
theorem qYk(h:Int):SetTable.bits h<2^64:=by
 unfold SetTable.bits;lia
theorem uK(m:Nat)(h:Int):PrS m (za m h):=by
 refine⟨?_,?_,aH _,qYk h,rfl⟩
 .let:=Nat.mod_lt (SetTable.bits h) (Nat.succ_pos m);show SetTable.bits h%(m+1)<=m;exact Nat.le_of_lt_succ this
 .show SetTable.bits h%(m+1)+(SetTable.runEnd m (SetTable.bits h%(m+1)) - SetTable.bits h%(m+1))=_;let:=vK m (SetTable.bits h%(m+1));show _=SetTable.runEnd m (SetTable.bits h%(m+1));lia
theorem qGx{m:Nat}(h:p.more>0):stepP m p = { p with j:=p.j+1,more:=p.more - 1 }:=by
 unfold stepP SetTable.advance;rw [if_pos h]
noncomputable def leapP(m:Nat)(p:SetTable.Probe):SetTable.Probe :=
 { p with j:=(p.i*5+1+p.perturb / 32)%(m+1),more:=SetTable.runEnd m ((p.i*5+1+p.perturb / 32)%(m+1)) - (p.i*5+1+p.perturb / 32)%(m+1),i:=(p.i*5+1+p.perturb / 32)%(m+1),perturb:=p.perturb / 32 }
theorem je{m:Nat}(h:p.more=0):stepP m p=leapP m p:=by
 unfold stepP SetTable.advance;rw [if_neg ∎];rfl
theorem uL{m:Nat}(h:PrS m p):PrS m (leapP m p):=by
 refine⟨?_,?_,aH _,?_,h.dm⟩
 .exact Nat.le_of_lt_succ (Nat.mod_lt _ (Nat.succ_pos m))
 .let:=vK m ((p.i*5+1+p.perturb / 32)%(m+1));show _%(m+1)+(_ - _)=SetTable.runEnd m (_%(m+1));lia
 .exact gB (Nat.div_le_self _ _) h.pt
theorem qXb{m:Nat}(h:PrS m p):PrS m (stepP m p):=by
 by_cases a:p.more>0
 .rw [qGx a];exact⟨h.i,by let:=h.j;show p.j+1+(p.more - 1)=_;lia,by let:=h.ge;show p.i<=p.j+1;lia,h.pt,h.dm⟩
 .rw [je ∎];exact uL h
theorem uM{m:Nat}:∀(n:Nat) {p:SetTable.Probe},PrS m p->PrS m (advN m n p)
 | 0,_,h=>h
 | n+1,_,h=>uM n (qXb h)
theorem uN{m:Nat}:∀(k:Nat) {p:SetTable.Probe},p.more=k -> ∀c,c<=k->advN m c p = { p with j:=p.j+c,more:=p.more - c }
 | k,p,e,0,_=>rfl
 | 0,p,e,c+1,h=>absurd h ∎
 | k+1,p,e,c+1,h=>by
  show advN m c (stepP m p)=_;rw [qGx ∎,uN k (p :={ p with j:=p.j+1,more:=p.more - 1 }) (by show p.more - 1=k;lia) c ∎];show ({ p with j:=p.j+1+c,more:=p.more - 1 - c }:SetTable.Probe)=_
  congr 1 <;> lia
theorem qTz{m:Nat}(h:PrS m p):∃n,n<=10/\advN m n p=leapP m p:=by
 refine⟨p.more+1,?_,?_⟩
 .let:=(jd m p.i h.i).2;let:=h.j;let:=h.ge;lia
 .rw [qKp,uN p.more rfl p.more (aH _),je (by show p.more - p.more=0;lia)];rfl
noncomputable def leapN(m:Nat):Nat->SetTable.Probe->SetTable.Probe
 | 0,p=>p
 | n+1,p=>leapN m n (leapP m p)
theorem qHh{m:Nat}:∀(L:Nat) {p:SetTable.Probe},PrS m p -> ∃n,n<=10*L/\advN m n p=leapN m L p
 | 0,p,_=>⟨0,∎,rfl⟩
 | L+1,p,h=>by
  let⟨a,e,c⟩:=qTz h;let⟨b,f,d⟩:=qHh L (uL h);exact⟨a+b,∎,by rw [xA,c,d];rfl⟩
theorem qRd{m:Nat}:∀(L:Nat) (p:SetTable.Probe),(leapN m L p).perturb=p.perturb / 32^L
 | 0,p=>by rw [Nat.pow_zero,Nat.div_one];rfl
 | L+1,p=>by
  show (leapN m L (leapP m p)).perturb=_;rw [qRd L];show p.perturb / 32 / 32^L=_;rw [Nat.div_div_eq_div_mul,Nat.pow_succ,Nat.mul_comm]
theorem qN4{m:Nat}:∀(L:Nat) (p:SetTable.Probe),p.perturb=0->(leapN m L p).i=orb5 m L p.i
 | 0,p,_=>rfl
 | L+1,p,h=>by
  show (leapN m L (leapP m p)).i=_;let e:(leapP m p).i=(p.i*5+1)%(m+1):=by show (p.i*5+1+p.perturb / 32)%(m+1)=_;rw [h]
  rw [qN4 L _ (by show p.perturb / 32=0;rw [h]),e];rfl
theorem qK4(m:Nat):∀(a b:Nat) (p:SetTable.Probe),leapN m (a+b) p=leapN m b (leapN m a p)
 | 0,b,p=>by rw [eW];rfl
 | a+1,b,p=>by rw [Nat.succ_add];exact qK4 m a b _
theorem qW1{m:Nat}:∀(L:Nat) (p:SetTable.Probe),(leapN m (L+1) p).j=(leapN m (L+1) p).i
 | 0,p=>rfl
 | L+1,p=>qW1 L (leapP m p)
theorem qMr{m:Nat}:∀(L:Nat) {p:SetTable.Probe},PrS m p->PrS m (leapN m L p)
 | 0,_,h=>h
 | L+1,_,h=>qMr L (uL h)
theorem qGc{m:Nat}(a:Cov m)(h:PrS m p){e:Nat}(c:e<=m):∃L,0<L/\L<=m+13/\(leapN m L p).i=e/\(leapN m L p).j=e:=by
 let d:(leapN m 13 p).perturb=0:=by
  rw [qRd];refine Nat.div_eq_of_lt (Nat.lt_trans h.pt ⋯)
 let⟨n,g,f⟩:=a _ _ (qMr 13 h).i c;let b:(leapN m (13+n) p).i=e:=by rw [qK4,qN4 _ _ d,f]
 refine⟨13+n,∎,∎,b,?_⟩;rw [show 13+n=(12+n)+1 by lia,qW1,show (12+n)+1=13+n by lia,b]
theorem qPz{m:Nat}(a:Cov m)(h:PrS m p){e:Nat}(b:e<=m):∃n,n<10*SetTable.turns m/\(advN m n p).j=e:=by
 let⟨L,_,f,_,c⟩:=qGc a h b;let⟨n,g,d⟩:=qHh L h;exact⟨n,by unfold SetTable.turns;lia,by rw [d,c]⟩
theorem wP{t:SetTable}{i j:Nat}(a:t.place.toList.Pairwise (· < ·))(hi:t.place[i]? = some j):t.slot j = .live i:=by
 let⟨h,b,c⟩:=vk t.place j a;let d:SetTable.below t.place j=i:=by
  let le:SetTable.below t.place j<=i:=by
   rcases Nat.lt_or_ge i (SetTable.below t.place j) with z | z
   .exact absurd (b i j hi z) (eK _)
   .exact z
  rcases Nat.lt_or_eq_of_le le with z | z
  .let k:i<t.place.size:=(fV.mp hi).1;let e:t.place[SetTable.below t.place j]? = some t.place[SetTable.below t.place j]:=bC ∎;let q:=c _ _ e (aH _);let f:=(fV.mp hi).2;let g:=bL.mp a (SetTable.below t.place j) i (by rw [aM];lia) (by rw [aM];lia) z;rw [dC,dC,f] at g;lia
  .exact z
 unfold SetTable.slot;dsimp only;rw [d,hi];simp
theorem qNu{t:SetTable}{j:Nat}(hd:t.dummies = #[])(b:j∉t.place.toList):t.slot j = .empty:=by
 unfold SetTable.slot;dsimp only;rw [if_neg,if_neg]
 .rw [hd];unfold SetTable.has;simp
 .intro e;let a:t.place[SetTable.below t.place j]? = some j:=by simpa using e
  exact b (by rw [<-bA] at a;exact aN a)
theorem qT4{t:SetTable}{j:Nat}(a:t.place.toList.Pairwise (· < ·))(h:j∈t.place.toList):∃i,t.place[i]? = some j/\t.slot j = .live i:=by
 let⟨i,b,e⟩:=bJ h;let:t.place[i]? = some j:=by rw [<-bA,aC b,e]
 exact⟨i,this,wP a this⟩
theorem qH6{t:SetTable}{h:Int}(e:t.place.toList.Pairwise (· < ·))(hd:t.dummies = #[]):∀(fuel n:Nat) (p:SetTable.Probe),p.dummy=none->n<fuel->(advN t.mask n p).j∉t.place.toList ->
  ∃k,k<=n/\(∀m,m<k -> ∃i,t.place[i]? = some (advN t.mask m p).j/\f i≠h) /\
   (((advN t.mask k p).j∉t.place.toList/\SetTable.probe.go t f h fuel p=some (.empty (advN t.mask k p).j none)) \/
     ∃i,t.place[i]? = some (advN t.mask k p).j/\f i=h/\SetTable.probe.go t f h fuel p=some (.candidate (advN t.mask k p).j i (advN t.mask (k+1) p)))
 | 0,n,p,_,g,_=>absurd g (fS _)
 | fuel+1,n,p,dm,g,l=>by
  by_cases b:p.j∈t.place.toList
  .let⟨i,o,q⟩:=qT4 e b;by_cases c:f i=h
   .refine⟨0,aX _,λm a=>absurd a (fS _),.inr ⟨i,o,c,?_⟩⟩;unfold SetTable.probe.go;rw [q];dsimp only;rw [if_pos (by simpa using c)];rfl
   .cases n with
    | zero=>exact absurd b l
    | succ n =>
     let d:(stepP t.mask p).dummy=none:=by unfold stepP SetTable.advance;split <;> exact dm
     let⟨k,v,a,r⟩:=qH6 e hd fuel n (stepP t.mask p) d ∎ l;let s:SetTable.probe.go t f h (fuel+1) p=SetTable.probe.go t f h fuel (stepP t.mask p):=by
      conv=>lhs;unfold SetTable.probe.go
      rw [q];dsimp only;rw [if_neg (by simpa using c)];rfl
     refine⟨k+1,∎,λm u=>?_,?_⟩
     .cases m with
      | zero=>exact⟨i,o,c⟩
      | succ m=>exact a m ∎
     .rw [s];exact r
  .refine⟨0,aX _,λm a=>absurd a (fS _),.inl ⟨b,?_⟩⟩;unfold SetTable.probe.go;rw [qNu hd b];dsimp only;rw [dm];rfl
def Way(m:Nat)(pl:List Nat)(j:Nat)(h:Int):Prop := ∃n,(advN m n (za m h)).j=j /\ ∀k,k<n->(advN m k (za m h)).j∈pl
theorem Way.mono{m:Nat}{j:Nat}{h:Int}(s:∀x∈pl,x∈a)(w:Way m pl j h):Way m a j h:=let ⟨n,e,q⟩:=w;⟨n,e,λk b=>s _ (q k b)⟩
structure Tab(b:Bool)(t:SetTable)(hs:List Int):Prop where
 rise:t.place.toList.Pairwise (· < ·)
 dm:t.dummies = #[]
 led:t.led=b
 cov:Cov t.mask
 odd:t.mask%2=1
 small:t.mask<=127
 len:t.place.size=hs.length
 few:t.place.size<=t.mask
 inm:∀j∈t.place.toList,j<=t.mask
 way:∀q∈t.place.toList.zip hs,Way t.mask t.place.toList q.1 q.2
theorem Tab.good{b:Bool}{t:SetTable}(T:Tab b t a):GoodT b t a.length:=by
 refine⟨?_,T.rise,T.led⟩;unfold SetTable.fits SetTable.fill;let:=T.few;rw [T.dm,T.len];simp;rw [<-T.len];exact T.few
theorem Tab.free{b:Bool}{t:SetTable}(T:Tab b t c):∃e,e<=t.mask/\e∉t.place.toList:=by
 by_cases a:∀e,e<=t.mask->e∈t.place.toList
 .let d:(List.range (t.mask+1)).length<=t.place.toList.length:=dM List.nodup_range (λx f=>a x (by let:=bN.mp f;lia));rw [bQ,aM] at d;let:=T.few;lia
 .simp only [Classical.not_forall] at a;let⟨e,g,h⟩:=a;exact⟨e,g,h⟩
theorem Tab.first{b:Bool}{t:SetTable}(T:Tab b t f)(h:Int):∃N,N<10*SetTable.turns t.mask/\(advN t.mask N (za t.mask h)).j∉t.place.toList /\ ∀k,k<N->(advN t.mask k (za t.mask h)).j∈t.place.toList:=by
 let⟨e,g,i⟩:=T.free;let⟨n,l,c⟩:=qPz T.cov (uK t.mask h) g;let key:∀n,(advN t.mask n (za t.mask h)).j∉t.place.toList -> ∃N,N<=n/\(advN t.mask N (za t.mask h)).j∉t.place.toList /\ ∀k,k<N->(advN t.mask k (za t.mask h)).j∈t.place.toList:=by
  intro n
  induction n using Nat.strongRecOn with
  | ind n m =>
   intro o;by_cases d:∀k,k<n->(advN t.mask k (za t.mask h)).j∈t.place.toList
   .exact⟨n,aH _,o,d⟩
   .simp only [Classical.not_forall] at d;let⟨k,p,q⟩:=d;let⟨N,a,b⟩:=m k p q;exact⟨N,∎,b⟩
 let⟨N,a,b⟩:=key n (by rw [c];exact i);exact⟨N,∎,b⟩
theorem Tab.before{b:Bool}{t:SetTable}(T:Tab b t c){i:Nat}{h:Int}(hi:c[i]? = some h){N:Nat}(f:(advN t.mask N (za t.mask h)).j∉t.place.toList):∃n,n<N/\t.place[i]? = some (advN t.mask n (za t.mask h)).j:=by
 let a:i<c.length:=(aI.mp hi).1;let d:t.place.toList[i]? = some (t.place.toList[i]'(by rw [aM,T.len];exact a)):=aC _;generalize (t.place.toList[i]'(by rw [aM,T.len];exact a))=j at d;let g:(j,h)∈t.place.toList.zip c:=by
  refine aN (i:=i) ?_;rw [gK];exact⟨d,hi⟩
 let⟨n,e,q⟩:=T.way _ g;dsimp only at e q;refine⟨n,?_,by rw [<-bA,d,e]⟩;rcases Nat.lt_trichotomy n N with z | z | z
 .exact z
 .subst z;rw [e] at f;exact absurd (aN d) f
 .exact absurd (q N z) f
theorem Tab.fresh{b:Bool}(f m:Nat):Tab b (SetTable.fresh f m b) []:=⟨List.Pairwise.nil,rfl,rfl,cov7,(show 7%2=1 from rfl),(show 7<=127 by decide),rfl,(show 0<=7 by decide),λj a=>(by cases a),λq c=>(by cases c)⟩
theorem Tab.put{b:Bool}{t:SetTable}(T:Tab b t a){h:Int}{N:Nat}(u:(advN t.mask N (za t.mask h)).j∉t.place.toList)(v:∀k,k<N->(advN t.mask k (za t.mask h)).j∈t.place.toList)(f:t.place.size<t.mask):Tab b (t.put (advN t.mask N (za t.mask h)).j).1 (a.take (SetTable.below t.place (advN t.mask N (za t.mask h)).j)++h::a.drop (SetTable.below t.place (advN t.mask N (za t.mask h)).j))/\(t.put (advN t.mask N (za t.mask h)).j).2=SetTable.below t.place (advN t.mask N (za t.mask h)).j/\(t.put (advN t.mask N (za t.mask h)).j).1.plain=t.plain/\(t.put (advN t.mask N (za t.mask h)).j).1.mask=t.mask:=by
 let o:=(uM N (uK t.mask h)).jm;let w:Way t.mask t.place.toList (advN t.mask N (za t.mask h)).j h:=⟨N,rfl,v⟩;generalize (advN t.mask N (za t.mask h)).j=j at *;let y:=(vk t.place j T.rise).1;let p:t.place[SetTable.below t.place j]? ≠ some j:=λe=>u (by rw [<-bA] at e;exact aN e);let A:=qJe t.place j T.rise p;let g:SetTable.has t.dummies j=false:=by rw [T.dm];unfold SetTable.has;simp
 let c:(t.put j).1.place.toList=t.place.toList.take (SetTable.below t.place j)++j::t.place.toList.drop (SetTable.below t.place j):=gT ..;let d:(t.put j).1.mask=t.mask:=rfl;let B:=T.len;let i:∀x,x∈(t.put j).1.place.toList↔x=j\/x∈t.place.toList:=λx=>by
  rw [c,aJ,aL];let:x∈t.place.toList↔x∈t.place.toList.take (SetTable.below t.place j)\/x∈t.place.toList.drop (SetTable.below t.place j):=by rw [<-aJ,dY]
  rw [this];constructor
  .rintro (z | z | z)
   .exact .inr (.inl z)
   .exact .inl z
   .exact .inr (.inr z)
  .rintro (z | z | z)
   .exact .inr (.inl z)
   .exact .inl z
   .exact .inr (.inr z)
 let l:(t.put j).1.place.size=t.place.size+1:=by
  rw [<-aM,c,aG,cB,bD,fW,aM];lia
 refine⟨⟨A,?_,T.led,T.cov,T.odd,T.small,?_,?_,?_,?_⟩,rfl,rfl,rfl⟩
 .show (if SetTable.has t.dummies j=true then _ else t.dummies) = #[];rw [g];exact T.dm
 .rw [l,aG,cB,bD,fW];lia
 .rw [l,d];exact f
 .intro x r;rw [d];rcases (i x).mp r with z | z
  .subst z;exact o
  .exact T.inm x z
 .intro q s;rw [d];let sub:∀x∈t.place.toList,x∈(t.put j).1.place.toList:=λx r=>(i x).mpr (.inr r);let m:(t.place.toList.take (SetTable.below t.place j)).length=(a.take (SetTable.below t.place j)).length:=by rw [bD,bD,aM,B]
  rw [c,List.zip_append m,gE,aJ,aL] at s;let n:q∈(t.place.toList.take (SetTable.below t.place j)).zip (a.take (SetTable.below t.place j))\/q∈(t.place.toList.drop (SetTable.below t.place j)).zip (a.drop (SetTable.below t.place j))->q∈t.place.toList.zip a:=by
   let e:=List.zip_append (l₁ :=t.place.toList.take (SetTable.below t.place j)) (l₂ :=a.take (SetTable.below t.place j)) (r₁ :=t.place.toList.drop (SetTable.below t.place j)) (r₂ :=a.drop (SetTable.below t.place j)) m;rw [dY,dY] at e;rw [e,aJ];exact id
  rcases s with z | z | z
  .exact (T.way q (n (.inl z))).mono sub
  .subst z;exact w.mono sub
  .exact (T.way q (n (.inr z))).mono sub
structure Ow(m:Nat)(js:List Nat)(hs:List Int)(ow:Array (Option Nat)):Prop where
 size:ow.size=m+1
 len:js.length=hs.length
 nd:js.Nodup
 inm:∀j∈js,j<=m
 fw:∀(k j:Nat),js[k]? = some j->ow[j]? = some (some k)
 bw:∀(k j:Nat),ow[j]? = some (some k)->js[k]? = some j
 way:∀q∈js.zip hs,Way m js q.1 q.2
theorem Ow.none{m:Nat}(O:Ow m d f b){j:Nat}(n:j<=m):(b.getD j (some 0)).isNone=true↔j∉d:=by
 let g:j<b.size:=by rw [O.size];lia
 let c:b[j]? = some b[j]:=bC g;let i:b.getD j (some 0)=b[j]:=by rw [cL,c];rfl
 rw [i];constructor
 .intro h z;let⟨k,l,e⟩:=bJ z;let:=O.fw k j (by rw [aC l,e]);rw [c] at this;cases a:b[j] with
  | none=>rw [a] at this;cases this
  | some k=>rw [a] at h;cases h
 .intro h;cases a:b[j] with
  | none=>rfl
  | some k=>rw [a] at c;exact absurd (aN (O.bw k j c)) h
theorem qRu{m:Nat}(O:Ow m a s e):∀(fuel:Nat) (p:SetTable.Probe),PrS m p->p.j=p.i->(∃L,L<fuel/\(leapN m L p).j∉a) ->
  ∃n,SetTable.layClean.free m e fuel p.i p.perturb=some (advN m n p).j/\(advN m n p).j∉a /\ ∀k,k<n->(advN m k p).j∈a
 | 0,p,_,_,⟨L,q,_⟩=>absurd q (fS _)
 | fuel+1,p,f,r,⟨L,q,he⟩=>by
  let w:=jd m p.i f.i;let t:=vK m p.i;let x:p.more=SetTable.runEnd m p.i - p.i:=by let:=f.j;lia
  let at':∀k,k<=p.more->(advN m k p).j=p.i+k:=λk b=>by rw [uN p.more rfl k b];show p.j+k=_;rw [r]
  unfold SetTable.layClean.free;cases hf:(List.range (SetTable.runEnd m p.i+1 - p.i)).find? (λk=>(e.getD (p.i+k) (some 0)).isNone) with
  | some k =>
   let⟨g,h,l⟩:=List.find?_range_eq_some.mp hf;let u:=bN.mp h;let b:k<=p.more:=by let:=vK m p.i;lia
   refine⟨k,by dsimp only;rw [at' k b],?_,λc v=>?_⟩
   .rw [at' k b];exact (O.none ∎).mp g
   .rw [at' c ∎];let:=l c v;by_cases z:p.i+c∈a
    .exact z
    .rw [(O.none ∎).mpr z] at this;cases this
  | none =>
   let all:∀k,k<=p.more->p.i+k∈a:=λk b=>by
    let:=List.find?_eq_none.mp hf k (bN.mpr (by let:=vK m p.i;lia));by_cases z:p.i+k∈a
    .exact z
    .exact absurd ((O.none ∎).mpr z) this
   dsimp only;let o:advN m (p.more+1) p=leapP m p:=by
    rw [qKp,uN p.more rfl p.more (aH _),je (by show p.more - p.more=0;lia)];rfl
   cases L with
   | zero=>exact absurd (by let:=all 0 (aX _);rw [gC,<-r] at this;exact this) he
   | succ L =>
    let⟨n,g,h,l⟩:=qRu O fuel (leapP m p) (uL f) rfl ⟨L,∎,he⟩;refine⟨p.more+1+n,?_,?_,λk b=>?_⟩
    .rw [xA,o];exact g
    .rw [xA,o];exact h
    .by_cases d:k<=p.more
     .rw [at' k d];exact all k d
     .rw [show k=p.more+1+(k - (p.more+1)) by lia,xA,o];exact l _ ∎
theorem qZx{m:Nat}(i:Cov m)(O:Ow m b u g)(few:b.length<=m)(h:Int):∃j,SetTable.layClean.free m g (SetTable.turns m) (SetTable.bits h%(m+1)) (SetTable.bits h)=some j/\Ow m (b ++ [j]) (u ++ [h]) (g.setIfInBounds j (some b.length)):=by
 let l:=uK m h;let f:∃e,e<=m/\e∉b:=by
  by_cases o:∀e,e<=m->e∈b
  .let p:(List.range (m+1)).length<=b.length:=dM List.nodup_range (λx a=>o x (by let:=bN.mp a;lia));rw [bQ] at p;lia
  .simp only [Classical.not_forall] at o;let⟨e,r,s⟩:=o;exact⟨e,r,s⟩
 let⟨e,r,s⟩:=f;let⟨L,_,G,_,D⟩:=qGc i l r;let⟨n,p,v,E⟩:=qRu O (SetTable.turns m) (za m h) l rfl ⟨L,by unfold SetTable.turns;lia,by rw [D];exact s⟩;let t:=(uM n l).jm;let F:Way m b (advN m n (za m h)).j h:=⟨n,rfl,E⟩;refine⟨_,p,?_⟩;generalize (advN m n (za m h)).j=j at *;let w:j<g.size:=by rw [O.size];lia
 refine⟨?_,?_,?_,?_,?_,?_,?_⟩
 .rw [Array.size_setIfInBounds];exact O.size
 .rw [aG,aG,O.len];rfl
 .exact cG.mpr ⟨O.nd,∅,by intro x a y A;simp at A;subst A;intro e;subst e;exact v a⟩
 .intro x a;rcases aJ.mp a with z | z
  .exact O.inm x z
  .simp at z;subst z;exact t
 .intro k x c;rcases Nat.lt_or_ge k b.length with z | z
  .rw [dO z] at c;let a:x≠j:=λe=>v (e▸aN c);rw [Array.getElem?_setIfInBounds_ne (cP a)];exact O.fw k x c
  .rw [cZ z] at c;cases B:k - b.length with
   | zero =>
    rw [B] at c;simp at c;subst c;rw [iB w,show k=b.length by lia]
   | succ d=>rw [B] at c;simp at c
 .intro k x a;by_cases e:x=j
  .subst e;rw [iB w] at a;cases a;rw [cZ (aH _)];simp
  .rw [Array.getElem?_setIfInBounds_ne (cP e)] at a;let:=O.bw k x a;rw [dO (aI.mp this).1];exact this
 .intro q C;rw [List.zip_append O.len] at C;rcases aJ.mp C with z | z
  .exact (O.way q z).mono λx a=>bI _ a
  .simp at z;subst z;exact F.mono λx a=>bI _ a
theorem qN5{m:Nat}(f:Cov m):∀(gs:List Int) {c:List Nat} {i:List Int} {d:Array (Option Nat)},Ow m c i d->c.length+gs.length<=m+1 ->
  ∃a b,gs.foldl (λ(l:Option (Array (Option Nat)×Nat)) h=>do
   let (owner,k) <-l
   let j <-SetTable.layClean.free m owner (SetTable.turns m) (SetTable.bits h%(m+1)) (SetTable.bits h)
   pure (owner.setIfInBounds j (some k),k+1)) (some (d,c.length))=some (b,a.length)/\Ow m a (i++gs) b
 | [],c,i,d,O,_=>⟨c,d,rfl,by rw [cE];exact O⟩
 | g::gs,c,i,d,O,h=>by
  rw [cB] at h;let⟨j,e,p⟩:=qZx f O ∎ g;let⟨a,b,n,o⟩:=qN5 f gs p (by rw [aG,cQ];lia);refine⟨a,b,?_,by rw [dB] at o;exact o⟩;rw [List.foldl_cons];show List.foldl _ ((SetTable.layClean.free m d (SetTable.turns m) (SetTable.bits g%(m+1)) (SetTable.bits g)).bind λj=>some (d.setIfInBounds j (some c.length),c.length+1)) gs=_;rw [e];rw [aG,cQ] at n;exact n
theorem qZy(m:Nat):Ow m [] [] (Array.replicate (m+1) none):=by
 refine⟨Array.size_replicate,rfl,gY,λj a=>(by cases a),λk j e=>(by cases e),λk j e=>?_,λq b=>(by cases b)⟩;rw [Array.getElem?_replicate] at e;split at e <;> cases e
theorem qRe{m:Nat}(c:Cov m)(a:Array Int)(h:a.size<=m+1):∃d b,SetTable.layClean m a=some b/\Ow m d a.toList b:=by
 let⟨d,b,e,O⟩:=qN5 c a.toList (qZy m) (by rw [aM];simpa using h);refine⟨d,b,?_,by simpa using O⟩;unfold SetTable.layClean;rw [<-Array.foldl_toList];exact (congrArg (Option.map (·.1)) e)
theorem qUm(b:Array (Option Nat))(l:List Nat):((l.filterMap λj=>(b.getD j none).map (j,·)).map (·.1)).Sublist l:=by
 induction l with
 | nil=>exact .slnil
 | cons a r c =>
  rw [dE];cases b.getD a none with
  | none=>exact c.cons _
  | some k=>exact c.cons₂ a
theorem qUq{m f mv:Nat}{led pl:Bool}(B:Cov m)(J:m%2=1)(u:m<=127)(es:Array (Int×Value))(h:es.size<=m):∃t d,SetTable.laid m f mv led pl (es.map (·.1))=some (t,d)/\(d.filterMap (es[·]?)).toList.Perm es.toList/\Tab led t ((d.filterMap (es[·]?)).toList.map (·.1))/\t.plain=pl/\t.mask=m:=by
 let⟨w,C,e,O⟩:=qRe B (es.map (·.1)) (by rw [fO];lia);refine⟨_,_,by unfold SetTable.laid;rw [e];rfl,?_⟩;let D:w.length=es.size:=by let:=O.len;rw [this,aM,fO]
 let c:∀(j k:Nat),(j,k)∈((List.range (m+1)).filterMap λj=>(C.getD j none).map (j,·))↔w[k]? = some j:=by
  intro j k;rw [bU];constructor
  .rintro⟨x,p,q⟩;let⟨Z,g,R⟩:=Option.map_eq_some_iff.mp q;cases R;refine O.bw _ _ ?_;rw [cL] at g;cases z:C[j]? with
   | none=>rw [z] at g;cases g
   | some y=>rw [z] at g;simp at g;rw [g]
  .intro q;let H:=O.inm j (aN q);refine⟨j,bN.mpr ∎,?_⟩;rw [cL,O.fw k j q];rfl
 let K:(((List.range (m+1)).filterMap λj=>(C.getD j none).map (j,·)).map (·.1)).Pairwise (· < ·):=List.Pairwise.sublist (qUm C _) fT;generalize ((List.range (m+1)).filterMap λj=>(C.getD j none).map (j,·))=L at c K ⊢;let lt:∀q∈L,q.2<es.size:=λq n=>by
  let:=(c q.1 q.2).mp n;rw [<-D];exact (aI.mp this).1
 let M:L.Pairwise λa b=>a.1<b.1:=dJ.mp K;let N:(L.map (·.2)).Nodup:=by
  rw [List.Nodup,dJ];refine List.Pairwise.imp_of_mem (λ{a b} I S o z=>?_) M;let v:=(c a.1 a.2).mp I;let T:=(c b.1 b.2).mp S;rw [z,T] at v;let U:b.1=a.1:=bB v;rw [U] at o;exact eK _ o
 let Q:(L.map (·.2)).Perm (List.range es.size):=by
  refine (List.perm_ext_iff_of_nodup N List.nodup_range).mpr λk=>?_;rw [bN];constructor
  .intro A;let⟨q,n,rfl⟩:=aY.mp A;exact lt q n
  .intro A;let H:w[k]? = some (w[k]'(by lia)):=aC _;exact aY.mpr ⟨_,(c _ _).mpr H,rfl⟩
 let P:(((L.map (·.2)).toArray).filterMap (es[·]?)).toList=(L.map (·.2)).filterMap (es[·]?):=by simp
 let E:∀(l:List (Nat×Nat)),(∀q∈l,q.2<es.size)->((l.map (·.2)).filterMap (es[·]?)).map (·.1)=l.map λq=>((es[q.2]?).map (·.1)).getD 0:=by
  intro l
  induction l with
  | nil=>intro _;rfl
  | cons q r V =>
   intro n;let v:es[q.2]? = some (es[q.2]'(n q ∅)):=bC _;rw [bE,dE,v,bE,bE,V λx p=>n x (by simp [p]),v];rfl
 rw [P];refine⟨?_,?_,rfl,rfl⟩
 .refine (Q.filterMap _).trans ?_;rw [filterMap_getElem?_range]
 .rw [E L lt];let W:L.length=es.size:=by let:=Q.length_eq;rw [aB,bQ] at this;exact this
  let s:∀x,x∈w↔x∈L.map (·.1):=λx=>by
   constructor
   .intro p;let⟨k,A,X⟩:=bJ p;exact aY.mpr ⟨(x,k),(c _ _).mpr (by rw [aC A,X]),rfl⟩
   .intro p;let⟨q,n,rfl⟩:=aY.mp p;exact aN ((c q.1 q.2).mp n)
  refine⟨K,rfl,rfl,B,J,u,?_,?_,?_,?_⟩
  .show (L.map (·.1)).toArray.size=_;rw [aR,aB,aB]
  .show (L.map (·.1)).toArray.size<=m;rw [aR,aB,W];exact h
  .intro j H;exact O.inm j ((s j).mpr H)
  .intro q n;let F:q∈(L.map (·.1)).zip (L.map λq=>((es[q.2]?).map (·.1)).getD 0):=n;rw [List.zip_map,aY] at F;obtain⟨⟨a,b⟩,o,rfl⟩:=F;let G:a=b/\a∈L:=by
    let⟨i,hi,e⟩:=bJ o;rw [List.getElem_zip] at e;cases e;exact⟨rfl,dQ _⟩
   let⟨rfl,I⟩:=G;let A:=(c a.1 a.2).mp I;let v:es[a.2]? = some (es[a.2]'(lt a I)):=bC _;let Y:(a.1,((es[a.2]?).map (·.1)).getD 0)∈w.zip (es.map (·.1)).toList:=by
    refine aN (i:=a.2) ?_;rw [gK];refine⟨A,?_⟩;rw [bA,Array.getElem?_map,v];rfl
   exact (O.way _ Y).mono λx p=>(s x).mp p
noncomputable abbrev hT(P:Program)(w:World)(ks:List Int):Int:=(tupleKind (intKind P w)).hash ks
abbrev IsT(P:Program)(w:World)(h:Heap)(ks:List Int)(b:Addr):Prop:=(tupleKind (intKind P w)).is h ks b
noncomputable def entT(P:Program)(w:World)(q:Addr×List Int):Int×Value:=(hT P w q.2,Value.ref q.1)
theorem Tab.fits'{b:Bool}{t:SetTable}{es:Array (Int×Value)}(T:Tab b t (es.toList.map (·.1))):t.fits es.size=true:=by
 let:=T.good.fits;rw [aB,aM] at this;exact this
theorem qIr(n:Nat)(h:carriedByValue v=true):ofAClassStatement n v=pure false:=by
 cases v <;> first | (cases h;done) | (unfold ofAClassStatement;rfl) | rfl
theorem qGl(i:IsT P w s.heap ks b)(h:Q false s):wpAny (model P w) A (ofAClassStatement 8 (.ref b)) Q E s:=by
 let d:IsTupleKey (intKind P w) s.heap ks b:=i;let hT:=d.typeIs;let⟨o,c,n,j,_,k,l⟩:=d;unfold ofAClassStatement;refine aA (wpAny_typeOf hT ?_);dsimp only;rw [if_pos ⋯];refine aA (aD ?_);rw [if_neg ⋯];refine aA (wpAny_seqItems j k ?_);dsimp only;refine aA ?_;show wpAny _ _ (forIn c _ _) _ _ s;rw [<-Array.forIn_toList];refine wpAny_forIn_list _ (λrest r e=>r.1=none/\e=s /\ ∀v∈rest,carriedByValue v=true) _ ?_ ?_ _ _ ⟨rfl,rfl,l.byValue⟩
 .rintro v rest r e ⟨f,rfl,a⟩;rw [qIr _ (a v aV)];refine aA (aD ?_);rw [if_neg ⋯];exact aD ⟨rfl,rfl,λu g=>a u (aS _ g)⟩
 .rintro⟨m,p⟩ e ⟨f,rfl,_⟩;simp only at f;subst f;exact aD h
theorem qT5(g:IsT P w s.heap x b)(l:List Value)(i:∀v∈l,∃(q:Addr×List Int),v = .ref q.1/\IsT P w s.heap q.2 q.1)(q:Q false s):wpAny (model P w) A (searchCouldBeSeen (.ref b) l) Q E s:=by
 unfold searchCouldBeSeen;refine aA ?_;refine wpAny_forIn_list _ (λrest r d=>r.1=none/\d=s /\ ∀v∈rest,∃(q:Addr×List Int),v = .ref q.1/\IsT P w s.heap q.2 q.1) _ ?_ ?_ _ _ ⟨rfl,rfl,i⟩
 .rintro v rest r d ⟨e,rfl,c⟩;let⟨q,rfl,h⟩:=c v aV;let a:=λu f=>c u (aS _ f);dsimp only;split
  .exact aD ⟨rfl,rfl,a⟩
  .refine aA ((tupleKind (intKind P w)).quiet g ?_);rw [if_neg ⋯];refine aA ((tupleKind (intKind P w)).quiet h ?_);rw [if_neg ⋯];refine aA (qGl g ?_);rw [if_neg ⋯];refine aA (qGl h ?_);rw [if_neg ⋯];exact aD ⟨rfl,rfl,a⟩
 .rintro⟨j,k⟩ d ⟨e,rfl,_⟩;simp only at e;subst e;exact aD q
theorem qFt{ep:Nat}{t:SetTable}{l:List (Addr×List Int)}(hu:(tupleKind (intKind P w)).room A)(Z:s.heap.get? a=some o)(hd:o.data = .set es ep t)(V:es.toList=l.map (entT P w))(T:Tab (!yD w) t (es.toList.map (·.1)))(hk:∀q∈l,IsT P w s.heap q.2 q.1)(hx:IsT P w s.heap ks b){N:Nat}(W:(advN t.mask N (za t.mask (hT P w ks))).j∉t.place.toList)(hb:∀k,k<N->(advN t.mask k (za t.mask (hT P w ks))).j∈t.place.toList)(a0:N<10*SetTable.turns t.mask)(r1:(∃q∈l,q.2=ks)->R (.there none) s)(r2:(∀q∈l,q.2≠ks)->R (.free (advN t.mask N (za t.mask (hT P w ks))).j false) s):∀(fuel n:Nat) (st:Option SetTable.Probe),n<=N->N - n<fuel->st.getD (t.probeStart (hT P w ks))=advN t.mask n (za t.mask (hT P w ks)) ->
   (∀(k i:Nat) (q:Addr×List Int),k<n->t.place[i]? = some (advN t.mask k (za t.mask (hT P w ks))).j->l[i]? = some q->q.2≠ks) ->
   wpAny (model P w) A (setSearchFrom a (.ref b) (hT P w ks) true fuel st) R E s
 | 0,n,st,_,C,_,_=>absurd C (fS _)
 | fuel+1,n,st,X,C,a1,a2=>by
  unfold setSearchFrom;refine aA (dA Z hd T.fits' ?_);dsimp only;rw [if_neg (by unfold SetTable.gaveWay;rw [T.odd];simp)];let⟨k,b2,L,hr⟩:=qH6 (f:=λi=>(es[i]?.map (·.1)).getD 0) (h:=hT P w ks) T.rise T.dm (10*SetTable.turns t.mask) (N - n) (advN t.mask n (za t.mask (hT P w ks))) (uM n (uK _ _)).dm ∎ (by rw [<-xA,show n+(N - n)=N by lia];exact W);let G:=T.fits';let u:∀(i:Nat) (q:Addr×List Int),l[i]? = some q->es[i]? = some (hT P w q.2,Value.ref q.1):=λi q p=>by
   rw [<-bA,V,aU,p];rfl
  let a3:l.length=t.place.size:=by
   rw [T.len,aB,V,aB]
  let M:∀m,m<k -> ∀(i:Nat) (q:Addr×List Int),t.place[i]? = some (advN t.mask (n+m) (za t.mask (hT P w ks))).j->l[i]? = some q->q.2≠ks:=by
   intro m H i q g p Y;let⟨r,y,hf⟩:=L m H;rw [<-xA] at y;let ei:i=r:=by
    let X:=wP T.rise g;let C:=wP T.rise y;rw [X] at C;injection C
   subst ei;rw [u i q p,Y] at hf;exact hf rfl
  let D:∀(m i:Nat) (q:Addr×List Int),m<n+k->t.place[i]? = some (advN t.mask m (za t.mask (hT P w ks))).j->l[i]? = some q->q.2≠ks:=by
   intro m i q H g p;by_cases a4:m<n
   .exact a2 m i q a4 g p
   .refine M (m - n) ∎ i q ?_ p;rw [show n+(m - n)=m by lia];exact g
  rw [a1];generalize O:t.probe _ (hT P w ks) (advN t.mask n (za t.mask (hT P w ks)))=mt;rw [<-xA] at hr;rcases hr with ⟨I,e⟩ | ⟨i,g,hf,e⟩
  .let H:mt=_:=O.symm.trans e;rw [H];dsimp only;let a5:n+k=N:=by
    rcases Nat.lt_or_ge (n+k) N with z | z
    .exact absurd (hb _ z) I
    .lia
   refine aD ?_;rw [a5];refine r2 λq p Y=>?_;let⟨i,g,eq⟩:=bJ p;let Q:l[i]? = some q:=by rw [aC g,eq]
   let⟨n',b3,a6⟩:=T.before (i:=i) (h:=hT P w ks) (by rw [aU,bA,u i q Q,Y];rfl) W;exact D n' i q ∎ a6 Q Y
  .let H:mt=_:=O.symm.trans e;rw [H];dsimp only;let a7:i<l.length:=by rw [a3];exact (fV.mp g).1
   obtain⟨q,p⟩:∃q,l[i]? = some q:=⟨_,aC a7⟩;let S:=aN p;let J:=u i q p
   let F:wpAny (model P w) A (do
     let equal <-holding [Value.ref q.1] (eqBool (Value.ref q.1) (Value.ref b))
     let x <-setState a
     if (true&&equal)=true then pure (SetFound.there none)
      else
       match x.2.snd.sameMemory t.moves t.mask with
       | some same =>
        match if same=true then x.2.snd.slot (advN t.mask (n+k) (za t.mask (hT P w ks))).j else SetTable.Slot.empty with
        | SetTable.Slot.live r =>
         match x.fst[r]? with
         | some (fst,y')=>do
          let d <-isSame y' (Value.ref q.1)
          let c <-pure (if d=true then some r else none)
          match c with
           | none=>do
            rule "set.search.anew"
            setSearchFrom a (Value.ref b) (hT P w ks) true fuel none
           | some r =>
            if equal=true then pure (SetFound.there (some r))
            else setSearchFrom a (Value.ref b) (hT P w ks) true fuel (some (advN t.mask (k+1) (advN t.mask n (za t.mask (hT P w ks)))))
         | none=>do
          let c <-pure none
          match c with
           | none=>do
            rule "set.search.anew"
            setSearchFrom a (Value.ref b) (hT P w ks) true fuel none
           | some r =>
            if equal=true then pure (SetFound.there (some r))
            else setSearchFrom a (Value.ref b) (hT P w ks) true fuel (some (advN t.mask (k+1) (advN t.mask n (za t.mask (hT P w ks)))))
        | x=>do
         let c <-pure none
         match c with
          | none=>do
           rule "set.search.anew"
           setSearchFrom a (Value.ref b) (hT P w ks) true fuel none
          | some r =>
           if equal=true then pure (SetFound.there (some r))
           else setSearchFrom a (Value.ref b) (hT P w ks) true fuel (some (advN t.mask (k+1) (advN t.mask n (za t.mask (hT P w ks)))))
       | x=>unsupported "set.changed-during-lookup:is-the-new-block-at-the-old-address") R E s:=by
    refine aA (bM ((tupleKind (intKind P w)).eqBool hu (hk q S) hx ?_));refine aA (dA Z hd G ?_);by_cases B:q.2=ks
    .rw [decide_eq_true B];exact aD (r1 ⟨q,S,B⟩)
    .rw [decide_eq_false B];let a8:t.sameMemory t.moves t.mask=some true:=by unfold SetTable.sameMemory;simp
     dsimp only;rw [a8];dsimp only;rw [if_neg ⋯,if_pos rfl,wP T.rise g];dsimp only;rw [J];dsimp only;refine aA (wpAny_isSame_ref_self (aA (aD ?_)));let b4:n+k<N:=by
      rcases Nat.lt_or_ge (n+k) N with z | z
      .exact z
      .let z2:n+k=N:=by lia
       rw [z2] at g;exact absurd (by rw [<-bA] at g;exact aN g) W
     refine qFt hu Z hd V T hk hx W hb a0 r1 r2 fuel (n+k+1) _ ∎ ∎ ?_ ?_
     .show advN t.mask (k+1) (advN t.mask n _)=_;rw [<-xA];rfl
     .intro m r q' H y K;rcases Nat.lt_or_ge m (n+k) with z | z
      .exact D m r q' z y K
      .let z2:m=n+k:=by lia
       subst z2;let X:=wP T.rise g;let C:=wP T.rise y;rw [X] at C;injection C with h3
       subst h3;rw [p] at K;cases K;exact B
   split
   .refine aA (qT5 hx _ (λv hv=>?_) ?_)
    .let⟨e1,a9,rfl⟩:=aY.mp hv;let b0:=(Array.mem_filter.mp (Array.mem_toList_iff.mp a9)).1;let U:e1∈es.toList:=Array.mem_toList_iff.mpr b0;rw [V] at U;let⟨q1,b1,rfl⟩:=aY.mp U;exact⟨q1,rfl,hk q1 b1⟩
    .rw [if_neg ⋯,J];exact F
   .rw [J];exact F
def Rm(t:SetTable):Prop:=(t.mask=7\/t.mask=31\/t.mask=127)/\t.place.size*5<t.mask*3
def STup(P:Program)(w:World)(h:Heap)(a:Addr)(ps:List (Addr×List Int)):Prop :=
 ∃o es ep t qs,h.get? a=some o/\o.ExactSet/\o.data = .set es ep t/\List.Perm qs ps/\es.toList=qs.map (entT P w)/\(ps.map (·.2)).Nodup/\Tab (!yD w) t (es.toList.map (·.1))/\Rm t
theorem STup.stay(S:STup P w h a b)(k:∀o,h.get? a=some o->h'.get? a=some o):STup P w h' a b:=by
 let⟨o,c,d,t,f,e,r⟩:=S;exact⟨o,c,d,t,f,k o e,r⟩
theorem qK7{k:Int}(h:(intKind P w).is k v=true):∃n t,v=Value.int n t:=by
 let a:Value.isInt k v=true:=h;cases v <;> first | exact⟨_,_,rfl⟩ | (cases a;done) | simp [Value.isInt] at a
theorem jf{α β : Type}{f : α -> β}{l:List β}{c:List α}(h:l.Perm (c.map f)):∃g,List.Perm g c/\l=g.map f:=by
 generalize e:c.map f=m at h
 induction h generalizing c with
 | nil=>cases c with
  | nil=>exact⟨[],.refl _,rfl⟩
  | cons a r=>cases e
 | cons x p s =>
  cases c with
  | nil=>cases e
  | cons a r =>
   rw [bE] at e;injection e with i d
   let⟨q,t,u⟩:=s d;exact⟨a::q,t.cons a,by rw [bE,<-u,i]⟩
 | swap x y l =>
  cases c with
  | nil=>cases e
  | cons a r =>
   cases r with
   | nil=>cases e
   | cons b r =>
    rw [bE,bE] at e;injection e with i d
    injection d with d v
    exact⟨b::a::r,.swap a b r,by rw [bE,bE,i,d,v]⟩
 | trans p1 p2 j k =>
  let⟨z,n,d⟩:=k e;let⟨w,o,i⟩:=j d.symm;exact⟨w,o.trans n,i⟩
noncomputable def addT(ps:List (Addr×List Int))(b:Addr)(ks:List Int):List (Addr×List Int):=if ks∈ps.map (·.2) then ps else ps ++ [(b,ks)]
theorem qKs(i:IsT P w s.heap ks b)(h:Q true s):wpAny (model P w) A (hashByValue 8 (.ref b)) Q E s:=by
 let d:IsTupleKey (intKind P w) s.heap ks b:=i;let hT:=d.typeIs;let⟨o,a,n,j,_,k,l⟩:=d;unfold hashByValue;refine aA (wpAny_specialOf hT F.slot_tuple_hash.lookup ?_);show wpAny _ _ (seqItems? (Value.ref b) >>= _) _ _ s;refine aA (wpAny_seqItems j k ?_);refine aA ?_;show wpAny _ _ (forIn a _ _) _ _ s;rw [<-Array.forIn_toList];let c:∀v∈a.toList,∃n t,v=Value.int n t:=by
  clear k j i hT;generalize a.toList=q at l
  induction l with
  | nil=>intro v hv;cases hv
  | cons m _ p =>
   intro v hv;rcases aL.mp hv with rfl | hv
   .exact qK7 m
   .exact p v hv
 refine wpAny_forIn_list _ (λrest r e=>r.1=none/\e=s /\ ∀v∈rest,∃n t,v=Value.int n t) _ ?_ ?_ _ _ ⟨rfl,rfl,c⟩
 .rintro v rest r e ⟨f,rfl,c⟩;let⟨n,t,rfl⟩:=c v aV;rw [hashByValue_scannable 7 (x :=.int n t) rfl];refine aA (aD ?_);rw [if_neg (by unfold plainKind;simp)];exact aD ⟨rfl,rfl,λu g=>c u (aS _ g)⟩
 .rintro⟨y,z⟩ e ⟨f,rfl,_⟩;simp only at f;subst f;exact aD h
theorem sizes:SetTable.sizeAbove 20=32/\SetTable.sizeAbove 76=128:=by decide +kernel
theorem qSr{ep:Nat}{t c:SetTable}(L:s.heap.get? a=some o)(v:o.ExactSet)(hd:o.data = .set es ep t)(hz:b.size=es.size+1)(M:c.mask=7\/c.mask=31\/c.mask=127)(few:b.size<=76)(p:es.size*5<c.mask*3)(N:List.Perm j q)(O:b.toList=j.map (entT P w))(Q:(q.map (·.2)).Nodup)(T:Tab (!yD w) c (b.toList.map (·.1)))(h:∀h',Heap.SameBut a s.heap h'->STup P w h' a q->R true { s with heap:=h' }):wpAny (model P w) A (do
    storeSet a b c
    if (!false&&c.tooFull)=true then do
      setRelay a (SetTable.grown (es.size+1))
      pure true
     else pure true) R E s:=by
 let S:b.size<scanBound:=gB few ⋯;refine aA (wpAny_storeSet_of L hd ?_ (gU S));let x:=cW (Obj.putSet b c) L (by rw [putSet_of b c hd];rfl);rw [putSet_of b c hd] at x;let U:=bW s.heap a (Obj.putSet b c);let y:c.place.size=b.size:=by rw [T.len,aB,aM]
 let d:c.tooFull=decide (b.size*5>=c.mask*3):=by
  unfold SetTable.tooFull SetTable.fill;rw [T.dm,y];rfl
 split
 .rename_i B;let k:b.size*5>=c.mask*3:=by rw [d] at B;simpa using B
  let W:∃m,SetTable.sizeAbove (SetTable.grown (es.size+1)) - 1=m/\SetTable.sizeAbove (SetTable.grown (es.size+1))<=128/\Cov m/\m%2=1/\m<=127/\b.size<=m/\(m=7\/m=31\/m=127)/\b.size*5<m*3:=by
   rcases M with z | z | z
   .let e:es.size+1=5:=by rw [z] at k p;lia
    rw [e,show SetTable.grown 5=20 from rfl,sizes.1];exact⟨31,rfl,⋯,cov31,rfl,⋯,∎,.inr (.inl rfl),∎⟩
   .let e:es.size+1=19:=by rw [z] at k p;lia
    rw [e,show SetTable.grown 19=76 from rfl,sizes.2];exact⟨127,rfl,⋯,wAk,rfl,⋯,∎,.inr (.inr rfl),∎⟩
   .rw [z] at k;lia
  let⟨m,em,V,J,K,r,C,X,u⟩:=W;refine aA ?_;unfold setRelay;refine aA (dA (s :={ s with heap:=s.heap.update a (Obj.putSet b c) }) x rfl T.fits' ?_);dsimp only;rw [if_neg (by rw [gH];lia)];unfold SetTable.relaid;rw [em];let⟨G,g,Y,H,I,_,D⟩:=qUq (f:=c.finger) (mv:=c.movedTo m) (led:=c.led) (pl:=c.plain) J K r b C;rw [Y];refine aA ?_;let l:(g.filterMap (b[·]?)).size=b.size:=by rw [<-aM,H.length_eq,aM]
  show wpAny _ _ (ite _ _ _) _ _ _;rw [if_neg (by rw [l];simp)];refine aD ?_;dsimp only;refine wpAny_storeSet_of (s :={ s with heap:=s.heap.update a (Obj.putSet b c) }) x rfl (aD ?_) (gU (by rw [l];exact S));refine h _ (U.trans (bW _ a _)) ?_;generalize g.filterMap (b[·]?)=i at H I l ⊢;let F:=cW (Obj.putSet i G) x (by rw [putSet_of i G rfl];rfl);rw [putSet_of i G rfl] at F;let:∃n,List.Perm n j/\i.toList=n.map (entT P w):=by
   rw [O] at H;exact jf H
  let⟨n,Z,e2⟩:=this;rw [T.led] at I;refine⟨_,i,_,G,n,F,v,rfl,Z.trans N,e2,Q,I,by rw [D];exact X,?_⟩;rw [D,I.len,aB,aM,l];exact u
 .rename_i B;let k : ¬b.size*5>=c.mask*3:=by rw [d] at B;simpa using B
  exact aD (h _ U ⟨_,b,_,c,j,x,v,rfl,N,O,Q,T,M,by rw [y];lia⟩)
theorem qYm(V:(tupleKind (intKind P w)).room A)(S:STup P w s.heap a d)(hk:∀q∈d,IsT P w s.heap q.2 q.1)(H:IsT P w s.heap ks b)(few:d.length<76)(h:∀(h':Heap) (tk:Nat),Heap.SameBut a s.heap h'->STup P w h' a (addT d b ks)->Q (!decide (ks∈d.map (·.2))) { s with heap:=h',toks:=tk }):wpAny (model P w) A (setAdd a (.ref b)) Q E s:=by
 unfold setAdd;refine bM (aA ((tupleKind (intKind P w)).pyHash V H ?_));let⟨o,m,ep,t,n,p,r,u,g,v,W,T,G⟩:=S;unfold setAddHashed setAddHashedIn;refine bM (aA (dA (s :={ s with toks:=s.toks+(tupleKind (intKind P w)).draws ks }) p u T.fits' ?_));dsimp only;rw [if_neg (by unfold byScan;simp [Value.scannable])];let I:∀q∈n,IsT P w s.heap q.2 q.1:=λq B=>hk q (g.mem_iff.mp B);let⟨N,C,X,Y⟩:=T.first (hT P w ks)
 let Z:=T.small;refine aA ?_;unfold setSearch;refine qFt (s :={ s with toks:=s.toks+(tupleKind (intKind P w)).draws ks }) V p u v T I H X Y C (λz=>?_) (λz=>?_) 100000 0 none (aX _) (by unfold SetTable.turns at C;lia) rfl (λk i q J=>absurd J (fS _))
 .dsimp only;let c:ks∈d.map (·.2):=by
   let⟨q,B,e⟩:=z;exact aY.mpr ⟨q,g.mem_iff.mp B,e⟩
  refine aD ?_;let q:=h s.heap (s.toks+(tupleKind (intKind P w)).draws ks) (Heap.SameBut.refl a s.heap) ⟨o,m,ep,t,n,p,r,u,by unfold addT;rw [if_pos c];exact g,v,by unfold addT;rw [if_pos c];exact W,T,G⟩;rw [decide_eq_true c] at q;exact q
 .dsimp only;let c:ks∉d.map (·.2):=λZ=>by
   let⟨q,B,e⟩:=aY.mp Z;exact z q (g.mem_iff.mpr B) e
  refine aA (dA (s :={ s with toks:=s.toks+(tupleKind (intKind P w)).draws ks }) p u T.fits' ?_);dsimp only;let D:t.place.size=d.length:=by rw [T.len,aB,v,aB,g.length_eq]
  let K:m.size=d.length:=by rw [<-aM,v,aB,g.length_eq]
  let l:t.place.size<t.mask:=by let:=G.2;lia
  let⟨T2,e2,_,F⟩:=T.put X Y l;rw [e2];generalize (advN t.mask N (za t.mask (hT P w ks))).j=j at *;generalize SetTable.below t.place j=i at *;let L:(SetTable.insertAt m i ((tupleKind (intKind P w)).hash ks,Value.ref b)).toList=(n.take i++(b,ks)::n.drop i).map (entT P w):=by
   rw [gT,v,aP,bE,List.map_take,List.map_drop];rfl
  let hz:(SetTable.insertAt m i ((tupleKind (intKind P w)).hash ks,Value.ref b)).size=m.size+1:=by
   rw [<-aM,(SetTable.insertAt_perm ..).length_eq,aM,Array.size_push]
  let M:List.Perm (n.take i++(b,ks)::n.drop i) (addT d b ks):=by
   unfold addT;rw [if_neg c];refine List.perm_middle.trans ?_;rw [dY];exact (g.cons _).trans (List.perm_append_singleton _ _).symm
  let O:((addT d b ks).map (·.2)).Nodup:=by
   unfold addT;rw [if_neg c,aP];exact cG.mpr ⟨W,∅,by intro x U y hy;simp at hy;subst hy;intro e;subst e;exact c U⟩
  let T3:Tab (!yD w) (t.put j).1 ((SetTable.insertAt m i ((tupleKind (intKind P w)).hash ks,Value.ref b)).toList.map (·.1)):=by
   rw [gT,aP,bE,List.map_take,List.map_drop];exact T2
  let fin:∀h',Heap.SameBut a s.heap h'->STup P w h' a (addT d b ks)->Q true { s with heap:=h',toks:=s.toks+(tupleKind (intKind P w)).draws ks }:=λh' sb S'=>by
   let q:=h h' (s.toks+(tupleKind (intKind P w)).draws ks) sb S';rw [decide_eq_false c] at q;exact q
  let f:=qSr (P:=P) (w:=w) (A:=A) (E:=E) (s :={ s with toks:=s.toks+(tupleKind (intKind P w)).draws ks }) (R:=Q) p r u hz (by rw [F];exact G.1) (by rw [hz];lia) (by rw [F,K,<-D];exact G.2) M L O T3 fin;split
  .refine aA (qKs (s :={ s with toks:=s.toks+(tupleKind (intKind P w)).draws ks }) H ?_);exact f
  .refine aA (aD ?_);exact f
section
variable{P:Program}{w:World}{A:Around}{E:Value->Shared->Prop}{s:Shared}
theorem qIh(h:ItemsAre (intKind P w) ks vs):IntsAre vs ks:=by
 induction h with
 | nil=>exact .nil
 | @cons k v ks vs a _ b =>
  let⟨n,t,rfl⟩:=qK7 a;let:k=n:=(intKind P w).inj _ _ _ a (intKind_is P w n t);subst this;exact .cons k t b
theorem qT3{us:List Value}{n:Nat}(d:s.heap.get? a=some (seqObj "list" us.toArray n))(i:us.length<2)
  (h:∀(h':Heap) (c:Nat),(∀b o,b≠a->s.heap.get? b=some o->h'.get? b=some o)->h'.get? a=some (seqObj "list" us.toArray c)->R (.done (.ret .none)) { s with heap:=h' }) :
  wpAny (model P w) A (Builtin.«list.sort» ⟨[.ref a],[]⟩) R E s:=by
 let q:a<s.heap.objs.size:=aT d;let f:us.length<=sizeLine:=by rw [gH];lia
 rw [list_sort_plain];obtain⟨j,m⟩:∃j,(s.heap.update a (Obj.mapSeq λ_ => #[])).get? a=some (seqObj "list" #[] j):=⟨_,dP d λ_ => #[]⟩;refine aA (listItems_at d rfl (aA (fK d rfl (aA (iO m rfl (aA (wpAny_newTuple (aA (fJ (bM ?_) (aX _))) (by show us.length<=_;exact f))))) (by rw [aR];exact f) (aX _))));dsimp only;let p:∀b o,b≠a->s.heap.get? b=some o->(((s.heap.update a (Obj.mapSeq λ_=>(#[]:Array Value))).push (seqObj "tuple" us.toArray 0)).push (seqObj "list" #[] 0)).get? b=some o:=λb o g e=>aE _ (aE _ ((bO _ _ (cP g)).trans e))
 let k:(((s.heap.update a (Obj.mapSeq λ_=>(#[]:Array Value))).push (seqObj "tuple" us.toArray 0)).push (seqObj "list" #[] 0)).get? a=some (seqObj "list" #[] j):=aE _ (aE _ m);rw [if_pos (by rw [aR];exact i),if_pos (by rw [aR];exact i)];refine aA (aD ?_);rw [StateT.run_pure];refine aA (aD ?_);dsimp only;let l:Array.map (λx:Keyed=>x.snd) (arrOf (SortSt.mk' general' (us.toArray.zip us.toArray) #[] 7 none))=us.toArray:=by
  show Array.map (λx:Keyed=>x.snd) (us.toArray.zip us.toArray)=us.toArray
  match us,i with
  | [],_=>simp
  | [v],_=>simp
 rw [l];refine aA (iO k rfl (aA (fK k rfl ?_ (hsz2:=by show us.toArray.size<=_;rw [aR];first | exact f | exact Nat.le_succ_of_le f))));simp only [bne_self_eq_false,bV,if_false];refine aD (h _ _ (λb o g e=>?_) (dP k λ_=>us.toArray));rw [fQ _ _ _ _ g];exact p b o g e
theorem jg{n:Nat}(g:h.get? a=some (seqObj "list" its n))(k:∀b u,b≠a->h.get? b=some u->h'.get? b=some u):∀ {us:List Value} {ts:List (List Int)},Srt.TupAt h us ts->Srt.TupAt h' us ts
 | _,_,.nil =>.nil
 | _,_,.cons ⟨b,o,xs,m,e,d,c,f,i⟩ r =>.cons ⟨b,o,xs,m,e,k b o (λz=>by
   subst z;rw [g] at d;cases d;revert c;show Value.type "list" = Value.type "tuple" -> False;intro c;injection c with c
   revert c
   decide) d,c,f,i⟩ (jg g k r)
theorem qPj{n:Nat}(f:s.heap.get? a=some (seqObj "list" us.toArray n))(hT:Srt.TupAt s.heap us ts)(m:∀t∈ts,t ≠ [])(hz:us.length<=sizeLine)
  (h:∀(h':Heap) (c:Nat) (q:List Nat),(∀b o,b≠a->s.heap.get? b=some o->h'.get? b=some o)->q.Perm (List.range us.length)->(q.map λi=>ts.getD i []).Pairwise (λx y=>HT.lexLt y x=false)->h'.get? a=some (seqObj "list" (q.map λi=>us.getD i Value.none).toArray c)->R (.done (.ret .none)) { s with heap:=h' }) :
  wpAny (model P w) A (Builtin.«list.sort» ⟨[.ref a],[]⟩) R (λ_ _=>False) s:=by
 let r:us.length=ts.length:=dD hT;by_cases z:us.length<2
 .refine qT3 f z λh' c k g=>h h' c (List.range us.length) k (.refl _) ?_ ?_
  .match us,ts,z,r with
   | [],[],_,_=>exact .nil
   | [_],[_],_,_=>exact List.pairwise_singleton _ _
  .let e:(List.range us.length).map (λi=>us.getD i Value.none)=us:=by
    match us,z with
    | [],_=>rfl
    | [v],_=>rfl
   rw [e];exact g
 .refine qMk (κ :=tuples' (Value.type "int" != Value.type "tuple")) (Srt.lex_ord ts) f ∎ hz (λh' R k M=>?_) (λh' k i j s' C G H N O=>?_) λh' c p k d Q g=>h h' c p.toList k d ?_ g
  .let⟨fs,S,U,B⟩:=(jg f k hT).firsts m;refine PySem.W.kat_kind (T :=.type "int") (fs:=fs) S ∎ (λv V=>?_) rfl M;let⟨i,t,rfl⟩:=B v V;exact PySem.W.Looks.of_pure rfl
  .subst N;let l:=jg f k hT;let⟨a1,o1,X,k1,Y,Z,b3,I⟩:=l.get i ∎;let⟨a2,o2,a0,k2,c1,c2,c3,J⟩:=l.get j ∎;unfold PySem.W.kas_cmp;rw [gX rfl,gX rfl,Y,c1]
   exact PySem.W.kat_lt (s :={ s with heap:=h' }) Z b3 c2 c3 (Srt.katlex I J (by
    let K:=I.length;let L:=J.length;simp only [aM] at K L
    rw [K,L]) (O _ rfl))
  .rw [bL];intro i j G H D;let hp:p.toList.length=us.length:=by rw [d.length_eq,bQ]
   let E:j<p.size:=by simpa using H
   let F:i<p.size:=by simpa using G
   let u:=Q i j (bS D) (by simp at hp;lia);let g1:Srt.at' p (0+i)=p[i]:=by simp [Srt.at',Array.getD,F]
   let f:Srt.at' p (0+j)=p[j]:=by simp [Srt.at',Array.getD,E]
   rw [g1,f] at u;simpa using u
theorem STup.len(S:STup P w h a b):b.length<128:=by
 let⟨o,e,f,t,g,_,_,_,c,d,_,T,R⟩:=S;let i:t.place.size=b.length:=by rw [T.len,aB,d,aB,c.length_eq]
 let:=T.small;let:=R.2;lia
theorem qKw(hh:A.handled=none)(S:STup P w s.heap a B)(hk:∀q∈B,IsT P w s.heap q.2 q.1)(J:∀q∈B,q.2 ≠ [])
  (h:∀(D:Addr) (f:List (Addr×List Int)) (c:Nat) (h':Heap) (d:Drawn) (tk:Nat),s.heap.objs.size<=D->f.Perm B->(f.map (·.2)).Pairwise (λx y=>HT.lexLt y x=false)->h'.get? D=some (seqObj "list" (f.map λq=>Value.ref q.1).toArray c)->(∀b u,s.heap.get? b=some u->h'.get? b=some u)->Q (.ref D) { s with heap:=h',drawn:=d,toks:=tk }) :
  wpAny (model P w) A (call (.builtin "sorted") [.ref a]) Q E s:=by
 let a0:=S.len;refine gI kind_sorted plain_sorted entry_sorted (args_sorted1 _) ?_;unfold Builtin.«sorted»;refine aA (m:=checkCount "sorted" 1 1 _) (aD ?_);let⟨o,K,ep,t,qs,ho,L,hd,Y,Z,hn,T,R⟩:=S;let a1:K.size=B.length:=by rw [<-aM,Z,aB,Y.length_eq]
 let hg:GoodT (!yD w) t K.size:=by let:=T.good;rw [aB,aM] at this;exact this
 refine aA (qFb (A:=A.in1) hh ho L hd (by show K.size<4096;lia) hg λM h' d tk k N G=>?_);rw [Z] at G;let⟨f,pr,er⟩:=jf G;let p:f.Perm B:=pr.trans Y;let ev:M.map (·.2)=f.map λq=>Value.ref q.1:=by rw [er,cU];rfl
 rw [ev];let O:(f.map λq=>Value.ref q.1).length=B.length:=by rw [aB,p.length_eq]
 let hz:(f.map λq=>Value.ref q.1).length<=sizeLine:=by rw [O,gH];lia
 refine aA (fJ ?_ hz);let H:(h'.push (seqObj "list" (f.map λq=>Value.ref q.1).toArray 0)).get? h'.objs.size=some (seqObj "list" (f.map λq=>Value.ref q.1).toArray 0):=aW _ rfl;let kk:∀b u,s.heap.get? b=some u->(h'.push (seqObj "list" (f.map λq=>Value.ref q.1).toArray 0)).get? b=some u:=λb u e=>aE _ (k b u e);let U:Srt.TupAt (h'.push (seqObj "list" (f.map λq=>Value.ref q.1).toArray 0)) (f.map λq=>Value.ref q.1) (f.map (·.2)):=by
  let key:∀l:List (Addr×List Int),(∀q∈l,IsT P w s.heap q.2 q.1)->Srt.TupAt (h'.push (seqObj "list" (f.map λq=>Value.ref q.1).toArray 0)) (l.map λq=>Value.ref q.1) (l.map (·.2)):=by
   intro l
   induction l with
   | nil=>intro _;exact .nil
   | cons q r ih =>
    intro F;let⟨o,V,n,W,I,e3,e4⟩:=(show IsTupleKey (intKind P w) s.heap q.2 q.1 from F q ∅);exact .cons ⟨q.1,o,V,n,rfl,kk _ _ W,I,e3,qIh e4⟩ (ih λx hx=>F x (by simp [hx]))
  exact key f λq F=>hk q (p.mem_iff.mp F)
 refine aA (bM (cH slot_list_sort (s :={ s with heap:=h'.push (seqObj "list" (f.map λq=>Value.ref q.1).toArray 0),drawn:=d,toks:=tk }) ⟨_,H,rfl⟩ entry_list_sort (cX (qPj H U (λt ht=>by
   let⟨q,F,rfl⟩:=aY.mp ht
   exact J q (p.mem_iff.mp F)) hz λh2 c C k2 pq up g=>?_) (λ_ _ z=>z) λ_ _ z=>z.elim) (args_list_sort _)))
 let X:(C.map λi=>f.getD i (0,[])).Perm f:=by
  let e:=pq.map λi=>f.getD i (0,[]);rw [aB] at e;let I:(List.range f.length).map (λi=>f.getD i (0,[]))=f:=by
   refine List.ext_getElem? λi=>?_;rw [aU];by_cases j:i<f.length
   .rw [List.getElem?_range j,aC j];simp [bF,j]
   .rw [dF (by simpa using j),dF (by simpa using j)];rfl
  rw [I] at e;exact e
 let v:∀i∈C,i<f.length:=λi j=>by let:=bN.mp (pq.mem_iff.mp j);rw [aB] at this;exact this
 let W:(C.map λi=>f.getD i (0,[])).map (·.2)=C.map λi=>(f.map (·.2)).getD i []:=by
  rw [cU];refine iR λi j=>?_;simp [bF,v i j]
 let I:(C.map λi=>f.getD i (0,[])).map (λq=>Value.ref q.1)=C.map λi=>(f.map λq=>Value.ref q.1).getD i Value.none:=by
  rw [cU];refine iR λi j=>?_;simp [bF,v i j]
 refine⟨_,rfl,aD ⟨_,rfl,h h'.objs.size (C.map λi=>f.getD i (0,[])) c _ d tk N (X.trans p) (by rw [W];exact up) (by rw [I];exact g) λb u e=>k2 b u (aZ (aT (k b u e))) (kk b u e)⟩⟩
end
noncomputable def setTO(P:Program)(w:World)(ps:List (Addr×List Int)):HO :=.ext λa h=>STup P w h a ps
theorem qUc(e:h.get? a=some (newS w)):STup P w h a []:=⟨_,#[],0,_,[],e,⟨rfl,rfl,rfl⟩,rfl,.refl _,rfl,.nil,Tab.fresh 0 0,.inl rfl,(show 0*5<7*3 by decide)⟩
theorem qSl(e:A.units+1<cLine)(S:STup P w s.heap a c)(f:∀q∈c,IsT P w s.heap q.2 q.1)(g:IsT P w s.heap ks b)(few:c.length<76)
  (q:∀(h':Heap) (tk:Nat),Heap.SameBut a s.heap h'->STup P w h' a (addT c b ks)->Q .none { s with heap:=h',toks:=tk }):wpAny (model P w) A (call (.builtin "set.add") [.ref a,.ref b]) Q E s:=by
 let⟨o,_,_,_,_,h,d,_⟩:=id S;refine cH F.slot_set_add ⟨o,h,d.1⟩ F.entry_set_add ?_ (F.args_set_add_2 _ _);unfold Builtin.«set.add» Builtin.Frozenset.oneOther;simp only [List.isEmpty_nil,bind_assoc];unfold Builtin.Frozenset.addrOf;refine aA (aD ?_)
 try dsimp only
 refine aA (aD ?_)
 try dsimp only
 refine aA (qYm (dL e) S f g few λh' tk i j=>?_);show wpAny _ _ (ret Value.none) _ _ _;exact aD ⟨_,rfl,q h' tk i j⟩
section
variable{X:Cx}
variable{pins:List (Addr×Obj)}{σ : St}{H:Hp}{s:Shared}{a b:Addr}
theorem qMl{b:List (Addr×List Int)}(S:STup P w h a b):ObjOk c d H h a (setTO P w b):=by
 refine⟨S,?_,λg i f k=>f.stay k⟩;let⟨o,_,_,_,_,e,_⟩:=S;exact⟨o,e⟩
theorem Inv.sTup{b:List (Addr×List Int)}(I:Inv X pins σ H s)(e:H a=some (setTO P w b)):STup P w s.heap a b:=(I.hok a _ e).1
theorem qIg(h:IntsAre vs ks):ItemsAre (intKind P w) ks vs:=by
 induction h with
 | nil=>exact .nil
 | cons n t _ a=>exact .cons (intKind_is P w n t) a
theorem Inv.isT(I:Inv X pins σ H s)(h:SqT X.K H b (ks.map V.int)):IsT P w s.heap ks b:=by
 obtain⟨a,r,⟨o,e,c,n,d⟩,_⟩:=I.tuple h;refine⟨o,a.toArray,n,e,c,d,?_⟩;exact qIg (uh r)
theorem qVa:xk X (newSet (.type "set")) (setTO X.prog X.w []):=by
 intro pins s σ H E Q I h;refine qR7 (h _ _ (aH _) I.fresh (I.laid (t':=s.toks) (λb u e=>aE _ e) (aH _) (qMl (qUc (aW _ rfl)))) λb u e=>aE _ e)
def eAddT(P:Program)(w:World)(K:PySem.W.Frag)(te:TE)(l:Addr):TB:=λσ H Q=>te σ H λv H1 => ∃ps b ks,v = .ref b/\H1 l=some (setTO P w ps)/\(∀q∈ps,SqT K H1 q.1 (q.2.map V.int))/\SqT K H1 b (ks.map V.int)/\ps.length<76/\Q σ (upd H1 l (setTO P w (addT ps b ks)))
theorem qXf(P:Program)(w:World)(K:PySem.W.Frag)(g:X.prog=P)(hw:X.w=w)(i:X.K=K)(j:X.A.units+1<cLine)(k:PE X elt te):PB X (vt elt (.ref l) X.env) (eAddT P w K te l):=by
 subst hw g i;intro pins s σ H Q I h;refine aA (thn (k pins s σ H _ I h) λv u hq_=>?_);let⟨x,y,a,m,z,b,B,e,d,c,n,p,q⟩:=hq_;subst e;cases m;refine aA (dI (aA (qSl j (a.sTup d) (λq r=>a.isT (c q r)) (a.isT n) p λC tk t f=>aD ⟨σ,_,?_,q⟩)));refine xj (t':=tk) a (by rw [d];exact True.intro) t ?_ (qMl f);let⟨o,_,_,_,_,e,_⟩:=f;exact⟨o,e⟩
theorem qZq(own:List Str)(cap:List Nat)(P:Program)(w:World)(K:PySem.W.Frag)(b:X.prog=P)(hw:X.w=w)(c:X.K=K)(d:X.A.units+1<cLine)(e:X.calm=true)(S:CompScope X own cap scope)(hi:PI X tg iter wi)(f:∀a s H ex,PG (zQ X own cap scope a s H ex) tg g)(i:∀a s H ex,PTs (zQ X own cap scope a s H ex) ifs tts)(j:∀a s H ex,PE (zQ X own cap scope a s H ex) elt te)(k:∀x,foldedSetIterable iter X.env x=pure x:=by intro _;rfl):PE X (.SetComp elt [⟨tg,iter,ifs,0⟩] scope pos) (tComp own cap (setTO P w []) wi g tts (eAddT P w K te)):=by
 subst hw b c;intro pins s σ H Q I h;exact vV (behOf:=vt elt) e S rfl hi qVa (λ_ _ _ _ _=>qOk) f i (λa s H ex l=>qXf X.prog X.w X.K rfl rfl rfl d (j a s H ex)) k pins s σ H Q I h
def qX8(P:Program)(w:World)(K:PySem.W.Frag):List V->Hp->VK->Prop:=λxs H Q => ∃(a:Addr) (ps:List (Addr×List Int)),xs = [.ref a]/\H a=some (setTO P w ps)/\(∀q∈ps,SqT K H q.1 (q.2.map V.int)/\q.2 ≠ []) /\
 ∀(l:Addr) (rs:List (Addr×List Int)),H l=none->rs.Perm ps->(rs.map (·.2)).Pairwise (λx y=>HT.lexLt y x=false)->Q (.ref l) (upd H l (.lst (rs.map λq=>V.ref q.1)))
theorem qLz(n:X.A.handled=none):CallR X (.builtin "sorted") (qX8 X.prog X.w X.K):=by
 intro pins s σ H B C Q I r h;let⟨a,E,rfl,e,f,q⟩:=h;let⟨u,rfl,p⟩:=vals1 r;cases p;let S:=I.sTup e;let t:=S.len;refine qKw n S (λq e=>I.isT (f q e).1) (λq e=>(f q e).2) λD i c F d tk m b v g k=>?_;let y:H D=none:=I.hok.fresh m;let j:∀l:List (Addr×List Int),Vals (l.map λq=>V.ref q.1) (l.map λq=>Value.ref q.1):=by
  intro l
  induction l with
  | nil=>exact .nil
  | cons x r z=>exact .cons rfl z
 refine⟨.ref D,_,(I.laid (t':=tk) (o :=.lst (i.map λq=>V.ref q.1)) k m ⟨?_,_,c,j i,g⟩).drew,rfl,q _ i y b v⟩;rw [aB,b.length_eq,gH];lia
end
noncomputable def cntO(ways:List (Int×Int))(x:Int):Nat:=(ways.filter λp=>decide (p.1=x)).length
noncomputable def cntI(ways:List (Int×Int))(x:Int):Nat:=(ways.filter λp=>decide (p.2=x)).length
noncomputable def homeS(ways:List (Int×Int))(p:Int×Int):Str:=if p=(-1,0) then "begin" else if cntO ways p.1=1 then "end" else if cntI ways p.2=1 then "begin" else "split"
def uO(K:PySem.W.Frag)(f:List (Int×Int)->Int×Int->Str):Sp:=λvs H Q _ => ∃(wa b:Addr) (wk:List Blk) (m works:Int) (p:Int×Int),vs = [.ref wa,.ref b]/\Den K H (workD wk) (.ref wa)/\WorkOk m works wk/\m<=12/\SqT K H b [.int p.1,.int p.2] /\
 ∀H',Ext [] H H'->Q (.str (f (zG wk wk.length) p)) H'
noncomputable def zh(ways:List (Int×Int))(bs:List Int)(f:Int->List Int):List (Int×Int):=ways.filter λw=>decide (homeS ways w=("split" : Str))&&bs.any λb=>(rowOf f w b).isSome
def qMf(K:PySem.W.Frag):Sp:=λvs H Q _ => ∃(wa d:Addr) (wk:List Blk) (m works:Int) (bs:List Int) (as:List Addr) (f:Int->List Int),vs = [.ref wa,.ref d]/\Den K H (workD wk) (.ref wa)/\WorkOk m works wk/\m<=12/\PlanAt H d bs as (bs.map f)/\bs.Nodup/\bs.length<=8 /\
 ∀(l:Addr) (us:List V) (H':Hp),H l=none->Ext [] H H'->H' l=some (.lst us)->DenL K H' ((zh (zG wk wk.length) bs f).map pairD) us->Q (.ref l) H'
theorem qUy(p r:Int×Int):PyData.eqv (pairD p) (pairD r)=decide (p=r):=by
 let⟨a,b⟩:=p;let⟨c,d⟩:=r;let:PyData.eqv (pairD (a,b)) (pairD (c,d))=(decide (a=c)&&(decide (b=d)&&true)):=by
  simp only [pairD,PyData.eqv,PyData.eqvAll,Bool.and_true];rw [show (a == c)=decide (a=c) from by by_cases h:a=c <;> simp [h],show (b == d)=decide (b=d) from by by_cases h:b=d <;> simp [h]]
 rw [this];by_cases e:a=c <;> by_cases f:b=d <;> simp [e,f]
theorem denP{K:PySem.W.Frag}(h:SqT K G b [.int p.1,.int p.2]):Den K G (pairD p) (.ref b) :=.tuple h (.cons .int (.cons .int .nil))
theorem uP{K:PySem.W.Frag}(h:Den K G (pairD p) v):∃b,v = .ref b/\SqT K G b [.int p.1,.int p.2]:=by
 let⟨b,l,rfl,a,c⟩:=h.ofTuple;let⟨m,n,rfl,d,e⟩:=c.ofCons;let⟨o,q,rfl,f,g⟩:=e.ofCons;let i:=d.ofInt;let j:=f.ofInt;let k:=g.ofNil;subst i j k;exact⟨b,rfl,a⟩
theorem qSe{a:List (Int×Int)}{i:Nat}(h:a[i]? = some b)(x:Int):cntO (a.take (i+1)) x=cntO (a.take i) x+if b.1=x then 1 else 0:=by
 unfold cntO;rw [yG h,eQ,aG];by_cases e:b.1=x <;> simp [e]
theorem qSf{a:List (Int×Int)}{i:Nat}(h:a[i]? = some b)(x:Int):cntI (a.take (i+1)) x=cntI (a.take i) x+if b.2=x then 1 else 0:=by
 unfold cntI;rw [yG h,eQ,aG];by_cases e:b.2=x <;> simp [e]
theorem qYh(a:List (Int×Int))(x:Int):cntO a x<=a.length:=cR ..
theorem qYi(a:List (Int×Int))(x:Int):cntI a x<=a.length:=cR ..
theorem Ext.young1(e:Ext [l] H G)(h:H l=Option.none):Ext [] H G:=λb o _ z=>e b o (by
 intro y;let y:b=l:=by simpa using y
 subst y
 rw [h] at z;cases z) z
theorem qJ2(e:Ext [l] H G)(h:H l=none):Tups H G:=(e.young1 h).toSame.tups
noncomputable def phi(q:Addr×(Int×Int)):Addr×List Int:=(q.1,tOf q.2)
noncomputable def addP(qs:List (Addr×(Int×Int)))(b:Addr)(w:Int×Int):List (Addr×(Int×Int)):=if w∈qs.map (·.2) then qs else qs ++ [(b,w)]
theorem qWc(h:tOf p=tOf q):p=q:=by
 unfold tOf at h;injection h with b a
 injection a with a _
 exact Prod.ext b a
theorem mem_phi{b:List (Addr×(Int×Int))}:tOf w∈(b.map phi).map (·.2)↔w∈b.map (·.2):=by
 rw [cU,aY,aY];constructor
 .rintro⟨q,a,e⟩;exact⟨q,a,qWc e⟩
 .rintro⟨q,a,rfl⟩;exact⟨q,a,rfl⟩
theorem qYn(a:List (Addr×(Int×Int)))(b:Addr)(w:Int×Int):addT (a.map phi) b (tOf w)=(addP a b w).map phi:=by
 unfold addT addP;by_cases h:w∈a.map (·.2)
 .rw [if_pos h,if_pos (mem_phi.mpr h)]
 .rw [if_neg h,if_neg (λz=>h (mem_phi.mp z)),aP];rfl
theorem qUi:v∈(addP a b w).map (·.2)↔v∈a.map (·.2)\/v=w:=by
 unfold addP;by_cases h:w∈a.map (·.2)
 .rw [if_pos h];exact⟨.inl,λz=>z.elim id λe=>e▸h⟩
 .rw [if_neg h,aP,aJ];simp
theorem qOp(c:(a.map (·.2)).Nodup):((addP a b w).map (·.2)).Nodup:=by
 unfold addP;by_cases h:w∈a.map (·.2)
 .rw [if_pos h];exact c
 .rw [if_neg h,aP];exact cG.mpr ⟨c,∅,by intro x f y d;simp at d;subst d;intro e;subst e;exact h f⟩
theorem qRa(h:q∈addP a b w):q∈a\/q=(b,w):=by
 unfold addP at h;split at h
 .exact .inl h
 .rcases aJ.mp h with z | z
  .exact .inl z
  .exact .inr (by simpa using z)
theorem qTb{bs:List Int}:(∃k∈rowsL c bs f,k.1=w)↔w∈c/\(bs.any λb=>(rowOf f w b).isSome)=true:=by
 unfold rowsL;constructor
 .rintro⟨k,a,e⟩;let⟨v,h,a⟩:=cC.mp a;let⟨b,d,g⟩:=bU.mp a;let i:k.1=v:=by
   unfold rowOf at g;split at g
   .cases g
   .cases g;rfl
  let j:v=w:=i.symm.trans e;subst j;exact⟨h,dR.mpr ⟨b,d,by rw [g];rfl⟩⟩
 .rintro⟨hw,d⟩;let⟨b,d,l⟩:=dR.mp d;let⟨k,a⟩:=gP.mp l;refine⟨k,cC.mpr ⟨w,hw,bU.mpr ⟨b,d,a⟩⟩,?_⟩;unfold rowOf at a;split at a
  .cases a
  .cases a;rfl
theorem qOd{bs:List Int}:w∈zh d bs f↔(∃k∈rowsL d bs f,k.1=w)/\homeS d w=("split" : Str):=by
 unfold zh;rw [bT,qTb,bP,decide_eq_true_eq];exact⟨λ⟨a,b,c⟩=>⟨⟨a,c⟩,b⟩,λ⟨⟨a,c⟩,b⟩=>⟨a,b,c⟩⟩
theorem qNx{c:List (Addr×(Int×Int))}(h:((c.map phi).map (·.2)).Pairwise (λx y=>HT.lexLt y x=false))(d:(c.map (·.2)).Nodup):(c.map (·.2)).Pairwise ltP:=by
 rw [cU] at h;rw [dJ] at h ⊢;rw [List.Nodup,dJ] at d;refine (h.and d).imp λ{a b} hq_=>?_;let⟨e,f⟩:=hq_;exact qN1 e f
theorem qKa{K:PySem.W.Frag}:∀ {a:List (Addr×(Int×Int))},(∀q∈a,SqT K G q.1 [.int q.2.1,.int q.2.2])->DenL K G ((a.map (·.2)).map pairD) ((a.map phi).map λq=>V.ref q.1)
 | [],_ =>.nil
 | q::r,h =>.cons (denP (h q ∅)) (qKa λx b=>h x (by simp [b]))
end L2
namespace L2
open PySem PySem.W PyProof.Rows
section
variable{X:Cx}{pins:List (Addr×Obj)}{σ : St}{H:Hp}{s s1 s2 s3:Shared}
structure Kpt(X:Cx)(H:Hp)(s s':Shared):Prop where
 os:s'.os=s.os
 bare:AllBare s'.gens
 un:Un (frs X.stack) [] H H s.heap s'.heap
 hok:HOk X.prog X.w H s'.heap
theorem Kpt.refl(I:Inv X pins σ H s):Kpt X H s s:=⟨rfl,I.bare,Un.kept λ_ _ e=>e,I.hok⟩
theorem Kpt.trans(a:Kpt X H s s1)(b:Kpt X H s1 s2):Kpt X H s s2:=⟨b.os.trans a.os,b.bare,a.un.trans b.un,b.hok⟩
theorem Kpt.inv(I:Inv X pins σ H s)(k:Kpt X H s s1):Inv X pins σ H s1:=by
 let⟨c,g,d,t,a⟩:=s1;obtain rfl:a=s.os:=k.os;exact I.call (h':=c) (ch :=[]) k.un k.hok k.bare λb z=>absurd z ∅
theorem Kpt.beyond(o:HOk X.prog X.w H s.heap)(k:Kpt X H s s1)(f:s2.os=s1.os)(g:s2.gens=s1.gens)(d:∀b u,b<s.heap.objs.size->s1.heap.get? b=some u->s2.heap.get? b=some u):Kpt X H s s2:=by
 refine⟨f.trans k.os,by rw [g];exact k.bare,⟨λb u e n hb c=>d b u (aT e) (k.un.keep b u e n hb c),λb u e n hb c=>?_,k.un.free,λb u e c=>?_,k.un.tups,k.un.frzs,k.un.tbls⟩,λa u e=>(k.hok a u e).stay (λb v hb q=>d b v ?_ q) (λ_ q=>q) λ_ _ q=>q⟩
 .let⟨h,q⟩:=k.un.slot b u e n hb c;exact⟨h,d b _ (aT e) q⟩
 .let⟨v,q⟩:=k.un.there b u e c;exact⟨v,d b _ (aT e) q⟩
 .rcases hb with rfl | hb
  .exact o.lt e
  .exact o.lt hb
theorem wA4(kz:List Int):Srt.Ord (λi j=>decide (kz.getD i 0<kz.getD j 0)):=⟨λa b h=>by let:=of_decide_eq_true h;exact decide_eq_false ∎,λa b c d e=>by let:=of_decide_eq_false d;let:=of_decide_eq_false e;exact decide_eq_false ∎⟩
theorem qN7(h:IntsAre us kz):∀ {i:Nat},i<us.length -> ∃t,us.getD i Value.none = .int (kz.getD i 0) t:=by
 induction h with
 | nil=>intro i a;simp at a
 | cons n t _ b =>
  intro i a;cases i with
  | zero=>exact⟨t,rfl⟩
  | succ i =>
   let⟨u,e⟩:=b (i:=i) (by simpa using a);exact⟨u,by simpa using e⟩
theorem qY7(I:HOk X.prog X.w H s.heap){D g:Addr}{us:List Value}{e B:Nat}(S:Kpt X H s s1)(T:s.heap.objs.size<=D)(U:s.heap.objs.size<=g)(ne:g≠D)
  (V:s1.heap.get? g=some (seqObj "list" a e)) (W:s1.heap.get? D=some (seqObj "list" #[] B)) (F:IntsAre a.toList kz) (M:kz.length=us.length) (hz:us.length<=sizeLine)
  (h:∀(d:Shared) (c:Nat) (q:List Nat),Kpt X H s d->q.Perm (List.range us.length)->(q.map λi=>kz.getD i 0).Pairwise (· <= ·)->d.heap.get? D=some (seqObj "list" (q.map λi=>us.getD i Value.none).toArray c)->R (.done (.ret .none)) d) :
  wpAny (model X.prog X.w) A (ksk_end D false us.toArray B (.ref g) a) R E s1:=by
 let G:=F.length;let Y:a.size=us.length:=by rw [aM] at G;lia
 let k:∀(st:SortSt) (q:Array Nat),arrOf st=q.map (kas_item (a.toList.toArray.zip us.toArray))->failedOf st=none->q.toList.Perm (List.range us.length)->(q.toList.map λi=>kz.getD i 0).Pairwise (· <= ·)->wpAny (model X.prog X.w) A (ksk_tail D false B (.ref g) st) R E s1:=by
  intro st q o p m t;let v:(arrOf st).map (·.2)=List.toArray (q.toList.map λi=>us.getD i Value.none):=kat_snds ∎ o;let Z:(List.toArray (q.toList.map λi=>us.getD i Value.none)).size=us.length:=by rw [aR,aB,m.length_eq,bQ]
  let l:(s1.heap.update g (Obj.mapSeq λ_=>(#[]:Array Value))).get? D=some (seqObj "list" #[] B):=(bO _ _ ne).trans W;unfold ksk_tail;dsimp only;rw [v];refine aA (fK V rfl ?_ ∎ (aX _));refine aA (wpAny_letGo ?_);refine aA (iO l rfl ?_);refine aA (fK l rfl ?_ (aX _) (by simp only [bV,if_false];lia));rw [p];simp only [bne_self_eq_false,bV,if_false];obtain⟨c,g5⟩:∃c,((s1.heap.update g (Obj.mapSeq λ_=>(#[]:Array Value))).update D (Obj.mapSeq λ_=>List.toArray (q.toList.map λi=>us.getD i Value.none))).get? D=some (seqObj "list" (List.toArray (q.toList.map λi=>us.getD i Value.none)) c):=⟨_,dP l λ_=>_⟩
  refine aD (h _ c q.toList (S.beyond I rfl rfl λb u N z=>?_) m t g5);rw [bO _ _ (show D≠b from λz=>absurd N (by rw [<-z];exact Nat.not_lt.mpr T)),bO _ _ (show g≠b from λz=>absurd N (by rw [<-z];exact Nat.not_lt.mpr U))];exact z
 let y:∀ κ,arrOf (SortSt.mk' κ (a.zip us.toArray) #[] 7 none)=(List.toArray (List.range us.length)).map (kas_item (a.toList.toArray.zip us.toArray)):=λκ =>by
  let e:=kas_range (a.toList.toArray.zip us.toArray);rw [show (a.toList.toArray.zip us.toArray).size=us.length by simp;lia] at e;rw [e]
  first | done | (show a.zip us.toArray=_;rw [Array.toArray_toList])
 unfold ksk_end;dsimp only;simp only [bV,if_false];by_cases n:us.toArray.size<2
 .rw [if_pos n,if_pos n];refine aA (aD ?_);rw [StateT.run_pure];refine aA (aD ?_);refine k _ _ (y _) rfl ∅ ?_;rw [aR] at n;let:us.length=0\/us.length=1:=by lia
  rcases this with z | z <;> rw [z] <;> simp [List.range_succ]
 .rw [if_neg n,if_neg n];rw [aR] at n;rw [ksk_kind F ∎];refine aA (aD ?_);let hA:AskOk X.prog X.w A oneType' (a.toList.toArray.zip us.toArray) (λi j=>decide (kz.getD i 0<kz.getD j 0)) (λd=>d=s1) us.length:=λi j d C O P hs hC=>by
   subst hs;let⟨t1,q1⟩:=qN7 F (i:=i) ∎;let⟨t2,q2⟩:=qN7 F (i:=j) ∎;unfold kas_cmp;rw [kat_item ∎,kat_item ∎,q1,q2];exact kat_lt_int (hC _ rfl)
  let run:=qPw (wA4 kz) hA (E:=E) (Q:=λ_ f d => ∃q:Array Nat,arrOf f=q.map (kas_item (a.toList.toArray.zip us.toArray))/\failedOf f=none/\q.toList.Perm (List.range us.length)/\UpAt (λi j=>decide (kz.getD i 0<kz.getD j 0)) q 0 us.length/\d=s1) (y oneType') rfl rfl rfl (λx hx=>by simpa using hx) (by simp;lia) rfl λq f d o p m t a5 a6=>⟨q,o,p,by simpa using t,by simpa using a5,a6⟩;refine aA (cX run (λr d hr=>?_) λ_ _ e=>e);obtain⟨⟨⟩,f⟩:=r;let⟨q,o,p,m,t,rfl⟩:=hr;refine k _ q o p m ?_;rw [bL];intro i j O P J;let hp:q.toList.length=us.length:=by rw [m.length_eq,bQ]
  let K:j<q.size:=by simpa using P
  let L:i<q.size:=by simpa using O
  let u:=t i j (bS J) (by simp at hp;lia);let g1:Srt.at' q (0+i)=q[i]:=by simp [Srt.at',Array.getD,L]
  let g2:Srt.at' q (0+j)=q[j]:=by simp [Srt.at',Array.getD,K]
  rw [g1,g2] at u;let u:=of_decide_eq_false u;simp only [List.getElem_map,dC];lia
theorem qNt(I:Inv X pins σ H s){us:List Value}{kz:List Int}(hl:s.heap.IsList l us.toArray)(F:kz.length=us.length)(hz:us.length<=sizeLine)(turn:∀(i:Nat) (v:Value) (k:Int) (a:Shared),us[i]? = some v->kz[i]? = some k->Kpt X H s a->wpAny (model X.prog X.w) X.A.in1.in1 (call (.ref f) [v]) (λu d=>(∃t,u = .int k t)/\Kpt X H a d) (λ_ _=>False) a)
  (h:∀(a:Shared) (D:Addr) (c:Nat) (q:List Nat),Kpt X H s a->s.heap.objs.size<=D->q.Perm (List.range us.length)->(q.map λi=>kz.getD i 0).Pairwise (· <= ·)->a.heap.get? D=some (seqObj "list" (q.map λi=>us.getD i Value.none).toArray c)->Q (.ref D) a) :
  wpAny (model X.prog X.w) X.A (call (.builtin "sorted") [.ref l] [(Str.ofString "key",.ref f)]) Q X.xe s:=by
 refine call_function_entry_kw kind_sorted plain_sorted entry_sorted (ksk_s1 _ _) ?_;unfold Builtin.«sorted»;refine aA (m:=checkCount "sorted" 1 1 _) (aD (aA (collect_list hl (aA (fJ ?_ hz)) hz)));generalize N:(s.heap.push (seqObj "list" #[] 0)).update s.heap.objs.size (Obj.mapSeq (· ++ us.toArray))=n;let O:n.objs.size=s.heap.objs.size+1:=by rw [<-N,fY,size_push']
 let k1:∀b o,s.heap.get? b=some o->n.get? b=some o:=λb o e=>by
  let B:b<s.heap.objs.size:=aT e;rw [<-N,fQ _ _ _ _ (aZ B),fA _ _ _ (aZ B)];exact e
 let y:(n.push (seqObj "list" us.toArray 0)).get? n.objs.size=some (seqObj "list" us.toArray 0):=aW _ rfl;let P:∀b o,s.heap.get? b=some o->(n.push (seqObj "list" us.toArray 0)).get? b=some o:=λb o e=>aE _ (k1 b o e);let R:(n.push (seqObj "list" us.toArray 0)).objs.size=s.heap.objs.size+2:=by rw [size_push',O]
 show wpAny _ _ _ _ _ { s with heap:=n.push (seqObj "list" us.toArray 0) };rw [O] at y ⊢;generalize n.push (seqObj "list" us.toArray 0)=r at y P R ⊢;refine aA (bM (wpAny_call_entry_kw slot_list_sort ⟨_,y,rfl⟩ entry_list_sort ?_ (ksk_l1 _ _)));show wpAny (model X.prog X.w) X.A.in1.in1 (Builtin.«list.sort» ⟨[.ref (s.heap.objs.size+1)],[(Str.ofString "key",.ref f)]⟩) _ _ _;rw [ksk_t1];obtain⟨K,S⟩:∃K,(r.update (s.heap.objs.size+1) (Obj.mapSeq λ_ => #[])).get? (s.heap.objs.size+1)=some (seqObj "list" #[] K):=⟨_,dP y λ_ => #[]⟩;unfold ksk_tree;refine aA (listItems_at y rfl (aA (fK y rfl (aA (iO S rfl (aA (wpAny_newTuple (aA (fJ (bM ?_) (aX _))) (by show us.length<=_;exact hz))))) (by rw [aR];exact hz) (aX _))))
 dsimp only;let T:((r.update (s.heap.objs.size+1) (Obj.mapSeq λ_=>(#[]:Array Value))).push (seqObj "tuple" us.toArray 0)).objs.size=s.heap.objs.size+3:=by rw [size_push',fY,R]
 let k3:∀b o,s.heap.get? b=some o->(((r.update (s.heap.objs.size+1) (Obj.mapSeq λ_=>(#[]:Array Value))).push (seqObj "tuple" us.toArray 0)).push (seqObj "list" #[] 0)).get? b=some o:=λb o e=>aE _ (aE _ ((bO _ _ (fM (dS (aT e)))).trans (P b o e)));let g4:(((r.update (s.heap.objs.size+1) (Obj.mapSeq λ_=>(#[]:Array Value))).push (seqObj "tuple" us.toArray 0)).push (seqObj "list" #[] 0)).get? (s.heap.objs.size+1)=some (seqObj "list" #[] K):=aE _ (aE _ S);let g5:(((r.update (s.heap.objs.size+1) (Obj.mapSeq λ_=>(#[]:Array Value))).push (seqObj "tuple" us.toArray 0)).push (seqObj "list" #[] 0)).get? (s.heap.objs.size+3)=some (seqObj "list" #[] 0):=by rw [<-T];exact aW _ rfl
 show wpAny (model X.prog X.w) _ (ksk_rest (s.heap.objs.size+1) (.ref f) false us.toArray _ (.ref ((r.update (s.heap.objs.size+1) (Obj.mapSeq λ_=>(#[]:Array Value))).push (seqObj "tuple" us.toArray 0)).objs.size)) _ _ { s with heap:=((r.update (s.heap.objs.size+1) (Obj.mapSeq λ_=>(#[]:Array Value))).push (seqObj "tuple" us.toArray 0)).push (seqObj "list" #[] 0) };rw [T];generalize ((r.update (s.heap.objs.size+1) (Obj.mapSeq λ_=>(#[]:Array Value))).push (seqObj "tuple" us.toArray 0)).push (seqObj "list" #[] 0)=h3 at k3 g4 g5 ⊢;clear T S y P R k1 O N;let U:Kpt X H s { s with heap:=h3 }:=(Kpt.refl I).beyond I.hok rfl rfl λb u _ e=>k3 b u e;unfold ksk_rest;refine aA (cY ?_)
 rw [List.forIn_toArray];refine aA (ksk_fold (λi a => ∃p e,Kpt X H s a/\a.heap.get? (s.heap.objs.size+1)=some (seqObj "list" #[] K)/\a.heap.get? (s.heap.objs.size+3)=some (seqObj "list" p e)/\IntsAre p.toList (kz.take i)) us 0 _ ⟨#[],0,U,g4,g5,by simpa using IntsAre.nil⟩ ?_ ?_)
 .rintro j x a hx ⟨p,e,L,V,M,C⟩;simp only [eW] at C ⊢;let hj:j<us.length:=(aI.mp hx).1;obtain⟨k,G⟩:∃k,kz[j]? = some k:=⟨_,aC ∎⟩;let a0:p.size<=j:=by
   let n:=C.length;rw [aM,bD] at n;lia
  refine aA (wpAny_attempt (cX (turn j x k a hx G L) (λv d he=>?_) λ_ _ hF=>hF.elim));obtain⟨⟨E,rfl⟩,g⟩:=he;dsimp only
  let nf:∀ {b:Addr},s.heap.objs.size<=b->H b=none/\b∉frs X.stack:=λ{b} B=>⟨I.hok.fresh B,λz=>by
   let⟨_,o,ho,_⟩:=I.stack.mem z
   exact absurd (aT ho) (Nat.not_lt.mpr B)⟩
  let n1:=nf (b:=s.heap.objs.size+1) (cT _);let n3:=nf (b:=s.heap.objs.size+3) ∎;let W:=g.un.keep _ _ V n1.1 n1.2 ∅;let J:=g.un.keep _ _ M n3.1 n3.2 ∅;let ek:kz.take (j+1)=kz.take j ++ [k]:=by rw [fB,G];simp
  let ea:(p.push (Value.int k E)).toList=p.toList ++ [Value.int k E]:=by simp
  obtain⟨Y,Z⟩:∃Y,(d.heap.update (s.heap.objs.size+3) (Obj.mapSeq (·.push (.int k E)))).get? (s.heap.objs.size+3)=some (seqObj "list" (p.push (.int k E)) Y):=⟨_,dP J (·.push (.int k E))⟩;refine aA (fK J rfl ?_ ∎ (cD (Nat.le_of_eq (Array.size_push ..)) ∎));refine aD ⟨rfl,p.push (.int k E),Y,(L.trans g).beyond I.hok rfl rfl λb u B z=>?_,?_,Z,by rw [ea,ek];exact ksk_snoc C⟩
  .rw [bO _ _ (show s.heap.objs.size+3≠b by lia)];exact z
  .rw [bO _ _ (show s.heap.objs.size+3≠s.heap.objs.size+1 by lia)];exact W
 .rintro a ⟨p,e,L,V,M,C⟩;let e3:kz.take (0+us.length)=kz:=cM ∎;rw [e3] at C;refine aA (listItems_at M rfl ?_);refine qY7 I.hok L (cT _) (fZ _ 3) (show s.heap.objs.size+3≠s.heap.objs.size+1 by lia) M V C F hz λd c q g a1 a2 a3=>⟨_,rfl,?_⟩;exact aD ⟨_,rfl,h d _ c q g (cT _) a1 a2 a3⟩
end
end L2
namespace L2
open PySem PySem.Spec PyProof.Rows
noncomputable abbrev xJ(p:Pos):Arguments :={ posonlyargs :=[],args :=[{ arg := "row",annotation:=none,pos:=p }],vararg:=none,kwonlyargs :=[],kw_defaults :=[],kwarg:=none,defaults :=[] }
noncomputable abbrev lamScope:Scope :={ kind :=.function,names :=[(Str.ofString "row",.local)],isGenerator:=false,isCoroutine:=false,more :=[] }
noncomputable abbrev xB(p1 p2 p3:Pos):Expr :=.Subscript (.Name "row" p1) (.Constant (.int 2) 0 p2) p3
theorem lam_scope:FnScope ["row"] ["row"] lamScope:=by
 refine⟨rfl,rfl,rfl,⋯,rfl,λx a=>?_,λy b=>?_⟩
 .let:x = "row" :=by simpa using a
  subst this;exact .inl rfl
 .let:y=(Str.ofString "row",.local):=by simpa using b
  subst this;exact λz=>nomatch z
theorem qUp{K:PySem.W.Frag}{t d:Value}{k:K4}(B:Room 1 A)(m:Env0 P w K mg base A outer s H)
  (F:s.heap.get? f=some (PySem.W.kla_obj "<lambda>" q (xJ z) (xB h j l) lamScope [] t c d)) (G:s.heap.CodeRec (.ref c) q) (g:SqT K H a [.ref D,.str (wdS k.2.1),.int k.2.2]) (L:Q (.int k.2.2) H) :
  codeAny (model P w) A (.call (.ref f) ⟨[Value.ref a],[]⟩) (CR CX0 outer P w H s Q E) s:=by
 let lim:s.heap.NoLimit:=m.mod.nolimit.keeps λb o e=>(m.bs b o e).1;refine PySem.W.kla_callFunE B.depth F rfl rfl rfl rfl G ?_;rw [show bindArgs (PySem.W.kla_fn "<lambda>" q (xJ z) (xB h j l) lamScope [] t (Value.ref c) d) ⟨[Value.ref a],[]⟩=(pure [("row",Value.ref a)]:Sem (List (Str×Value))) from rfl];refine aD ?_;let n:∀y∈([("row",Value.ref a)]:List (Str×Value)),lamScope.names.lookup y.1=some .local\/(lamScope.names.lookup y.1=some .cell/\((cellsFrom (s.heap.objs.size+1) lamScope.names []).lookup y.1).isSome=true):=λy M=>by
  rw [aF.mp M];exact .inl rfl
 refine wpAny_newFunctionEnv_cells (binds :=[("row",Value.ref a)]) lam_scope.kind n λN O C x=>?_;subst O;refine⟨lim.keeps x.toInCall.keep,PySem.W.kla_codeExpr ?_⟩;let I:Inv (cxOf CX0 P w K mg base ["row"] q lamScope f (.ref c) A outer s H E) [] (start ["row"] [.ref a]) H C:=oj lam_scope B.hd m rfl (.cons rfl .nil) x;let T:PE (cxOf CX0 P w K mg base ["row"] q lamScope f (.ref c) A outer s H E) (xB h j l) _:=zJ zq (oG (i:=0) rfl (.inl rfl)) zE (λ_ _=>rfl);refine cX (T [] C _ H (λv p=>Q v p) I ?_) (λu R r=>?_) λe R r=>r
 .exact⟨.ref a,rfl,a,_,2,_,rfl,rfl,g,rfl,L⟩
 .let⟨v,p,J,S,q⟩:=r;exact⟨v,p,J.os,J.bare,J.base,J.hok,S,q⟩
def CodAt(q:Str)(c:Addr)(H:Hp):Prop := ∃oc vs t,H c=some (.frz oc (.own 0))/\oc.data = .fields vs/\vs[1]? = some (.str q t)
def LamTab(q:Str)(pos:Pos)(P:Addr)(H:Hp):Prop:=H P=some (.tbl #[]) \/ ∃c',H P=some (.tbl #[rawInt pos.line,rawInt pos.col,.ref c'])/\CodAt q c' H
theorem CodAt.ext(h:CodAt q c H)(e:Ext us H H')(b:∀u∈us,∀o v,H u≠some (.frz o v)):CodAt q c H':=by
 let⟨d,f,t,a,g⟩:=h;exact⟨d,f,t,e _ _ (λz=>b c z _ _ a) a,g⟩
theorem LamTab.ext(h:LamTab q pos P H)(e:Ext us H H')(n:P∉us)(a:∀u∈us,∀o v,H u≠some (.frz o v)):LamTab q pos P H':=by
 rcases h with h | ⟨c,b,d⟩
 .exact .inl (e _ _ n h)
 .exact .inr ⟨c,e _ _ n b,d.ext e a⟩
theorem LamTab.ext0(h:LamTab q pos P H)(e:Ext [] H H'):LamTab q pos P H':=h.ext e ∅ (λ_ z=>nomatch z)
theorem LamTab.some(h:LamTab q pos P H):∃a,H P=some (.tbl a):=by
 rcases h with h | ⟨c,b,d⟩
 .exact⟨_,h⟩
 .exact⟨_,b⟩
def qVq(K:PySem.W.Frag)(q:Str)(pos:Pos)(P:Addr):V->Hp->VK->Prop:=λx H Q => ∃(a:Addr) (vs:List V) (ks:List K4),x = .ref a/\SqL K H a vs/\RowsI K H vs ks/\LamTab q pos P H /\
 ∀(H':Hp) (l:Addr) (ps:List (V×K4)),Ext [P] H H'->LamTab q pos P H'->H l=none->H' l=some (.lst (ps.map (·.1)))->ps.Perm (vs.zip ks)->(ps.map (·.2.2.2)).Pairwise (· <= ·)->Q (.ref l) H'
section
variable{X:Cx}{pins:List (Addr×Obj)}{σ : St}{H:Hp}{s:Shared}
def BMain(mg:Str->Option Value)(h:Heap):Prop := ∃bm ob,mg "__builtins__" = some (.ref bm)/\bm≠builtinsNs/\h.get? bm=some ob/\ob.cls = .type "module" /\ ob.dict=some builtinsNs/\ob.data = .plain
theorem qUo(I:Inv X pins σ H s){F G J K pos:Pos}(hB:BMain X.mg X.base)(C:PySem.W.CodeHd X.base c P)(k:X.env.code = .ref c)(hT:LamTab q pos P H)(hq:X.env.qual ++ "<lambda>" = q)
  (h:∀(f a:Addr) (g:Value) (H':Hp) (V:Shared),Inv X pins σ H' V->Ext [P] H H'->LamTab q pos P H'->s.heap.objs.size<=f->H' f=none->V.heap.get? f=some (PySem.W.kla_obj "<lambda>" q (xJ F) (xB G J K) lamScope [] ((X.mg "__name__").getD .none) a g)->CodAt q a H'->(∀b,H b=none->b<s.heap.objs.size->H' b=none)->(∀b o,H b=some o->b≠P->H' b=some o)->Q (.ref f) V) :
  wpAny (model X.prog X.w) X.A (eval (.Lambda (xJ F) (xB G J K) lamScope pos) X.env) Q E s:=by
 refine PySem.W.kla_eval rfl ?_;rw [hq];let m:=I.ok.mod.glob.keeps I.bk;let⟨Y,ob,b1,b2,U,b4,b5,Z⟩:=hB;let hP:∃ps,H P=some (.tbl ps):=hT.some;let⟨a0,a1⟩:=hP;let i:s.heap.get? P=some (PySem.W.tabObj a0):=I.hok P _ a1;let a2:mainGlobals≠P:=λz=>by
  let⟨o,es,ep,e,B,_⟩:=m;rw [z,i] at e;cases e;cases B
 let a3:Y≠P:=λz=>by
  let e:=I.bk _ _ U;rw [z,i] at e;cases e;cases b4
 let a4:Y≠mainGlobals:=λz=>by
  let⟨o,es,ep,e,B,_⟩:=I.ok.mod.glob;rw [z,e] at U;cases U;rw [B] at Z;cases Z
 let L:s.heap.BuiltinsAt X.mg P:=⟨Y,ob,b1,b2,a4,a3,I.bk _ _ U,b4,b5,Z⟩;rcases hT with hT | ⟨a,hT,M⟩
 .let i:s.heap.get? P=some (PySem.W.tabObj #[]):=I.hok P _ hT;refine PySem.W.kla_makeFunction (mg:=X.mg) (clos :=[]) rfl I.ok.glob m k (C.keeps I.bk) i trivial rfl a2 L λa g h' tk hx l p N O=>?_;let⟨c2,D,vs,t,e2,R,B,hv⟩:=N;cases e2;let S:a≠P:=fM (bK (aT i) l);let a5:H a=none:=I.hok.fresh l;let r:H h'.objs.size=none:=I.hok.fresh (cD l (bS p));let x:∀b o,b≠P->s.heap.get? b=some o->(h'.push (PySem.W.kla_obj "<lambda>" q (xJ F) (xB G J K) lamScope [] ((X.mg "__name__").getD .none) a g)).get? b=some o:=λb o n e=>aE _ (hx b o n e);let j:∀b o,H b=some o->b≠P->upd (upd H P (.tbl #[rawInt pos.line,rawInt pos.col,.ref a])) a (.frz D (.own 0)) b=some o:=λb o e n=>by rw [zD (zF e a5),zD n];exact e
  let fr:∀b,H b=none->b<s.heap.objs.size->upd (upd H P (.tbl #[rawInt pos.line,rawInt pos.col,.ref a])) a (.frz D (.own 0)) b=none:=λb n hb=>by
   rw [zD (aZ (bK hb l)),zD (λz=>by rw [z,hT] at n;cases n)];exact n
  let I2:=I.un (H':=upd (upd H P (.tbl #[rawInt pos.line,rawInt pos.col,.ref a])) a (.frz D (.own 0))) (t':=tk) (h':=h'.push (PySem.W.kla_obj "<lambda>" q (xJ F) (xB G J K) lamScope [] ((X.mg "__name__").getD .none) a g))
   ⟨λb o e n _ _=>x b o (λz=>by rw [z,hT] at n;cases n) e,λb o e n _ _=>⟨o.slots,x b o (λz=>by rw [z,hT] at n;cases n) e⟩,λb o e n _=>fr b n (aT e),
    λb o e _=>by
     by_cases z:b=P
     .subst z;exact⟨_,aE _ O⟩
     .exact⟨o,x b o z e⟩,
    λb xs e=>j b _ e (λz=>by rw [z,hT] at e;cases e),λb o u e=>j b _ e (λz=>by rw [z,hT] at e;cases e),
    λb ps e=>by
     by_cases z:b=P
     .subst z;rw [hT] at e;cases e;exact⟨#[rawInt pos.line,rawInt pos.col,.ref a],by rw [zD (cP S),zC];rfl⟩
     .exact⟨#[],by rw [Array.append_empty];exact j b _ e z⟩⟩
   (λb u e=>by
    by_cases z1:b=a
    .subst z1;rw [zC] at e;cases e;exact⟨aE _ R,⟨D,aE _ R⟩⟩
    .rw [zD z1] at e;by_cases z2:b=P
     .subst z2;rw [zC] at e;cases e;show _=_;exact aE _ O
     .rw [zD z2] at e;refine (I.hok b u e).stay (λd v a6 z=>x d v ?_ z) (λd z=>j d _ z (λy=>by rw [y,hT] at z;cases z)) λd xs z=>j d _ z (λy=>by rw [y,hT] at z;cases z);rcases a6 with rfl | z'
      .exact z2
      .exact λy=>by rw [y,hT] at z';cases z')
  refine h h'.objs.size a g _ _ I2 (λb o hb e=>j b o e (by simpa using hb)) (.inr ⟨a,by rw [zD (cP S),zC],D,vs,t,zC,B,hv⟩) (cD l (bS p)) ?_ (aW _ rfl) ⟨D,vs,t,zC,B,hv⟩ fr j;rw [zD (fM p),zD (λz=>by rw [z,hT] at r;cases r)];exact r
 .let i:s.heap.get? P=some (PySem.W.tabObj #[rawInt pos.line,rawInt pos.col,.ref a]):=I.hok P _ hT;refine PySem.W.kla_makeFunctionHit (mg:=X.mg) (clos :=[]) (cv :=.ref a) rfl I.ok.glob m k (C.keeps I.bk) i trivial (by simp [codeAmong,rawInt]) L λg h' tk hk T=>?_;let x:∀b o,s.heap.get? b=some o->(h'.push (PySem.W.kla_obj "<lambda>" q (xJ F) (xB G J K) lamScope [] ((X.mg "__name__").getD .none) a g)).get? b=some o:=λb o e=>aE _ (hk b o e);refine h h'.objs.size a g H _ (I.un (t':=tk) (Un.kept x) (I.hok.kept x)) (.refl _ _) (.inr ⟨a,hT,M⟩) T (I.hok.fresh T) (aW _ rfl) M (λb n _=>n) λb o e _=>e
end
section
variable{X:Cx}
theorem qUv{α β : Type}{q:List Nat}{vs:List α}{ks:List β}(d : α)(e : β)(a:vs.length=ks.length)(h:q.Perm (List.range vs.length)):(q.map λi=>(vs.getD i d,ks.getD i e)).Perm (vs.zip ks):=by
 rw [<-uv d e vs ks a];exact h.map _
theorem qTs(hr:Room 3 X.A)(hB:BMain X.mg X.base)(C:PySem.W.CodeHd X.base c P)(S:X.env.code = .ref c)(T:X.env.qual ++ "<lambda>" = q)
  (hg:Gl X "sorted") (hm:X.mg "sorted" = none) (he:PE X e te) (U:starEach [e] X.env = [(false,eval e X.env)]:=by rfl) :
  PE X (.Call (.Name "sorted" p) [e] [⟨some "key",.Lambda (xJ p0) (xB p1 p2 p3) lamScope l,a3⟩] pos) (tUn (qVq X.K q l P) te):=by
 intro M s σ H Q I h;refine wpAny_Call_Name_kw (xw I hg hm (show bootBuiltins "sorted" = some (.builtin "sorted") by rfl) ?_);refine callWith_kw ?_ (by rw [U];rfl) (by rw [U];rfl) (by rfl) (by rfl);refine thn ((zA he zB U) pos M s σ H (λY H1=>match Y with | [x]=>qVq X.K q l P x H1 Q | _=>False) I h) λus s1 hq_=>?_;let⟨b9,H1,I1,r,q1⟩:=hq_;cases r with
 | nil=>exact q1.elim
 | @cons v u vr ur r0 r1 =>
 cases r1 with
 | cons _ _=>exact q1.elim
 | nil =>
 let⟨a,m,N,e0,hl,hR,hT,q2⟩:=q1;subst e0;cases r0;show wpAny _ _ (evalAll [do let v <-eval (.Lambda (xJ p0) (xB p1 p2 p3) lamScope l) X.env;standAt pos;pure v]) _ _ s1;refine wpAny_evalAll_cons (aA (qUo I1 hB C S hT T λf c' c0 F s2 I2 e2 a4 hf a9 ho hc c1 O=>aA (dI (aD (wpAny_evalAll_nil ?_)))));show wpAny (model X.prog X.w) X.A (call (.builtin "sorted") [Value.ref a] [(Str.ofString "key",.ref f)]) (EP X M σ Q) X.xe s2;let G:∀ {b:Addr} {o:HO},H1 b=some o->(∀ps,o ≠ .tbl ps)->F b=some o:=λ{b o} hb hn=>O b o hb λz=>by
  let⟨ps,B⟩:=hT.some;rw [z,B] at hb;exact hn _ (bB hb).symm
 let a5:∀ {b:Addr} {Y:List V},SqT X.K H1 b Y->SqT X.K F b Y:=λ{b Y} z=>by
  rcases z with (z | ⟨o,z⟩) | z
  .exact .inl (.inl (G z λ_ y=>nomatch y))
  .exact .inl (.inr ⟨o,G z λ_ y=>nomatch y⟩)
  .exact .inr z
 let b0:SqL X.K F a m:=by
  rcases hl with (z | ⟨o,z⟩) | z
  .exact .inl (.inl (G z λ_ y=>nomatch y))
  .exact .inl (.inr ⟨o,G z λ_ y=>nomatch y⟩)
  .exact .inr z
 let a6:RowsI X.K F m N:=Paired.mapP hR λ_ _ ⟨a,wa,e,h1,h2⟩=>⟨a,wa,e,a5 h1,a5 h2⟩;let⟨c3,rv,pl,big⟩:=I2.list b0;let b1:=rv.length;let b2:=a6.len;let b3:f∉frs X.stack:=λz=>by
  let⟨_,o,b4,_⟩:=I1.stack.mem z;exact absurd (aT b4) (Nat.not_lt.mpr hf)
 refine qNt I2 (kz:=N.map (·.2.2)) pl.isList (by rw [aB];lia) ∎ (λi v k s' hv hk J=>?_) λs' D cc R J hD a1 a2 g=>?_
 .obtain⟨kk,b5,rfl⟩:∃kk,N[i]? = some kk/\kk.2.2=k:=by
   rw [aU] at hk;cases z:N[i]? with
   | none=>rw [z] at hk;cases hk
   | some kk=>rw [z] at hk;exact⟨kk,rfl,bB hk⟩
  obtain⟨vv,b6,Z⟩:∃vv,m[i]? = some vv/\RelV vv v:=by
   let L:i<m.length:=by let:=(aI.mp hv).1;lia
   let⟨u,hu,ru⟩:=rv.get (aC L);rw [hv] at hu;cases hu;exact⟨_,aC L,ru⟩
  let⟨k2,a7,b,wb,e2,t1,t2⟩:=uI a6 b6;rw [b5] at a7;cases a7;subst e2;cases Z;let I3:=J.inv I2;let b7:s'.heap.CodeRec (.ref c') q:=by
   let⟨o,m,t,z0,z2,z3⟩:=hc;let⟨z1,_⟩:=I3.hok c' _ z0;exact⟨c',o,m,t,rfl,z1,z2,z3⟩
  refine wpAny_call (hJ (qUp (Q:=λv H'=>v = .int kk.2.2/\H'=F) (E:=E0) hr.in1.in1 I3.env0.in1.in1 (J.un.keep _ _ ho a9 b3 ∅) b7 t1 ⟨rfl,rfl⟩) λr c4 T=>?_);cases r with
  | error e=>exact T.elim
  | ok fl =>
   cases fl with
   | next=>exact T.elim
   | brk=>exact T.elim
   | cont=>exact T.elim
   | ret u =>
    let⟨v,H',os,bare,un,a0,Z,rfl,rfl⟩:=T;exact⟨Z,os,bare,un,a0⟩
 .let j:F D=none:=I2.hok.fresh hD;let B:=qUv (q:=R) V.non (((0,0),false,0):K4) b2 (by rw [b1];exact a1);let e1:(R.map λi=>(m.getD i V.non,N.getD i ((0,0),false,0))).map (·.1)=R.map λi=>m.getD i V.non:=by rw [cU];rfl
  let a8:(R.map λi=>m.getD i V.non).length<=sizeLine:=by rw [aB,a1.length_eq,bQ];lia
  let a0:HOk X.prog X.w (upd F D (.lst (R.map λi=>m.getD i V.non))) s'.heap:=λb u e=>by
   by_cases z:b=D
   .subst z;rw [zC] at e;cases e;exact⟨a8,_,cc,vY rv R,g⟩
   .rw [zD z] at e;exact (J.hok b u e).stay (λ_ _ _ z=>z) (λd z=>by rw [zD (zF z j)];exact z) λd Y z=>by rw [zD (zF z j)];exact z
  let un:Un (frs X.stack) [] F (upd F D (.lst (R.map λi=>m.getD i V.non))) s2.heap s'.heap:=⟨J.un.keep,J.un.slot,λb o e n hx=>by rw [zD (aZ (bK (aT e) hD))];exact n,J.un.there,λb Y e=>by rw [zD (zF e j)];exact e,λb o u e=>by rw [zD (zF e j)];exact e,λb ps e=>⟨#[],by rw [zD (zF e j),Array.append_empty];exact e⟩⟩;let e3:Ext [P] H1 (upd F D (.lst (R.map λi=>m.getD i V.non))):=λb o hb e=>by
   let:=e2 b o hb e;rw [zD (zF this j)];exact this
  let⟨hh,g',d,t,b8⟩:=s';obtain rfl:b8=s2.os:=J.os;refine⟨.ref D,_,I2.call (h':=hh) (ch :=[]) un a0 J.bare (λb z=>absurd z ∅),rfl,?_⟩;refine q2 _ D _ e3 ?_ ?_ (by rw [e1];exact zC) B ?_
  .rcases a4 with z | ⟨c2,z1,z2⟩
   .exact .inl (by rw [zD (zF z j)];exact z)
   .let⟨oc,m,t,z2,z3⟩:=z2;exact .inr ⟨c2,by rw [zD (zF z1 j)];exact z1,oc,m,t,by rw [zD (zF z2 j)];exact z2,z3⟩
  .cases z:H1 D with
   | none=>rfl
   | some o =>
    by_cases zP:D=P
    .let⟨ps,B⟩:=a4.some;rw [zP,B] at j;cases j
    .let:=O D o z zP;rw [this] at j;cases j
  .rw [cU];refine Eq.mp (congrArg _ (iR λi hi=>?_)) a2;let L:i<N.length:=by
    let:=a1.mem_iff.mp hi;rw [bN] at this;lia
   show (N.map (·.2.2)).getD i 0=(N.getD i ((0,0),false,0)).2.2;rw [bF,bF,aU,aC L];rfl
end
def OnlyT(P:Addr)(H:Hp):Prop:=H P=some (.tbl #[]) /\ ∀b,b≠P->H b=none \/ ∃o xs,H b=some (.frz o (.lst xs))
theorem qRf{K:PySem.W.Frag}{k:Nat}
  (KX:K.In f.heap) (I:f.heap.Ns mainGlobals mg) (g:f.heap.Ns builtinsNs U) (Y:∀x:Str,x ≠ "__name__" -> U x=bootBuiltins x) (J:f.heap.NoLimit) (Z:BMain mg f.heap) (hg:f.gens = #[])
  (B:f.heap.get? a=some { cls :=.type "list",data :=.seq vs.toArray }) (hi:IntsAre vs ns) (hl:ns.length<=sizeLine) (hr:Room k callerA)
  (hC:PySem.W.CodeHd f.heap c P) (C:f.heap.get? P=some (PySem.W.tabObj #[])) (a0:K.lookup P=none)
  (F:∀i:Heap,K.In i->i.Ns mainGlobals mg->BMain mg i->FnOk G w K mg i CX0 k X fd [x] sp) (D:∀(s:Shared) (u:Value),BindsTo s fd ⟨[u],[]⟩ [(x,u)])
  (a1:∀H:Hp,OnlyT P H->SqL K H a (ns.map V.int)->sp [.ref a] H (λv _=>v = .bl true) λ_ _ _=>False) :
  codeAny (model G w) callerA (.call (.ref X) ⟨[.ref a],[]⟩) (λr l=>r = .ok (.ret (.bool true))/\OldK f.heap l.heap/\l.os=f.os/\AllBare l.gens) f :=by
 let rv:=QR hi;let L:=hi.length;let M:a≠P:=λz=>by rw [z,C] at B;cases B
 let y:∀H:Hp,OnlyT P H->SqL K H a (ns.map V.int)->HOk G w H f.heap->(∀b,H b≠none->b=a\/b=P)->(H a≠none->K.lookup a=none) ->
   codeAny (model G w) callerA (.call (.ref X) ⟨[.ref a],[]⟩) (λr l=>r = .ok (.ret (.bool true))/\OldK f.heap l.heap/\l.os=f.os/\AllBare l.gens) f :=by
  intro H hO hS N hA hK;let base_of:∀ {b:Addr} {o:Obj},f.heap.get? b=some o->H b=none->(hidT f.heap H).get? b=some o:=λe n=>qUt e n;let free:∀ {b:Addr} {o:Obj},f.heap.get? b=some o->(∀a2 n,o.data ≠ .seq a2 n)->o.cls ≠ .none->H b=none:=λ{b o} e d1 d2=>by
   cases q:H b with
   | none=>rfl
   | some u =>
    rcases hA b (by rw [q];simp) with z | z
    .subst z;rw [B] at e;cases e;exact absurd rfl (d1 _ _)
    .subst z;rw [C] at e;cases e;exact absurd rfl d2
  let E:∀ {b:Addr} {o:Obj} {S:Array DictEntry} {T:Nat},f.heap.get? b=some o->o.data = .dict S T->H b=none:=λ{b o S T} e d=>by
   cases q:H b with
   | none=>rfl
   | some u =>
    rcases hA b (by rw [q];simp) with z | z
    .subst z;rw [B] at e;cases e;cases d
    .subst z;rw [C] at e;cases e;cases d
  let p:∀ {b:Addr} {m:Str->Option Value},f.heap.Ns b m->(hidT f.heap H).Ns b m:=λ{b m} ⟨o,S,T,e,d,r⟩=>⟨o,S,T,base_of e (E e d),d,r⟩
  let O:K.In (hidT f.heap H):=λb o e=>base_of (KX b o e) (by
   cases q:H b with
   | none=>rfl
   | some u =>
    rcases hA b (by rw [q];simp) with z | z
    .subst z;rw [hK (by rw [q];simp)] at e;cases e
    .subst z;rw [a0] at e;cases e)
  let Q:BMain mg (hidT f.heap H):=by
   let⟨bm,ob,b1,b2,b3,b4,b5,b6⟩:=Z;exact⟨bm,ob,b1,b2,base_of b3 (free b3 (λ_ _ z=>by rw [b6] at z;cases z) (by rw [b4];exact λz=>nomatch z)),b4,b5,b6⟩
  let hM:Mod K mg (hidT f.heap H):=⟨O,p I,⟨U,p g,Y⟩,let ⟨mc,h1,h2⟩:=J;⟨mc,p h1,h2⟩⟩;let e0:Env0 G w K mg (hidT f.heap H) callerA [] f H:=⟨rfl,hM,λb o e=>qXt e,Nat.le_of_eq (qRq _ _),trivial,λb g=>absurd (show b∈([]:List Addr) from g) ∅,N,.of_eq hg⟩;refine hJ ((F _ O (p I) Q).run callerA [] f H ⟨[.ref a],[]⟩ [.ref a] [.ref a] _ _ hr e0 (D f (.ref a)) (.cons rfl .nil) (a1 H hO hS)) λr l h=>?_;cases r with
  | error e=>exact h.elim
  | ok fl =>
   cases fl with
   | next=>exact False.elim h
   | brk=>exact False.elim h
   | cont=>exact False.elim h
   | ret u =>
    let⟨v,H',os,bare,un,A,r',q⟩:=h;let q':v = .bl true:=q;subst q';obtain rfl:u=Value.bool true:=r';let⟨more,hm⟩:=un.tbls P #[] hO.1;let R:l.heap.get? P=some (PySem.W.tabObj (#[]++more)):=A P _ hm;let kp:∀b o,b≠P->f.heap.get? b=some o->l.heap.get? b=some o:=λb o g e=>by
     cases q:H b with
     | none=>exact un.keep b o e q (by intro z;exact absurd (show b∈([]:List Addr) from z) ∅) ∅
     | some u =>
      rcases hO.2 b g with z | ⟨ob,xs,z⟩
      .rw [q] at z;cases z
      .let z2:=un.frzs b ob _ z;let⟨e1,_⟩:=N b _ z;let⟨e2,_⟩:=A b _ z2;rw [e] at e1;cases e1;exact e2
    refine⟨rfl,⟨λb o e=>?_,λb o e=>?_⟩,os,bare⟩
    .by_cases z:b=P
     .subst z;rw [C] at e;cases e;exact .inr (.inl ⟨(hC.tab C).isCodeTable,rfl,#[],more,rfl,R⟩)
     .exact .inl (kp b o z e)
    .by_cases z:b=P
     .subst z;exact⟨_,R⟩
     .exact⟨o,kp b o z e⟩
 cases hk:K.lookup a with
 | some o =>
  let e:=KX a o hk;rw [B] at e;cases e;refine y (λb=>if b=P then some (.tbl #[]) else none) ⟨if_pos rfl,λb g =>.inl (if_neg g)⟩ (.inr ⟨_,vs.toArray,_,hk,rfl,rfl,rfl,by rw [aR,L];exact hl,by simpa using rv⟩) (λb u z=>?_) (λb z =>.inr ?_) λz=>absurd (if_neg M) z
  .by_cases g:b=P
   .let t:=(if_pos g).symm.trans z;cases t;subst g;exact C
   .let t:=(if_neg g).symm.trans z;cases t
  .by_cases g:b=P
   .exact g
   .exact absurd (if_neg g) z
 | none =>
  refine y (λb=>if b=P then some (.tbl #[]) else if b=a then some (.frz { cls :=.type "list",data :=.seq vs.toArray } (.lst (ns.map V.int))) else none) ⟨if_pos rfl,λb g=>?_⟩ (.inl (.inr ⟨{ cls :=.type "list",data :=.seq vs.toArray },?_⟩)) (λb u z=>?_) (λb z=>?_) λ_=>hk
  .by_cases j:b=a
   .exact .inr ⟨_,_,(if_neg g).trans (if_pos j)⟩
   .exact .inl ((if_neg g).trans (if_neg j))
  .exact (if_neg M).trans (if_pos rfl)
  .by_cases g:b=P
   .let t:=(if_pos g).symm.trans z;cases t;subst g;exact C
   .let z:=(if_neg g).symm.trans z;by_cases g:b=a
    .let t:=(if_pos g).symm.trans z;cases t;subst g;exact⟨B,by rw [aB];exact hl,vs,_,rv,B⟩
    .let t:=(if_neg g).symm.trans z;cases t
  .by_cases g:b=P
   .exact .inr g
   .by_cases j:b=a
    .exact .inl j
    .exact absurd ((if_neg g).trans (if_neg j)) z
theorem qSx{l:PySem.W.OpenLaw}{n k:Nat}{K:Params->PySem.W.Frag}{sp:World->Sp}{c P:Addr}(L:l.most=some n)(r:n<=sizeLine)(t:d.params.defaults = [])(M:Room k callerA)(N:∀(w:World) (h:Heap),C w h->(K w.params).In h/\PySem.W.CodeHd h c P/\h.get? P=some (PySem.W.tabObj #[])/\(K w.params).lookup P=none)(F:∀(w:World) (mg:Str->Option Value) (p:Addr) (h:Heap),(K w.params).In h->h.Ns mainGlobals mg->mg d.name=some (.ref p) ->
   ∃y:FuncData,(∀(s:Shared) (u:Value),BindsTo s y ⟨[u],[]⟩ [(x,u)]) /\
    ∀base:Heap,(K w.params).In base->base.Ns mainGlobals mg->BMain mg base->FnOk l.prog w (K w.params) mg base CX0 k p y [x] (sp w))
  (z:∀(w:World) (H:Hp) (a:Addr) (ns:List Int),ns.length<=n->OnlyT P H->SqL (K w.params) H a (ns.map V.int)->sp w [.ref a] H (λv _=>v = .bl true) λ_ _ _=>False) :
  PySem.W.WalkO q i J C l.row.toRowW d [] (λf vs=>PySem.call f vs):=by
 refine Att.attach_call L t λw D E mg mb p o pm cd doc a vs ns G Y ho hd O A m j e Q=>?_;let⟨I,R,S,B⟩:=N w _ Y;let⟨y,U,X⟩:=F w mg p _ I G.T.g A;exact qRf I G.T.g G.T.b G.T.builtins G.T.nolimit G.T.bmain Q m j (cD e r) M R S B X U λH Z hS=>z w H a ns e Z hS
theorem Inv.turnMany{σ : St}{t':Nat}{ch:List Addr}(I:Inv X a σ H s)(k:∀b u,b∉ch->s.heap.get? b=some u->h'.get? b=some u)(h:∀b∈ch,FpOk X a H b):Inv X a σ H { s with heap:=h',toks:=t' }:=by
 let f:∀b u,H b=some u->b∉ch:=λb u e g=>by rw [(h b g).1] at e;cases e
 refine I.step (g':=s.gens) (d':=s.drawn) (ch:=ch) (λb g=>?_) (λb u _ _ d e _=>k b u d e) (λb u _ _ d e _=>⟨u.slots,k b u d e⟩) (λ_ _ _ _ n=>n)
  (λb u d e=>⟨u,k b u d e⟩) (λ_ _ e=>e) (λ_ _ _ e=>e) (λb A e=>⟨#[],by rw [e];simp⟩) (λm j=>?_) (λb u e=>?_) I.bare
 .let⟨_,l,_,o,p,t⟩:=h b g;exact⟨o,l,p,t⟩
 .let⟨i,w,x,y,r⟩:=j;exact⟨i,w,x,k _ i (λg=>(h _ g).2.1 rfl) y,r⟩
 .refine (I.hok b u e).stay (λc v d q=>k c v ?_ q) (λ_ q=>q) λ_ _ q=>q;rcases d with z | z
  .rw [z];exact f b u e
  .exact f c _ z
noncomputable def Itz(K:PySem.W.Frag)(a b:Addr):It :=
 ⟨λi H => ∃xs ys x y,SqL K H a xs/\SqL K H b ys/\xs[i]? = some x/\ys[i]? = some y,
   λi H v H' => ∃p x y,v = .ref p/\H p=none/\(∀us,SqL K H a us->us[i]? = some x)/\(∀us,SqL K H b us->us[i]? = some y)/\H'=upd H p (.tup [x,y]),
   λi H => ∃xs ys,SqL K H a xs/\SqL K H b ys/\(xs.length<=i\/ys.length<=i)⟩
theorem qSy{K:PySem.W.Frag}{k:Nat}{z TI TO A B S l2:Addr}(D:ZipApart z TI TO A B S l2):Turn P w K (.Tuple J k pos) (Itz K S l2) [z,TI,TO,A,B] z (λi h=>IsZip h z TI TO .none/\IsPair h TI (.ref A) (.ref B)/\(∃a b,IsPair h TO a b)/\h.IsListIter A S i/\h.IsListIter B l2 i) where
 mem:=by simp
 obj:=λi h st b f=>by
  obtain⟨n,g,⟨a,c,j⟩,⟨o1,e1,_,d1⟩,⟨o2,e2,_,d2⟩⟩:=st;simp only [aL,cI,or_false] at f;rcases f with x | x | x | x | x <;> subst x
  .exact⟨_,n,λv q=>by let q:Data.fields _=Data.cell v:=q;cases q⟩
  .exact⟨_,g,λv q=>by let q:Data.seq _ _=Data.cell v:=q;cases q⟩
  .exact⟨_,j,λv q=>by let q:Data.seq _ _=Data.cell v:=q;cases q⟩
  .exact⟨o1,e1,λv q=>by rw [d1] at q;cases q⟩
  .exact⟨o2,e2,λv q=>by rw [d2] at q;cases q⟩
 keep:=λi h T st L=>by
  obtain⟨n,g,⟨a,c,j⟩,F,G⟩:=st;exact⟨L z ∅ _ n,L TI ∅ _ g,⟨a,c,L TO ∅ _ j⟩,F.at λo q=>L A ∅ o q,G.at λo q=>L B ∅ o q⟩
 item:=by
  intro X U V Y hc i r s σ H E I R st Z;subst U V Y;let⟨xs,ys,x,y,l,m,hx,hy⟩:=Z;obtain⟨n,g,⟨a,c,j⟩,F,G⟩:=st;let⟨a0,rv,p,_⟩:=I.list l;let⟨M,C,p2,_⟩:=I.list m;let⟨u,hu,ru⟩:=rv.get hx;let⟨u2,a7,a8⟩:=C.get hy;refine wpAny_pyNext_zip_item D n g j F G p.isList p2.isList (x:=u) (y:=u2) (by simpa using hu) (by simpa using a7) λT a1 a2 a3 a4 a5 a6 N=>?_;let t:z<s.heap.objs.size:=aT n;refine⟨_,rfl,wpAny_letOwnedTupleGo_zip a1 λh3 O d=>?_⟩;let d:Heap.SameBut z T h3:=d;let I1:Inv X r σ (upd H s.heap.objs.size (.tup [x,y])) { s with heap:=h3,toks:=s.toks }:=by
   refine I.turnLaid (ch :=[z,TI,TO,A,B]) (λb o f q=>?_) (λb f=>?_) R (aH _) ?_
   .simp only [aL,cI,or_false,not_or] at f;exact d.extBut b o f.1 (N b o f.1 f.2.2.1 f.2.2.2.1 f.2.2.2.2 q)
   .simp only [aL,cI,or_false] at f;rcases f with e | e | e | e | e <;> subst e
    .exact⟨_,O⟩
    .exact⟨_,d.extBut _ _ D.TIz (N _ _ D.TIz D.TITO D.TIi1 D.TIi2 g)⟩
    .exact⟨_,d.extBut _ _ D.TOz a2⟩
    .let⟨o,q,_⟩:=a3;exact⟨o,d.extBut _ _ D.i1z q⟩
    .let⟨o,q,_⟩:=a4;exact⟨o,d.extBut _ _ D.i2z q⟩
   .exact⟨by show 2<=sizeLine;decide,[u,u2],.cons ru (.cons a8 .nil),⟨_,d.extBut _ _ (fM t) a5,rfl,_,rfl⟩⟩
  refine⟨.ref s.heap.objs.size,_,I1,rfl,⟨s.heap.objs.size,x,y,rfl,I.fresh,(λus hs=>by rw [I.list_inj hs l];exact hx),(λus hs=>by rw [I.list_inj hs m];exact hy),rfl⟩,⟨O,d.extBut _ _ D.TIz (N _ _ D.TIz D.TITO D.TIi1 D.TIi2 g),⟨_,_,d.extBut _ _ D.TOz a2⟩,a3.extBut d.extBut D.i1z,a4.extBut d.extBut D.i2z⟩,λb f=>?_⟩;let a9:b<s.heap.objs.size:=by
   simp only [aL,cI,or_false] at f;rcases f with e | e | e | e | e <;> subst e
   .exact t
   .exact aT g
   .exact aT j
   .let⟨o,q,_⟩:=F;exact aT q
   .let⟨o,q,_⟩:=G;exact aT q
  rw [zD (aZ a9)];exact (R b f).1
 done:=by
  intro X U V Y hc i r s σ H E I R st Z;subst U V Y;let⟨xs,ys,l,m,Q⟩:=Z;obtain⟨n,g,⟨a,c,j⟩,F,G⟩:=st;let⟨a0,rv,p,_⟩:=I.list l;let⟨M,C,p2,_⟩:=I.list m;let b0:=rv.length;let b1:=C.length
  refine wpAny_pyNext_zip_end (I.ok.hd hc) D n g j F G p.isList p2.isList (by
   rcases Q with e | e
   .exact .inl (by simp;lia)
   .exact .inr (by simp;lia)) λT N=>⟨rfl,I.turnMany (t':=s.toks) (ch :=[z,TI,TO,A,B]) (λb o f q=>?_) R⟩
  simp only [aL,cI,or_false,not_or] at f;exact N b o f.1 f.2.2.1 f.2.2.2.1 f.2.2.2.2 q
 self:=λ_ _ _ _ _ st h=>wpAny_pyIter_zip st.1 h
section
variable{X:Cx}{elts:List Expr}{k:Nat}{tpos:Pos}
def iZip(K:PySem.W.Frag)(ta:TA):TI:=λσ H R=>ta σ H λvs H1 => ∃a b,vs = [.ref a,.ref b]/\(∃xs,SqL K H1 a xs)/\(∃ys,SqL K H1 b ys)/\R (Itz K a b) H1
theorem qZo{p pos:Pos}(D:Gl X "zip")(E:X.mg "zip" = none)(F:PA X [a,b] w)(G:starEach [a,b] X.env=(false,eval a X.env)::starEach [b] X.env:=by rfl)(j:∀pos,(backTo pos (starEach [b] X.env)).any (·.1)=false:=by intro _;rfl):PI X (.Tuple elts k tpos) (.Call (.Name "zip" p) [a,b] [] pos) (iZip X.K w):=by
 intro d s σ H R I h;refine Call_ (xw I D E boot_zip (fP (thn (F pos d s σ H _ I h) λY f hq_=>?_) G (j _)));let⟨Z,x,g,J,L⟩:=hq_;obtain⟨M,N,e,⟨xs,l⟩,⟨ys,m⟩,q⟩:=L;subst e;let⟨u,u2,rfl,O,n⟩:=vals2 J;cases O;cases n;let⟨P,rv,y,_⟩:=g.list l;let⟨z,Q,A,_⟩:=g.list m;let S:M<f.heap.objs.size:=by let⟨_,e,_⟩:=y.isList;exact aT e
 let T:N<f.heap.objs.size:=by let⟨_,e,_⟩:=A.isList;exact aT e
 refine call_zip_2 y.isList A.isList λU B o r t v _ V=>?_;refine wpAny_pyIter_zip B ?_;let W:Inv X d σ x { f with heap:=U }:=g.kept (t':=f.toks) V;refine⟨_,_,_,_,x,rfl,W,qSy (zipApart_new S T),⟨B,o,⟨_,_,r⟩,t,v⟩,λc C=>?_,q⟩;let i:f.heap.objs.size<=c:=by
  simp only [aL,cI,or_false] at C;rcases C with e | e | e | e | e <;> subst e
  .exact fZ _ _
  .exact fZ _ _
  .exact fZ _ _
  .exact aH _
  .exact fZ _ _
 exact g.fpOk i (g.hok.fresh i)
theorem qZ9{K:PySem.W.Frag}(h:d σ H λvs c => ∃a b,vs = [.ref a,.ref b]/\(∃xs,SqL K c a xs)/\(∃ys,SqL K c b ys)/\R (Itz K a b) c):iZip K d σ H R:=h
end
theorem wAo{K:PySem.W.Frag}{g:TG}{o:TS}{D:Ends}(j:xs.length=ys.length)(Pv:Nat->St->Hp->Prop)(s:Pv 0 σ H)(t:∀i σ H,i<=xs.length->Pv i σ H->SqL K H a xs/\SqL K H b ys)(u:∀i x y σ H p,xs[i]? = some x->ys[i]? = some y->Pv i σ H->H p=none -> ∀(N B C:St->Hp->Prop) (R:VK),Nx N (Pv (i+1))->Nx C (Pv (i+1))->NxV R D.rt->g (.ref p) σ (upd H p (.tup [x,y])) λc k=>o ⟨N,R,B,C⟩ c k)(hd:∀ σ H,Pv xs.length σ H->D.nx σ H):∃W:Nat->Nat->St->Hp->Prop,(∃m,W 0 m σ H) /\ ∀i m σ H,W i m σ H ->
   ((Itz K a b).stop i H/\D.nx σ H)\/((Itz K a b).go i H /\ ∃N:St->Hp->Prop,(∀ d H',N d H' -> ∃q,q<m/\W (i+1) q d H') /\ ∀x H',(Itz K a b).yld i H x H'->g x σ H' λc k=>o { D with nx:=N,ct:=N,bk:=D.nx } c k):=by
 refine⟨λi m σ H=>m=xs.length - i/\i<=xs.length/\Pv i σ H,⟨xs.length,∅,aX _,s⟩,?_⟩;rintro i m σ H ⟨rfl,v,p⟩;let⟨l,n⟩:=t i σ H v p;by_cases f:i<xs.length
 .refine .inr ⟨⟨xs,ys,xs[i],ys[i],l,n,by simp [f],by simp [j▸f]⟩,Pv (i+1),λd H' w=>⟨xs.length - (i+1),∎,rfl,f,w⟩,λx H' y=>?_⟩;let⟨r,z,A,e,E,F,G,I⟩:=y;subst e I;exact u i z A σ H r (F xs l) (G ys n) p E _ _ _ _ (λ_ _ h=>h) (λ_ _ h=>h) (λ_ _ h=>h)
 .let e:i=xs.length:=by lia
  subst e;exact .inl ⟨⟨xs,ys,l,n,.inl (aH _)⟩,hd σ H p⟩
theorem qUk{K:PySem.W.Frag}{k:TT}{B:St->Hp->(St->Hp->Prop)->Prop}(j:xs.length=ys.length)(Pv:Nat->St->Hp->Prop)(m:Pv 0 σ H)(f:∀i σ H,i<=xs.length->Pv i σ H->SqL K H a xs/\SqL K H b ys)(o:∀i x y σ H p (R:St->Hp->Prop),xs[i]? = some x->ys[i]? = some y->Pv i σ H->H p=none->(∀ h H',Pv (i+1) h H'->R h H')->g (.ref p) σ (upd H p (.tup [x,y])) λc q=>k c q λb l=>if b=true then B c l R else R c l)(hd:∀ σ H,Pv xs.length σ H->Q σ H):LoopT (Itz K a b) g k B σ H Q:=by
 refine xm (n:=xs.length) Pv m (λi σ H d p=>⟨xs,ys,xs[i],ys[i],(f i σ H (bS d) p).1,(f i σ H (bS d) p).2,by simp [d],by simp [j▸d]⟩) (λσ H p=>⟨xs,ys,(f _ σ H (aH _) p).1,(f _ σ H (aH _) p).2,.inl (aH _)⟩) (λi σ H R d p s x H' y=>?_) hd;let⟨r,t,u,e,v,w,z,A⟩:=y;subst e A;exact o i t u σ H r R (w xs (f i σ H (bS d) p).1) (z ys (f i σ H (bS d) p).2) p v s
def DEnt(P:Program)(w:World)(h:Heap)(d:Addr)(xs:List (List Key×Addr×Value)):Prop := ∃o es ep,h.get? d=some o/\o.ExactDict/\o.data = .dict es ep/\es.toList=xs.map (entryOfKey (tupleKind (zY P w)))
theorem DEnt.of(D:h.DictOfH (tupleKind (zY P w)) d xs):DEnt P w h d xs:=by
 let⟨o,a,b,c,e,f,g,_,_⟩:=D;exact⟨o,a,b,c,e,f,g⟩
theorem DEnt.full(D:DEnt P w h d xs)(a:∀x∈xs,(tupleKind (zY P w)).is h x.1 x.2.1)(b:(xs.map (·.1)).Nodup):h.DictOfH (tupleKind (zY P w)) d xs:=by
 let⟨o,c,e,f,g,i,j⟩:=D;exact⟨o,c,e,f,g,i,j,a,b⟩
end L2
namespace Miss
open PySem PySem.Spec PyProof.Rows
end Miss
namespace L2
open PySem PySem.Spec PyProof.Rows
noncomputable def tabX(ks:List (List Key×Addr))(vs:List Value):List (List Key×Addr×Value):=(ks.zip vs).map λp=>(p.1.1,p.1.2,p.2)
noncomputable def tabO(P:Program)(w:World)(ks:List (List Key×Addr))(ns:List Int):HO :=.ext λa h=>(a == sysModules)=false /\ ∃vs:List Value,IntsAre vs ns/\DEnt P w h a (tabX ks vs)
theorem qP5(d:(a == sysModules)=false)(f:IntsAre vs ns)(c:DEnt P w h a (tabX ks vs)):ObjOk P w H h a (tabO P w ks ns):=by
 refine⟨⟨d,vs,f,c⟩,?_,λm n q k=>?_⟩
 .let⟨o,_,_,e,_⟩:=c;exact⟨o,e⟩
 .let⟨g,b,i,o,j,l,e,r⟩:=q;exact⟨g,b,i,o,j,l,k o e,r⟩
theorem qP4:∀ {ks:List (List Key×Addr)} {vs:List Value},ks.length=vs.length->(tabX ks vs).map (λx=>Value.ref x.2.1)=ks.map λp=>Value.ref p.2
 | [],[],_=>rfl
 | [],_::_,h=>by cases h
 | _::_,[],h=>by cases h
 | k::ks,v::vs,h=>by
  let:=qP4 (ks:=ks) (vs:=vs) (by simpa using h);unfold tabX at this ⊢;rw [gE,bE,bE,this];rfl
theorem vL:∀ {ks:List (List Key×Addr)} {vs:List Value},ks.length=vs.length->(tabX ks vs).map (·.1)=ks.map (·.1)
 | [],[],_=>rfl
 | [],_::_,h=>by cases h
 | _::_,[],h=>by cases h
 | k::ks,v::vs,h=>by
  let:=vL (ks:=ks) (vs:=vs) (by simpa using h);unfold tabX at this ⊢;rw [gE,bE,bE,this];rfl
theorem qMc(h:x∈tabX ks vs):(x.1,x.2.1)∈ks:=by
 unfold tabX at h;let⟨p,a,rfl⟩:=aY.mp h;exact (List.of_mem_zip a).1
theorem qWb(e:(ks.map (·.1)).Nodup):∀ {j:Nat} {k:List Key} {a:Addr} {v:Value},ks[j]? = some (k,a)->vs[j]? = some v->atKey (tabX ks vs) k=some (a,v):=by
 induction ks generalizing vs with
 | nil=>intro j k a v h;simp at h
 | cons p ks f =>
  intro j k a v b d;let c:=cK.mp (show (p.1::ks.map (·.1)).Nodup from e);cases vs with
  | nil=>simp at d
  | cons u vs =>
   cases j with
   | zero =>
    simp at b d;subst b d;simp [tabX,atKey]
   | succ j =>
    let b:ks[j]? = some (k,a):=by simpa using b
    let ne:p.1≠k:=λz=>c.1 (z▸aY.mpr ⟨_,aN b,rfl⟩);let:=f (vs:=vs) c.2 b (by simpa using d);unfold tabX atKey at this ⊢;rw [gE,bE,List.find?_cons_of_neg]
    .exact this
    .simp [ne]
theorem qRo:∀ {vs:List Value} {ns:List Int} {j:Nat} {n:Int},IntsAre vs ns->ns[j]? = some n -> ∃t,vs[j]? = some (.int n t)
 | _,_,_,_,.nil,h=>by simp at h
 | _,_,0,_,.cons m t _,h=>by simp at h;subst h;exact⟨t,rfl⟩
 | _,_,j+1,_,.cons m t r,h=>by simpa using qRo (j:=j) r (by simpa using h)
theorem xa{σ : St}(I:Inv X b σ H s){k:List Key}(h:SqT X.K H a (k.map kV)):(tupleKind (zY X.prog X.w)).is s.heap k a:=by
 obtain⟨c,r,⟨o,d,e,n,f⟩,_⟩:=I.tuple h;exact⟨o,c.toArray,n,d,e,f,by simpa using uj r⟩
theorem qWq{k:List Key}(l:(tupleKind (zY P w)).room A)(b:(tupleKind (zY P w)).is s.heap k a)(n:s.heap.DictOfH (tupleKind (zY P w)) d xs)(hz:xs.length<=sizeLine)(q:∀(j:Nat) (p:Addr×Value),xs[j]? = some (k,p)->Q p.2 { s with toks:=s.toks+(tupleKind (zY P w)).draws k })(r:k∉xs.map (·.1) -> ∀g,Heap.SameBut d s.heap g->DEnt P w g d (xs ++ [(k,a,z)])->Q z { s with heap:=g,toks:=s.toks+(tupleKind (zY P w)).draws k }):wpAny (model P w) A (dictSetDefault d (.ref a) z) Q E s:=by
 let⟨o,x,t,e,u,c,f,h,v⟩:=n;unfold dictSetDefault;refine bM (aA ((tupleKind (zY P w)).pyHash l b (aA ?_)));refine wpAny_dictFind_heap (s :={ s with toks:=s.toks+(tupleKind (zY P w)).draws k }) l b e c f h v (λi=>?_) (λj p m=>?_)
 .dsimp only;refine aA (cY (aA (wpAny_updateDictKeys (hz:=by let:=size_of_entries f;lia) (s :={ s with toks:=s.toks+(tupleKind (zY P w)).draws k }) e c (aD ?_))));refine r (not_mem_keys_of_get i) _ (bW ..) ⟨_,_,t+1,cW _ e (Obj.isFreed_of_dict (Obj.data_mapDictKeys c _)),u.mapDictKeys _,Obj.data_mapDictKeys c _,?_⟩;simp [f,entryOfKey]
 .dsimp only;refine aA (wpAny_dictEntries (s :={ s with toks:=s.toks+(tupleKind (zY P w)).draws k }) e c ?_);rw [entry_at f j,m];exact aA (cY (aD (q j p m)))
noncomputable def refX(xs:List (List Key×Addr×Addr)):List (List Key×Addr×Value):=xs.map λx=>(x.1,x.2.1,Value.ref x.2.2)
noncomputable def mapO(P:Program)(w:World)(xs:List (List Key×Addr×Addr)):HO :=.ext λa h=>(a == sysModules)=false/\DEnt P w h a (refX xs)
theorem jh(c:(a == sysModules)=false)(b:DEnt P w h a (refX xs)):ObjOk P w H h a (mapO P w xs):=by
 refine⟨⟨c,b⟩,?_,λi j q k=>?_⟩
 .let⟨o,_,_,e,_⟩:=b;exact⟨o,e⟩
 .let⟨d,o,f,g,e,r⟩:=q;exact⟨d,o,f,g,k o e,r⟩
def rSetD(P:Program)(w:World)(K:PySem.W.Frag):V->List V->Hp->VK->Prop:=λx args H Q => ∃(d c z:Addr) (xs:List (List Key×Addr×Addr)) (k:List Key),x = .ref d/\args = [.ref c,.ref z]/\H d=some (mapO P w xs)/\SqT K H c (k.map kV)/\(∀p∈xs,SqT K H p.2.1 (p.1.map kV))/\(xs.map (·.1)).Nodup/\xs.length<sizeLine /\
 (∀p∈xs,p.1=k->Q (.ref p.2.2) H)/\(k∉xs.map (·.1)->Q (.ref z) (upd H d (mapO P w (xs ++ [(k,c,z)]))))
theorem qId(t:X.A.units+1<cLine):MtR X "dict.setdefault" (rSetD X.prog X.w X.K):=by
 intro n s σ H x q v S Q I u B h;let⟨d,c,z,g,k,rfl,rfl,r,C,l,D,T,E,G⟩:=h;cases u;let⟨U,V,rfl,J,L⟩:=vals2 B;cases J;cases L;obtain⟨⟨a,M⟩,_,_⟩:=(show ObjOk X.prog X.w H s.heap d (mapO X.prog X.w g) from I.hok d _ r);let b:(refX g).map (·.1)=g.map (·.1):=by unfold refX;rw [cU];rfl
 let full:=M.full (λx N=>by
  let⟨p,O,rfl⟩:=aY.mp N
  exact xa I (l p O)) (by rw [b];exact D)
 refine cH PySem.F.slot_dict_setdefault full.typeIs PySem.F.entry_dict_setdefault ?_ (PySem.F.args_dict_setdefault_3 _ _ _);unfold Builtin.«dict.setdefault» Builtin.Dict.keyAndDefault;refine aA (aA (wpAny_notOrdered_dict full.typeIs ?_));show wpAny _ _ (pure (d,Value.ref c,some (Value.ref z))) _ _ s;refine aD ?_;show wpAny _ _ (if (d == sysModules)=true then _ else (dictSetDefault d (.ref c) (.ref z) >>= _)) _ _ s;rw [if_neg (by rw [a];exact aK)];refine aA (qWq (dL t) (xa I C) full (by unfold refX;rw [aB];lia) (λj p m=>?_) (λi W P f=>?_))
 .unfold refX at m;rw [aU] at m;let⟨y,R,e⟩:=Option.map_eq_some_iff.mp m;cases e;exact aD ⟨_,rfl,⟨.ref y.2.2,H,I.tok _,rfl,E y (aN R) rfl⟩⟩
 .rw [b] at i;refine aD ⟨_,rfl,⟨.ref z,_,?_,rfl,G i⟩⟩;let e:refX g ++ [(k,c,Value.ref z)]=refX (g ++ [(k,c,z)]):=by unfold refX;rw [aP];rfl
  rw [e] at f;refine xj (t':=s.toks+(tupleKind (zY X.prog X.w)).draws k) I (by rw [r];exact True.intro) P ?_ (jh a f);let⟨o,_,_,e,_⟩:=f;exact⟨o,e⟩
theorem qJa(xs:List (List Key×Addr×Addr)):(refX xs).map (·.1)=xs.map (·.1):=by unfold refX;rw [cU];rfl
theorem qWx(a:(xs.map (·.1)).Nodup)(b:p∈xs):atKey (refX xs) p.1=some (p.2.1,Value.ref p.2.2):=by
 let⟨j,c,e⟩:=bJ b;refine atKey_of_get (i:=j) (by rw [qJa];exact a) ?_;unfold refX;rw [aU,aC c,e];rfl
def qMo(P:Program)(w:World)(K:PySem.W.Frag):V->List V->Hp->VK->Prop:=λx args H Q => ∃(d c:Addr) (i:Int) (ks:List (List Key×Addr)) (ns:List Int) (k:List Key),x = .ref d/\args = [.ref c,.int i]/\H d=some (tabO P w ks ns)/\SqT K H c (k.map kV)/\(∀p∈ks,SqT K H p.2 (p.1.map kV))/\(ks.map (·.1)).Nodup/\ks.length=ns.length /\
 (∀(j:Nat) (n:Int),(ks.map (·.1))[j]? = some k->ns[j]? = some n->Q (.int n) H)/\(k∉ks.map (·.1)->Q (.int i) H)
theorem qO8(E:X.A.units+1<cLine):MtR X "dict.get" (qMo X.prog X.w X.K):=by
 intro z s σ H x B v W Q I G J h;let⟨d,c,i,a,q,k,rfl,rfl,L,M,r,C,Y,N,O⟩:=h;cases G;let⟨Z,u2,rfl,P,R⟩:=vals2 J;cases P;let⟨tk,rfl⟩:=R;obtain⟨⟨g,u,D,S⟩,_,_⟩:=(show ObjOk X.prog X.w H s.heap d (tabO X.prog X.w a q) from I.hok d _ L);let T:=D.length;let b:a.length=u.length:=by lia
 let full:=S.full (λx U=>xa I (r _ (qMc U))) (by rw [vL b];exact C);refine call_meetsIn gA full.typeIs PySem.F.entry_dict_get (PySem.F.args_dict_get_3 _ _ _) (meetsH_dict_get_default (tupleKind (zY X.prog X.w)) d c g (.int i tk)) ⟨dL E,k,tabX a u,xa I M,full,?_⟩;by_cases y:k∈a.map (·.1)
 .let⟨j,o,e⟩:=bJ y;let f:(a.map (·.1))[j]? = some k:=by rw [aC o,e]
  let l:j<a.length:=by simpa using o
  let m:q[j]? = some (q[j]'(by lia)):=aC _;let n:a[j]? = some (k,a[j].2):=by
   rw [aU,aC l] at f;rw [aC l,<-bB f]
  let⟨t,V⟩:=qRo D m;rw [qWb C n V];exact⟨.int _,H,I.tok _,⟨t,rfl⟩,N j _ f m⟩
 .let:atKey (tabX a u) k=none:=by
   refine atKey_none_of_get λj p o=>y ?_;let:=aN o;rw [<-vL b];exact aY.mpr ⟨_,this,rfl⟩
  rw [this];exact⟨.int i,H,I.tok _,⟨tk,rfl⟩,O y⟩
def qVe(P:Program)(w:World):TE:=λσ H Q => ∀d,H d=none->Q (.ref d) (upd H d (mapO P w []))
theorem qTu:PE X (.Dict [] [] pos) (qVe X.prog X.w):=λb s σ H Q I h =>
 wpAny_Dict_empty ⟨.ref s.heap.objs.size,_,I.laid (a:=s.heap.objs.size) (o:=mapO X.prog X.w []) (t':=s.toks) (λ_ _ q=>aE _ q) (aH _)
  (jh (beq_eq_false_iff_ne.mpr λz=>eK _ (z▸I.big)) ⟨_,#[],_,aW _ rfl,⟨rfl,rfl,rfl⟩,rfl,rfl⟩),rfl,h _ (I.hok.fresh (aH _))⟩
theorem qRg(b:(d == sysModules)=false)(a:s.heap.get? d=some o)(c:o.ExactDict)(hd:o.data = .dict es ep)
  (q:Q (.ref s.heap.objs.size) { s with heap:=s.heap.push { cls :=.type "dict_keyiterator",data :=.fields #[.ref d,.int 0 0,.int es.size 0,.int ep 0] } }) :
  wpAny (model P w) A (pyIter (.ref d)) Q E s:=by
 let ty:s.TypeIs (.ref d) "dict" :=⟨o,a,c.1⟩;refine wpAny_pyIter_slot ty F.slot_dict_iter (cH F.slot_dict_iter ty F.entry_dict_iter ?_ (F.args_dict_iter_1 _));unfold Builtin.«dict.__iter__» Builtin.Dict.dictSlotNone;refine aA (aA (wpAny_notOrdered_dict ty ?_));show wpAny _ _ (pure (Value.ref d)) _ _ s;refine aD ?_;show wpAny _ _ (Builtin.Dict.showsAll d >>= _) _ _ s;unfold Builtin.Dict.showsAll;rw [if_neg (by rw [b];decide)];refine aA (aD (aA (wpAny_dictEntries a hd (aA (wpAny_dictEpoch a hd (aA (cN (aD ⟨_,rfl,"dict_keyiterator",_,⟨_,aW _ rfl,rfl⟩,eJ.lookup,?_⟩))))))))
 simpa [rawInt] using q
theorem qOf(a:s.heap.IsKeyIter it d i es.size ep)(f:s.heap.get? d=some o)(hd:o.data = .dict es ep)(hi:es[i]? = some e)(q:∀h',h'.IsKeyIter it d (i+1) es.size ep->Heap.SameBut it s.heap h'->Q (some e.key) { s with heap:=h' }):wpAny (model P w) A (pyNext (.ref it)) Q E s:=by
 let⟨j,c,h,b⟩:=id a;unfold pyNext;refine aA (wpAny_attempt (fI (name:=Str.ofString "__next__") a.typeIs eJ (cH eJ a.typeIs F.entry_dict_keyiterator_next ?_ (F.args_dict_keyiterator_next_1 _))));refine aA (aD (aA (aA ?_)))
 first | refine aA (fH a.typeIs (aD (aA (iI c b ?_)))) | refine aA (gV a.typeIs (aD (aA (iI c b ?_))))
 simp only [show Builtin.Dict_items.ownsTuple "dict_keyiterator" = false by decide,bV,if_false];show wpAny _ _ (if (Value.ref d == Value.none)=true then _ else _) _ _ s;rw [if_neg (show ¬((Value.ref d == Value.none)=true) from λz=>by cases z)];refine aA (aD (aA (wpAny_dictEntries f hd ?_)));rw [if_neg ∅];refine aA (aD (aA (wpAny_dictEpoch f hd ?_)));rw [if_neg ∅];refine aD ?_;simp only [show ¬((i:Int)<0) from by lia,if_false,cV,hi];refine aA ?_
 first | refine aA (fH a.typeIs (aD (aA (wpAny_isOneOf_keyiter a.typeIs ?_)))) | refine aA (gV a.typeIs (aD (aA (wpAny_isOneOf_keyiter a.typeIs ?_))))
 show wpAny _ _ (setField (.ref it) 1 (rawInt ((i:Int)+1)) >>= _) _ _ s;refine aA (fN c b ∅ ?_);let st:(s.heap.update it (Obj.mapFields (·.setIfInBounds 1 (rawInt ((i:Int)+1))))).IsKeyIter it d (i+1) es.size ep:=⟨_,cW _ c (Obj.isFreed_of_fields (Obj.data_mapFields b _)),(Obj.cls_mapFields ..).trans h,by rw [Obj.data_mapFields b];simp [rawInt]⟩;let g:=bW s.heap it (Obj.mapFields (·.setIfInBounds 1 (rawInt ((i:Int)+1))));generalize s.heap.update it (Obj.mapFields (·.setIfInBounds 1 (rawInt ((i:Int)+1))))=h' at st g ⊢;refine aA (bM (aA (wpAny_isOneOf_keyiter (s :={ s with heap:=h' }) st.typeIs ?_)))
 show wpAny _ _ (pure e.key) _ _ _;exact aD (aD ⟨_,rfl,aD (q _ st g)⟩)
theorem qRh(f:A.handled=none)(a:s.heap.IsKeyIter it d i es.size ep)(e:s.heap.get? d=some o)(hd:o.data = .dict es ep)(hi:es.size<=i)(q:∀h',Heap.ExtBut it s.heap h'->Q none { s with heap:=h' }):wpAny (model P w) A (pyNext (.ref it)) Q E s:=by
 let⟨g,b,h,c⟩:=id a;unfold pyNext;refine aA (wpAny_attempt (fI (name:=Str.ofString "__next__") a.typeIs eJ (cH eJ a.typeIs F.entry_dict_keyiterator_next ?_ (F.args_dict_keyiterator_next_1 _))));refine aA (aD (aA (aA ?_)))
 first | refine aA (fH a.typeIs (aD (aA (iI b c ?_)))) | refine aA (gV a.typeIs (aD (aA (iI b c ?_))))
 simp only [show Builtin.Dict_items.ownsTuple "dict_keyiterator" = false by decide,bV,if_false];show wpAny _ _ (if (Value.ref d == Value.none)=true then _ else _) _ _ s;rw [if_neg (show ¬((Value.ref d == Value.none)=true) from λz=>by cases z)];refine aA (aD (aA (wpAny_dictEntries e hd ?_)));rw [if_neg ∅];refine aA (aD (aA (wpAny_dictEpoch e hd ?_)));rw [if_neg ∅];refine aD ?_;simp only [show ¬((i:Int)<0) from by lia,if_false,cV,Array.getElem?_eq_none hi];refine aA ?_
 first | refine aA (fH a.typeIs (aD ?_)) | refine aA (gV a.typeIs (aD ?_))
 show wpAny _ _ (setField (.ref it) 0 .none >>= _) _ _ s;refine aA (fN b c ∅ ?_);exact vq (s0:=s) (show A.in1.handled=none from f) (bW ..).extBut q
noncomputable def Itm(P:Program)(w:World)(d:Addr)(o:Obj)(xs:List (List Key×Addr×Addr)):It:=⟨λi H=>H d=some (.frz o (mapO P w xs))/\i<xs.length,λi H x H'=>H'=H /\ ∃p,xs[i]? = some p/\x = .ref p.2.1,λi H=>H d=some (.frz o (mapO P w xs))/\xs.length<=i⟩
section
variable{P:Program}{w:World}{K:PySem.W.Frag}{tg:Expr}
theorem qRt{ep:Nat}(ok:HOk P w H h)(e:H d=some (.frz o (mapO P w xs)))(hd:o.data = .dict es ep):h.get? d=some o/\es.toList=(refX xs).map (entryOfKey (tupleKind (zY P w))):=by
 obtain⟨a,⟨j,k,f,g,b,l,c,i⟩,_⟩:=ok d _ e;rw [a] at b;cases b;rw [hd] at c;cases c;exact⟨a,i⟩
theorem qSz(d it:Addr)(o:Obj)(xs:List (List Key×Addr×Addr)){ep:Nat}(hd:o.data = .dict es ep)(l:es.size=xs.length):Turn P w K tg (Itm P w d o xs) [it] it (λi h=>h.IsKeyIter it d i xs.length ep) where
 mem:=by simp
 obj:=λi h st b f=>by
  let e:b=it:=by simpa using f
  subst e;let⟨g,e,c,N⟩:=st;exact⟨g,e,λv z=>by rw [N] at z;cases z⟩
 keep:=λi h m st k=>st.at λg e=>k it ∅ g e
 item:=by
  intro X p q r J i a s σ H E I n st t;subst p q r;let⟨u,x⟩:=t;let⟨y,L⟩:=qRt I.hok u hd;let M:xs[i]? = some xs[i]:=aC x;let A:es[i]? = some (entryOfKey (tupleKind (zY X.prog X.w)) (xs[i].1,xs[i].2.1,Value.ref xs[i].2.2)):=by
   rw [<-bA,L,aU];unfold refX;rw [aU,M];rfl
  let⟨B,C,O,D,F,G⟩:=n it ∅;refine qOf (by rw [l];exact st) y hd A λm j Q=>?_;let R:Inv X a σ H { s with heap:=m }:=I.turned (t':=s.toks) (λb g f e=>(Q.2 b f).trans e) B C D F G;let⟨g,e,c,S⟩:=id j;exact⟨_,rfl,wV (s :={ s with heap:=m }) e c S ⋯ ⟨.ref xs[i].2.1,H,R,rfl,⟨rfl,xs[i],M,rfl⟩,by rw [l] at j;exact j,λb f=>(n b f).1⟩⟩
 done:=by
  intro X p q r J i a s σ H E I n st t;subst p q r;let⟨u,x⟩:=t;let⟨y,L⟩:=qRt I.hok u hd;let⟨B,C,O,D,F,G⟩:=n it ∅;exact qRh (I.ok.hd J) (by rw [l];exact st) y hd (by rw [l];exact x) λm T=>⟨rfl,I.turned (t':=s.toks) (λb g f e=>T b g f e) B C D F G⟩
 self:=λ_ _ _ _ _ st h=>wpAny_pyIter_keyiter st h
end
def iMap(P:Program)(w:World)(td:TE):TI:=λσ H R=>td σ H λx H1 => ∃d xs,x = .ref d/\Rd H1 d (mapO P w xs) /\ ∀o,R (Itm P w d o xs) (upd H1 d (.frz o (mapO P w xs)))
theorem qZp(B:PE X l z):PI X tg l (iMap X.prog X.w z):=by
 intro c s σ H R I h;refine thn (B c s σ H _ I h) λv k hq_=>?_;let⟨x,C,t,D,E⟩:=hq_;let⟨d,u,e,g,q⟩:=E;subst e;cases D;obtain⟨o,a,i,m,f,n,j,p,y⟩:∃o a i,(d == sysModules)=false/\k.heap.get? d=some o/\o.ExactDict/\o.data = .dict a i/\a.toList=(refX u).map (entryOfKey (tupleKind (zY X.prog X.w)))/\Inv X c σ (upd C d (.frz o (mapO X.prog X.w u))) k:=by
  rcases g with g | ⟨o,g⟩
  .obtain⟨⟨m,o,a,i,f,n,j,p⟩,_⟩:=id (t.hok d _ g);exact⟨o,a,i,m,f,n,j,p,t.freeze g True.intro f λG=>jh m ⟨o,a,i,f,n,j,p⟩⟩
  .obtain⟨f,⟨m,J,a,i,r,n,j,p⟩,_⟩:=id (t.hok d _ g);rw [f] at r;cases r;exact⟨o,a,i,m,f,n,j,p,by rw [qM8 g];exact t⟩
 let A:a.size=u.length:=by rw [<-aM,p,aB];unfold refX;rw [aB]
 refine qRg m f n j ?_;refine⟨k.heap.objs.size,[k.heap.objs.size],_,_,_,rfl,y.kept (t':=k.toks) λb K e=>aE _ e,qSz d _ o u j A,⟨_,aW _ rfl,rfl,by rw [A];rfl⟩,λb F=>?_,q o⟩;let e:b=k.heap.objs.size:=by simpa using F
 subst e;exact y.fpOk (aH _) (y.hok.fresh (aH _))
theorem qUl(Pv:Nat->St->Hp->Prop)(l:Pv 0 σ H)(j:∀i σ H,i<=xs.length->Pv i σ H->H d=some (.frz o (mapO P w xs)))(m:∀i p σ H (R:St->Hp->Prop),xs[i]? = some p->Pv i σ H->(∀ c H',Pv (i+1) c H'->R c H')->g (.ref p.2.1) σ H λa q=>h a q λb k=>if b=true then B a k R else R a k)(hd:∀ σ H,Pv xs.length σ H->Q σ H):LoopT (Itm P w d o xs) g h B σ H Q:=by
 refine xm (n:=xs.length) Pv l (λi σ H f p=>⟨j i σ H (bS f) p,f⟩) (λσ H p=>⟨j _ σ H (aH _) p,aH _⟩) (λi σ H R f p r x H' y=>?_) hd;let⟨e,s,t,u⟩:=y;subst e u;exact m i s σ _ R t p r
theorem qP3(h:ks.length=vs.length)(k:List Key)(c:Addr)(v:Value):tabX (ks ++ [(k,c)]) (vs ++ [v])=tabX ks vs ++ [(k,c,v)]:=by
 unfold tabX;rw [List.zip_append h,aP];rfl
theorem qRn(h:IntsAre vs ns)(n:Int)(t:Tok):IntsAre (vs ++ [.int n t]) (ns ++ [n]):=by
 induction h with
 | nil=>exact .cons n t .nil
 | cons m u _ a=>exact .cons m u a
theorem qYo:xk X newDict (tabO X.prog X.w [] []):=by
 intro a s σ H E Q I h;refine cN (h _ _ (aH _) I.fresh (I.laid (t':=s.toks) (λ_ _ q=>aE _ q) (aH _) (qP5 (vs :=[]) (beq_eq_false_iff_ne.mpr λz=>eK _ (z▸I.big)) .nil ⟨_,#[],_,aW _ rfl,⟨rfl,rfl,rfl⟩,rfl,rfl⟩)) λb u e=>aE _ e) ?_
 first | trivial | size_fits | decide
def ePutT(P:Program)(w:World)(K:PySem.W.Frag)(tk tv:TE)(l:Addr):TB:=λσ H Q=>tk σ H λx H1=>tv σ H1 λy H2 => ∃(ks:List (List Key×Addr)) (ns:List Int) (k:List Key) (c:Addr) (n:Int),x = .ref c/\y = .int n/\H2 l=some (tabO P w ks ns)/\SqT K H2 c (k.map kV)/\(∀p∈ks,SqT K H2 p.2 (p.1.map kV))/\(ks.map (·.1)).Nodup/\ks.length=ns.length/\ks.length<sizeLine/\k∉ks.map (·.1)/\Q σ (upd H2 l (tabO P w (ks ++ [(k,c)]) (ns ++ [n])))
theorem qZw{k v:Expr}{tk D:TE}(P:Program)(w:World)(K:PySem.W.Frag)(G:X.prog=P)(hw:X.w=w)(J:X.K=K)(L:X.A.units+1<cLine)(M:PE X k tk)(N:PE X v D):PB X (wx k v (.ref l) X.env) (ePutT P w K tk D l):=by
 subst G hw J;intro b s σ H Q I h;refine aA (thn (M b s σ H _ I h) λu O hq_=>?_);let⟨x,R,S,T,U⟩:=hq_;refine aA (bM (thn (N b O σ R _ S U) λw2 V hq_=>?_));let⟨y,Y,g,Z,i,ns,kk,c,n,ex,ey,E,hc,m,hn,hl,hz,o,q⟩:=hq_;subst ex ey;obtain rfl:u=Value.ref c:=T;let⟨t,rfl⟩:=Z;obtain⟨⟨d,r,F,De⟩,_,_⟩:=(show ObjOk X.prog X.w Y V.heap l (tabO X.prog X.w i ns) from g.hok l _ E);let a0:=F.length;let a:i.length=r.length:=by lia
 let full:=De.full (λx hx=>xa g (m _ (qMc hx))) (by rw [vL a];exact hn);let z:atKey (tabX i r) kk=none:=by
  refine atKey_none_of_get λj p hj=>o ?_;let:=aN hj;rw [<-vL a];exact aY.mpr ⟨_,this,rfl⟩
 let B:(tabX i r).length<=sizeLine:=by unfold tabX;rw [aB,gR];lia
 let C:(tupleKind (zY X.prog X.w)).room X.A:=Nat.lt_of_succ_lt L;refine aA (dI (bM (wpAny_dictSet_heap (hsz:=B) C (xa g hc) full λh' e sb=>?_)));rw [storedH_new z,<-qP3 a] at e;let f:=DEnt.of e;let he:∃q,h'.get? l=some q:=let ⟨q,_,_,hq,_⟩:=f;⟨q,hq⟩
 exact⟨σ,_,xj g (by rw [E];exact True.intro) sb he (qP5 d (qRn F n t) f),q⟩
theorem qZs(own:List Str)(cap:List Nat)(P:Program)(w:World)(K:PySem.W.Frag)(c:X.prog=P)(hw:X.w=w)(d:X.K=K)(e:X.A.units+1<cLine)(f:X.calm=true)(S:CompScope X own cap scope)(hi:PI X tg iter wi)(i:∀a s H ex,PG (zQ X own cap scope a s H ex) tg g)(j:∀a s H ex,PTs (zQ X own cap scope a s H ex) ifs tts)(k:∀a s H ex,PE (zQ X own cap scope a s H ex) ke tk)(m:∀a s H ex,PE (zQ X own cap scope a s H ex) ve tv)(n:∀x,foldedSetIterable iter X.env x=pure x:=by intro _;rfl):PE X (.DictComp ke ve [⟨tg,iter,ifs,0⟩] scope pos) (tComp own cap (tabO P w [] []) wi g tts (ePutT P w K tk tv)):=by
 subst c hw d;intro b s σ H Q I h;exact vV (behOf:=wx ke ve) f S rfl hi qYo (λ_ _ _ _ _=>Qh) i j (λa s H ex l=>qZw X.prog X.w X.K rfl rfl rfl e (k a s H ex) (m a s H ex)) n b s σ H Q I h
def rTupL(K:PySem.W.Frag):List V->Hp->VK->Prop:=λxs H Q => ∃(a:Addr) (ys:List V),xs = [.ref a]/\SqL K H a ys /\ ∀p,H p=none->Q (.ref p) (upd H p (.tup ys))
theorem qSi:CallR X (.type "tuple") (rTupL X.K):=by
 intro f s σ H p t Q I r h;let⟨a,j,rfl,l,q⟩:=h;let⟨u,rfl,m⟩:=vals1 r;cases m;let⟨c,g,n,v⟩:=I.list l;let w:=g.length;refine call_tuple_list n.isList (λd k=>?_) (by rw [aR];lia);let i:s.heap.get? d.objs.size=none:=by
  cases e:s.heap.get? d.objs.size with
  | none=>rfl
  | some o=>exact absurd (aT (k _ o e)) (eK _)
 exact⟨.ref d.objs.size,_,I.laidN (t':=s.toks) (o :=.tup j) (λb o e=>aE _ (k b o e)) i ⟨∎,c,g,IsTup.new _ _⟩,rfl,q _ (I.hok.gone i)⟩
theorem uQ{m works:Int}(h:WorkOk m works c):(zG c c.length).Nodup:=(uA h).imp λ{a b} d e=>by
 subst e;unfold ltP at d;lia
noncomputable def yM(k:K4):Deed:=if k.2.1 then .save k.2.2 else .back k.2.2
noncomputable def eight:List Int :=[0,1,2,3,4,5,6,7]
theorem mem_eight{b:Int}:b∈eight↔0<=b/\b<8:=by
 unfold eight;simp only [aL,cI,or_false];lia
theorem eight_rise:eight.Pairwise (· < ·):=by decide
noncomputable def mvO(bs:List Int)(f:Int->List Int)(w:Int×Int)(b:Int):Option K4:=if b∈bs then rowOf f w b else none
noncomputable def mvK(bs:List Int)(f:Int->List Int)(w:Int×Int):List K4:=eight.filterMap (mvO bs f w)
noncomputable def mvL(bs:List Int)(f:Int->List Int)(w:Int×Int):List Deed:=(mvK bs f w).map yM
theorem uR{b:Int}{k:K4}(h:rowOf f w b=some k):k.1=w/\k.2.2=b:=by
 unfold rowOf at h;split at h
 .cases h
 .cases h;exact⟨rfl,rfl⟩
theorem wQ{bs:List Int}{b:Int}{k:K4}(h:mvO bs f w b=some k):k.1=w/\k.2.2=b/\b∈bs/\rowOf f w b=some k:=by
 unfold mvO at h;split at h
 .next a=>exact⟨(uR h).1,(uR h).2,a,h⟩
 .cases h
theorem qWu{bs:List Int}(i:a.Nodup):(rowsL a bs f).filter (λk=>decide (k.1=w))=if w∈a then bs.filterMap (rowOf f w) else []:=by
 unfold rowsL;let one:∀v:Int×Int,(bs.filterMap (rowOf f v)).filter (λk=>decide (k.1=w))=if v=w then bs.filterMap (rowOf f v) else []:=λv=>by
  by_cases e:v=w
  .rw [if_pos e];refine List.filter_eq_self.mpr λk d=>?_;let⟨b,_,g⟩:=bU.mp d;exact decide_eq_true ((uR g).1.trans e)
  .rw [if_neg e];refine List.filter_eq_nil_iff.mpr λk d z=>?_;let⟨b,_,g⟩:=bU.mp d;exact e ((uR g).1.symm.trans (of_decide_eq_true z))
 induction a with
 | nil=>simp
 | cons v r j =>
  let c:=cK.mp i;rw [cO,eQ,one v,j c.2];by_cases e:v=w
  .subst e;rw [if_pos rfl,if_neg c.1,if_pos (aV ..),cE]
  .rw [if_neg e,List.nil_append];by_cases h:w∈r
   .rw [if_pos h,if_pos (aS _ h)]
   .rw [if_neg h,if_neg (λz=>(aL.mp z).elim (λq=>e q.symm) h)]
theorem qUd(bs:List Int)(f:Int->List Int)(w:Int×Int):(mvK bs f w).Pairwise λa b=>a.2.2<b.2.2:=by
 unfold mvK;rw [List.pairwise_filterMap];exact eight_rise.imp λ{a b} h x c y d=>by rw [(wQ c).2.1,(wQ d).2.1];exact h
theorem qUe{bs:List Int}(a:∀b∈bs,0<=b/\b<8)(c:bs.Nodup):(bs.filterMap (rowOf f w)).Perm (mvK bs f w):=by
 let e:mvK bs f w=(eight.filter λb=>decide (b∈bs)).filterMap (rowOf f w):=by
  unfold mvK;rw [List.filterMap_filter]
  congr 1
  funext b
  unfold mvO;by_cases h:b∈bs <;> simp [h]
 rw [e];refine List.Perm.filterMap _ ?_;refine (List.perm_ext_iff_of_nodup c ((eight_rise.imp λh=>by lia).filter _)).mpr λb=>?_;rw [bT,mem_eight];exact⟨λh=>⟨a b h,decide_eq_true h⟩,λh=>of_decide_eq_true h.2⟩
theorem qWt{bs:List Int}{ks:List K4}(o:∀b∈bs,0<=b/\b<8)(p:bs.Nodup)(hw:c.Nodup)(q:ks.Perm (rowsL c bs f))(l:(ks.map (·.2.2)).Pairwise (· <= ·)):ks.filter (λk=>decide (k.1=w))=if w∈c then mvK bs f w else []:=by
 let d:=q.filter λk=>decide (k.1=w);rw [qWu hw] at d;by_cases h:w∈c
 .rw [if_pos h] at d ⊢;let m:=d.trans (qUe (f:=f) (w:=w) o p);rw [dJ] at l;refine List.Perm.eq_of_pairwise (le:=λa b:K4=>a.2.2<=b.2.2) (λa b r g s t=>?_) (l.filter _) ((qUd bs f w).imp λ{a b} h=>by lia) m;let i:a∈mvK bs f w:=m.mem_iff.mp r;unfold mvK at i g;let⟨x,_,j⟩:=bU.mp i;let⟨y,_,n⟩:=bU.mp g;let e:x=y:=by rw [<-(wQ j).2.1,<-(wQ n).2.1];lia
  rw [e,n] at j;exact (bB j).symm
 .rw [if_neg h] at d ⊢;exact d.eq_nil
noncomputable def upS(s:Int->Bool)(b:Int)(v:Bool):Int->Bool:=λx=>if x=b then v else s x
noncomputable def stepD(s:Int->Bool):Deed->Option (Int->Bool)
 | .set b _=>if s b=true then some s else none
 | .add b _=>if s b=true then some s else none
 | .tell _=>some s
 | .call _=>some s
 | .save b=>if s b=true then none else some (upS s b true)
 | .back b=>if s b=true then some (upS s b false) else none
noncomputable def runD(s:Int->Bool):List Deed->Option (Int->Bool)
 | []=>some s
 | d::ds=>(stepD s d).bind λs'=>runD s' ds
theorem qFw(s:Int->Bool)(b l2:List Deed):runD s (b++l2)=(runD s b).bind λa=>runD a l2:=by
 induction b generalizing s with
 | nil=>rfl
 | cons d r c =>
  show (stepD s d).bind (λa=>runD a (r++l2))=((stepD s d).bind λa=>runD a r).bind _;cases stepD s d with
  | none=>rfl
  | some a=>exact c a
noncomputable def sv(bs:List Int)(f:Int->List Int)(x:Int):Int->Bool:=λb=>decide (b∈bs)&&decide (x∈f b)
theorem qH3{bs:List Int}:∀(l:List Int) (s:Int->Bool),l.Nodup->(∀b∈l,s b=sv bs f w.1 b)->runD s ((l.filterMap (mvO bs f w)).map yM)=some λb=>if b∈l then sv bs f w.2 b else s b
 | [],s,_,_=>by simp [runD]
 | b::l,s,j,t=>by
  let j:=cK.mp j;let p:=t b (aV ..);let q:∀d:Int->Bool,(∀x,x≠b->d x=s x)->d b=sv bs f w.2 b->runD d ((l.filterMap (mvO bs f w)).map yM)=some λx=>if x∈b::l then sv bs f w.2 x else s x:=λd g c=>by
   rw [qH3 l d j.2 λx a=>by rw [g x (λz=>j.1 (z▸a))];exact t x (aS _ a)]
   congr 1
   funext x
   by_cases e:x=b
   .subst e;rw [if_neg j.1,if_pos (aV ..),c]
   .by_cases a:x∈l
    .rw [if_pos a,if_pos (aS _ a)]
    .rw [if_neg a,if_neg (λz=>(aL.mp z).elim e a),g x e]
  rw [dE];unfold sv at p;cases i:mvO bs f w b with
  | none =>
   refine q s (λ_ _=>rfl) ?_;rw [p];unfold sv;unfold mvO at i;by_cases h:b∈bs
   .rw [if_pos h] at i;unfold rowOf at i;split at i
    .next e=>rw [e]
    .cases i
   .simp [h]
  | some k =>
   let⟨u,v,r,o⟩:=wQ i;unfold rowOf at o;split at o
   .cases o
   .next m =>
    cases o;show (stepD s (yM (w,decide (w.2∈f b),b))).bind (λd=>runD d ((l.filterMap (mvO bs f w)).map yM))=_;let n:s b=decide (w.1∈f b):=by rw [p];simp [r]
    by_cases c:w.2∈f b
    .let g : ¬w.1∈f b:=λz=>m (by simp [z,c]);let:stepD s (yM (w,decide (w.2∈f b),b))=some (upS s b true):=by
      unfold yM;simp only [c,decide_true,if_true,stepD];rw [if_neg (by rw [n,decide_eq_false g];decide)]
     rw [this];exact q _ (λx a=>if_neg a) (by unfold upS sv;simp [r,c])
    .let g:w.1∈f b:=Classical.byContradiction λz=>m (by simp [z,c]);let:stepD s (yM (w,decide (w.2∈f b),b))=some (upS s b false):=by
      unfold yM;simp only [c,decide_false,bV,if_false,stepD];rw [if_pos (by rw [n,decide_eq_true g])]
     rw [this];exact q _ (λx a=>if_neg a) (by unfold upS sv;simp [r,c])
theorem ji{bs:List Int}(a:∀b∈bs,0<=b/\b<8)(w:Int×Int):runD (sv bs f w.1) (mvL bs f w)=some (sv bs f w.2):=by
 unfold mvL mvK;rw [qH3 eight _ (eight_rise.imp λh=>by lia) λ_ _=>rfl]
 congr 1
 funext b
 by_cases h:b∈eight
 .rw [if_pos h]
 .rw [if_neg h];let:b∉bs:=λz=>h (mem_eight.mpr (a b z));unfold sv;simp [this]
noncomputable def inB(ways:List (Int×Int))(k:Int):List (Int×Int):=ways.filter λw=>decide (homeS ways w=("begin" : Str))&&decide (w.2=k)
noncomputable def ofE(ways:List (Int×Int))(k:Int):List (Int×Int):=ways.filter λw=>decide (homeS ways w=("end" : Str))&&decide (w.1=k)
noncomputable def toN(m:Nat)(sp:List (Int×Int))(w:Int×Int):Int:=if w∈sp then (m:Int)+(sp.idxOf w:Nat) else w.2
noncomputable def xt(ways:List (Int×Int))(m:Nat)(bs:List Int)(f:Int->List Int)(k:Nat)(b:Blk):Blk:=⟨(inB ways k).flatMap (mvL bs f)++b.ds++(ofE ways k).flatMap (mvL bs f),b.ns.map λt=>toN m (zh ways bs f) ((k:Int),t)⟩
noncomputable def xK(wk:List Blk)(bs:List Int)(f:Int->List Int):List Blk:=wk.mapIdx (xt (zG wk wk.length) wk.length bs f)++(zh (zG wk wk.length) bs f).map λw=>⟨mvL bs f w,[w.2]⟩
theorem jk{α : Type}{l:List α}{p : α -> Bool}(h:(l.filter p).length=1){x y : α}(c:x∈l)(d:p x=true)(f:y∈l)(g:p y=true):x=y:=by
 let⟨z,e⟩:=dN.mp h;let a:x∈l.filter p:=bT.mpr ⟨c,d⟩;let b:y∈l.filter p:=bT.mpr ⟨f,g⟩;rw [e] at a b;rw [aF.mp a,aF.mp b]
theorem uS(a:List (Int×Int))(w:Int×Int):(w=(-1,0)/\homeS a w=("begin" : Str))\/(w≠(-1,0)/\cntO a w.1=1/\homeS a w=("end" : Str))\/(w≠(-1,0)/\cntO a w.1≠1/\cntI a w.2=1/\homeS a w=("begin" : Str))\/(w≠(-1,0)/\cntO a w.1≠1/\cntI a w.2≠1/\homeS a w=("split" : Str)):=by
 unfold homeS;by_cases b:w=(-1,0)
 .exact .inl ⟨b,if_pos b⟩
 .by_cases c:cntO a w.1=1
  .exact .inr (.inl ⟨b,c,by rw [if_neg b,if_pos c]⟩)
  .by_cases d:cntI a w.2=1
   .exact .inr (.inr (.inl ⟨b,c,d,by rw [if_neg b,if_neg c,if_pos d]⟩))
   .exact .inr (.inr (.inr ⟨b,c,d,by rw [if_neg b,if_neg c,if_neg d]⟩))
theorem mem_inB:w∈inB ways k↔w∈ways/\homeS ways w=("begin" : Str)/\w.2=k:=by
 unfold inB;rw [bT,bP,decide_eq_true_eq,decide_eq_true_eq]
theorem mem_ofE:w∈ofE ways k↔w∈ways/\homeS ways w=("end" : Str)/\w.1=k:=by
 unfold ofE;rw [bT,bP,decide_eq_true_eq,decide_eq_true_eq]
theorem qN9(h:homeS ways w=("begin" : Str)):w=(-1,0)\/(cntO ways w.1≠1/\cntI ways w.2=1):=by
 rcases uS ways w with ⟨c,_⟩ | ⟨_,_,a⟩ | ⟨_,d,a,_⟩ | ⟨_,_,_,b⟩
 .exact .inl c
 .rw [h] at a;exact absurd a ⋯
 .exact .inr ⟨d,a⟩
 .rw [h] at b;exact absurd b ⋯
theorem qN8(h:homeS ways w=("end" : Str)):cntO ways w.1=1:=by
 rcases uS ways w with ⟨_,b⟩ | ⟨_,c,d⟩ | ⟨_,_,_,a⟩ | ⟨_,_,_,a⟩
 .rw [h] at b;exact absurd b ⋯
 .exact c
 .rw [h] at a;exact absurd a ⋯
 .rw [h] at a;exact absurd a ⋯
theorem qUs(h:homeS ways w=("split" : Str)):w≠(-1,0)/\cntO ways w.1≠1/\cntI ways w.2≠1:=by
 rcases uS ways w with ⟨_,e⟩ | ⟨_,g,f⟩ | ⟨_,_,_,d⟩ | ⟨a,b,c,d⟩
 .rw [h] at e;exact absurd e ⋯
 .rw [h] at f;exact absurd f ⋯
 .rw [h] at d;exact absurd d ⋯
 .exact⟨a,b,c⟩
theorem uT(g:ways.Nodup)(i:∀w∈ways,w.2=0->w=(-1,0)):(inB ways k).length<=1:=by
 let b:∀x∈inB ways k,∀y∈inB ways k,x=y:=λx j y l=>by
  let⟨m,n,c⟩:=mem_inB.mp j;let⟨d,o,f⟩:=mem_inB.mp l;rcases qN9 n with e | ⟨_,e⟩
  .exact e.trans (i y d (by rw [f,<-c,e])).symm
  .exact jk e m (decide_eq_true rfl) d (decide_eq_true (f.trans c.symm))
 let a:(inB ways k).Nodup:=g.filter _
 match h:inB ways k,b,a with
 | [],_,_=>simp
 | [_],_,_=>simp
 | x::y::r,b,a=>exact absurd (b x ∅ y ∅) (λe=>by rw [e] at a;simp at a)
theorem jl(c:ways.Nodup):(ofE ways k).length<=1:=by
 let b:∀x∈ofE ways k,∀y∈ofE ways k,x=y:=λx d y f=>by
  let⟨g,i,j⟩:=mem_ofE.mp d;let⟨l,n,m⟩:=mem_ofE.mp f;exact jk (qN8 i) g (decide_eq_true rfl) l (decide_eq_true (m.trans j.symm))
 let a:(ofE ways k).Nodup:=c.filter _
 match h:ofE ways k,b,a with
 | [],_,_=>simp
 | [_],_,_=>simp
 | x::y::r,b,a=>exact absurd (b x ∅ y ∅) (λe=>by rw [e] at a;simp at a)
noncomputable def bgS(ways:List (Int×Int))(bs:List Int)(f:Int->List Int)(k:Int):Int->Bool:=match inB ways k with
 | []=>sv bs f k
 | w::_=>sv bs f w.1
noncomputable def enS(ways:List (Int×Int))(bs:List Int)(f:Int->List Int)(k:Int):Int->Bool:=match ofE ways k with
 | []=>sv bs f k
 | w::_=>sv bs f w.2
theorem vM{α : Type}{l:List α}{x : α}(h:l.length<=1)(a:x∈l):l = [x]:=by
 match l,h,a with
 | [y],_,a=>rw [aF.mp a]
 | y::z::r,h,_=>simp at h
structure WaysOk(ways:List (Int×Int))(m:Int):Prop where
 nd:ways.Nodup
 door:(-1,0)∈ways
 to0:∀w∈ways,w.2=0->w=(-1,0)
 rg:∀w∈ways,w≠(-1,0)->0<=w.1/\w.1<m/\1<=w.2/\w.2<=m
 outs:∀w∈ways,w.2=m->cntO ways w.1=1
theorem qWh(W:WaysOk ways m):bgS ways bs f 0=sv bs f (-1):=by
 let h:(-1,0)∈inB ways 0:=mem_inB.mpr ⟨W.door,by unfold homeS;rw [if_pos rfl],rfl⟩;unfold bgS;rw [vM (uT W.nd W.to0) h]
theorem qT1(W:WaysOk ways m)(hw:w∈ways)(h:homeS ways w=("begin" : Str)):bgS ways bs f w.2=sv bs f w.1:=by
 unfold bgS;rw [vM (uT W.nd W.to0) (mem_inB.mpr ⟨hw,h,rfl⟩)]
theorem jn(W:WaysOk ways m)(hw:w∈ways)(hd:w≠(-1,0))(h:homeS ways w≠("begin" : Str)):bgS ways bs f w.2=sv bs f w.2:=by
 unfold bgS;cases e:inB ways w.2 with
 | nil=>rfl
 | cons v r =>
  let c:v∈inB ways w.2:=by rw [e];simp
  let⟨d,a,b⟩:=mem_inB.mp c;rcases qN9 a with z | ⟨_,z⟩
  .let:=(W.rg w hw hd).2.2.1;rw [z] at b;let:(0:Int)=w.2:=b;lia
  .let:=jk z d (decide_eq_true rfl) hw (decide_eq_true b.symm);rw [this] at a;exact absurd a h
theorem qW6(W:WaysOk ways m)(hw:w∈ways)(h:homeS ways w=("end" : Str)):enS ways bs f w.1=sv bs f w.2:=by
 unfold enS;rw [vM (jl W.nd) (mem_ofE.mpr ⟨hw,h,rfl⟩)]
theorem jo(h:cntO ways k≠1):enS ways bs f k=sv bs f k:=by
 unfold enS;cases e:ofE ways k with
 | nil=>rfl
 | cons v r =>
  let a:v∈ofE ways k:=by rw [e];simp
  let⟨d,b,c⟩:=mem_ofE.mp a;exact absurd (c▸qN8 b) h
theorem qWs(W:WaysOk ways m)(c:∀b∈bs,0<=b/\b<8)(k:Int):runD (bgS ways bs f k) ((inB ways k).flatMap (mvL bs f))=some (sv bs f k):=by
 unfold bgS;cases e:inB ways k with
 | nil=>rfl
 | cons v r =>
  let a:=uT (k:=k) W.nd W.to0;let d:v∈inB ways k:=by rw [e];simp
  let g:r = []:=by rw [e] at a;simp at a;exact a
  subst g;rw [cO,iM,cE];show runD (sv bs f v.1) (mvL bs f v)=_;rw [ji c,(mem_inB.mp d).2.2]
theorem qWr(W:WaysOk ways m)(c:∀b∈bs,0<=b/\b<8)(k:Int):runD (sv bs f k) ((ofE ways k).flatMap (mvL bs f))=some (enS ways bs f k):=by
 unfold enS;cases e:ofE ways k with
 | nil=>rfl
 | cons v r =>
  let a:=jl (k:=k) W.nd;let d:v∈ofE ways k:=by rw [e];simp
  let g:r = []:=by rw [e] at a;simp at a;exact a
  subst g;rw [cO,iM,cE,<-(mem_ofE.mp d).2.2];show runD (sv bs f v.1) (mvL bs f v)=_;rw [ji c]
theorem qJ8{works:Int}:∀ {ds:List Deed},(∀d∈ds,DeedP works d)->(∀d∈ds,∀b,wr d=some b->s b=true)->runD s ds=some s
 | [],_,_=>rfl
 | d::ds,c,f=>by
  let h:=qJ8 (s:=s) (ds:=ds) (λx a=>c x (aS _ a)) λx a=>f x (aS _ a);let e:stepD s d=some s:=by
   let p:=c d (aV ..);let q:=f d (aV ..);cases d with
   | set b n=>exact if_pos (q b rfl)
   | add b n=>exact if_pos (q b rfl)
   | tell b=>rfl
   | call b=>rfl
   | save b=>exact p.elim
   | back b=>exact p.elim
  show (stepD s d).bind (λg=>runD g ds)=_;rw [e];exact h
theorem qWg(h:∀b∈bs,k∉f b):sv bs f k=λ_=>false:=by
 funext b
 unfold sv;by_cases a:b∈bs
 .simp [h b a]
 .simp [a]
theorem qWf(h:(bs.any λb=>(rowOf f w b).isSome)=false):sv bs f w.1=sv bs f w.2:=by
 funext b
 unfold sv;by_cases a:b∈bs
 .let:=List.any_eq_false.mp h b a;unfold rowOf at this;split at this
  .next e=>rw [e]
  .exact absurd rfl this
 .simp [a]
theorem qYl{α : Type}{l:List α}{x : α}(a:l.Nodup)(b:x∈l)(h:∀y∈l,y=x):l.length=1:=by
 match l,a,b,h with
 | [_],_,_,_=>rfl
 | y::z::r,a,_,h =>
  let:y=z:=(h y ∅).trans (h z ∅).symm;rw [this] at a;simp at a
theorem jp{m works:Int}(h:WorkOk m works n)(B:1<=m):WaysOk (zG n n.length) m:=by
 let C:=h.len;refine⟨uQ h,by rw [yx];exact aV ..,λw f e=>?_,λw f r=>?_,λw f e=>?_⟩
 .rw [yx] at f;rcases aL.mp f with z | z
  .exact z
  .let:=(ko h z).2.2.1;lia
 .rw [yx] at f;rcases aL.mp f with z | z
  .exact absurd z r
  .let⟨a,b,c,d,_⟩:=ko h z;exact⟨a,b,c,d⟩
 .let o:=f;rw [yx] at f;rcases aL.mp f with z | z
  .rw [z] at e;let e:(0:Int)=m:=e;lia
  .let⟨i,D,s⟩:=in_rest.mp z;let⟨E,g⟩:=mem_outs.mp s;let t:nxt n i = []:=by
    rcases g with g | ⟨g,_⟩
    .let:=((wJ h i).range _ g).2;lia
    .exact g
   unfold cntO;refine qYl (x:=w) ((uQ h).filter _) (bT.mpr ⟨o,decide_eq_true rfl⟩) λv u=>?_;let⟨q,k⟩:=bT.mp u;let k:=of_decide_eq_true k;rw [yx] at q;rcases aL.mp q with y | y
   .rw [y] at k;let k:(-1:Int)=w.1:=k;lia
   .let⟨j,F,A⟩:=in_rest.mp y;let⟨G,l⟩:=mem_outs.mp A;let p:j=i:=by lia
    subst p;rw [t] at l;rcases l with l | ⟨_,l⟩
    .cases l
    .exact Prod.ext ∎ ∎
structure Typed(works:Int)(bw:List Blk)(S:Nat->Int->Bool):Prop where
 one:0<bw.length
 s0:S 0=λ_=>false
 blk:∀(k:Nat) (b:Blk),bw[k]? = some b->b.ns.length<=2/\(∀d∈b.ds,xo works d) /\ ∃s',runD (S k) b.ds=some s'/\(b.ns = []->s'=λ_=>false) /\ ∀t∈b.ns,∃n:Nat,t=n/\n<bw.length/\S n=s'
noncomputable def stB(wk:List Blk)(bs:List Int)(f:Int->List Int)(k:Nat):Int->Bool:=if k<wk.length then bgS (zG wk wk.length) bs f k else match (zh (zG wk wk.length) bs f)[k - wk.length]? with
 | some w=>sv bs f w.1
 | none=>λ_=>false
theorem mem_split{bs:List Int}:w∈zh a bs f↔w∈a/\homeS a w=("split" : Str)/\(bs.any λb=>(rowOf f w b).isSome)=true:=by
 unfold zh;rw [bT,bP,decide_eq_true_eq]
theorem jq{works:Int}{bs:List Int}(h:d∈mvL bs f w):xo works d:=by
 unfold mvL mvK at h;let⟨k,a,rfl⟩:=aY.mp h;let⟨b,c,g⟩:=bU.mp a;let:=mem_eight.mp c;let e:=(wQ g).2.1;unfold yM;split
 .show 0<=k.2.2/\k.2.2<8;lia
 .show 0<=k.2.2/\k.2.2<8;lia
theorem qSm(a:List Blk)(bs:List Int)(f:Int->List Int):(xK a bs f).length=a.length+(zh (zG a a.length) bs f).length:=by
 unfold xK;rw [aG,gF,aB]
theorem qKu{m works:Int}{n:Nat}{bs:List Int}(h:WorkOk m works wk)(Y:1<=m)(Z:∀b∈wk,Fw works b)(I:PlanF X n wk bs f):Typed works (xK wk bs f) (stB wk bs f):=by
 let hl:=h.len;let W:=jp h Y;let⟨v,_,_⟩:=qH7 I h;let r:∀x:Int,(x<0\/m<=x)->sv bs f x=λ_=>false:=λx J=>qWg λb j z=>by
  let:=I.rg b j x z;lia
 let R:=qSm wk bs f;let g:∀k:Nat,(k:Int)<m->stB wk bs f k=bgS (zG wk wk.length) bs f k:=λk s=>if_pos ∎;let u:∀(i:Nat) (w:Int×Int),(zh (zG wk wk.length) bs f)[i]? = some w->stB wk bs f (wk.length+i)=sv bs f w.1:=λi w c=>by
  unfold stB;rw [if_neg ∎,show wk.length+i - wk.length=i by lia,c]
 refine⟨∎,?_,λk b j=>?_⟩
 .let e:=qWh (bs:=bs) (f:=f) W;rw [g 0 ∎];exact e.trans (r _ ∎)
 .by_cases s:k<wk.length
  .let K:b=xt (zG wk wk.length) wk.length bs f k wk[k]:=by
    unfold xK at j;rw [dO (by rw [gF];exact s),List.getElem?_mapIdx,aC s] at j;exact (bB j).symm
   let l:wk[k]∈wk:=dQ s;let C:=h.blk _ l;let D:=C.ns;subst K;let S:nxt wk k=wk[k].ns:=by
    rw [<-kn,aC s];rfl
   let L:∀t∈wk[k].ns,((k:Int),t)∈zG wk wk.length/\t<m:=λt A=>by
    let⟨M,o⟩:=qTd h (p:=((k:Int),t)) (by show t∈nxt wk k;rw [S];exact A);exact⟨by rw [yx];exact aS _ M,o⟩
   refine⟨by show (wk[k].ns.map _).length<=2;rw [aB];exact D.few,λd hd=>?_,enS (zG wk wk.length) bs f k,?_,λN=>?_,λt A=>?_⟩
   .let hd:d∈(inB (zG wk wk.length) k).flatMap (mvL bs f)++wk[k].ds++(ofE (zG wk wk.length) k).flatMap (mvL bs f):=hd;rcases aJ.mp hd with hd | hd
    .rcases aJ.mp hd with hd | hd
     .let⟨w,_,c⟩:=cC.mp hd;exact jq c
     .exact C.ds d hd
    .let⟨w,_,c⟩:=cC.mp hd;exact jq c
   .rw [g k ∎];show runD _ ((inB (zG wk wk.length) k).flatMap (mvL bs f)++wk[k].ds++(ofE (zG wk wk.length) k).flatMap (mvL bs f))=_;let O:runD (sv bs f k) wk[k].ds=some (sv bs f k):=by
     refine qJ8 (Z _ l).2 λd hd x J=>?_
     let P:x∈boxes wk:=(jE h).mpr (by
      unfold wK
      exact cC.mpr ⟨_,l,bU.mpr ⟨d,hd,J⟩⟩)
     let E:x∈bs:=I.perm.mem_iff.mpr P
     let B:=I.busy x E k (.inl (mem_wrTo.mpr ⟨k,rfl,s,by
      unfold hasW;rw [aC s]
      exact dR.mpr ⟨d,hd,(jZ d x).mpr J⟩⟩))
     unfold sv;simp [E,B]
    rw [qFw,qFw,qWs W v];show (runD (sv bs f k) wk[k].ds).bind _=_;rw [O];exact qWr W v k
   .let N:wk[k].ns = []:=by
     let:wk[k].ns.map _ = []:=N;exact List.map_eq_nil_iff.mp this
    let c:((k:Int),m)∈zG wk wk.length:=by
     rw [yx];exact aS _ (in_rest.mpr ⟨k,s,mem_outs.mpr ⟨rfl,.inr ⟨by rw [S];exact N,by show m=_;lia⟩⟩⟩)
    let hc:=W.outs _ c rfl;let hh:homeS (zG wk wk.length) ((k:Int),m)=("end" : Str):=by
     unfold homeS;rw [if_neg (λz=>by let:=congrArg Prod.fst z;let:(k:Int) = -1:=this;lia),if_pos hc]
    let:=qW6 (bs:=bs) (f:=f) W c hh;rw [show enS (zG wk wk.length) bs f k=sv bs f m from this];exact r m ∎
   .let⟨a,F,rfl⟩:=aY.mp A;let⟨c,a0⟩:=L a F;let a1:=(D.range a F).1;let hd:((k:Int),a)≠(-1,0):=λz=>by let:=congrArg Prod.fst z;let:(k:Int) = -1:=this;lia
    let plain:((k:Int),a)∉zh (zG wk wk.length) bs f->toN wk.length (zh (zG wk wk.length) bs f) ((k:Int),a)=a:=λz=>if_neg z;let fin:((k:Int),a)∉zh (zG wk wk.length) bs f->bgS (zG wk wk.length) bs f a=enS (zG wk wk.length) bs f k -> ∃n:Nat,toN wk.length (zh (zG wk wk.length) bs f) ((k:Int),a)=n/\n<(xK wk bs f).length/\stB wk bs f n=enS (zG wk wk.length) bs f k:=λM o=>by
     refine⟨a.toNat,by rw [plain M];lia,∎,?_⟩;rw [g _ ∎,show ((a.toNat:Nat):Int)=a by lia];exact o
    rcases uS (zG wk wk.length) ((k:Int),a) with ⟨z,_⟩ | ⟨_,o,G⟩ | ⟨_,o,G,H⟩ | ⟨_,o,G,H⟩
    .exact absurd z hd
    .refine fin (λy=>?_) ?_
     .let:=(mem_split.mp y).2.1;rw [G] at this;exact absurd this ⋯
     .rw [show bgS (zG wk wk.length) bs f a=sv bs f a from jn W c hd (by rw [G];decide),show enS (zG wk wk.length) bs f k=sv bs f a from qW6 W c G]
    .refine fin (λy=>?_) ?_
     .let:=(mem_split.mp y).2.1;rw [H] at this;exact absurd this ⋯
     .rw [show bgS (zG wk wk.length) bs f a=sv bs f k from qT1 W c H,jo o]
    .by_cases y:((k:Int),a)∈zh (zG wk wk.length) bs f
     .let T:(zh (zG wk wk.length) bs f).idxOf ((k:Int),a)<(zh (zG wk wk.length) bs f).length:=iC y;refine⟨wk.length+(zh (zG wk wk.length) bs f).idxOf ((k:Int),a),?_,∎,?_⟩
      .unfold toN;rw [if_pos y];lia
      .rw [u _ ((k:Int),a) (by rw [aC T,List.getElem_idxOf T]),jo o]
     .refine fin y ?_
      let hs:sv bs f k=sv bs f a:=qWf (w:=((k:Int),a)) (by
       cases q:bs.any λb=>(rowOf f ((k:Int),a) b).isSome with
       | false=>rfl
       | true=>exact absurd (mem_split.mpr ⟨c,H,q⟩) y)
      rw [show bgS (zG wk wk.length) bs f a=sv bs f a from jn W c hd (by rw [H];decide),jo o,hs]
  .obtain⟨w,c,rfl⟩:∃w,(zh (zG wk wk.length) bs f)[k - wk.length]? = some w/\(⟨mvL bs f w,[w.2]⟩:Blk)=b:=by
    unfold xK at j;rw [cZ (by rw [gF];lia),gF,aU] at j;cases z:(zh (zG wk wk.length) bs f)[k - wk.length]? with
    | none=>rw [z] at j;cases j
    | some w=>rw [z] at j;exact⟨w,rfl,bB j⟩
   let⟨Q,U,w3⟩:=mem_split.mp (aN c);let⟨V,d2,d3⟩:=qUs U;let hr:=W.rg w Q V;let hm:w.2<m:=by
    let:w.2≠m:=λz=>d2 (W.outs w Q z);lia
   refine⟨by show ([w.2]:List Int).length<=2;simp,λd hd=>jq hd,sv bs f w.2,?_,(λz=>nomatch z),λt A=>?_⟩
   .let:=u _ _ c;rw [show wk.length+(k - wk.length)=k by lia] at this;rw [this];exact ji v w
   .let A:t=w.2:=by simpa using A
    subst A;refine⟨w.2.toNat,∎,∎,?_⟩;rw [g _ ∎,show ((w.2.toNat:Nat):Int)=w.2 by lia];exact jn W Q V (by rw [U];decide)
theorem Fun.okC{K:PySem.W.Frag}{st:Stmt}{k:Nat}(F:Fun K x a st f d)(S:FnScope N e (zT st))(len:∀vs H Q E,sp vs H Q E->vs.length=e.length)(c:∀(b:Value) (A:Around) (outer:List Env) (s:Shared) (H:Hp) (vs:List V) (Q:VK) (E:XK),b=d.code->Room k (A.deeper (envOfC a (zT st) s.heap.objs.size f b))->sp vs H Q E ->
   ∃t,PSs (cxOf CX0 P w K mg base N a (zT st) f b A outer s H E).nox (yY st) t/\t { nx:=λ_ j=>Q .non j,rt:=Q } (start N vs) H):FnOk P w K mg base CX0 (k+1) f d e sp:=by
 let⟨o,p,kV,doc,r,u,b,v,l,rfl,m,g⟩:=F.ex;refine wAe m g S len λA outer s H vs Q E n i=>?_;let⟨t,h,q⟩:=c b A outer s H vs Q E rfl n i;exact⟨t,h.nox,q⟩
section
variable{X:Cx}{P:Program}{w:World}{K:PySem.W.Frag}
theorem qGu(a:X.prog=P)(hw:X.w=w)(b:X.K=K)(c:X.A.units+1<cLine):MtR X "dict.setdefault" (rSetD P w K):=by subst a hw b;exact qId c
theorem qLn(a:X.prog=P)(hw:X.w=w)(b:X.K=K)(c:X.A.units+1<cLine):MtR X "dict.get" (qMo P w K):=by subst a hw b;exact qO8 c
theorem qQr(a:X.prog=P)(hw:X.w=w):PE X (.Dict [] [] pos) (qVe P w):=by subst a hw;exact qTu
theorem qQo(c:X.prog=P)(hw:X.w=w)(d:PE X l a):PI X b l (iMap P w a):=by subst c hw;exact qZp d
end
def DicV(P:Program)(w:World)(x:V)(H:Hp):Prop := ∃d,x = .ref d/\((∃xs,H d=some (mapO P w xs)) \/ ∃ks ns,H d=some (tabO P w ks ns))
theorem DicV.is{σ : St}(I:Inv X b σ H s)(r:RelV x v)(h:DicV X.prog X.w x H):s.TypeIs v "dict" /\ ∀a,v = .ref a -> ∃f,s.heap.get? a=some f/\f.dict=none:=by
 let⟨d,rfl,h⟩:=h;cases r;let z:∃o,s.heap.get? d=some o/\o.ExactDict:=by
  rcases h with ⟨g,c⟩ | ⟨i,j,c⟩
  .obtain⟨⟨_,o,_,_,e,x,_⟩,_,_⟩:=(show ObjOk X.prog X.w H s.heap d (mapO X.prog X.w g) from I.hok d _ c);exact⟨o,e,x⟩
  .obtain⟨⟨_,_,_,o,_,_,e,x,_⟩,_,_⟩:=(show ObjOk X.prog X.w H s.heap d (tabO X.prog X.w i j) from I.hok d _ c);exact⟨o,e,x⟩
 let⟨o,e,x⟩:=z;exact⟨⟨o,e,x.1⟩,λa k=>by cases k;exact⟨o,e,x.2.1⟩⟩
def tBMD(P:Program)(w:World)(r:V->List V->Hp->VK->Prop)(to:TE)(t:TA):TE:=λσ H Q=>to σ H λx H1=>DicV P w x H1/\t σ H1 λxs H2=>r x xs H2 Q
theorem qZd{t:TA}(h:a σ H λx b=>DicV P w x b/\t σ b λxs c=>r x xs c Q):tBMD P w r a t σ H Q:=h
theorem qVw{k:TE}{t:TA}{d a:Pos}{id:String}(p:X.prog=P)(hw:X.w=w)(q:PlainAttrs "dict")(slot:Slot "dict" name id)(j:typeOf (.builtin id)=pure (.type "method_descriptor"))(u:MtR X id r)(y:PE X o k)(z:PA X (e::es) t)
  (f:attributeBase o name X.env (eval o X.env)=eval o X.env:=by rfl)
  (i:((backTo a (starEach (e::es) X.env)).all (λx => !x.1)&&(backToKw a (keywordEach [] X.env)).all (λx=>x.1.isSome)
   && decide ((e::es).length+([]:List Keyword).length+(if ([]:List Keyword).isEmpty then 0 else 1)<30))=true:=by rfl)
  (g:(d.endLine == a.line)=true:=by rfl) (A:starEach (e::es) X.env=(false,eval e X.env)::starEach es X.env:=by rfl) (c:(backTo a (starEach es X.env)).any (·.1)=false:=by rfl) :
  PE X (.Call (.Attribute o name d) (e::es) [] a) (tBMD P w r k t):=by
 subst p hw;intro b s σ H Q I h;refine wpAny_Call_method_late f i g rfl (thn (y b s σ H _ I h) λv B hq_=>?_);let⟨x,C,l,m,ty,D⟩:=hq_;let⟨E,F⟩:=ty.is l m;refine⟨"dict",id,q,slot,j,E,F,?_⟩;let n:=z a b B σ C _ l D;rw [A] at n ⊢;refine gZ (by show (false||(backTo a (starEach es X.env)).any (·.1))=false;rw [c] <;> rfl) (Calls.evalArgs_plain ?_);refine thn n λG J hq_=>?_;let⟨K,L,M,N,O⟩:=hq_;exact u b J σ L x K v G Q M m N O
def jr(P:Program)(w:World)(K:PySem.W.Frag)(td ty:TE):TE:=λσ H Q=>td σ H λx H1=>ty σ H1 λy H2 => ∃(d c:Addr) (xs:List (List Key×Addr×Addr)) (p:List Key×Addr×Addr),x = .ref d/\y = .ref c/\Rd H2 d (mapO P w xs)/\SqT K H2 c (p.1.map kV) /\
 (∀p∈xs,SqT K H2 p.2.1 (p.1.map kV))/\(xs.map (·.1)).Nodup/\p∈xs/\Q (.ref p.2.2) H2
theorem qQ5{K:PySem.W.Frag}{b ty:TE}(h:b σ H λx e=>ty σ e λy a => ∃(d c:Addr) (xs:List (List Key×Addr×Addr)) (p:List Key×Addr×Addr),x = .ref d/\y = .ref c/\Rd a d (mapO P w xs)/\SqT K a c (p.1.map kV) /\
 (∀p∈xs,SqT K a p.2.1 (p.1.map kV))/\(xs.map (·.1)).Nodup/\p∈xs/\Q (.ref p.2.2) a):jr P w K b ty σ H Q:=h
theorem jt{K:PySem.W.Frag}{g ty:TE}(l:X.prog=P)(hw:X.w=w)(m:X.K=K)(n:X.A.units+1<cLine)(q:PE X o g)(hi:PE X i ty)(r:NoSl i):PE X (.Subscript o i pos) (jr P w K g ty):=by
 subst l hw m;intro a s σ H Q I h;refine QJ PySem.F.slot_dict_getitem.lookup r (thn (q a s σ H _ I h) λu t hq_=>?_);let⟨x,v,z,B,C⟩:=hq_;refine thn (hi a t σ v _ z C) λD T hq_=>?_;let⟨y,E,b,G,d,c,U,p,J,L,M,N,e,j,f,O⟩:=hq_;subst J L;obtain rfl:u=Value.ref d:=B;obtain rfl:D=Value.ref c:=G;obtain⟨⟨k,R⟩,_,_⟩:=M.ok b.hok
 let full:=R.full (λx S=>by
  let⟨p,f,rfl⟩:=aY.mp S
  exact xa b (e p f)) (by rw [qJa];exact j)
 refine⟨full.typeIs,wpAny_getItem_heap (dL n) (xa b N) full (qWx j f) ?_⟩;exact⟨.ref p.2.2,E,b.tok _,rfl,O⟩
theorem vN{a b:Int×Int}(h:([.inl a.1,.inl a.2]:List Key) = [.inl b.1,.inl b.2]):a=b:=by
 injection h with d c
 injection c with c _
 exact Prod.ext (Sum.inl.inj d) (Sum.inl.inj c)
noncomputable def mvX(es:List ((Int×Int)×Addr×Addr)):List (List Key×Addr×Addr):=es.map λe=>([.inl e.1.1,.inl e.1.2],e.2.1,e.2.2)
def MvI(K:PySem.W.Frag)(G:Hp):List V->List K4->Prop:=Paired λv k => ∃a,v = .ref a/\SqT K G a [.str (wdS k.2.1),.int k.2.2]
theorem MvI.mono{K:PySem.W.Frag}(h:MvI K G us ks)(k:Tups G b):MvI K b us ks:=Paired.mapP h λ_ _ ⟨a,e,c⟩=>⟨a,e,k.sq c⟩
theorem MvI.len{K:PySem.W.Frag}(h:MvI K G us ks):us.length=ks.length:=dD h
structure MvAt(P:Program)(w:World)(K:PySem.W.Frag)(G:Hp)(d:Addr)(es:List ((Int×Int)×Addr×Addr))(g:Int×Int->List K4):Prop where
 dict:G d=some (mapO P w (mvX es))
 key:∀e∈es,SqT K G e.2.1 [.int e.1.1,.int e.1.2]
 lst:∀e∈es,∃us,G e.2.2=some (.lst us)/\MvI K G us (g e.1)
 nd:(es.map (·.1)).Nodup
 nl:(es.map (·.2.2)).Nodup
section
variable{P:Program}{w:World}{K:PySem.W.Frag}{G G':Hp}{d:Addr}{es:List ((Int×Int)×Addr×Addr)}{g:Int×Int->List K4}
theorem MvAt.ext(h:MvAt P w K G d es g)(e:Ext [] G G'):MvAt P w K G' d es g:=⟨e _ _ ∅ h.dict,λx a=>e.toSame.tups.sq (h.key x a),λx a=>let ⟨us,b,c⟩:=h.lst x a;⟨us,e _ _ ∅ b,c.mono e.toSame.tups⟩,h.nd,h.nl⟩
theorem qR6(φ : Addr->Heap->Prop):NoTup (.ext φ):=λ_=>⟨(λz=>nomatch z),λ_ z=>nomatch z⟩
theorem MvAt.new(h:MvAt P w K G d es g)(n:SqT K G c [.int v.1,.int v.2])(hz:G z=some (.lst []))(o:v∉es.map (·.1))(p:z∉es.map (·.2.2))(q:g v = []):MvAt P w K (upd G d (mapO P w (mvX (es ++ [(v,c,z)])))) d (es ++ [(v,c,z)]) g:=by
 let l:Tups G (upd G d (mapO P w (mvX (es ++ [(v,c,z)])))):=Tups.melt h.dict (qR6 _);let nl:∀ {b i},G b=some (.lst i)->b≠d:=λ{b i} f z=>by rw [z,h.dict] at f;cases f
 refine⟨zC,λx j=>l.sq ?_,λx j=>?_,?_,?_⟩
 .rcases aJ.mp j with y | y
  .exact h.key x y
  .rw [aF.mp y];exact n
 .rcases aJ.mp j with y | y
  .let⟨i,m,r⟩:=h.lst x y;exact⟨i,by rw [zD (nl m)];exact m,r.mono l⟩
  .rw [aF.mp y];exact⟨[],by rw [zD (nl hz)];exact hz,by show MvI K _ [] (g v);rw [q];exact .nil⟩
 .rw [aP];exact cG.mpr ⟨h.nd,∅,λa k b f e=>o (by let f:b=v:=aF.mp f;rw [<-f,<-e];exact k)⟩
 .rw [aP];exact cG.mpr ⟨h.nl,∅,λa k b f e=>p (by let f:b=z:=aF.mp f;rw [<-f,<-e];exact k)⟩
theorem uU{α β : Type}{f : α -> β}:∀ {l:List α},(l.map f).Nodup -> ∀ {x y : α},x∈l->y∈l->f x=f y->x=y
 | [],_,_,_,c,_,_=>nomatch c
 | z::l,h,x,y,c,d,e=>by
  let h:=cK.mp h;rcases aL.mp c with a | a <;> rcases aL.mp d with b | b
  .rw [a,b]
  .subst a;exact absurd (aY.mpr ⟨y,b,e.symm⟩) h.1
  .subst b;exact absurd (aY.mpr ⟨x,a,e⟩) h.1
  .exact uU h.2 a b e
theorem MvAt.app(h:MvAt P w K G d es g){k:K4}(o:(v,n,a)∈es)(c:G a=some (.lst us))(r:G p=some (.tup [.str (wdS k.2.1),.int k.2.2])):MvAt P w K (upd G a (.lst (us ++ [.ref p]))) d es (λx=>if x=v then g x ++ [k] else g x):=by
 let f:Tups G (upd G a (.lst (us ++ [.ref p]))):=Tups.melt c;let nd:d≠a:=λz=>by rw [<-z,h.dict] at c;cases c
 refine⟨by rw [zD nd];exact h.dict,λx b=>f.sq (h.key x b),λx b=>?_,h.nd,h.nl⟩;let⟨i,j,q⟩:=h.lst x b;by_cases e:x.2.2=a
 .let l:x=(v,n,a):=uU h.nl b o e;subst l;rw [c] at j;cases j
  exact⟨us ++ [.ref p],zC,by
   show MvI K _ _ (if v=v then g v ++ [k] else g v);rw [if_pos rfl]
   exact iN (q.mono f) ⟨p,rfl,f.sq (SqT.of r)⟩⟩
 .let m:x.1≠v:=λz=>e (by rw [uU h.nd b o z]);exact⟨i,by rw [zD e];exact j,by rw [if_neg m];exact q.mono f⟩
theorem MvAt.cong(h:MvAt P w K G d es g)(e:∀x∈es,g x.1=g' x.1):MvAt P w K G d es g':=⟨h.dict,h.key,λx a=>by rw [<-e x a];exact h.lst x a,h.nd,h.nl⟩
theorem qMx(es:List ((Int×Int)×Addr×Addr)):(mvX es).map (·.1)=es.map λe=>([.inl e.1.1,.inl e.1.2]:List Key):=by unfold mvX;rw [cU];rfl
theorem ju(h:(es.map (·.1)).Nodup):((mvX es).map (·.1)).Nodup:=by
 rw [qMx];rw [List.Nodup,dJ] at h ⊢;exact h.imp λ{a b} n z=>n (vN z)
theorem uV(h:p∈mvX es):∃e∈es,p=([.inl e.1.1,.inl e.1.2],e.2.1,e.2.2):=by
 let⟨e,a,rfl⟩:=aY.mp h;exact⟨e,a,rfl⟩
end
def qJ4(P:Program)(w:World)(K:PySem.W.Frag)(q:Str)(lp:Pos)(pt:Addr):Sp:=λvs H Q _ => ∃(wa d:Addr) (wk:List Blk) (m works:Int) (bs:List Int) (as:List Addr) (f:Int->List Int),vs = [.ref wa,.ref d]/\Den K H (workD wk) (.ref wa)/\WorkOk m works wk/\m<=12/\PlanAt H d bs as (bs.map f)/\bs.Nodup/\(∀b∈bs,0<=b/\b<8)/\bs.length<=8/\LamTab q lp pt H /\
 ∀(e:Addr) (es:List ((Int×Int)×Addr×Addr)) (H':Hp),H e=none->(∀x∈es,H x.2.2=none)->Ext [pt] H H'->LamTab q lp pt H'->MvAt P w K H' e es (mvK bs f)->(∀v,v∈es.map (·.1)↔v∈zG wk wk.length/\mvK bs f v ≠ [])->Q (.ref e) H'
theorem qZ5(h:a σ H λx b=>r x b Q):tUn r a σ H Q:=h
noncomputable def endW:List Int->Str
 | [] => "out" | [_] => "go" | _ => "fork"
theorem qRz(h:ns.length<=2):endD ns = .tuple (.str (endW ns)::ns.map .int):=by
 match ns,h with
 | [],_=>rfl
 | [x],_=>rfl
 | [x,y],_=>rfl
theorem wAy(h:a σ H λx d => ∃c,x = .bl c/\if c=true then Q (.bl true) d else b σ d Q):tOrV a b σ H Q:=h
def rCatL(K:PySem.W.Frag):R2:=λx y H Q => ∃l b xs zs,x = .ref l/\y = .ref b/\SqL K H l xs/\SqL K H b zs/\xs.length+zs.length<=sizeLine /\ ∀p,H p=none->Q (.ref p) (upd H p (.lst (xs++zs)))
theorem qXm:OpR X (binaryOp .Add) (rCatL X.K):=by
 intro c s σ H x y v u Q I m n h;let⟨l,b,G,J,rfl,rfl,o,t,L,q⟩:=h;cases m;cases n;let⟨a,r,p,_⟩:=I.list o;let⟨its2,d,w,_⟩:=I.list t;obtain⟨⟨M,z,N,A⟩,e,f,B,g⟩:=id p.isList;obtain⟨⟨O,C,P,D⟩,i,j,E,k⟩:=id w.isList;simp only at f g j k;subst f g j k;let R:=r.length;let S:=d.length;refine concat_meets ⟨_,e,rfl⟩ ⟨_,i,rfl⟩ noFill_list_add seq_list_add PySem.F.slot_list_add PySem.F.entry_list_add (PySem.F.args_list_add_2 _ _) (list_addW l b a.toArray its2.toArray B E z C A D (by simp;lia)) ⟨e,i,?_⟩;rw [show a.toArray++its2.toArray=(a++its2).toArray by simp];exact⟨.ref _,_,I.lnew (t':=s.toks) (r.append d) (by rw [aG];lia),rfl,q _ I.fresh⟩
theorem catLK(K:PySem.W.Frag)(a:X.K=K):OpR X (binaryOp .Add) (rCatL K):=a▸qXm
theorem uW{K:PySem.W.Frag}(h:Den K G (endD ns) v)(c:ns.length<=2):∃e,v = .ref e/\SqT K G e (.str (endW ns)::ns.map V.int):=by
 rw [qRz c] at h;let⟨e,m,rfl,d,f⟩:=h.ofTuple;let⟨o,r,rfl,g,i⟩:=f.ofCons;let j:=g.ofStr;subst j;let:r=ns.map V.int:=by
  clear d f c h g
  induction ns generalizing r with
  | nil=>exact i.ofNil
  | cons n ns k =>
   let⟨p,l,rfl,a,b⟩:=i.ofCons;rw [a.ofInt,k l b];rfl
 subst this;exact⟨e,rfl,d⟩
theorem jv{K:PySem.W.Frag}(a:ns.length<=2)(h:SqT K G e (.str (endW ns)::ns.map V.int)):Den K G (endD ns) (.ref e):=by
 rw [qRz a];refine .tuple h (.cons .str ?_);clear h a
 induction ns with
 | nil=>exact .nil
 | cons n ns b=>exact .cons .int b
theorem qV1(h:ns.length=a.length)(b:ns.length<=2):endW ns=endW a:=by
 match ns,a,h,b with
 | [],[],_,_=>rfl
 | [_],[_],_,_=>rfl
 | [_,_],[_,_],_,_=>rfl
structure NewAt(P:Program)(w:World)(K:PySem.W.Frag)(G:Hp)(d:Addr)(m:Nat)(sp:List (Int×Int)):Prop where
 ex:∃ks:List (List Key×Addr),G d=some (tabO P w ks ((List.range sp.length).map λi:Nat=>(m:Int)+i))/\ks.map (·.1)=sp.map (λv=>([.inl v.1,.inl v.2]:List Key)) /\ ∀p∈ks,SqT K G p.2 (p.1.map kV)
theorem NewAt.ext{K:PySem.W.Frag}{m:Nat}(h:NewAt P w K G d m sp)(e:Ext [] G a):NewAt P w K a d m sp:=let ⟨b,c,f,g⟩:=h.ex;⟨b,e _ _ ∅ c,f,λp i=>e.toSame.tups.sq (g p i)⟩
theorem qPc{sp:List (Int×Int)}(h:sp.Nodup):(sp.map (λv=>([.inl v.1,.inl v.2]:List Key))).Nodup:=by
 rw [List.Nodup,dJ];exact h.imp λn z=>n (vN z)
theorem qRp{sp:List (Int×Int)}{j:Nat}(h:sp.Nodup)(b:sp[j]? = some v):sp.idxOf v=j:=by
 let⟨c,d⟩:=aI.mp b;let a:sp.idxOf v<sp.length:=iC (aN b);let e:=List.getElem_idxOf a;rcases Nat.lt_trichotomy (sp.idxOf v) j with z | z | z
 .exact absurd (e.trans d.symm) (bL.mp h _ _ a c z)
 .exact z
 .exact absurd (d.trans e.symm) (bL.mp h _ _ c a z)
def qMi(P:Program)(w:World)(K:PySem.W.Frag):Sp:=λvs H Q _ => ∃(k:Int) (e nd:Addr) (ns:List Int) (m:Nat) (sp:List (Int×Int)),vs = [.int k,.ref e,.ref nd]/\Den K H (endD ns) (.ref e)/\ns.length<=2/\NewAt P w K H nd m sp/\sp.Nodup /\
 ∀(r:Addr) (H':Hp),Ext [] H H'->Den K H' (endD (ns.map λt=>toN m sp (k,t))) (.ref r)->Q (.ref r) H'
theorem qZb(h:a σ H λx b => ∃d xs,x = .ref d/\Rd b d (mapO P w xs) /\ ∀o,R (Itm P w d o xs) (upd b d (.frz o (mapO P w xs)))):iMap P w a σ H R:=h
def NoSeq(v:HO):Prop := ∀xs,v ≠ .lst xs/\v ≠ .tup xs /\ ∀o,v ≠ .frz o (.lst xs)/\v ≠ .frz o (.tup xs)
theorem qXy(φ : Addr->Heap->Prop):NoSeq (.ext φ):=λ_=>⟨(λz=>nomatch z),(λz=>nomatch z),λ_=>⟨(λz=>nomatch z),λz=>nomatch z⟩⟩
theorem uX(a:Array Value):NoSeq (.tbl a):=λ_=>⟨(λz=>nomatch z),(λz=>nomatch z),λ_=>⟨(λz=>nomatch z),λz=>nomatch z⟩⟩
theorem Ext.sqs{K:PySem.W.Frag}(e:Ext us G b)(h:∀u∈us,∀v,G u=some v->NoSeq v):(∀a xs,SqL K G a xs->SqL K b a xs) /\ ∀a xs,SqT K G a xs->SqT K b a xs:=by
 refine⟨λa xs z=>?_,λa xs z=>?_⟩
 .rcases z with (z | ⟨o,z⟩) | z
  .exact .inl (.inl (e _ _ (λy=>((h a y _ z) xs).1 rfl) z))
  .exact .inl (.inr ⟨o,e _ _ (λy=>(((h a y _ z) xs).2.2 o).1 rfl) z⟩)
  .exact .inr z
 .rcases z with (z | ⟨o,z⟩) | z
  .exact .inl (.inl (e _ _ (λy=>((h a y _ z) xs).2.1 rfl) z))
  .exact .inl (.inr ⟨o,e _ _ (λy=>(((h a y _ z) xs).2.2 o).2 rfl) z⟩)
  .exact .inr z
theorem Den.apart{K:PySem.W.Frag}(h:Den K G d v)(e:Ext us G a)(n:∀u∈us,∀v,G u=some v->NoSeq v):Den K a d v:=h.monoS (e.sqs n).1 (e.sqs n).2
structure DicSel(sel:Int×Int->Option Int)(es:List ((Int×Int)×Addr×Addr))(kvs:List (Key×V)):Prop where
 has:∀e∈es,∀k,sel e.1=some k->valV kvs (Sum.inl k)=some (.ref e.2.2)
 non:∀k:Int,(∀e∈es,sel e.1≠some k)->valV kvs (Sum.inl k)=none
section
variable{sel:Int×Int->Option Int}{es:List ((Int×Int)×Addr×Addr)}{kvs:List (Key×V)}{e:(Int×Int)×Addr×Addr}
theorem DicSel.nil:DicSel sel [] []:=⟨(λ_ h=>nomatch h),λ_ _=>rfl⟩
theorem DicSel.skip(h:DicSel sel es kvs)(c:sel e.1=none):DicSel sel (es ++ [e]) kvs:=by
 refine⟨λx b k a=>?_,λk a=>h.non k λx b=>a x (bI _ b)⟩;rcases aJ.mp b with z | z
 .exact h.has x z k a
 .rw [aF.mp z,c] at a;cases a
theorem DicSel.put(h:DicSel sel es kvs){k:Int}(d:sel e.1=some k)(f:∀x∈es,sel x.1=some k->x=e):DicSel sel (es ++ [e]) (putK kvs (Sum.inl k) (.ref e.2.2)):=by
 refine⟨λx b c a=>?_,λc a=>?_⟩
 .rw [QH];by_cases z:c=k
  .subst z;rw [if_pos rfl];rcases aJ.mp b with y | y
   .rw [f x y a]
   .rw [aF.mp y]
  .rw [if_neg (λy=>z (Sum.inl.inj y))];rcases aJ.mp b with y | y
   .exact h.has x y c a
   .rw [aF.mp y,d] at a;exact absurd (bB a).symm z
 .rw [QH,if_neg]
  .exact h.non c λx b=>a x (bI _ b)
  .intro y;exact a e ∅ (by rw [d,Sum.inl.inj y])
end
noncomputable def selH(ways:List (Int×Int))(S:Str)(j:Bool)(w:Int×Int):Option Int:=if homeS ways w=S then some (if j then w.2 else w.1) else none
theorem selH_some{j:Bool}{k:Int}:selH a S j w=some k↔homeS a w=S/\(if j then w.2 else w.1)=k:=by
 unfold selH;by_cases h:homeS a w=S
 .rw [if_pos h];simp [h]
 .rw [if_neg h];simp [h]
noncomputable def atH(ways:List (Int×Int))(j:Bool)(k:Int):List (Int×Int):=if j then inB ways k else ofE ways k
noncomputable def wdH(j:Bool):Str:=if j then "begin" else "end"
section
variable{P:Program}{w:World}{K:PySem.W.Frag}{G:Hp}{pd:Addr}{es:List ((Int×Int)×Addr×Addr)}{ways:List (Int×Int)}{m:Int}{bs:List Int}{f:Int->List Int}{kvs:List (Key×V)}{j:Bool}
theorem mem_atH{k:Int}:v∈atH ways j k↔v∈ways/\selH ways (wdH j) j v=some k:=by
 rw [selH_some];cases j
 .exact mem_ofE
 .exact mem_inB
theorem jw(W:WaysOk ways m)(k:Int):(atH ways j k).length<=1:=by
 cases j
 .exact jl W.nd
 .exact uT W.nd W.to0
theorem qWp(W:WaysOk ways m)(p:MvAt P w K G pd es (mvK bs f))(b:∀v,v∈es.map (·.1)↔v∈ways/\mvK bs f v ≠ [])(n:DicSel (selH ways (wdH j) j) es kvs)(k:Int):(∃d us,valV kvs (Sum.inl k)=some (.ref d)/\(∃e∈es,e.2.2=d)/\G d=some (.lst us)/\MvI K G us ((atH ways j k).flatMap (mvK bs f)))\/(valV kvs (Sum.inl k)=none/\(atH ways j k).flatMap (mvK bs f) = []):=by
 by_cases h:∃e∈es,selH ways (wdH j) j e.1=some k
 .let⟨e,c,o⟩:=h;let⟨us,g,i⟩:=p.lst e c;refine .inl ⟨e.2.2,us,n.has e c k o,⟨e,c,rfl⟩,g,?_⟩;let l:e.1∈atH ways j k:=mem_atH.mpr ⟨((b _).mp (aY.mpr ⟨e,c,rfl⟩)).1,o⟩;rw [vM (jw W k) l,cO,iM,cE];exact i
 .refine .inr ⟨n.non k λe c z=>h ⟨e,c,z⟩,?_⟩;rw [List.flatMap_eq_nil_iff];intro v q;let⟨g,i⟩:=mem_atH.mp q;cases z:mvK bs f v with
  | nil=>rfl
  | cons a r =>
   let⟨e,c,s⟩:=aY.mp ((b v).mpr ⟨g,by rw [z];simp⟩);exact absurd ⟨e,c,by rw [s];exact i⟩ h
theorem MvI.den(h:MvI K G us ks):DenL K G ((ks.map yM).map deedD) us:=by
 unfold MvI at h
 induction h with
 | nil=>exact .nil
 | @cons v k d ks r _ b =>
  let⟨a,rfl,c⟩:=r;refine .cons ?_ b;let e:deedD (yM k) = .tuple [.str (wdS k.2.1),.int k.2.2]:=by
   unfold yM wdS;cases k.2.1 <;> rfl
  show Den K G (deedD (yM k)) _;rw [e];exact .tuple c (.cons .str (.cons .int .nil))
theorem qMy(l:List (Int×Int)):l.flatMap (mvL bs f)=(l.flatMap (mvK bs f)).map yM:=by
 induction l with
 | nil=>rfl
 | cons a r b=>rw [cO,cO,aP,b];rfl
end
noncomputable def yl(H:Hp)(us:List Addr)(G:Hp):Hp:=λb =>@ite _ (b∈us \/ ∃xs,H b=some (.lst xs)) (Classical.propDecidable _) none (G b)
theorem xb(h:b∉us)(a:∀xs,H b≠some (.lst xs)):yl H us G b=G b:=by
 unfold yl;rw [if_neg];rintro (z | ⟨xs,z⟩)
 .exact h z
 .exact a xs z
theorem uY(h:yl H us G b=some o):b∉us/\(∀xs,H b≠some (.lst xs))/\G b=some o:=by
 unfold yl at h;by_cases c:b∈us \/ ∃xs,H b=some (.lst xs)
 .rw [if_pos c] at h;cases h
 .rw [if_neg c] at h;exact⟨λz=>c (.inl z),λxs z=>c (.inr ⟨xs,z⟩),h⟩
theorem Ext.yls(e:Ext us G a):Same (yl H us G) (yl H us a):=λb o h=>by
 let⟨c,d,f⟩:=uY h;rw [xb c d];exact e b o c f
theorem qP0{pt:Addr}(e:Ext [pt] H G)(a:∃c,G pt=some (.tbl c))(h:∀l∈us,∃xs,G l=some (.lst xs)):Tups G (yl H us G):=λb i q=>by
 let ne:b∉us:=λz=>by
  let⟨xs,g⟩:=h b z;rcases q with q | ⟨o,q⟩ <;> (rw [g] at q;cases q)
 let d:∀xs,H b≠some (.lst xs):=λxs z=>by
  by_cases f:b=pt
  .subst f;let⟨c,a⟩:=a;rcases q with q | ⟨o,q⟩ <;> (rw [a] at q;cases q)
  .let:=e b _ (by simpa using f) z;rcases q with q | ⟨o,q⟩ <;> (rw [this] at q;cases q)
 rcases q with q | ⟨o,q⟩
 .exact .inl (by rw [xb ne d];exact q)
 .exact .inr ⟨o,by rw [xb ne d];exact q⟩
theorem qV4{K:PySem.W.Frag}(t:Tups G b)(h:Den K G (deedD d) v):Den K b (deedD d) v:=by
 cases d <;> (obtain⟨a,f,rfl,e,c⟩:=h.ofTuple;refine .tuple (t.sq e) ?_;simp only [DenL,Den] at c ⊢;exact c)
theorem qKb{K:PySem.W.Frag}(t:Tups G a):∀ {ds:List Deed} {vs:List V},DenL K G (ds.map deedD) vs->DenL K a (ds.map deedD) vs
 | [],_,h=>by rw [h.ofNil];exact .nil
 | d::ds,_,h=>by
  let⟨v,r,rfl,b,c⟩:=h.ofCons;exact .cons (qV4 t b) (qKb t c)
def qPi(K:PySem.W.Frag)(q:Str)(lp:Pos)(pt:Addr):Sp:=λvs H Q _ => ∃(wa d:Addr) (wk:List Blk) (m works:Int) (bs:List Int) (as:List Addr) (f:Int->List Int),vs = [.ref wa,.ref d]/\Den K H (workD wk) (.ref wa)/\WorkOk m works wk/\1<=m/\m<=12/\PlanAt H d bs as (bs.map f)/\bs.Nodup/\(∀b∈bs,0<=b/\b<8)/\bs.length<=8/\LamTab q lp pt H /\
 ∀(l:Addr) (H':Hp),H l=none->Ext [pt] H H'->LamTab q lp pt H'->Den K (yl H [] H') (workD (xK wk bs f)) (.ref l)->Q (.ref l) H'
theorem qNr(a:List (Int×Int))(bs:List Int)(f:Int->List Int):(zh a bs f).length<=a.length:=cR ..
end L2
end
set_option maxHeartbeats 4000000
local macro_rules | `(tactic| walk_at "qa") => `(tactic| first | refine L2.wC ?_ | refine L2.wB2 ?_ | refine L2.yb ?_ | refine L2.wAx ?_ | refine L2.uz ?_ | refine L2.xQ ?_)
local macro_rules | `(tactic| walk_at "qz") => `(tactic| first | refine L2.kA ?_ | refine L2.wAv ?_ | refine L2.wE ?_ | refine L2.kB ?_ | refine L2.xR ?_ | refine L2.wF ?_ | refine L2.kC ?_ | refine L2.va ?_ | refine L2.kD ?_ | refine L2.wAn ?_ | refine L2.kE ?_ | refine L2.wAt ?_ | refine L2.r_u ?_ | refine L2.vc ?_ | refine L2.wB0 ?_ | refine L2.kF ?_ | refine L2.kG ?_ | refine L2.r_c ?_ | refine L2.wB1 ?_ | refine L2.wz ?_ | refine L2.kI ?_ | refine L2.vf ?_ | refine L2.vg ?_ | refine L2.kJ ?_ | refine L2.kK ?_ | refine L2.kL ?_ | refine L2.kM ?_ | refine L2.kN ?_ | refine L2.kO ?_ | refine L2.kP ?_ | refine L2.kQ ?_ | refine L2.kS ?_ | refine L2.kT ?_ | refine L2.kU ?_ | refine L2.kW ?_ | refine L2.kX ?_ | refine L2.kY ?_ | refine L2.kZ ?_ | refine L2.wAw ?_ | refine L2.kd ?_ | refine L2.kf ?_ | refine L2.yS (by with_unfolding_all rfl) ?_ | refine L2.ze (by assumption) (by with_unfolding_all rfl) ?_ | refine L2.zf (by assumption) (by with_unfolding_all rfl) ?_)
local macro_rules | `(tactic| walk_at "qb") => `(tactic| first | refine L2.qZd ?_ | refine L2.qQ5 ?_ | refine L2.qZ5 ?_ | refine L2.kR ?_ | walk_at "qz")
local macro_rules | `(tactic| walk_at "rd") => `(tactic| repeat (with_reducible first | (refine L2.vi ?_; intro NN_ hNN_) | walk_at "qa" | refine L2.yF (by assumption) ?_ | refine L2.vh (by assumption) ?_ | (refine L2.vj ?_; intro NA_ NB_ hNA_ hNB_) | walk_at "qb"))
namespace L2
open PySem PySem.Spec PyProof.Rows
section
variable{P:Program}{w:World}{K:PySem.W.Frag}
theorem qNb{m works:Int}{j:Bool}{σ : St}(B:MvAt P w K f c es g)(hW:Den K f (workD d) (.ref T))(E:WorkOk m works d)(a0:1<=m)(hm:m<=12)(q:(upd f c (.frz o (mapO P w (mvX es)))) lb=none)(F:∀e∈es,e.1∈zG d d.length)(hl:es.length<=900)(a3 : σ = [none,some (.ref T),some (.ref c)])(hQ:∀(n:St) (G:Hp) (kvs:List (Key×V)),Ext [c] f G->G c=some (.frz o (mapO P w (mvX es)))->f lb=none->G lb=some (.dK kvs)->DicSel (selH (zG d d.length) (wdH j) j) es kvs->Q n G):LoopT (Itm P w c o (mvX es)) (gName 0) (tAll [tTest (tOp rEq (tCall (uO K homeS) [] E0 (tCons (tVar 1) (tCons (tVar 0) tNil))) (tC (V.str (wdH j))))]) (ePut (tOp (rIxT K) (tVar 0) (tC (V.int (if j then 1 else 0)))) (jr P w K (tVar 2) (tVar 0)) lb) σ (upd (upd f c (.frz o (mapO P w (mvX es)))) lb (.dK [])) Q:=by
 subst a3;let a4:=B.dict;let s:lb≠c:=λz=>by rw [z,zC] at q;cases q
 let t:f lb=none:=by rw [zD s] at q;exact q
 let H:(upd (upd f c (.frz o (mapO P w (mvX es)))) lb (.dK [])) c=some (.frz o (mapO P w (mvX es))):=by rw [zD (cP s),zC]
 let I:(upd (upd f c (.frz o (mapO P w (mvX es)))) lb (.dK [])) lb=some (.dK []):=zC;let J:Ext [c] f (upd (upd f c (.frz o (mapO P w (mvX es)))) lb (.dK [])):=λb u hb h=>by
  rw [zD (zF h t),zD (by simpa using hb)];exact h
 generalize upd (upd f c (.frz o (mapO P w (mvX es)))) lb (.dK [])=G1 at H I J ⊢;let W:=jp E a0;let a5:(mvX es).length=es.length:=by unfold mvX;exact aB ..
 let L:∀ {G:Hp},Ext [c] f G->(∀a M,SqL K f a M->SqL K G a M) /\ ∀a M,SqT K f a M->SqT K G a M:=λ{G} e=>e.sqs λu hu v hv=>by
  let:u=c:=by simpa using hu
  subst this;rw [a4] at hv;cases hv;exact qXy _
 refine qUl (λi n G => ∃(U:Option V) (kvs:List (Key×V)),n = [U,some (.ref T),some (.ref c)]/\Ext [c] f G/\G c=some (.frz o (mapO P w (mvX es)))/\G lb=some (.dK kvs)/\DicSel (selH (zG d d.length) (wdH j) j) (es.take i) kvs/\kvs.length<=i) ?_ ?_ ?_ ?_
 .exact⟨none,[],rfl,J,H,I,DicSel.nil,aH _⟩
 .rintro i n G hi ⟨U,kvs,rfl,y,N,X,C,h4⟩;exact N
 .rintro i p n G R hp ⟨U,kvs,rfl,y,N,X,C,h4⟩ hR;let⟨e,he,rfl⟩:=zx hp;let l:e∈es:=aN he;let a8:i<es.length:=(aI.mp he).1;let tk:es.take (i+1)=es.take i ++ [e]:=yG he;let hk:=(L y).2 _ _ (B.key e l);x_go;refine⟨T,e.2.1,d,m,works,e.1,rfl,hW.monoS (L y).1 (L y).2,E,hm,hk,λG' e2=>?_⟩;x_go;refine yT ⟨_,rfl,?_⟩;let Y:Ext [c] f G':=y.trans (e2.mono ∅);let A:=e2 _ _ ∅ N;let O:=e2 _ _ ∅ X;by_cases Z:homeS (zG d d.length) e.1=wdH j
  .rw [if_pos (decide_eq_true Z),if_pos rfl];x_go;let S:=(L Y).2 _ _ (B.key e l);let a6:atI [V.int e.1.1,V.int e.1.2] (if j then 1 else 0)=some (.int (if j then e.1.2 else e.1.1)):=by cases j <;> rfl
   refine zf S a6 ?_;x_go;refine⟨c,e.2.1,mvX es,([.inl e.1.1,.inl e.1.2],e.2.1,e.2.2),rfl,rfl,.inr ⟨o,A⟩,S,λp hp=>?_,ju B.nd,aY.mpr ⟨e,l,rfl⟩,?_⟩
   .let⟨x,D,rfl⟩:=uV hp;exact (L Y).2 _ _ (B.key x D)
   .let r:selH (zG d d.length) (wdH j) j e.1=some (if j then e.1.2 else e.1.1):=selH_some.mpr ⟨Z,rfl⟩;refine⟨kvs,Sum.inl (if j then e.1.2 else e.1.1),rfl,O,zb ∎,hR _ _ ⟨_,_,rfl,λb u hb h=>by rw [zD (zF h t)];exact Y b u hb h,by rw [zD (cP s)];exact A,zC,?_,?_⟩⟩
    .rw [tk];refine C.put r λx D a7=>?_;let D:=List.mem_of_mem_take D;let a1:x.1∈atH (zG d d.length) j (if j then e.1.2 else e.1.1):=mem_atH.mpr ⟨F x D,a7⟩;let a2:e.1∈atH (zG d d.length) j (if j then e.1.2 else e.1.1):=mem_atH.mpr ⟨F e l,r⟩;rw [vM (jw W _) a2] at a1;exact uU B.nd D l (aF.mp a1)
    .exact cD (xy _ _ _) ∎
  .rw [if_neg (by rw [decide_eq_false Z];decide),if_neg ⋯];refine hR _ _ ⟨_,kvs,rfl,Y,A,O,?_,∎⟩;rw [tk];refine C.skip ?_;cases z:selH (zG d d.length) (wdH j) j e.1 with
   | none=>rfl
   | some k=>exact absurd (selH_some.mp z).1 Z
 .rintro n G ⟨U,kvs,rfl,y,N,X,C,h4⟩;rw [a5,bX] at C;exact hQ _ G kvs y N t X C
theorem qY3(bs:List Int)(f:Int->List Int)(v:Int×Int):(mvK bs f v).length<=8:=by
 unfold mvK;exact cD (List.length_filterMap_le _ _) ⋯
theorem qSq{m:Int}(W:WaysOk a m)(j:Bool)(k:Int)(bs:List Int)(f:Int->List Int):((atH a j k).flatMap (mvK bs f)).length<=8:=by
 let h:=jw (j:=j) W k
 match atH a j k,h with
 | [],_=>simp
 | [v],_=>rw [cO,iM,cE];exact qY3 bs f v
theorem qS4{m:Int}{bs:List Int}{j:Bool}{k:Int}{n:Nat}{t:List V}(W:WaysOk a m)(x:MvAt P w K G s es (mvK bs f))(b:∀v,v∈es.map (·.1)↔v∈a/\mvK bs f v ≠ [])(y:DicSel (selH a (wdH j) j) es kvs)(hd:G g=some (.dK kvs))(h:G lb=some (.lst t))(i:∀e∈es,e.2.2≠lb)(A : σ[n]? = some (some (.ref g)))(B : σ[0]? = some (some (.int k)))(q:∀(r:Addr) (u:List V) (d:Hp),Ext [] G d->d r=some (.lst u)->MvI K d u ((atH a j k).flatMap (mvK bs f))->r≠lb->Q (.ref r) d):um (tVar n) (tVar 0) (tLst tNil) σ G Q:=by
 refine kR (yS A ⟨g,rfl,.inl ⟨kvs,.inl hd⟩,yS B ?_⟩);refine va (xR ⟨len2 (aX _),λz p=>?_⟩);let c:Ext [] G (upd G z (.lst [])) :=.laid p;refine⟨valV kvs (Sum.inl k),DGet.k (k:=Sum.inl k) (c _ _ ∅ hd),?_⟩;rcases qWp W x b y k with ⟨C,D,l,⟨e,E,o⟩,F,H⟩ | ⟨l,o⟩
 .rw [l];exact q C D _ c (c _ _ ∅ F) (H.mono c.toSame.tups) (o▸i e E)
 .rw [l];exact q z [] _ c zC (by rw [o];exact .nil) (zF h p).symm
theorem wA2{bs:List Int}(c:∀b∈bs,0<=b/\b<8)(h:(bs.any λb=>(rowOf f v b).isSome)=true):mvK bs f v ≠ []:=λz=>by
 let⟨b,a,d⟩:=dR.mp h;let⟨k,e⟩:=gP.mp d;let:k∈mvK bs f v:=bU.mpr ⟨b,mem_eight.mpr (c b a),by unfold mvO;rw [if_pos a];exact e⟩;rw [z] at this;cases this
end
structure Pln where
 d:Addr
 bs:List Int
 as:List Addr
 f:Int->List Int
noncomputable def yj(ws:List (List Blk))(ps:List Pln):List (List Blk):=(ws.zip ps).map λx=>xK x.1 x.2.bs x.2.f
structure PlnsAt(H:Hp)(ws:List (List Blk))(ps:List Pln):Prop where
 len:ps.length=ws.length
 at_:∀(i:Nat) (p:Pln) (wk:List Blk),ps[i]? = some p->ws[i]? = some wk->PlanAt H p.d p.bs p.as (p.bs.map p.f)/\PlanF ws i wk p.bs p.f
theorem qNi{i:Nat}(d:c[i]? = some p)(e:b[i]? = some a):(yj b c)[i]? = some (xK a p.bs p.f):=by
 unfold yj;rw [aU,(gK (z:=(a,p))).mpr ⟨e,d⟩];rfl
theorem PlanAt.apart{bs:List Int}(h:PlanAt H d bs as b)(e:Ext us H G)(c:∀u∈us,∀v,H u=some v->(∀xs,v ≠ .lst xs) /\ ∀kvs,v ≠ .dK kvs):PlanAt G d bs as b:=h.keep λa f o q=>e _ _ (λz=>by
 rcases aL.mp f with y | y
 .rw [y] at z;exact (c d z _ h.dict).2 _ rfl
 .let⟨i,g,j⟩:=bJ y;let⟨l,_,k⟩:=h.lists.get (i:=i) (a:=a) (by rw [aC g,j])
  exact (c a z _ k).1 _ rfl) q
theorem DenL.apartW{K:PySem.W.Frag}(h:DenL K (wo [l] G) ds vs)(e:Ext us G a)(n:∀u∈us,∀v,G u=some v->NoSeq v):DenL K (wo [l] a) ds vs:=by
 let d:Ext us (wo [l] G) (wo [l] a):=λb o g z=>by
  by_cases c:b ∈ [l]
  .rw [vZ c] at z;cases z
  .rw [xP c] at z ⊢;exact e b o g z
 let f:∀u∈us,∀v,(wo [l] G) u=some v->NoSeq v:=λu i v j=>n u i v (wB [l] G _ _ j);exact h.monoS (d.sqs f).1 (d.sqs f).2
def qH0(K:PySem.W.Frag)(q:Str)(lp:Pos)(pt:Addr):Sp:=λvs H Q _ => ∃(wa pa:Addr) (ws:List (List Blk)) (ps:List Pln),vs = [.ref wa,.ref pa]/\Den K H (yV ws) (.ref wa)/\WsOk ws/\H pa=some (.lst (ps.map λp=>V.ref p.d))/\PlnsAt H ws ps/\LamTab q lp pt H /\
 ∀(l:Addr) (H':Hp),Ext [pt] H H'->LamTab q lp pt H'->Den K H' (yV (yj ws ps)) (.ref l)->Q (.ref l) H'
theorem qJp{α β : Type}{R : α -> β -> Prop}{as:List α}{bs:List β}(h:Paired R as bs):∀i:Nat,Paired R (as.eraseIdx i) (bs.eraseIdx i):=by
 induction h with
 | nil=>intro i;exact .nil
 | cons r t a =>
  intro i;cases i with
  | zero=>exact t
  | succ i=>exact .cons r (a i)
theorem qHg{α β : Type}(f : α -> β):∀(l:List α) (i:Nat),(l.eraseIdx i).map f=(l.map f).eraseIdx i
 | [],_=>rfl
 | _::_,0=>rfl
 | x::l,i+1=>congrArg (f x :: ·) (qHg f l i)
def qTj:V->List V->Hp->VK->Prop:=λx args H Q => ∃(l:Addr) (o:List Int) (b:Int),x = .ref l/\args = [.int b]/\H l=some (.lst (o.map V.int))/\b∈o/\Q .non (upd H l (.lst ((o.erase b).map V.int)))
noncomputable def isB(b:Int):Value->Bool
 | .int a _=>a == b
 | _=>false
theorem qW9{o:List Int}(h:Vals (o.map V.int) its):∀ {i:Nat} (hi:i<its.length),∃t,its[i] = .int (o.getD i 0) t:=by
 induction o generalizing its with
 | nil=>cases h;intro i hi;simp at hi
 | cons n o a =>
  cases h with
  | cons r t =>
   let⟨tk,rfl⟩:=r;intro i hi;cases i with
   | zero=>exact⟨tk,rfl⟩
   | succ i =>
    let⟨u,e⟩:=a t (i:=i) (by simpa using hi);exact⟨u,by simpa using e⟩
theorem qO9:MtR X "list.remove" qTj:=by
 intro k s σ H x u v L Q I C D h;let⟨l,o,b,rfl,rfl,w,E,q⟩:=h;cases C;let⟨M,rfl,G⟩:=vals1 D;let⟨J,rfl⟩:=G;let⟨A,c,n,r,f,e⟩:=I.lstM w;rw [aB] at f A;let B:o.idxOf b<o.length:=iC E;let a:∀m (d:m<c.toArray.size),∃t,c.toArray[m] = .int (o.getD m 0) t:=λm d=>qW9 r (by simpa using d);refine call_meets PySem.F.slot_list_remove ⟨_,e,rfl⟩ PySem.F.entry_list_remove (PySem.F.args_list_remove_2 _ _) (MeetsSeq.list_remove l c.toArray n (.int b J) (isB b) (λy K=>?_) (o.idxOf b) (by simp;lia) ?_ (λm d g=>?_) (by simp;lia)) ⟨e,?_⟩
 .let⟨m,d,rfl⟩:=Array.getElem_of_mem K;let⟨t,z⟩:=a m d;rw [z];exact MeetsSeq.EqGives.int _ _ _ _
 .let⟨t,z⟩:=a (o.idxOf b) (by simp;lia);rw [z];show (o.getD (o.idxOf b) 0 == b)=true;rw [bF,aC B,List.getElem_idxOf B];simp
 .let⟨t,z⟩:=a m d;rw [z];show (o.getD m 0 == b)=false;let j:m<o.length:=by lia
  rw [bF,aC j];let:=List.not_of_lt_findIdx (p:=(· == b)) (xs:=o) (i:=m) g;simpa using this
 .refine⟨.non,_,I.lset (its':=c.eraseIdx (o.idxOf b)) (ys:=(o.erase b).map V.int) w e ?_ ?_ ?_,rfl,q⟩
  .simp
  .rw [List.erase_eq_eraseIdx_of_idxOf rfl,qHg];exact qJp r _
  .rw [aB];exact cD (List.length_erase_le ..) A
noncomputable def memS(o:List Int):Int->Bool:=λb=>decide (b∈o)
structure OpenOk(o:List Int)(s:Int->Bool):Prop where
 nd:o.Nodup
 rg:∀b∈o,0<=b/\b<8
 is:memS o=s
theorem OpenOk.len(h:OpenOk o s):o.length<=8:=dM (l₂ :=eight) h.nd λb a=>mem_eight.mpr (h.rg b a)
theorem OpenOk.nil:OpenOk [] λ_=>false:=⟨gY,(λ_ h=>nomatch h),by funext b;rfl⟩
theorem OpenOk.none(h:OpenOk o λ_=>false):o = []:=by
 cases o with
 | nil=>rfl
 | cons b r =>
  let:=congrFun h.is b;unfold memS at this;simp at this
theorem OpenOk.save{b:Int}(h:OpenOk o s)(c:0<=b/\b<8)(d : ¬s b=true):OpenOk (o ++ [b]) (upS s b true):=by
 let f:b∉o:=λz=>d (by rw [<-h.is];exact decide_eq_true z);refine⟨cG.mpr ⟨h.nd,∅,λx a y g e=>f (by rw [<-aF.mp g,<-e];exact a)⟩,λx a=>?_,?_⟩
 .rcases aJ.mp a with z | z
  .exact h.rg x z
  .rw [aF.mp z];exact c
 .funext x
  unfold upS memS;by_cases e:x=b
  .rw [if_pos e,e];simp
  .rw [if_neg e,<-h.is];unfold memS;simp [e]
theorem OpenOk.back{b:Int}(h:OpenOk o s):OpenOk (o.erase b) (upS s b false):=by
 refine⟨h.nd.erase b,λx a=>h.rg x (List.mem_of_mem_erase a),?_⟩
 funext x
 unfold upS memS;by_cases e:x=b
 .rw [if_pos e,e];exact decide_eq_false λz=>(h.nd.mem_erase_iff.mp z).1 rfl
 .rw [if_neg e,<-h.is];unfold memS;simp [h.nd.mem_erase_iff,e]
noncomputable def dWd:Deed->Str
 | .set .. => "set" | .add .. => "add" | .tell _ => "tell" | .call _ => "call" | .save _ => "save" | .back _ => "back"
noncomputable def dNs:Deed->List Int
 | .set b n =>[b,n] | .add b o =>[b,o] | .tell b =>[b] | .call c =>[c] | .save b =>[b] | .back b =>[b]
theorem qV5{K:PySem.W.Frag}(h:Den K G (deedD d) v):∃a,v = .ref a/\SqT K G a (.str (dWd d)::(dNs d).map V.int):=by
 cases d <;> (obtain⟨a,e,rfl,c,b⟩:=h.ofTuple;simp only [DenL,Den] at b;first | (obtain⟨_,_,rfl,rfl,_,_,rfl,rfl,rfl⟩:=b;exact⟨a,rfl,c⟩) | (obtain⟨_,_,rfl,rfl,_,_,rfl,rfl,_,_,rfl,rfl,rfl⟩:=b;exact⟨a,rfl,c⟩))
noncomputable def sixW:List Str :=["set","add","tell","call","save","back"]
theorem jx(d:Deed):dWd d∈sixW:=by cases d <;> simp [dWd,sixW]
theorem wAi(d:Deed):inV (V.str (dWd d)) [V.str "set",.str "add"]=decide (dWd d = "set" \/ dWd d = "add"):=(by decide:∀s∈sixW,inV (V.str s) [V.str "set",.str "add"]=decide (s = "set" \/ s = "add")) _ (jx d)
theorem wAh(d:Deed):inV (V.str (dWd d)) [V.str "save",.str "back"]=decide (dWd d = "save" \/ dWd d = "back"):=(by decide:∀s∈sixW,inV (V.str s) [V.str "save",.str "back"]=decide (s = "save" \/ s = "back")) _ (jx d)
def qGz(K:PySem.W.Frag):Sp:=λvs H Q _ => ∃(da oa:Addr) (d:Deed) (o:List Int) (s s':Int->Bool) (works:Int),vs = [.ref da,.ref oa]/\SqT K H da (.str (dWd d)::(dNs d).map V.int)/\xo works d/\H oa=some (.lst (o.map V.int))/\OpenOk o s/\stepD s d=some s' /\
 ∀(o':List Int) (H':Hp),Ext [oa] H H'->H' oa=some (.lst (o'.map V.int))->OpenOk o' s'->Q (.bl true) H'
noncomputable def bare(wk:List Blk):List Blk:=wk.map λb=>⟨[],b.ns⟩
def rEqE(K:PySem.W.Frag):R2:=λx y H Q => ∃a b xs,x = .ref a/\y = .ref b/\((SqL K H a xs/\SqL K H b [])\/(SqT K H a xs/\SqT K H b []))/\Q (.bl xs.isEmpty) H
theorem wA0(k:X.A.units<cLine):OpR X (compareOp .Eq) (rEqE X.K):=by
 intro o s σ H x y v u Q I t w h;let⟨a,b,l,rfl,rfl,B,q⟩:=h;cases t;cases w;rcases B with ⟨d,f⟩ | ⟨d,f⟩
 .let⟨c,r,p,_⟩:=I.list d;let⟨g,m,i,_⟩:=I.list f;cases m;let n:=r.length;cases l with
  | nil =>
   cases r;exact SeqAt.eq_listAt p.isList i.isList rfl k (e:=λ_=>true) (λj d=>absurd d ∅) ⟨.bl true,H,I,rfl,q⟩
  | cons z zs =>
   exact SeqAt.eq_list_lengthsAt p.isList i.isList (by rw [aR,<-n];rfl) k ⟨.bl false,H,I,rfl,q⟩
 .let⟨c,r,p,_⟩:=I.tuple d;let⟨g,m,i,_⟩:=I.tuple f;cases m;let n:=r.length;refine SeqAt.eq_tupleAt (e:=λ_=>true) p i k (λj _ f=>absurd f ∅) ?_;let e:((List.range (min c.toArray.size ([]:List Value).toArray.size)).all (λ_=>true)&&c.toArray.size == ([]:List Value).toArray.size)=l.isEmpty:=by
   rw [aR,<-n];cases l <;> rfl
  rw [e];exact⟨.bl _,H,I,rfl,q⟩
structure Fr1 where
 fa:Addr
 oa:Addr
 n:Nat
 k:Nat
 p:Nat
 o:List Int
noncomputable def frL(x:Fr1):List V :=[.int x.n,.int x.k,.int x.p,.ref x.oa]
noncomputable def adrT(fs:List Fr1):List Addr:=fs.flatMap λx =>[x.fa,x.oa]
structure StkT(H0 G:Hp)(st:Addr)(fs:List Fr1):Prop where
 lst:G st=some (.lst (fs.map λx=>V.ref x.fa))
 fr:∀x∈fs,G x.fa=some (.lst (frL x))/\G x.oa=some (.lst (x.o.map V.int))
 nd:(st::adrT fs).Nodup
 yg:∀a∈st::adrT fs,H0 a=none
theorem xu(a b:List Fr1):adrT (a++b)=adrT a++adrT b:=List.flatMap_append
theorem wR{fs:List Fr1}(h:x∈fs):x.fa∈adrT fs/\x.oa∈adrT fs:=⟨cC.mpr ⟨x,h,∅⟩,cC.mpr ⟨x,h,∅⟩⟩
theorem vO(x:Fr1):adrT [x] = [x.fa,x.oa]:=rfl
section
variable{H0 G G':Hp}{st:Addr}{fs:List Fr1}{x y:Fr1}
theorem StkT.ext(h:StkT H0 G st fs)(e:Ext [] G G'):StkT H0 G' st fs:=⟨e _ _ ∅ h.lst,λx a=>⟨e _ _ ∅ (h.fr x a).1,e _ _ ∅ (h.fr x a).2⟩,h.nd,h.yg⟩
theorem StkT.apart(h:StkT H0 G st (fs ++ [x])):st≠x.fa/\st≠x.oa/\x.fa≠x.oa /\ ∀z∈fs,z.fa≠x.fa/\z.fa≠x.oa/\z.oa≠x.fa/\z.oa≠x.oa:=by
 let d:=h.nd;rw [xu,vO] at d;let c:=cK.mp d;let b:=cG.mp c.2;refine⟨λe=>c.1 (by simp [e]),λe=>c.1 (by simp [e]),λe=>by let:=b.2.1;rw [e] at this;simp at this,λz a=>?_⟩;let a:=wR a;exact⟨λe=>b.2.2 _ a.1 x.fa ∅ e,λe=>b.2.2 _ a.1 x.oa ∅ e,λe=>b.2.2 _ a.2 x.fa ∅ e,λe=>b.2.2 _ a.2 x.oa ∅ e⟩
theorem StkT.has(h:StkT H0 G st fs):∀a∈st::adrT fs,∃o,G a=some o:=λa c=>by
 rcases aL.mp c with z | z
 .rw [z];exact⟨_,h.lst⟩
 .let⟨x,b,d⟩:=cC.mp z;rcases aL.mp d with y | y
  .rw [y];exact⟨_,(h.fr x b).1⟩
  .rw [aF.mp y];exact⟨_,(h.fr x b).2⟩
theorem StkT.away(h:StkT H0 G st fs)(c:G a=none):a∉st::adrT fs:=λz=>by
 let⟨o,b⟩:=h.has a z;rw [c] at b;cases b
theorem StkT.last(h:StkT H0 G st (fs ++ [x]))(e:Ext [x.fa,x.oa] G G')(a:y.fa=x.fa)(d:y.oa=x.oa)(f:G' y.fa=some (.lst (frL y)))(g:G' y.oa=some (.lst (y.o.map V.int))):StkT H0 G' st (fs ++ [y]):=by
 let⟨i,j,t,k⟩:=h.apart;let c:adrT (fs ++ [y])=adrT (fs ++ [x]):=by rw [xu,xu,vO,vO,a,d]
 let l:(fs ++ [y]).map (λx=>V.ref x.fa)=(fs ++ [x]).map λx=>V.ref x.fa:=by rw [aP,aP,List.map_singleton,List.map_singleton,a]
 refine⟨by rw [l];exact e _ _ (by simp [i,j]) h.lst,λz m=>?_,by rw [c];exact h.nd,by rw [c];exact h.yg⟩;rcases aJ.mp m with q | q
 .let b:=h.fr z (bI _ q);let⟨n,p,r,s⟩:=k z q;exact⟨e _ _ (by simp [n,p]) b.1,e _ _ (by simp [r,s]) b.2⟩
 .rw [aF.mp q];exact⟨f,g⟩
theorem StkT.push(h:StkT H0 G st fs)(g:G y.fa=some (.lst (frL y)))(i:G y.oa=some (.lst (y.o.map V.int)))(f:y.fa∉st::adrT fs)(n2:y.oa∉st::adrT fs)(j:y.fa≠y.oa)(z1:H0 y.fa=none)(z2:H0 y.oa=none):StkT H0 (upd G st (.lst ((fs.map λx=>V.ref x.fa) ++ [V.ref y.fa]))) st (fs ++ [y]):=by
 let c:=cK.mp h.nd;refine⟨by rw [zC,aP];rfl,λz k=>?_,?_,λa d=>?_⟩
 .rcases aJ.mp k with q | q
  .let m:=wR q;rw [zD (show z.fa≠st from λe=>c.1 (e▸m.1)),zD (show z.oa≠st from λe=>c.1 (e▸m.2))];exact h.fr z q
  .rw [aF.mp q,zD (show y.fa≠st from λe=>f (by simp [e])),zD (show y.oa≠st from λe=>n2 (by simp [e]))];exact⟨g,i⟩
 .rw [xu,vO];refine cK.mpr ⟨λq=>?_,cG.mpr ⟨c.2,by simp [j],λa d b l e=>?_⟩⟩
  .rcases aJ.mp q with q | q
   .exact c.1 q
   .rcases aL.mp q with q | q
    .exact f (by simp [q])
    .exact n2 (by simp [aF.mp q])
  .subst e;rcases aL.mp l with q | q
   .exact f (aS _ (q▸d))
   .exact n2 (aS _ (aF.mp q▸d))
 .rcases aL.mp d with q | q
  .exact h.yg a (by simp [q])
  .rw [xu,vO] at q;rcases aJ.mp q with q | q
   .exact h.yg a (aS _ q)
   .rcases aL.mp q with q | q
    .rw [q];exact z1
    .rw [aF.mp q];exact z2
theorem StkT.pop(h:StkT H0 G st (fs ++ [x])):StkT H0 (upd G st (.lst (fs.map λx=>V.ref x.fa))) st fs:=by
 let b:=h.nd;rw [xu] at b;let b:=cK.mp b;refine⟨zC,λz c=>?_,cK.mpr ⟨λq=>b.1 (bI _ q),(cG.mp b.2).1⟩,λa d=>h.yg a ?_⟩
 .let m:=wR c;rw [zD (show z.fa≠st from λe=>b.1 (bI _ (e▸m.1))),zD (show z.oa≠st from λe=>b.1 (bI _ (e▸m.2)))];exact h.fr z (bI _ c)
 .rw [xu];rcases aL.mp d with q | q
  .simp [q]
  .exact aS _ (bI _ q)
end
structure FrT(bws:List (List Blk))(S:Nat->Nat->Int->Bool)(x:Fr1):Prop where
 ex:∃wk b s s',bws[x.n]? = some wk/\wk[x.k]? = some b/\x.p<=b.ds.length/\OpenOk x.o s/\runD s (b.ds.drop x.p)=some s'/\(b.ns = []->s'=λ_=>false) /\ ∀t∈b.ns,∃m:Nat,t=m/\m<wk.length/\S x.n m=s'
def jy(bws:List (List Blk))(S:Nat->Nat->Int->Bool):Prop := ∀(n:Nat) (wk:List Blk),bws[n]? = some wk->Typed (bws.length:Int) wk (S n)
theorem FrT.new(T:jy a S)(d:a[x.n]? = some c)(e:c[x.k]? = some b)(f:x.p=0)(g:OpenOk x.o (S x.n x.k)):FrT a S x:=by
 let⟨m,q,h,i,j,l⟩:=(T x.n c d).blk x.k b e;exact⟨c,b,_,h,d,e,∎,g,by rw [f];exact i,j,l⟩
theorem qV0(h:ns ≠ []):endW ns ≠ "out" :=by
 match ns,h with
 | [_],_=>exact (by decide:("go" : Str) ≠ "out")
 | _::_::_,_=>exact (by decide:("fork" : Str) ≠ "out")
def qPe(K:PySem.W.Frag):Sp:=λvs H Q _ => ∃(ma ca:Addr) (bws:List (List Blk)) (S:Nat->Nat->Int->Bool) (n:Nat) (cs:List Int) (most:Int),vs = [.ref ma,.int n,.ref ca,.int most]/\Den K H (yV bws) (.ref ma)/\jy bws S/\n<bws.length/\H ca=some (.lst (cs.map V.int))/\0<=most/\most<=1000 /\
 ∀H',Ext [] H H'->Q (.bl true) H'
end L2
local macro_rules | `(tactic| walk_at "qc") => `(tactic| first | refine L2.qZd ?_ | refine L2.qQ5 ?_ | refine L2.qZ5 ?_ | refine L2.qZb ?_ | refine L2.qZ6 ?_ | walk_at "qz")
local macro_rules | `(tactic| walk_at "re") => `(tactic| repeat (with_reducible first | (refine L2.vi ?_; intro NN_ hNN_) | walk_at "qa" | refine L2.yF (by assumption) ?_ | refine L2.vh (by assumption) ?_ | (refine L2.vj ?_; intro NA_ NB_ hNA_ hNB_) | walk_at "qc"))
namespace L2
open PySem PySem.Spec PyProof.Rows
section
variable{K:PySem.W.Frag}
theorem qTw{c:List Int}{tk:Nat}(d:SqT K G f (.str W::r))(a:SqL K G b (c.map V.int))(m : σ[9]? = some (some (.ref f)))(g : σ[2]? = some (some (.ref b)))(h : σ[5]? = some (some (.int tk)))(q:∀k:Bool,(k=true->W = "fork")->Q (.bl k) G):tAndV (tOp rEq (tOp (rIxT K) (tVar 9) (tC (V.int 0))) (tC (V.str "fork"))) (tAndV (tOp (rI0 λi j=>V.bl (decide (i<j))) (tVar 5) (tCB (λxs H Q => ∃p ys,xs = [V.ref p]/\(SqL K H p ys\/SqT K H p ys)/\Q (V.int ys.length) H) (tCons (tVar 2) tNil))) (tOp rNe (tOp (rIxL K) (tVar 2) (tVar 5)) (tC (V.int 0)))) σ G Q:=by
 refine qVp ?_;refine wC (wC (yS m (r_c (zf d (show atI _ ((0:Nat):Int)=_ from zX rfl) (r_c (yT ⟨_,rfl,?_⟩))))));by_cases e:W = "fork"
 .rw [decide_eq_true e];refine iteT (qVp ?_);refine wC (yS h (wAn (wF (yS g (xR ⟨b,_,rfl,.inl a,⟨_,_,rfl,rfl,⟨_,rfl,?_⟩⟩⟩)))));rw [aB];by_cases l:(tk:Int)<(c.length:Int)
  .rw [decide_eq_true l];obtain⟨n,o⟩:∃n,c[tk]? = some n:=⟨_,aC ∎⟩;refine iteT (wC (wC (yS g (yS h (ze a (zX (by rw [aU,o];rfl)) (r_c ⟨rfl,?_⟩))))));exact q _ λ_=>e
  .rw [decide_eq_false l];exact iteF (q _ λz=>nomatch z)
 .rw [decide_eq_false e];exact iteF (q _ λz=>nomatch z)
end
noncomputable def stAll(ws:List (List Blk))(ps:List Pln)(n:Nat):Nat->Int->Bool:=match ws[n]?,ps[n]? with
 | some wk,some p=>stB wk p.bs p.f
 | _,_=>λ_ _=>false
theorem qOw(h:WsOk a)(q:∀w∈a,∀b∈w,Fw (a.length:Int) b)(u:g.length=a.length)(r:∀(i:Nat) (p:Pln) (d:List Blk),g[i]? = some p->a[i]? = some d->PlanF a i d p.bs p.f):jy (yj a g) (stAll a g):=λn v o=>by
 let j:(yj a g).length=a.length:=by unfold yj;rw [aB,gR];lia
 let k:n<a.length:=by let:=(aI.mp o).1;lia
 obtain⟨d,c⟩:∃d,a[n]? = some d:=⟨_,aC k⟩;obtain⟨p,l⟩:∃p,g[n]? = some p:=⟨_,aC ∎⟩;let e:=qNi l c;rw [o] at e;cases e;let⟨m,s,x,t⟩:=h.all d (aN c);let:stAll a g n=stB d p.bs p.f:=by unfold stAll;rw [c,l]
 rw [this,j];exact qKu t s (q d (aN c)) (r n p d l c)
end L2
local macro_rules | `(tactic| walk_at "qd") => `(tactic| first | refine L2.kR ?_ | walk_at "qz")
local macro_rules | `(tactic| walk_at "rf") => `(tactic| repeat (with_reducible first | refine L2.Qo ?_ | walk_at "qa" | refine L2.yF (by assumption) ?_ | refine L2.vh (by assumption) ?_ | refine L2.wB7 ?_ | walk_at "qd"))
namespace Fs
open PySem L2
noncomputable def top(i:Nat):Stmt:=PySem.Challenge.pw_fewsaves_k61_whole_saves_and_backs_by_tu.main.body.getD i (.Pass ⟨0,0,0,0⟩)
noncomputable abbrev sDraw:Stmt:=top 14
theorem scDraw:FnScope ["_law_tape_here","_law_many_here","_law_found","_law_once","_law_twice"] ["_law_tape_here","_law_many_here"] (zT sDraw):=⟨rfl,rfl,rfl,by decide +kernel,rfl,by decide +kernel,by decide +kernel⟩
theorem qXs(F:Fun K "_law_draw" "_law_draw" sDraw f p):FnOk P w K mg base CX0 1 f p ["_law_tape_here","_law_many_here"] yp:=by
 refine F.ok scDraw (λx H Q E h=>?_) (λy A l s H x Q E O h=>?_)
 .let⟨t,k,n,rfl,_⟩:=h;rfl
 .obtain⟨t,k,n,rfl,⟨a,b,c,m,r,d,e,z,B⟩,R,j,C,q⟩:=h
  refine⟨_,zI (zr (zR uf (zJ zV (pv 0) zE (λ_ _=>rfl)) zE (zO _))
    (zI (zU (i:=2) scDraw.nd rfl (Or.inl rfl) (zM xD (zJ zV (pv 0) zE (λ_ _=>rfl)) (pv 1)))
    (zI (xN (zM oP (zJ zV (pv 0) zE (λ_ _=>rfl)) (pv 1)) (wT (pv 0) zE wm))
    (zK (zW (pv 2))))) yC)
   (zI (xN (zM zp (zJ zV (pv 0) zE (λ_ _=>rfl)) zE) (wT (pv 0) zE wm))
   (zI (zU (i:=3) scDraw.nd rfl (Or.inl rfl) (zM xD (zM wZ (zM zp (zJ zV (pv 0) zE (λ_ _=>rfl)) (zM wY zE (zJ zV (pv 0) zE (λ_ _=>rfl)))) zE) zE))
   (zI (zU (i:=4) scDraw.nd rfl (Or.inl rfl) (zM xD (zM wY (zM zp (pv 3) (zJ zV (pv 0) zE (λ_ _=>rfl))) (zM zp (zM zp (zM xD (pv 3) zE) zE) (zJ zV (pv 0) zE (λ_ _=>rfl)))) zE))
   (zK (zW (zM xD (zM oP (zM xD (zM zp (zM wY (pv 4) zE) (pv 3)) zE) zE) (pv 1))))))),?_⟩
  dsimp only [zo];let S:SqL K H t [.int a,.int b,.int c]:=SqL.of m;room;refine ite2 (λg=>?_) (λg=>?_)
  .room;refine yq j ?_;room;refine Qn j ∎ ?_;room;refine wy (n:=0) m rfl ?_;room;exact q _ _ (iD _ ∎) (gG _ j) ⟨a / n,b,c,zC,Int.ediv_nonneg r ∎,d,e,z,∎⟩ (.put ∅) (λb d=>zD d)
  .room;refine wy (n:=2) m rfl ?_;let D:SqL K (upd H t (.lst ([V.int a,V.int b,V.int c].set 2 (.int (c+1))))) t [.int a,.int b,.int (c+1)]:=SqL.of zC;room;refine xl (.inl ⟨⋯,⋯⟩) ?_;room;refine wD ⋯ ⋯ ∎ ?_;room;refine yq ⋯ ?_;generalize u:(b+39373*(c+1))^(5:Int).toNat%2147483647=o;let G:0<=o:=by rw [<-u];exact iD _ ⋯
   let I:o<2147483647:=by rw [<-u];exact gG _ ⋯
   room;refine yq ⋯ ?_;let J:0<=o%40009:=iD _ ⋯;let L:o%40009<40009:=gG _ ⋯;room;refine xl (.inl ⟨∎,∎⟩) ?_;room;refine yq ⋯ ?_;generalize v:(o+(c+1))*(o%40009+7+(c+1))%2147483629=p2;let M:0<=p2:=by rw [<-v];exact iD _ ⋯
   let N:p2<2147483629:=by rw [<-v];exact gG _ ⋯
   room;refine xl (.inl ⟨∎,∎⟩) ?_;room;refine yq ⋯ ?_;room;refine Qn ⋯ ⋯ ?_;room;refine yq j ?_;exact q _ _ (iD _ ∎) (gG _ j) ⟨a,b,c+1,zC,r,d,e,∎,∎⟩ (.put ∅) (λb d=>zD d)
noncomputable abbrev sTape:Stmt:=top 13
noncomputable abbrev jz:Stmt:=top 16
noncomputable abbrev sMany:Stmt:=top 19
theorem scTape:FnScope ["_law_script","_law_k","_law_cell"] ["_law_script","_law_k"] (zT sTape):=⟨rfl,rfl,rfl,by decide +kernel,rfl,by decide +kernel,by decide +kernel⟩
theorem qXo(F:Fun K "_law_tape" "_law_tape" sTape f v)(m:mg "len" = none)(d:mg "abs" = none)(n:mg "int" = none):FnOk P w K mg base CX0 1 f v ["_law_script","_law_k"] (Qp K):=by
 refine F.ok scTape (λy H Q E h=>?_) (λz A r s H y Q E C h=>?_)
 .let⟨a,l,k,rfl,_⟩:=h;rfl
 .let⟨a,l,k,rfl,x,D,q⟩:=h
  refine⟨_,zI (zU (i:=2) scTape.nd rfl (Or.inl rfl) (xc (zR xf (pv 1) (zk yE (by rfl) m cA (zA (pv 0) zB)) (zO _)) (zJ zV (pv 0) (pv 1) (λ_ _=>rfl)) zE))
   (zK (zW (zZ (zA (zM wY (zk oW (by rfl) d PyProof.Rows.boot_abs (zA (pv 2) zB)) (yN xg (by rfl) n eE (zA (zy wB3 (zk oW (by rfl) d PyProof.Rows.boot_abs (zA (pv 2) zB)) (zM wZ zE zE) (zO _)) zB)))
    (zA (zM zp (zM zp (zM xD (pv 2) zE) (zM wY zE (pv 1))) zE) (zA zE zB)))))),?_⟩
  dsimp only [zo];let key:∀c:Int,0<=(if c<0 then -c else c):=λc=>by split <;> lia
  room;refine⟨a,_,rfl,.inl x,?_⟩;room;by_cases g:(k:Int)<((l.map V.int).length:Int)
  .rw [decide_eq_true g];refine iteT ?_;rw [aB] at g;let B:k<l.length:=by lia
   let u:atI (l.map V.int) (k:Int)=some (.int l[k]):=by
    let:=zX (xs:=l.map V.int) (j:=k) (by rw [aU,aC B];rfl);exact this
   room;refine ze x u ?_;generalize l[k]=c;room;refine⟨_,rfl,?_⟩;room;refine⟨_,rfl,?_⟩;room;refine wD ⋯ ⋯ ⋯ ?_;room;refine .inr ⟨_,rfl,?_⟩;refine xl (.inr ⟨by let:=bit01 (decide (10^Int.toNat 18<=if c<0 then -c else c));lia,by let:=bit01 (decide (10^Int.toNat 18<=if c<0 then -c else c));lia⟩) ?_;room;refine yq ⋯ ?_;room;refine xl (.inl ⟨⋯,⋯⟩) ?_;room;refine⟨len2 (by show 3<=1000;decide),λt p=>q t _ p ⟨_,_,_,zC,?_,?_,?_,⋯,⋯⟩ λb o e=>?_⟩
   .exact Int.mul_nonneg (key c) (bit01 _).1
   .let:=iD c (show (2305843009213693951:Int)≠0 by decide);lia
   .let:=gG c (show (0:Int)<2305843009213693951 by decide);lia
   .rw [zD (zF e p)];exact e
  .rw [decide_eq_false g];refine iteF ?_;room;refine⟨_,rfl,?_⟩;room;refine⟨_,rfl,?_⟩;room;refine wD ⋯ ⋯ ⋯ ?_;room;refine .inr ⟨_,rfl,?_⟩;refine xl (.inr ⟨by let:=bit01 (decide (10^Int.toNat 18<=if 0<0 then -0 else 0));lia,by let:=bit01 (decide (10^Int.toNat 18<=if 0<0 then -0 else 0));lia⟩) ?_;room;refine yq ⋯ ?_;room;refine xl (.inl ⟨⋯,⋯⟩) ?_;room;refine⟨len2 (by show 3<=1000;decide),λt p=>q t _ p ⟨_,_,_,zC,?_,?_,?_,⋯,⋯⟩ λb o e=>?_⟩
   .exact Int.mul_nonneg (key 0) (bit01 _).1
   .let:(0:Int)%2305843009213693951=0:=rfl;lia
   .let:(0:Int)%2305843009213693951=0:=rfl;lia
   .rw [zD (zF e p)];exact e
theorem qYy:FnScope ["_law_tape_here"] ["_law_tape_here"] (zT sMany):=⟨rfl,rfl,rfl,by decide +kernel,rfl,by decide +kernel,by decide +kernel⟩
theorem qXp(F:Fun K "_law_many" "_law_many" sMany f i)(a:mg "int" = none)(b:Has P w K mg base "_law_draw" 1 ["_law_tape_here","_law_many_here"] yp):FnOk P w K mg base CX0 2 f i ["_law_tape_here"] Qq:=by
 refine F.ok qYy (λr H Q E h=>?_) (λu A d s H r Q E e h=>?_)
 .let⟨t,k,rfl,_⟩:=h;rfl
 .let⟨t,k,rfl,hT,G,q⟩:=h
  refine⟨_,zK (zW (zJ zV (zZ (zA (zM zp zE (zL b e (aH _) (zA (pv 0) (zA zE zB)))) (zA (zM zp zE (zL b e (aH _) (zA (pv 0) (zA zE zB)))) zB)))
   (yN xg (by rfl) a eE (zA (zy zd (zL b e (aH _) (zA (pv 0) (zA zE zB))) zE (zO _)) zB)) (λ_ _=>rfl))),?_⟩
  dsimp only [zo];room;refine zn hT ∎ ⋯ ⋯ λr1 I J L v x _=>?_;room;refine zn v ∎ ⋯ ⋯ λr2 M N O j y _=>?_;room;refine⟨len2 (by show 2<=1000;decide),λp g=>?_⟩;let z:p≠t:=j.ne g;room;refine zn (j.ext (.laid (ts :=[]) g) ∅) ∎ ⋯ ⋯ λB l R S m C D=>?_;room;refine zw ?_;room;refine .inr ⟨_,rfl,?_⟩;let n:Ext [t] H l:=(x.trans y).trans ((Ext.laid g).trans C);let o:SqL K l p [V.int (1+r1),V.int (7+r2)]:=SqL.of (by rw [D p z,zC]);cases c:decide (B=0) with
  | true=>exact ze o rfl (q _ _ ∎ ∎ m n)
  | false=>exact ze o rfl (q _ _ ∎ ∎ m n)
theorem qT7:FnScope ["_law_tape_here"] ["_law_tape_here"] (zT jz):=⟨rfl,rfl,rfl,by decide +kernel,rfl,by decide +kernel,by decide +kernel⟩
theorem qQz(F:Fun K "_law_number" "_law_number" jz f g)(b:Has P w K mg base "_law_draw" 1 ["_law_tape_here","_law_many_here"] yp):FnOk P w K mg base CX0 2 f g ["_law_tape_here"] Qr:=by
 refine F.ok qT7 (λj H Q E h=>?_) (λl A c s H j Q E d h=>?_)
 .let⟨t,k,rfl,_⟩:=h;rfl
 .let⟨t,k,rfl,hT,L,q⟩:=h
  refine⟨_,zK (zW (zJ zV (zZ (zA zE (zA zE (zA (wX wc zE) (zA zE (zA (zM wZ zE zE) (zA (zM ue zE (zM wZ zE zE))
   (zA (zM ue (zL b d (aH _) (zA (pv 0) (zA zE zB))) zE) (zA (zL b d (aH _) (zA (pv 0) (zA (zM wZ zE zE) zB))) zB)))))))))
   (zL b d (aH _) (zA (pv 0) (zA zE zB))) (λ_ _=>rfl))),?_⟩
  dsimp only [zo];room;refine wD ⋯ ⋯ ⋯ ?_;room;refine wD ⋯ ⋯ ⋯ ?_;room;refine zn hT ∎ ⋯ ⋯ λM N O R m n _=>?_;room;refine wD ⋯ ⋯ ⋯ ?_;room;refine zn m ∎ ⋯ ⋯ λo S T r i u _=>?_;let v:o<1000000:=r;room;refine⟨len2 (by show 8<=1000;decide),λp e=>?_⟩;let x:p≠t:=i.ne e;room;refine zn (i.ext (.laid (ts :=[]) e) ∅) ∎ ⋯ ⋯ λa y U V z B C=>?_;let D:Ext [t] H y:=(n.trans u).trans ((Ext.laid e).trans B);let G:=SqL.of (K:=K) ((C p x).trans zC)
  let W:(10:Int)^(12:Int).toNat=1000000000000:=by decide
  let I : -((10:Int)^12) = -1000000000000:=by decide
  let J:((10:Int)^12)=1000000000000:=by decide
  rw [I,J] at q;obtain h | h | h | h | h | h | h | h:a=0\/a=1\/a=2\/a=3\/a=4\/a=5\/a=6\/a=7:=by lia
  all_goals
   subst h;refine ze G rfl (q _ _ ?_ ?_ z D)
  all_goals first | decide | lia
theorem yv{k:Hp}{ns:List Int}(S : σ[2]? = some (some (.ref l)))(T : σ[3]? = some (some (.ref d)))(N : σ[7]? = some (some (.ref p)))(B:k l=some (.lst vs))(hd:k d=some (.dK kvs))(O:k p=some (.lst (ns.map V.int)))(hz:vs.length<1000)(U:kvs.length<=900)(hn:ns.length<=2)(C:p≠l)(q:∀f i,f l=some (.lst (vs ++ [.ref p]))->f d=some (.dK i)->i.length<=kvs.length+2->Ext [l,d] k f->D.nx σ f):tSeq (tDrop (tBM K "list" wn (tVar 2) (tCons (tVar 7) tNil))) (tDrop (tBM K "dict" Qk (tVar 3) (tCons (tComp ["_law_one"] [] (.lst []) (iList K (tVar 7)) (gName 0) [] (eApp (tTup (tCons (tVar 0) (tCons (tC (.bl true)) tNil))))) tNil))) D σ k:=by
 let v:l≠d:=xv B hd (by intro z;cases z);let W:p≠d:=xv O hd (by intro z;cases z);refine Qo (uz (wz (yS S (yA B (wF (yS N (xR (yL B (zb ∎) ?_))))))));generalize g:upd k l (.lst (vs ++ [.ref p]))=f;let P:f l=some (.lst (vs ++ [.ref p])):=by rw [<-g,zC]
 let E:f d=some (.dK kvs):=by rw [<-g,zD v.symm];exact hd
 let F:f p=some (.lst (ns.map V.int)):=by rw [<-g,zD C];exact O
 let X:Ext [l,d] k f:=by rw [<-g];exact .put ∅
 refine uz (wz (yS T (wAu E (wF (vf (vg (yS N ⟨p,rfl,⟨_,SqL.of F⟩,λm c=>?_⟩)))))));let G:p≠m:=zF F c;refine yr (xs:=ns.map V.int) (λj h t=>(∃o,h = [o])/\Ext [m] f t /\ ∃a,t m=some (.lst a)/\PairsAt t a ((ns.take j).map λn=>((Sum.inl n:Key),V.bl true)))
  ⟨⟨none,rfl⟩,.laid c,[],zC,.nil⟩ (λj h t _ ⟨_,e,_⟩=>SqL.of (e _ _ (by simpa using G) F)) ?_ ?_
 .rintro j x h t R w ⟨⟨o,rfl⟩,e,a,y,u⟩ Y;obtain⟨n,H,rfl⟩:∃n,ns[j]? = some n/\x=V.int n:=by
   rw [aU] at w;cases z:ns[j]? with
   | none=>rw [z] at w;cases w
   | some n=>rw [z] at w;exact⟨n,rfl,(bB w).symm⟩
  room;refine iteT ?_;room;refine⟨len2 (by show 2<=1000;decide),λI r=>?_⟩;let A:m≠I:=zF y r;let Q:a.length<=2:=by
   let:=dD u;rw [aB,bD] at this;lia
  refine⟨a,by rw [zD A];exact y,zb ∎,Y _ _ ⟨⟨_,rfl⟩,?_,a ++ [.ref I],zC,?_⟩⟩
  .exact e.trans ((Ext.laid r).trans (.put ∅))
  .let Z:(ns.take (j+1))=ns.take j ++ [n]:=by rw [fB,H];rfl
   rw [Z,aP];refine iN (PairsAt.mono (λb ys e=>?_) u) ⟨I,rfl,?_⟩
   .rw [zD (xv e y (by intro z;cases z)),zD (zF e r)];exact e
   .rw [zD A.symm,zC];rfl
 .rintro h t ⟨_,e,a,y,u⟩;rw [aB,bX] at u;let J:d≠m:=zF E c;let L:l≠m:=zF P c;let s:=dD u;rw [aB] at s;refine xR ⟨d,m,kvs,a,_,rfl,rfl,e _ _ (by simpa using J) E,y,u,len2 (by rw [aB];lia),?_⟩;let M:=QP (ns.map λn=>((Sum.inl n:Key),V.bl true)) kvs;rw [aB] at M;refine q _ _ (by rw [zD v];exact e _ _ (by simpa using L) P) zC ∎ ?_;exact X.trans (((e.drop c).mono ∅).trans (.put ∅))
noncomputable abbrev iX:Stmt:=top 15
theorem scNexts:FnScope ["_law_tape_here","_law_many_here","_law_found","_law_led","_law_k","_law_way","_law_other","_law_some"] ["_law_tape_here","_law_many_here"] (zT iX):=⟨rfl,rfl,rfl,by decide +kernel,rfl,by decide +kernel,by decide +kernel⟩
theorem qU3(F:Fun K "_law_nexts" "_law_nexts" iX f fd)(a0:mg "range" = none)(b9:mg "max" = none)(hD:Has P w K mg base "_law_draw" 1 ["_law_tape_here","_law_many_here"] yp):FnOk P w K mg base CX0 2 f fd ["_law_tape_here","_law_many_here"] (Qt K):=by
 refine F.ok scNexts (λR H Q E h=>?_) (λd3 A c7 s H R Q E hr h=>?_)
 .let⟨t,k,m,rfl,_⟩:=h;rfl
 .let⟨t,k,m,rfl,hT,hk,d4,d6,q⟩:=h;let hu:=yZ hr
  refine⟨_,zI (wU (i:=2) (j:=3) rfl scNexts.nd rfl rfl ⋯ rfl rfl (zA (zZ zB) (zA QO zB)) rfl)
   (zI (yX cS rfl (yW rfl a0 (zA (pv 1) zB)) (zN (i:=4) scNexts.nd rfl (Or.inl rfl))
    (zI (zU (i:=5) scNexts.nd rfl (Or.inl rfl) (zL hD hr (aH _) (zA (pv 0) (zA zE zB))))
    (zI (zU (i:=6) scNexts.nd rfl (Or.inl rfl) (zM zp zE (zL hD hr (aH _) (zA (pv 0) (zA (zk (oX rfl) (by rfl) b9 PyProof.Rows.boot_max (zA zE (zA (zM ue (pv 1) zE) zB))) zB)))))
    (zI (zU (i:=7) scNexts.nd rfl (Or.inl rfl) (zJ zV (zZ (zA (zZ (zA (zM zp (pv 4) zE) (zA (pv 6) zB))) (zA (zZ (zA (pv 6) (zA (zM zp (pv 4) zE) zB))) zB))) (zM xD (pv 5) zE) (λ_ _=>rfl)))
    (zI (zr (zR zd (zM zp (pv 4) zE) (pv 1) (zO _))
      (zK (zU (i:=7) scNexts.nd rfl (Or.inl rfl) (xc (xM (zR zd (pv 5) zE (zO _)) (xL (zR uf (pv 1) zE (zO _)))).pt (zZ (zA (pv 6) zB)) (zZ zB))))
      (zK (zr (xM (oI (qZv hu (zM zp (pv 4) zE) (pv 3))) (xL (zR xf (pv 5) zE (zO _)))).pt
       (zK (zU (i:=7) scNexts.nd rfl (Or.inl rfl) (xc (zR zd (pv 5) zE (zO _)) (zZ (zA (pv 6) zB)) (zZ zB))))
       (zK (zr (oK (zR xf (pv 5) zE (zO _)) (oJ (zR zd (pv 6) (zM zp (pv 4) zE) (zO _)))).pt
        (zK (zU (i:=7) scNexts.nd rfl (Or.inl rfl) (zZ (zA (zM zp (pv 4) zE) zB)))) yC)))))
    (zI (yI (yH bG bY bZ yk (pv 2) (zA (pv 7) zB)))
    (zK (yI (yH gW iT PySem.F.type_dict_update (qR8 rfl) (pv 3)
     (zA (yK ["_law_one"] [] rfl (.of rfl) (yJ (pv 7)) (λ_ _ _ _=>zN (i:=0) (by show ((["_law_one"]:List Str)).Nodup;decide) rfl (Or.inl rfl)) (λ_ _ _ _ =>.nil) (λ_ _ _ _=>zm (zA (pv 0) (zA yQ zB)))) zB))))))))))
   (zK (zW (pv 2)))),?_⟩
  dsimp only [zo,zv];room;refine⟨len2 (aX _),λl hl=>?_⟩;let a3:l≠t:=hT.ne hl;room;refine qX5 λd hd=>?_;let a4:l≠d:=λz=>by rw [<-z,zC] at hd;cases hd
  rw [zD a4.symm] at hd;let a8:d≠t:=hT.ne hd;room;refine⟨_,_,rfl,?_⟩;room
  refine⟨m,rfl,∎,∎,xn (lo:=0) (n:=m.toNat) (λi a9 H' => ∃(T:List (List Int)) (R:List V) (O:List (Key×V)) (o4 o5 o6 o7:Option V),a9 = [some (.ref t),some (.int m),some (.ref l),some (.ref d),o4,o5,o6,o7]/\T.length=i/\(∀ns∈T,NsOk m ns) /\
   Tape H' t (k+2*i)/\Ext [t] H H'/\H' l=some (.lst R)/\DenL K (yo H [t,l,d] H') (T.map intsD) R/\H' d=some (.dK O)/\O.length<=2*i) ?_ ?_ ?_⟩
  .refine⟨[],[],[],none,none,none,none,rfl,rfl,(λ_ h=>absurd h ∅),?_,?_,?_,.nil,zC,aH _⟩
   .exact (hT.ext (ts :=[]) ((Ext.laid hl).trans (.laid (by rw [zD a4.symm];exact hd))) ∅).mono ∎
   .exact (Ext.laid hl).trans (.laid (by rw [zD a4.symm];exact hd))
   .rw [zD a4,zC]
  .rintro i a9 H' hi ⟨T,R,O,o4,o5,o6,o7,rfl,b0,b3,b4,e',b5,S,c0,c8⟩ N_ B_ C_ R_ hN_ hC_ hR_;let d8:R.length=i:=by rw [S.len,aB,b0]
   room;refine zn b4 ∎ ⋯ ⋯ λr1 H1 a1 b1 T1 e1 k1=>?_;room;refine⟨_,_,rfl,?_⟩;room;refine zn T1 ∎ (by split <;> lia) (by split <;> lia) λr2 C a2 b2 T2 e2 k2=>?_;let l2:C l=some (.lst R):=by rw [k2 l a3,k1 l a3];exact b5
   let d2:C d=some (.dK O):=by rw [k2 d a8,k1 d a8];exact c0
   let c1:DenL K (yo H [t,l,d] C) (T.map intsD) R:=S.mono ((e1.trans e2).mono ∅).young;room;refine⟨len2 (by show 2<=1000;decide),λp1 c2=>?_⟩;room;refine⟨len2 (by show 2<=1000;decide),λp2 a5=>?_⟩;room;refine⟨len2 (by show 2<=1000;decide),λp3 b6=>?_⟩;let b7:p1≠p2:=zF zC a5;let c9:p2≠p3:=zF zC b6;let d0:p1≠p3:=zF (by rw [zD b7,zC]) b6;generalize a6:upd (upd (upd C p1 (HO.lst [V.int (0 + ↑i+1),V.int (1+r2)])) p2 (HO.lst [V.int (1+r2),V.int (0 + ↑i+1)])) p3 (HO.lst [V.ref p1,V.ref p2])=G;let c3:C p2=none:=by rw [zD b7.symm] at a5;exact a5
   let U:Ext [] C G:=by
    rw [<-a6];exact (Ext.laid c2).trans ((Ext.laid a5).trans (.laid b6))
   let q1:G p1=some (.lst ([0+(i:Int)+1,1+r2].map V.int)):=by rw [<-a6,zD d0,zD b7,zC];rfl
   let q2:G p2=some (.lst ([1+r2,0+(i:Int)+1].map V.int)):=by rw [<-a6,zD c9,zC];rfl
   let q3:SqL K G p3 [V.ref p1,V.ref p2]:=SqL.of (by rw [<-a6,zC]);let W:∀p,C p=none->p≠t/\p≠l/\p≠d:=λp u=>⟨T2.ne u,(zF l2 u).symm,(zF d2 u).symm⟩;let fin:∀(p:Addr) (ns:List Int) (H6:Hp),Ext [] G H6->H6 p=some (.lst (ns.map V.int))->C p=none->NsOk m ns -> ∀(B:Hp) (a:List (Key×V)),B l=some (.lst (R ++ [.ref p]))->B d=some (.dK a)->a.length<=O.length+2->Ext [l,d] H6 B -> ∀o4 o5 o6 o7:Option V,
     ∃(T:List (List Int)) (R:List V) (O:List (Key×V)) (p4 p5 p6 p7:Option V),[some (V.ref t),some (.int m),some (.ref l),some (.ref d),o4,o5,o6,o7] = [some (.ref t),some (.int m),some (.ref l),some (.ref d),p4,p5,p6,p7]/\T.length=i+1/\(∀ns∈T,NsOk m ns) /\
      Tape B t (k+2*(i+1))/\Ext [t] H B/\B l=some (.lst R)/\DenL K (yo H [t,l,d] B) (T.map intsD) R/\B d=some (.dK O)/\O.length<=2*(i+1):=by
    intro p ns H6 v u hn b B a J L r I o4 o5 o6 o7;let⟨c4,e,c5⟩:=W p hn;let b8:Ext [l,d] C B:=((U.trans v).mono ∅).trans I;refine⟨T ++ [ns],R ++ [.ref p],a,o4,o5,o6,o7,rfl,by rw [aG,b0];rfl,λz hz=>?_,?_,?_,J,?_,L,∎⟩
    .rcases aJ.mp hz with y | y
     .exact b3 z y
     .rw [aF.mp y];exact b
    .exact (T2.ext b8 (by simp [a3.symm,a8.symm])).mono ∎
    .let E7:Ext [l,d,t] H B:=(e'.mono ∅).trans (((e1.trans e2).mono ∅).trans (b8.mono ∅));exact (E7.drop hl).drop hd
    .rw [aP];refine DenL.append (c1.mono (b8.mono ∅).young) (.cons (.list (SqL.of ?_) (DenL.ofInts ns)) .nil);rw [zt ((e'.trans (e1.trans e2)).none (by simpa using c4) hn) (by simp [c4,e,c5])];exact I _ _ (by simp [e,c5]) u
   let d9:1+r2<=1\/1+r2<=m - 1:=by
    by_cases c:m - 1>1
    .rw [if_pos c] at b2;lia
    .rw [if_neg c] at b2;lia
   let Y:=U _ _ ∅ l2;let X:=U _ _ ∅ d2;obtain⟨Z,N,h0,a7,c6,d1⟩:∃Z N,G Z=some (.lst (N.map V.int))/\C Z=none/\(N = [0+(i:Int)+1,1+r2]\/N = [1+r2,0+(i:Int)+1])/\atI [V.ref p1,V.ref p2] (r1%2)=some (.ref Z):=by
    let hm:=Int.emod_two_eq r1;rcases hm with c | c
    .exact⟨p1,_,q1,c2,.inl rfl,by rw [c];rfl⟩
    .exact⟨p2,_,q2,c3,.inr rfl,by rw [c];rfl⟩
   room;refine yq ⋯ (ze q3 d1 ?_);room;refine zw ?_;room;let M:∀ {ns},NsOk m ns->ns.length<=2:=by
    rintro ns (h | ⟨x,h,_⟩ | ⟨x,y,h,_⟩) <;> subst h <;> simp
   refine ite2 (λg=>?_) (λg=>?_)
   .let g:=of_decide_eq_true g;room;refine zw ?_;room;refine ite2 (λg2=>?_) (λg2=>?_)
    .room;refine ite2 (λg3=>?_) (λg3=>?_)
     .let g3:=of_decide_eq_true g3;room;refine⟨len2 (by first | exact aX _ | (show 1<=1000;decide)),λp u=>?_⟩;let D:C p=none:=by
       cases z:C p with
       | none=>rfl
       | some o=>rw [U _ _ ∅ z] at u;cases u
      let v:Ext [] G (upd G p (.lst (([1+r2]:List Int).map V.int))) :=.laid u;let b:NsOk m [1+r2]:=(.inr (.inl ⟨_,rfl,∎,∎⟩));let⟨_,e,_⟩:=W p D;refine yb ?_;refine yv (l:=l) (d:=d) (p:=p) (ns :=[1+r2]) rfl rfl rfl (v _ _ ∅ Y) (v _ _ ∅ X) zC ∎ ∎ (M b) e ?_;exact λB a J L r I=>hN_ _ _ <| fin p [1+r2] _ v zC D b B a J L r I _ _ _ _
     .room;refine⟨len2 (by first | exact aX _ | (show 1<=1000;decide)),λp u=>?_⟩;let D:C p=none:=by
       cases z:C p with
       | none=>rfl
       | some o=>rw [U _ _ ∅ z] at u;cases u
      let v:Ext [] G (upd G p (.lst (([]:List Int).map V.int))) :=.laid u;let b:NsOk m []:=(.inl rfl);let⟨_,e,_⟩:=W p D;refine yb ?_;refine yv (l:=l) (d:=d) (p:=p) (ns :=[]) rfl rfl rfl (v _ _ ∅ Y) (v _ _ ∅ X) zC ∎ ∎ (M b) e ?_;exact λB a J L r I=>hN_ _ _ <| fin p [] _ v zC D b B a J L r I _ _ _ _
    .refine iteF ?_;room;refine⟨len2 (by first | exact aX _ | (show 1<=1000;decide)),λp u=>?_⟩;let D:C p=none:=by
      cases z:C p with
      | none=>rfl
      | some o=>rw [U _ _ ∅ z] at u;cases u
     let v:Ext [] G (upd G p (.lst (([]:List Int).map V.int))) :=.laid u;let b:NsOk m []:=(.inl rfl);let⟨_,e,_⟩:=W p D;refine yb ?_;refine yv (l:=l) (d:=d) (p:=p) (ns :=[]) rfl rfl rfl (v _ _ ∅ Y) (v _ _ ∅ X) zC ∎ ∎ (M b) e ?_;exact λB a J L r I=>hN_ _ _ <| fin p [] _ v zC D b B a J L r I _ _ _ _
   .let g : ¬(0+(i:Int)+1=m):=λz=>g (decide_eq_true z);room;refine⟨d,_,rfl,DGet.k (k:=Sum.inl _) X,?_⟩;refine wE ?_;refine ite2 (λg2=>?_) (λg2=>?_)
    .room;refine ite2 (λg3=>?_) (λg3=>?_)
     .room;refine zw ?_;room;refine ite2 (λg4=>?_) (λg4=>?_)
      .room;refine⟨len2 (by first | exact aX _ | (show 1<=1000;decide)),λp u=>?_⟩;let D:C p=none:=by
        cases z:C p with
        | none=>rfl
        | some o=>rw [U _ _ ∅ z] at u;cases u
       let v:Ext [] G (upd G p (.lst (([1+r2]:List Int).map V.int))) :=.laid u;let b:NsOk m [1+r2]:=(.inr (.inl ⟨_,rfl,∎,∎⟩));let⟨_,e,_⟩:=W p D;refine yb ?_;refine yv (l:=l) (d:=d) (p:=p) (ns :=[1+r2]) rfl rfl rfl (v _ _ ∅ Y) (v _ _ ∅ X) zC ∎ ∎ (M b) e ?_;exact λB a J L r I=>hN_ _ _ <| fin p [1+r2] _ v zC D b B a J L r I _ _ _ _
      .room;refine⟨len2 (by first | exact aX _ | (show 1<=1000;decide)),λp u=>?_⟩;let D:C p=none:=by
        cases z:C p with
        | none=>rfl
        | some o=>rw [U _ _ ∅ z] at u;cases u
       let v:Ext [] G (upd G p (.lst (([]:List Int).map V.int))) :=.laid u;let b:NsOk m []:=(.inl rfl);let⟨_,e,_⟩:=W p D;refine yb ?_;refine yv (l:=l) (d:=d) (p:=p) (ns :=[]) rfl rfl rfl (v _ _ ∅ Y) (v _ _ ∅ X) zC ∎ ∎ (M b) e ?_;exact λB a J L r I=>hN_ _ _ <| fin p [] _ v zC D b B a J L r I _ _ _ _
     .room;refine ite2 (λg5=>?_) (λg5=>?_)
      .refine iteT ?_;room;refine⟨len2 (by first | exact aX _ | (show 1<=1000;decide)),λp u=>?_⟩;let D:C p=none:=by
        cases z:C p with
        | none=>rfl
        | some o=>rw [U _ _ ∅ z] at u;cases u
       let v:Ext [] G (upd G p (.lst (([0+(i:Int)+1]:List Int).map V.int))) :=.laid u;let b:NsOk m [0+(i:Int)+1]:=(.inr (.inl ⟨_,rfl,∎,∎⟩));let⟨_,e,_⟩:=W p D;refine yb ?_;refine yv (l:=l) (d:=d) (p:=p) (ns :=[0+(i:Int)+1]) rfl rfl rfl (v _ _ ∅ Y) (v _ _ ∅ X) zC ∎ ∎ (M b) e ?_;exact λB a J L r I=>hN_ _ _ <| fin p [0+(i:Int)+1] _ v zC D b B a J L r I _ _ _ _
      .room;refine zw ?_;room;refine ite2 (λg6=>?_) (λg6=>?_)
       .room;refine⟨len2 (by first | exact aX _ | (show 1<=1000;decide)),λp u=>?_⟩;let D:C p=none:=by
         cases z:C p with
         | none=>rfl
         | some o=>rw [U _ _ ∅ z] at u;cases u
        let v:Ext [] G (upd G p (.lst (([0+(i:Int)+1]:List Int).map V.int))) :=.laid u;let b:NsOk m [0+(i:Int)+1]:=(.inr (.inl ⟨_,rfl,∎,∎⟩));let⟨_,e,_⟩:=W p D;refine yb ?_;refine yv (l:=l) (d:=d) (p:=p) (ns :=[0+(i:Int)+1]) rfl rfl rfl (v _ _ ∅ Y) (v _ _ ∅ X) zC ∎ ∎ (M b) e ?_;exact λB a J L r I=>hN_ _ _ <| fin p [0+(i:Int)+1] _ v zC D b B a J L r I _ _ _ _
       .let g6 : ¬(1+r2=0+(i:Int)+1):=λz=>g6 (decide_eq_true z);let⟨_,e,_⟩:=W Z a7;let b:NsOk m N:=by
         rcases c6 with h | h
         .exact .inr (.inr ⟨_,_,h,∎,∎,∎,∎,∎⟩)
         .exact .inr (.inr ⟨_,_,h,∎,∎,∎,∎,∎⟩)
        refine xQ ?_;refine yv (l:=l) (d:=d) (p:=Z) (ns:=N) rfl rfl rfl Y X h0 ∎ ∎ (M b) e ?_;exact λB a J L r I=>hN_ _ _ <| fin Z N _ (λ_ _ _ h=>h) h0 a7 b B a J L r I _ _ _ _
    .refine iteF ?_;room;refine ite2 (λg5=>?_) (λg5=>?_)
     .refine iteT ?_;room;refine⟨len2 (by first | exact aX _ | (show 1<=1000;decide)),λp u=>?_⟩;let D:C p=none:=by
       cases z:C p with
       | none=>rfl
       | some o=>rw [U _ _ ∅ z] at u;cases u
      let v:Ext [] G (upd G p (.lst (([0+(i:Int)+1]:List Int).map V.int))) :=.laid u;let b:NsOk m [0+(i:Int)+1]:=(.inr (.inl ⟨_,rfl,∎,∎⟩));let⟨_,e,_⟩:=W p D;refine yb ?_;refine yv (l:=l) (d:=d) (p:=p) (ns :=[0+(i:Int)+1]) rfl rfl rfl (v _ _ ∅ Y) (v _ _ ∅ X) zC ∎ ∎ (M b) e ?_;exact λB a J L r I=>hN_ _ _ <| fin p [0+(i:Int)+1] _ v zC D b B a J L r I _ _ _ _
     .room;refine zw ?_;room;refine ite2 (λg6=>?_) (λg6=>?_)
      .room;refine⟨len2 (by first | exact aX _ | (show 1<=1000;decide)),λp u=>?_⟩;let D:C p=none:=by
        cases z:C p with
        | none=>rfl
        | some o=>rw [U _ _ ∅ z] at u;cases u
       let v:Ext [] G (upd G p (.lst (([0+(i:Int)+1]:List Int).map V.int))) :=.laid u;let b:NsOk m [0+(i:Int)+1]:=(.inr (.inl ⟨_,rfl,∎,∎⟩));let⟨_,e,_⟩:=W p D;refine yb ?_;refine yv (l:=l) (d:=d) (p:=p) (ns :=[0+(i:Int)+1]) rfl rfl rfl (v _ _ ∅ Y) (v _ _ ∅ X) zC ∎ ∎ (M b) e ?_;exact λB a J L r I=>hN_ _ _ <| fin p [0+(i:Int)+1] _ v zC D b B a J L r I _ _ _ _
      .let g6 : ¬(1+r2=0+(i:Int)+1):=λz=>g6 (decide_eq_true z);let⟨_,e,_⟩:=W Z a7;let b:NsOk m N:=by
        rcases c6 with h | h
        .exact .inr (.inr ⟨_,_,h,∎,∎,∎,∎,∎⟩)
        .exact .inr (.inr ⟨_,_,h,∎,∎,∎,∎,∎⟩)
       refine xQ ?_;refine yv (l:=l) (d:=d) (p:=Z) (ns:=N) rfl rfl rfl Y X h0 ∎ ∎ (M b) e ?_;exact λB a J L r I=>hN_ _ _ <| fin Z N _ (λ_ _ _ h=>h) h0 a7 b B a J L r I _ _ _ _
  .rintro a9 H' ⟨T,R,O,o4,o5,o6,o7,rfl,b0,b3,b4,e',b5,S,c0,c8⟩;room;refine q l T H' hl (b4.mono ∎) e' ⟨∎,b3⟩ (.list (SqL.of ?_) (S.mono (Ql ∅)));rw [zt hl (by simpa using a3)];exact b5
noncomputable abbrev sWork:Stmt:=top 18
theorem scWork:FnScope ["_law_tape_here","_law_many_here","_law_most","_law_first","_law_works_here","_law_left","_law_size","_law_boxes_here","_law_found","_law_there","_law_end"] ["_law_tape_here","_law_many_here","_law_most","_law_first","_law_works_here"] (zT sWork):=⟨rfl,rfl,rfl,by decide +kernel,rfl,by decide +kernel,by decide +kernel⟩
theorem qXn(F:Fun K "_law_work" "_law_work" sWork f fd)(N:mg "range" = none)(b9:mg "list" = none)(b6:mg "len" = none)(hD:Has P w K mg base "_law_draw" 1 ["_law_tape_here","_law_many_here"] yp)
  (hX:Has P w K mg base "_law_nexts" 2 ["_law_tape_here","_law_many_here"] (Qt K)) (hE:Has P w K mg base "_law_deeds" 3 ["_law_tape_here","_law_most","_law_boxes_here","_law_first","_law_works_here"] (jQ K)) :
  FnOk P w K mg base CX0 4 f fd ["_law_tape_here","_law_many_here","_law_most","_law_first","_law_works_here"] (qPd K):=by
 refine F.ok scWork (λvs H Q E h=>?_) (λh4 A d7 s H vs Q E hr h=>?_)
 .refine hide λG_ hG_=>?_;let⟨t,k,m,r,first,works,rfl,_⟩:=h;refine hG_ ?_;rfl
 .refine hide λG_ hG_=>?_;let⟨t,k,m,r,first,works,rfl,hT,hk,m1,m2,d8,d9,e5,e8,e9,f0,q⟩:=h;refine hG_ ?_
  refine⟨_,zI (zU (i:=5) scWork.nd rfl (Or.inr rfl) (yN (qIs hr.hd) (by rfl) b9 PyProof.Rows.boot_list (zA (yN qM0 (by rfl) N PyProof.Rows.boot_range (zA zE zB)) zB)))
   (zI (zU (i:=6) scWork.nd rfl (Or.inl rfl) (zM zp zE (zL hD hr ⋯ (zA (pv 0) (zA (zJ zV (zZ (zA zE (zA zE (zA zE zB)))) (zL hD hr ⋯ (zA (pv 0) (zA zE zB))) (λ_ _=>rfl)) zB)))))
   (zI (vW (i:=7) ["_law_k"] [5,0] rfl (.of rfl) scWork.nd rfl (Or.inl rfl) (yW rfl N (zA (pv 6) zB)) (λ_ _ _ _=>zN (i:=0) (by show ((["_law_k","_law_left","_law_tape_here"]:List Str)).Nodup;decide) rfl (Or.inl rfl)) (λ_ _ _ _ =>.nil)
     (λ_ _ _ _=>qZu K rfl bG iE iF QE (pv 1) (zA (zL hD hr ⋯ (zA (pv 2) (zA (zk (Qw K rfl) (by rfl) b6 cA (zA (pv 1) zB)) zB))) zB)))
   (zI (zU (i:=8) scWork.nd rfl (Or.inl rfl) (zZ zB))
   (zI (yX cS rfl (yJ (zL hX hr ⋯ (zA (pv 0) (zA (pv 1) zB)))) (zN (i:=9) scWork.nd rfl (Or.inl rfl))
    (zI (zU (i:=10) scWork.nd rfl (Or.inl rfl) (xc (zR (Qg hr) (pv 9) (zZ zB) (zO _)) (zm (zA zc zB)) (xc (zR zd (zk yE (by rfl) b6 cA (zA (pv 9) zB)) zE (zO _))
      (zm (zA zc (zA (zJ zV (pv 9) zE (λ_ _=>rfl)) zB))) (zm (zA zc (zA (zJ zV (pv 9) zE (λ_ _=>rfl)) (zA (zJ zV (pv 9) zE (λ_ _=>rfl)) zB)))))))
    (zK (yI (yH bG bY bZ yk (pv 8) (zA (zm (zA (zL hE hr ⋯ (zA (pv 0) (zA (pv 2) (zA (pv 7) (zA (pv 3) (zA (pv 4) zB)))))) (zA (pv 10) zB))) zB))))))
   (zK (zW (pv 8))))))),?_⟩
  dsimp only [zo,zv];room;refine⟨8,rfl,λpr f1=>?_⟩;room;refine⟨pr,8,rfl,zC,⋯,λg a8=>?_⟩;let f2:pr≠g:=zF zC a8;let b7:H g=none:=by rw [zD f2.symm] at a8;exact a8
  let a9:g≠t:=hT.ne b7;let EG:=(Ext.laid (ts :=[]) (o :=.rng 0 8) f1).trans (.laid (o :=.lst (([0,1,2,3,4,5,6,7]:List Int).map V.int)) a8);generalize hG:upd (upd H pr (.rng 0 8)) g (.lst (([0,1,2,3,4,5,6,7]:List Int).map V.int))=G at EG;let c0:upd (upd H pr (.rng 0 8)) g (.lst ((List.range 8).map λ(i:Nat)=>V.int (i:Int)))=G:=hG;let lG:G g=some (.lst (([0,1,2,3,4,5,6,7]:List Int).map V.int)):=by rw [<-hG,zC]
  let TG:=hT.ext EG ∅
  first | rw [c0] | erw [c0]
  clear hG c0;room;refine⟨len2 (by show 3<=1000;decide),λp Y=>?_⟩;let b0:p≠t:=TG.ne Y;let O:p≠g:=(zF lG Y).symm;room;refine zn (TG.ext (ts :=[]) (.laid Y) ∅) ∎ ⋯ ⋯ λr1 H1 a1 b1 T1 e1 k1=>?_;let f3:SqL K H1 p (([3,3,8]:List Int).map V.int):=SqL.of (by rw [k1 p b0,zC];rfl);let⟨n8,f4,f5⟩:=vB (ns :=[3,3,8]) a1 b1;let h2:3<=n8/\n8<=8:=by
   simp only [aL,cI,or_false] at f4;lia
  refine ze f3 f5 ?_;room;refine zn T1 ∎ ∎ ∎ λr2 H2 a2 b2 T2 e2 k2=>?_;let l2:H2 g=some (.lst (([0,1,2,3,4,5,6,7]:List Int).map V.int)):=by rw [k2 g a9,k1 g a9,zD O.symm];exact lG
  let E2:Ext [t] H H2:=(EG.mono ∅).trans ((Ext.laid Y).trans (e1.trans e2));room;refine⟨1+r2,rfl,∎,∎,λC S=>?_⟩;let T:C≠t:=T2.ne S;let c1:C≠g:=(zF l2 S).symm;refine wG (lo:=0) (n:=(1+r2).toNat) (λi J u => ∃(o:Option V) (left bs:List Int),J = [o,some (.ref g),some (.ref t)]/\left.length+i=8/\bs.length=i/\(∀b∈left,0<=b/\b<8)/\(∀b∈bs,0<=b/\b<8)/\u g=some (.lst (left.map V.int))/\u C=some (.lst (bs.map V.int))/\Tape u t (k+2+i)/\Ext [t] H u) ?_ ?_ ?_
  .refine⟨none,[0,1,2,3,4,5,6,7],[],rfl,rfl,rfl,⋯,(λ_ h=>absurd h ∅),?_,zC,?_,E2.trans (.laid S)⟩
   .rw [zD c1.symm];exact l2
   .exact T2.ext (ts :=[]) (.laid S) ∅
  .intro i J u R hi hq_ hR;refine hide λG_ hG_=>?_;let⟨o,left,bs,rfl,f6,c3,M,c2,hL,b4,T',E'⟩:=hq_;refine hG_ ?_;room;refine iteT ?_;room;refine yA hL ?_;room;refine jR (SqL.of hL) ?_;rw [aB];room;refine zn T' ∎ ∎ ∎ λr3 H3 a3 b3 T3 e3 k3=>?_;let l3:H3 g=some (.lst (left.map V.int)):=by rw [k3 g a9];exact hL
   let f7:H3 C=some (.lst (bs.map V.int)):=by rw [k3 C T];exact b4
   let⟨j,rfl⟩:=eM a3;let hj:j<left.length:=by lia
   room;refine⟨g,left.map V.int,(j:Int),j,V.int left[j],rfl,rfl,l3,∎,∎,?_,by rw [aU,aC hj];rfl,?_⟩
   .rw [aB];exact Qx hj
   .refine⟨bs.map V.int,by rw [zD c1];exact f7,zb (by rw [aB];lia),hR _ _ ?_⟩;let c4:left[j]∈left:=dQ hj;refine⟨_,left.eraseIdx j,bs ++ [left[j]],rfl,?_,?_,λb hb=>M b (List.mem_of_mem_eraseIdx hb),λb hb=>?_,?_,?_,?_,?_⟩
    .rw [List.length_eraseIdx,if_pos hj];lia
    .rw [aG,c3];rfl
    .rcases aJ.mp hb with y | y
     .exact c2 b y
     .rw [aF.mp y];exact M _ c4
    .rw [zD c1.symm,zC,kg]
    .rw [zC,aP];rfl
    .exact ((T3.ext (ts :=[g]) (.put ∅) (by simpa using a9.symm)).ext (ts :=[C]) (.put ∅) (by simpa using T.symm)).mono ∎
    .let c5:H C=none:=by
      cases z:H C with
      | none=>rfl
      | some o=>rw [E2 _ _ (by simpa using T) z] at S;cases S
     let E4:Ext [g,C,t] H (upd (upd H3 g (.lst ((left.map V.int).eraseIdx j))) C (.lst (bs.map V.int ++ [V.int left[j]]))):=(E'.mono ∅).trans ((e3.mono ∅).trans ((Ext.put ∅).trans (.put ∅)));exact (E4.drop b7).drop c5
  .intro J H3 hq_;refine hide λG_ hG_=>?_;let⟨o,left,bs,rfl,f6,c3,M,c2,hL,b4,T3,E3⟩:=hq_;refine hG_ ?_;let hB:BsOk bs:=⟨∎,∎,c2⟩;room;refine⟨len2 (aX _),λl hl=>?_⟩;let Z:l≠t:=T3.ne hl;let c6:l≠C:=(zF b4 hl).symm;let c7:H l=none:=E3.none (by simpa using Z) hl;room;refine⟨t,_,m,rfl,T3.ext (ts :=[]) (.laid hl) ∅,∎,m1,m2,λnl nx H4 f8 T4 e4 c8 f9=>?_⟩;refine hide λG_ hG_=>?_;let⟨a,vs,ea,g0,c9⟩:=f9.ofList;cases ea;refine hG_ ?_;let h5:nl≠l:=(zF zC f8).symm;let d0:=c9.len;rw [aB] at d0;let h6:(nx.length:Int)=m:=c8.1;let l4:H4 l=some (.lst []):=e4 _ _ (by simpa using Z) zC;let E4:Ext [t] H H4:=E3.trans ((Ext.laid hl).trans e4)
   let apart:Same (yo (upd H3 l (.lst [])) [t] H4) (yo (upd H3 l (.lst [])) [l,t] H4):=Qm (H0:=H) (by simp [zC]);let b8:=Same.seq apart g0;let d1:=c9.mono apart;let g1:H4 C=some (.lst (bs.map V.int)):=e4 _ _ (by simpa using T) (by rw [zD c6.symm];exact b4)
   refine⟨nl,rfl,⟨vs,yo_same.seq b8⟩,vA (xs:=vs) (λi J u => ∃(X:List Blk) (U:List V) (o9 v:Option V),J = [some (.ref t),some (.int m),some (.int r),some (.int first),some (.int works),some (.ref g),some (.int (1+r2)),some (.ref C),some (.ref l),o9,v]/\X.length=i /\
    (∀b∈X,BlkOk m works b/\Fw works b)/\Tape u t (k+45+140*i)/\Ext [l,t] H4 u/\u l=some (.lst U)/\DenL K (yo H [l,t] u) (X.map blkD) U) ?_ ?_ ?_ ?_⟩
   .exact⟨[],[],none,none,rfl,rfl,(λ_ h=>absurd h ∅),T4.mono ∎,.refl _ _,l4,.nil⟩
   .intro i J u hi hq_;refine hide λG_ hG_=>?_;let⟨X,U,o9,v,rfl,b5,a0,T',e',a4,L⟩:=hq_;refine hG_ ?_;exact yo_same.seq (Same.seq e'.young b8)
   .intro i x J u hx hq_ N_ B_ C_ R_ hN_ hC_ hR_;refine hide λG_ hG_=>?_;let⟨X,U,o9,v,rfl,b5,a0,T',e',a4,L⟩:=hq_;refine hG_ ?_;refine hide λG_ hG_=>?_;let⟨dd,a5,g2⟩:=d1.get hx;let hi:i<vs.length:=(aI.mp hx).1;obtain⟨ns,g3,rfl⟩:∃ns,nx[i]? = some ns/\dd=intsD ns:=by
     rw [aU] at a5;cases z:nx[i]? with
     | none=>rw [z] at a5;cases a5
     | some n=>rw [z] at a5;exact⟨n,rfl,(bB a5).symm⟩
    let d2:NsOk m ns:=c8.2 ns (aN g3);let⟨c,zs,rfl,hc,g4⟩:=g2.ofList;let g5:=g4.ints;subst g5;refine hG_ ?_;let h3:U.length=i:=by rw [L.len,aB,b5]
    let g6:SqL K u c (ns.map V.int):=yo_same.seq (Same.seq e'.young hc)
    let a6:∀(I:Addr) (H6:Hp),Ext [] u H6->u I=none->Den K (yo H [l,t] H6) (endD ns) (.ref I) -> ∀D:Ends,(∀(W:Hp) (o9 v:Option V),(∃(X:List Blk) (U:List V) (p9 g7:Option V),[some (V.ref t),some (.int m),some (.int r),some (.int first),some (.int works),some (.ref g),some (.int (1+r2)),some (.ref C),some (.ref l),o9,v] = [some (.ref t),some (.int m),some (.int r),some (.int first),some (.int works),some (.ref g),some (.int (1+r2)),some (.ref C),some (.ref l),p9,g7]/\X.length=i+1 /\
      (∀b∈X,BlkOk m works b/\Fw works b)/\Tape W t (k+45+140*(i+1))/\Ext [l,t] H4 W/\W l=some (.lst U)/\DenL K (yo H [l,t] W) (X.map blkD) U)->D.nx [some (V.ref t),some (.int m),some (.int r),some (.int first),some (.int works),some (.ref g),some (.int (1+r2)),some (.ref C),some (.ref l),o9,v] W) ->
      tDrop (tBM K "list" wn (tVar 8) (tCons (tTup (tCons (tCall (jQ K) [] E0 (tCons (tVar 0) (tCons (tVar 2) (tCons (tVar 7) (tCons (tVar 3) (tCons (tVar 4) tNil)))))) (tCons (tVar 10) tNil))) tNil)) D [some (V.ref t),some (.int m),some (.int r),some (.int first),some (.int works),some (.ref g),some (.int (1+r2)),some (.ref C),some (.ref l),some (.ref c),some (.ref I)] H6:=by
     intro I H6 e6 B g8 D hD;let l6:=e6 _ _ ∅ a4;room;refine yA l6 ?_;room;refine⟨t,C,_,r,first,works,bs,rfl,T'.ext e6 ∅,∎,d8,d9,e5,e8,e9,f0,e6 _ _ ∅ (e' _ _ (by simp [T,c6.symm]) g1),T,hB,λdl ds W g9 T7 e7 d3 d4 h0=>?_⟩;let l7:=e7 _ _ (by simpa using Z) l6;let h7:dl≠l:=(zF l6 g9).symm;let EH:Ext [l,t] H H6:=(E4.mono ∅).trans (e'.trans (e6.mono ∅));let d5:Den K (yo H [l,t] W) (.list (ds.map deedD)) (.ref dl):=(h0.mono (Qm (H0:=H) (us :=[l,t]) (by simp [l6]))).mono (qSu EH ∅);room;refine⟨len2 (by show 2<=1000;decide),λp Y=>?_⟩;let O:p≠l:=(zF l7 Y).symm;let b0:p≠t:=T7.ne Y
     room;refine yL (by rw [zD O.symm];exact l7) (zb ∎) ?_;refine hD _ _ _ ⟨X ++ [⟨ds,ns⟩],U ++ [.ref p],_,_,rfl,by rw [aG,b5];rfl,λb hb=>?_,?_,?_,zC,?_⟩
     .rcases aJ.mp hb with y | y
      .exact a0 b y
      .rw [aF.mp y];exact⟨⟨d2,λd hd=>(d3 d hd).ok,cD d4 ⋯⟩,d4,d3⟩
     .exact ((T7.ext (ts :=[]) (.laid Y) ∅).ext (ts :=[l]) (.put ∅) (by simpa using Z.symm)).mono ∎
     .exact e'.trans ((e6.mono ∅).trans ((e7.mono ∅).trans ((Ext.laid Y).trans (.put ∅))))
     .let E7:Ext [l,t] W (upd (upd W p (.tup [.ref dl,.ref I])) l (.lst (U ++ [.ref p]))):=(Ext.laid Y).trans (.put ∅);let d6:Ext [l,t] H6 (upd (upd W p (.tup [.ref dl,.ref I])) l (.lst (U ++ [.ref p]))):=(e7.mono ∅).trans E7;rw [aP];refine DenL.append (L.mono ((e6.mono ∅).trans d6).young) (.cons (.tuple (SqT.of ?_) (.cons (d5.mono E7.young) (.cons (g8.mono d6.young) .nil))) .nil);rw [zt ((EH.trans (e7.mono ∅)).none (by simp [O,b0]) Y) (by simp [O,b0]),zD O,zC]
    let nT:∀ {I:Addr},u I=none->I≠t/\I≠l/\H I=none:=λ{I} h=>by
     let a1:=T'.ne h;let a2:=(zF a4 h).symm;exact⟨a1,a2,((E4.mono (us :=[l,t]) ∅).trans e').none (by simp [a1,a2]) h⟩
    room;refine⟨len2 (aX _),λe0 h1=>?_⟩;let E0:Ext [] u (upd u e0 (.lst [])) :=.laid h1;let a7:SqL K (upd u e0 (.lst [])) c (ns.map V.int):=Same.seq (λb o h=>E0 b o ∅ h) g6;rcases d2 with h | ⟨x,h,_⟩ | ⟨x,y,h,_⟩
    .subst h;refine⟨intsD [],.list [],.list a7 (DenL.ofInts []),.list (SqL.of zC) .nil,rfl,rfl,?_⟩;room;refine iteT ?_;room;refine⟨len2 (by show 1<=1000;decide),λI B=>?_⟩;let e:=E0.none ∅ B;let⟨z1,z2,z3⟩:=nT e;refine yb (a6 I _ (E0.trans (.laid B)) e (.tuple (SqT.of ?_) (.cons .str .nil)) _ λW o9 v h=>yF hN_ h);rw [zt z3 (by simp [z1,z2]),zC]
    .subst h;refine⟨intsD [x],.list [],.list a7 (DenL.ofInts [x]),.list (SqL.of zC) .nil,rfl,rfl,?_⟩;room;refine iteF ?_;room;refine jR a7 ?_;room;refine zw ?_;room;refine iteT ?_;room;refine⟨len2 (by show 2<=1000;decide),λI B=>?_⟩;let e:=E0.none ∅ B;let⟨z1,z2,z3⟩:=nT e;refine yb (a6 I _ (E0.trans (.laid B)) e (.tuple (SqT.of ?_) (.cons .str (.cons .int .nil))) _ λW o9 v h=>yF hN_ h);rw [zt z3 (by simp [z1,z2]),zC]
    .subst h;refine⟨intsD [x,y],.list [],.list a7 (DenL.ofInts [x,y]),.list (SqL.of zC) .nil,rfl,rfl,?_⟩;room;refine iteF ?_;room;refine jR a7 ?_;room;refine zw ?_;room;refine iteF ?_;room;refine⟨len2 (by show 3<=1000;decide),λI B=>?_⟩;let e:=E0.none ∅ B;let⟨z1,z2,z3⟩:=nT e;refine yb (a6 I _ (E0.trans (.laid B)) e (.tuple (SqT.of ?_) (.cons .str (.cons .int (.cons .int .nil)))) _ λW o9 v h=>yF hN_ h);rw [zt z3 (by simp [z1,z2]),zC]
   .intro J u hq_;refine hide λG_ hG_=>?_;let⟨X,U,o9,v,rfl,b5,a0,T',e',a4,L⟩:=hq_;refine hG_ ?_;room;let EH:Ext [l,t] H u:=(E4.mono ∅).trans e';exact q l X U u c7 Z (T'.mono ∎) (EH.drop c7) ⟨∎,λb hb=>(a0 b hb).1⟩ (λb hb=>(a0 b hb).2) a4 L
theorem iY(h:a σ H λx d => ∃c,x = .bl c/\if c=true then b σ d Q else Q (.bl false) d):tAndV a b σ H Q:=h
theorem wAz(h:a σ H λx d => ∃c,x = .bl c/\if c=true then Q (.bl true) d else b σ d Q):tOrV a b σ H Q:=h
theorem iZ{K:PySem.W.Frag}(h:Den K H (deedD d) v):∃p,v = .ref p/\SqT K H p (V.str (dword d)::(dargs d).map V.int):=by
 rw [qYe] at h;let⟨p,i,rfl,e,a⟩:=h.ofTuple;let⟨j,k,rfl,b,c⟩:=a.ofCons;let f:=b.ofStr;let g:=c.ints;subst f g;exact⟨p,rfl,e⟩
theorem uZ(d:Deed):atI (V.str (dword d)::(dargs d).map V.int) ((1:Nat):Int)=some (V.int (darg d)):=by
 let⟨r,a⟩:=qOi d;rw [a];exact zX rfl
theorem qV2{m:Int}(h:NsOk m ns):∃a:Str,endD ns = .tuple (.str a::ns.map .int)/\True:=by
 rcases h with z | ⟨x,z,_⟩ | ⟨x,y,z,_⟩ <;> subst z
 .exact⟨_,rfl,True.intro⟩
 .exact⟨_,rfl,True.intro⟩
 .exact⟨_,rfl,True.intro⟩
theorem qTx{n a:Nat}(B:Den K H (yV o) (.ref A))(e:blkAt o ((n:Int),(a:Int))=some b):∃(vs bs:List V) (k l:Addr) (dl:Addr) (c:List V) (m:V),SqL K H A vs/\atI vs (n:Int)=some (.ref k)/\SqL K H k bs/\atI bs (a:Int)=some (.ref l)/\SqT K H l [.ref dl,m]/\SqL K H dl c/\DenL K H (b.ds.map deedD) c/\Den K H (endD b.ns) m:=by
 rw [jL] at e;cases hw:o[n]? with
 | none=>rw [hw] at e;cases e
 | some w1 =>
  rw [hw] at e;let e:w1[a]? = some b:=e;let⟨C,vs,D,p,g⟩:=B.ofList;cases D;let⟨F,q,r⟩:=g.get' (i:=n) (d:=workD w1) (by rw [aU,hw];rfl);let⟨k,bs,rfl,s,h⟩:=r.ofList;let⟨G,t,u⟩:=h.get' (i:=a) (d:=blkD b) (by rw [aU,e];rfl);let⟨l,I,rfl,E,v⟩:=u.ofTuple;let⟨J,L,rfl,w,x⟩:=v.ofCons;let⟨m,M,rfl,y,f⟩:=x.ofCons;let f:=f.ofNil;subst f;let⟨dl,c,rfl,z,j⟩:=w.ofList;exact⟨vs,bs,k,l,dl,c,m,p,zX q,s,zX t,E,z,j,y⟩
theorem anyK(K:PySem.W.Frag)(h:X.K=K)(a:X.A.handled=none):CallR X (.builtin "any") (rAnyB K):=h▸qSk a
noncomputable abbrev ic:Stmt:=top 23
theorem qT8:FnScope ["_law_deed","_law_box"] ["_law_deed","_law_box"] (zT ic):=⟨rfl,rfl,rfl,by decide +kernel,rfl,by decide +kernel,by decide +kernel⟩
theorem qR0(F:Fun K "_law_reads" "_law_reads" ic f l):FnOk P w K mg base CX0 1 f l ["_law_deed","_law_box"] (qPf K):=by
 refine F.ok qT8 (λn H Q E h=>?_) (λo A g s H n Q E z h=>?_)
 .let⟨v,d,x,rfl,_⟩:=h;rfl
 .let⟨v,d,x,rfl,t,q⟩:=h
  refine⟨_,zK (zW (oN (wS (zy zd (zJ zq (pv 0) zE (λ_ _=>rfl)) zc (zO _)) (xx (zy vT (pv 1) (wh wj (pv 0) (wg zE) wf) rfl)))
   (xx (wS (zy zd (zJ zq (pv 0) zE (λ_ _=>rfl)) zc (zO _)) (xx (zy zd (zJ zq (pv 0) zE (λ_ _=>rfl)) (pv 1) (zO _))))))),?_⟩
  dsimp only [zo];let⟨p,rfl,i⟩:=iZ t;let a:∀b,Ext [] H b -> ∀j:VK,(∀(r:Bool) b,Ext [] H b->j (.bl r) b)->tAndV (tOp rEq (tOp (rIxT K) (tVar 0) (tC (V.int 0))) (tC (V.str "tell"))) (tOp rEq (tOp (rIxT K) (tVar 0) (tC (V.int 1))) (tVar 1)) [some (.ref p),some (.int x)] b j:=by
   intro b k j m;let c:=k.toSame.seqT i;refine iY ?_;room;refine zf c (show atI _ ((0:Nat):Int)=some (V.str (dword d)) from zX rfl) ?_;room;refine yT ⟨_,rfl,ite2 (λ_=>?_) (λ_=>m _ b k)⟩;room;refine zf c (uZ d) ?_;room;exact zw (m _ b k)
  room;refine wAz (iY ?_);room;refine zf i (show atI _ ((0:Nat):Int)=some (V.str (dword d)) from zX rfl) ?_;room;refine yT ⟨_,rfl,ite2 (λ_=>?_) (λ_=>⟨_,rfl,iteF (a H (.refl _ _) _ q)⟩)⟩;room;refine⟨1,rfl,?_⟩;room;refine⟨p,_,rfl,i,?_,λu e=>?_⟩
  .intro h;let:=h.1;revert this;let y:(V.str (dword d)::(dargs d).map V.int).length=(dargs d).length+1:=by simp
   rw [y];unfold HT.sIx;simp
   try lia
  rw [cut1];refine⟨u,(dargs d).map V.int,rfl,.inr (SqT.of zC),rfl,xT _,?_⟩;rw [if_neg aK,xS];refine⟨_,rfl,ite2 (λ_=>q _ _ (.laid e)) (λ_=>a _ (.laid e) _ q)⟩
structure GoI(H:Hp)(d du:Addr)(ws:List (List Blk))(ks due:List Pl)(H':Hp):Prop where
 ext:Ext [] H H'
 hd:H' d=some (.dT (trueD ks))
 hdu:∃vs,H' du=some (.lst vs)/\PlsAt H' vs due
 nod:ks.Nodup
 rk:∀y∈ks,y∈places ws
 rd:∀y∈due,y∈places ws
 fewd:due.length<=1+22*ks.length
noncomputable abbrev ie:Stmt:=top 25
theorem scIsAsked:FnScope ["_law_works_here","_law_number_here","_law_block","_law_box","_law_met","_law_waiting","_law_place","_law_deeds_here","_law_end","_law_open_yet","_law_deed"] ["_law_works_here","_law_number_here","_law_block","_law_box"] (zT ie):=⟨rfl,rfl,rfl,by decide +kernel,rfl,by decide +kernel,by decide +kernel⟩
def GoW(H:Hp)(wa d du:Addr)(ws:List (List Blk))(x:Int)(n b:Nat)(μ : Nat)(σ':St)(H':Hp):Prop := ∃(ks due:List Pl) (o6 o7 o8 o9 o10:Option V),μ = ((places ws).length - ks.length)*24+due.length /\
 σ' = [some (.ref wa),some (.int n),some (.int b),some (.int x),some (.ref d),some (.ref du),o6,o7,o8,o9,o10]/\GoI H d du ws ks due H'
theorem qO4(F:Fun K "_law_is_asked" "_law_is_asked" ie f fd)(g3:Has P w K mg base "_law_reads" 1 ["_law_deed","_law_box"] (qPf K)):FnOk P w K mg base CX0 2 f fd ["_law_works_here","_law_number_here","_law_block","_law_box"] (qVm K):=by
 refine F.ok scIsAsked (λvs H Q E h=>?_) (λj0 A g4 s H vs Q E hr h=>?_)
 .let⟨wa,ws,n,b,x,rfl,_⟩:=h;rfl
 .let⟨wa,ws,n,b,x,rfl,hW,c5,g5,q⟩:=h;let hu:=yZ hr
  refine⟨_,zI (wU (i:=4) (j:=5) rfl scIsAsked.nd rfl rfl ⋯ rfl rfl (zA qTt (zA (zZ (zA (zm (zA (pv 1) (zA (pv 2) zB))) zB)) zB)) rfl)
   (zI (oO cS (zR (ux hr) (pv 5) (zZ zB) (zO _))
    (zI (zU (i:=6) scIsAsked.nd rfl (Or.inr rfl) (QB bG iE iF QD (pv 5)))
    (zK (zr (oI (qQs hu (pv 6) (pv 4)))
     (zI (QL hu (pv 4) (pv 6) yQ rfl)
     (zI (xN (zJ zV (zJ zV (pv 0) (zJ zq (pv 6) zE (λ_ _=>rfl)) (λ_ _=>rfl)) (zJ zq (pv 6) zE (λ_ _=>rfl)) (λ_ _=>rfl)) (xC (n:=2) rfl (zl (zN (i:=7) scIsAsked.nd rfl (Or.inl rfl)) (zl (zN (i:=8) scIsAsked.nd rfl (Or.inl rfl)) yR))))
     (zI (zU (i:=9) scIsAsked.nd rfl (Or.inl rfl) yQ)
     (zI (yX cS rfl (yJ (pv 7)) (zN (i:=10) scIsAsked.nd rfl (Or.inl rfl))
      (zI (zr (xM (xV K rfl (pv 9) (λ_=>rfl)) (xL (xV K rfl (zL g3 hr ⋯ (zA (pv 10) (zA (pv 3) zB))) (λ_=>rfl)))).pt (zK (zW yQ)) yC)
      (zI (zr (xM (xV K rfl (pv 9) (λ_=>rfl)) (xL (zR zd (zJ zq (pv 10) zE (λ_ _=>rfl)) zc (zO _)))).pt (zK (yI (yH bG bY bZ yk (pv 5) (zA (zm (zA (zJ zq (pv 10) zE (λ_ _=>rfl)) (zA zE zB))) zB)))) yC)
      (zK (zr (xM (zR vT (zJ zq (pv 10) zE (λ_ _=>rfl)) (zm (zA zc (zA zc zB))) rfl) (xL (zR zd (zJ zq (pv 10) zE (λ_ _=>rfl)) (pv 3) (zO _)))).pt (zK (zU (i:=9) scIsAsked.nd rfl (Or.inl rfl) yQ)) yC)))))
     (zK (zr (xV K rfl (pv 9) (λ_=>rfl)) (zK (yI (yH bG iV iW ui (pv 5) (zA (yK ["_law_to"] [6] rfl (.of rfl) (ud (wh wj (pv 8) (wg zE) wf)) (λ_ _ _ _=>zN (i:=0) (by show ((["_law_to","_law_place"]:List Str)).Nodup;decide) rfl (Or.inl rfl)) (λ_ _ _ _ =>.nil) (λ_ _ _ _=>zm (zA (zJ (yh K rfl) (pv 1) zE (λ_ _=>rfl)) (zA (pv 0) zB)))) zB)))) yC))))))
     yC))))
   (zK (zW yQ))),?_⟩
  dsimp only [zo,zv];room;refine (show ∀p,_=none->_ from λd hd=>?_);room;refine⟨len2 (by show 2<=1000;decide),λp hp=>?_⟩;room;refine⟨len2 (by show 1<=1000;decide),λa b3=>?_⟩;let e0:Ext [] H (upd H d (.dT [])) :=.laid hd;let E1:Ext [] H (upd (upd (upd H d (.dT [])) p (.tup [.int n,.int b])) a (.lst [.ref p])):=e0.trans ((Ext.laid hp).trans (.laid b3));let g6:p≠a:=zF zC b3;let a6:H a=none:=(e0.trans (.laid hp)).none ∅ b3;let d7:d≠p:=zF zC hp;let a7:d≠a:=zF (o :=.dT []) (by rw [zD d7,zC]) b3;refine⟨_,_,rfl,?_⟩;let i9:=qO1 c5;let d8:GoI H d a ws [] [((n:Int),(b:Int))] (upd (upd (upd H d (.dT [])) p (.tup [.int n,.int b])) a (.lst [.ref p])):=by
   refine⟨E1,by rw [zD a7,zD d7,zC];rfl,⟨[.ref p],zC,.one (by rw [zD g6,zC])⟩,gY,∅,λy hy=>by rw [aF.mp hy];exact g5,∅⟩
  generalize upd (upd (upd H d (.dT [])) p (.tup [.int n,.int b])) a (.lst [.ref p])=H1 at d8 ⊢;room;refine⟨GoW H wa d a ws x n b,⟨_,[],_,_,_,_,_,_,rfl,rfl,d8⟩,?_⟩;rintro μ g H' ⟨L,due,o6,o7,o8,o9,J,rfl,rfl,I⟩;let⟨j1,d9,g7⟩:=I.hdu;room;refine⟨len2 (aX _),λe1 e7=>?_⟩;let e2:Ext [] H' (upd H' e1 (.lst [])) :=.laid e7;let M:=e2 _ _ ∅ d9;let Z:=g7.mono e2.tk;let e8:=e2 _ _ ∅ I.hd;let a8:=I.ext.trans e2;refine⟨wI due,.list [],.list (SqL.of M) Z.den,.list (SqL.of zC) .nil,qJn due,rfl,?_⟩;rw [if_pos rfl,qIk];generalize upd H' e1 (.lst [])=H2 at e2 M Z e8 a8 ⊢;room;rcases List.eq_nil_or_concat due with h | ⟨B,y,h⟩
  .subst h;rw [decide_eq_true rfl];refine iteF ?_;room;exact q false H2 a8
  .let h:due=B ++ [y]:=by rw [h,List.concat_eq_append]
   rw [decide_eq_false (by rw [h];simp)];rw [h] at Z;let⟨u,v,rfl,e9,vb,rfl,g8⟩:=Z.last;refine iteT ⟨λg H' => ∃m',m'<((places ws).length - L.length)*24+due.length/\GoW H wa d a ws x n b m' g H',λ_ _ h=>h,?_⟩;let c6:=I.rd y (by rw [h];simp);let b7:=I.rk;let j2:=kj I.nod b7;let g9:due.length=B.length+1:=by rw [h];simp
   let j3:=I.fewd;let j4:=e9.len;room;refine yA M ?_;refine⟨a,u ++ [V.ref vb],.ref vb,rfl,rfl,M,∅,?_⟩;rw [List.dropLast_concat];let d3:upd H2 a (.lst u) d=some (.dT (trueD L)):=by rw [zD a7];exact e8
   let e3:Ext [] H (upd H2 a (.lst u)):=((a8.mono (us :=[a]) ∅).trans (.put ∅)).drop a6;let u3:upd H2 a (.lst u) a=some (.lst u):=zC;let c7:TK H2 (upd H2 a (.lst u)) :=.put (by intro ys z;rw [M] at z;cases z);let a9:=e9.mono c7;let a0:=c7 _ _ g8;generalize upd H2 a (.lst u)=H3 at d3 e3 u3 c7 a9 a0 ⊢;room;refine⟨d,_,rfl,DGet.t (k:=plK y) d3 a0,?_⟩;rw [jJ];by_cases hy:y∈L
   .rw [if_pos hy];refine wE (iteF ?_);room;refine⟨_,by rw [g9];exact fX _,L,B,_,_,_,_,_,rfl,rfl,e3,d3,⟨u,u3,a9⟩,I.nod,I.rk,λz hz=>I.rd z (by rw [h];exact bI _ hz),∎⟩
   .rw [if_neg hy];refine wE (iteT ?_);room;refine⟨d,_,rfl,DPut.t (k:=plK y) d3 a0 (qYx (by unfold trueD;rw [aB];lia)),?_⟩;let f0:putK (trueD L) (plK y) (V.bl true)=trueD (L ++ [y]):=by
     rw [qTl _ (by rw [jJ,if_neg hy])];unfold trueD;rw [aP];rfl
    rw [f0];let d4:upd H3 d (.dT (trueD (L ++ [y]))) d=some (.dT (trueD (L ++ [y]))):=zC;let e4:Ext [] H (upd H3 d (.dT (trueD (L ++ [y])))):=((e3.mono (us :=[d]) ∅).trans (.put ∅)).drop hd;let u4:upd H3 d (.dT (trueD (L ++ [y]))) a=some (.lst u):=by rw [zD a7.symm];exact u3
    let c8:TK H3 (upd H3 d (.dT (trueD (L ++ [y])))) :=.put (by intro ys z;rw [d3] at z;cases z);let b8:=a9.mono c8;let a1:=c8 _ _ a0;generalize upd H3 d (.dT (trueD (L ++ [y])))=H4 at d4 e4 u4 c8 b8 a1 ⊢;let b9:(L ++ [y]).Nodup:=by
     rw [cG];refine⟨I.nod,∅,λz hz z' h0=>?_⟩;rw [aF.mp h0];rintro rfl;exact hy hz
    let f1:=kj (l2:=places ws) b9 λz hz=>by
     rcases aJ.mp hz with t | t
     .exact b7 z t
     .rw [aF.mp t];exact c6
    rw [aG,cQ] at f1;let⟨bk,c9⟩:=mem_places.mp c6;let⟨yn,ya,w1,h1,f3,j5⟩:=jM c9;subst h1;let⟨m,n',j6,h2,c0,hm,j7,j8,N⟩:=c5.blk c9;let⟨wv,bs,wb,pb,dl,ds,ve,s1,s2,s3,s4,s5,s6,s7,s8⟩:=qTx hW c9;let f4:ds.length=bk.ds.length:=by rw [s7.len,aB]
    let h3:=N.few;room;refine zf (SqT.of a1) (show atI _ ((0:Nat):Int)=some (V.int yn) from zX rfl) ?_;refine ze (e4.toSame.seq s1) s2 ?_;room;refine zf (SqT.of a1) (show atI _ ((1:Nat):Int)=some (V.int ya) from zX rfl) ?_;refine ze (e4.toSame.seq s3) s4 ?_;refine yU (e4.toSame.seqT s5) rfl ?_;room
    refine⟨dl,rfl,⟨_,e4.toSame.seq s6⟩,vA (xs:=ds) (λj g G => ∃(e:List V) (qs:List Pl) (fl:Bool) (J:Option V),g = [some (.ref wa),some (.int n),some (.int b),some (.int x),some (.ref d),some (.ref a),some (.ref vb),some (.ref dl),some ve,some (.bl fl),J]/\Ext [] H G/\G d=some (.dT (trueD (L ++ [((yn:Int),(ya:Int))])))/\G a=some (.lst e) /\
     PlsAt G e (B++qs)/\G vb=some (.tup [.int yn,.int ya])/\qs.length<=j /\ ∀q∈qs,q∈places ws) ?_ ?_ ?_ ?_⟩
    .refine⟨u,[],true,_,rfl,e4,d4,u4,by simpa using b8,a1,aH _,∅⟩
    .rintro j g G hj ⟨e,qs,fl,J,rfl,eG,a4,U,O,b0,d0,a5⟩;exact eG.toSame.seq s6
    .rintro j v g G hv ⟨e,qs,fl,J,rfl,eG,a4,U,O,b0,d0,a5⟩ N_ B_ C_ R_ hN_ hC_ hR_;let⟨dd,h4,f5⟩:=s7.get hv;let⟨de,f6,rfl⟩:=zx h4;let j9:j<bk.ds.length:=(aI.mp f6).1;let⟨pd,rfl,f7⟩:=iZ f5;let d1:=O.len;rw [aG] at d1;let W:∀(G5:Hp) (fl:Bool) (D:Ends),Ext [] H G5->(∀l (f2:Bool),Ext [] G5 l->D.nx [some (V.ref wa),some (.int n),some (.int b),some (.int x),some (.ref d),some (.ref a),some (.ref vb),some (.ref dl),some ve,some (.bl f2),some (.ref pd)] l) ->
       tIfS (tAnd (tTest (tOp (rIn K false) (tOp (rIxT K) (tVar 10) (tC (V.int 0))) (tTup (tCons (tC (V.str "set")) (tCons (tC (V.str "add")) tNil))))) (tTest (tOp rEq (tOp (rIxT K) (tVar 10) (tC (V.int 1))) (tVar 3)))) (tAsg (tC (V.bl false)) (gName 9)) tNext D [some (V.ref wa),some (.int n),some (.int b),some (.int x),some (.ref d),some (.ref a),some (.ref vb),some (.ref dl),some ve,some (.bl fl),some (.ref pd)] G5:=by
      intro G5 fl D e5 hD;let f8:=e5.toSame.seqT f7
      with_reducible refine L2.wB7 ?_
      with_reducible refine L2.vc ?_
      room;refine zf f8 (show atI _ ((0:Nat):Int)=some (V.str (dword de)) from zX rfl) ?_;room;refine⟨len2 (by show 2<=1000;decide),λpt h5=>?_⟩;let c:Ext [] G5 (upd G5 pt (.tup [.str "set",.str "add"])) :=.laid h5;refine⟨pt,[V.str "set",.str "add"],rfl,.inr (SqT.of zC),rfl,rfl,?_⟩;rw [if_neg aK,qS6];refine⟨_,rfl,?_⟩;let b4:=c.toSame.seqT f8;generalize upd G5 pt (.tup [.str "set",.str "add"])=l at c b4 ⊢;cases (wr de).isSome with
      | true =>
       refine iteT ?_;room;refine zf b4 (uZ de) ?_;room;refine zw ?_;refine⟨_,rfl,ite2 (λ_=>?_) (λ_=>?_)⟩
       .room;exact hD _ _ c
       .with_reducible refine L2.xQ ?_
        exact hD _ _ c
      | false =>
       refine iteF (iteF ?_)
       with_reducible refine L2.xQ ?_
       exact hD _ _ c
     cases fl with
     | false =>
      room;refine⟨false,rfl,iteF (iteF ?_)⟩;room;refine⟨false,rfl,iteF (iteF ?_)⟩
      with_reducible refine L2.xQ ?_
      exact W G false _ eG λl f2 c=>hN_ _ _ ⟨e,qs,f2,_,rfl,eG.trans c,c _ _ ∅ a4,c _ _ ∅ U,O.mono c.tk,c _ _ ∅ b0,∎,a5⟩
     | true =>
      room;refine⟨true,rfl,iteT ?_⟩;room;refine⟨.ref pd,de,x,rfl,f5.mono eG.toSame,λr G2 b1=>?_⟩;let E2:=eG.trans b1;refine⟨r,rfl,?_⟩;cases r with
      | true =>
       refine iteT ?_;room;exact q true G2 E2
      | false =>
       refine iteF ?_;let b2:=b1 _ _ ∅ a4;let S:=b1 _ _ ∅ U;let c1:=O.mono b1.tk;let c2:=b1 _ _ ∅ b0;let c3:=E2.toSame.seqT f7;room;refine⟨true,rfl,iteT ?_⟩;room;refine zf c3 (show atI _ ((0:Nat):Int)=some (V.str (dword de)) from zX rfl) ?_;room;refine yT ?_;rw [qS7];room;cases f9:jK de with
       | true =>
        refine iteT ?_;room;refine yA S ?_;room;refine zf c3 (uZ de) ?_;room;refine⟨len2 (by show 2<=1000;decide),λp2 T=>?_⟩;let X:p2≠a:=(zF S T).symm
        with_reducible refine L2.xR ?_
        refine yL (xs:=e) (by rw [zD X.symm];exact S) (by rw [gH];lia) ?_;let tk:TK G2 (upd (upd G2 p2 (.tup [.int (darg de),.int 0])) a (.lst (e ++ [.ref p2]))):=(Ext.laid T).tk.trans (.put (by intro ys z;rw [zD X.symm,S] at z;cases z));let h6:d≠p2:=zF b2 T;let E5:Ext [] H (upd (upd G2 p2 (.tup [.int (darg de),.int 0])) a (.lst (e ++ [.ref p2]))):=((E2.mono (us :=[a]) ∅).trans ((Ext.laid T).trans (.put ∅))).drop a6;refine W _ true _ E5 λl f2 c=>hN_ _ _ ⟨e ++ [.ref p2],qs ++ [(darg de,0)],f2,_,rfl,E5.trans c,c _ _ ∅ (by rw [zD a7,zD h6];exact b2),c _ _ ∅ zC,?_,c.tk _ _ (tk _ _ c2),by rw [aG,cQ];lia,λq hq=>?_⟩
        .rw [<-dB];exact ((c1.mono tk).append (.one (p:=(darg de,0)) (by rw [zD X,zC]))).mono c.tk
        .rcases aJ.mp hq with z | z
         .exact a5 q z
         .rw [aF.mp z];exact qOl c5 (N.ds de (aN f6)) f9
       | false =>
        refine iteF ?_
        with_reducible refine L2.xQ ?_
        exact W _ true _ E2 λl f2 c=>hN_ _ _ ⟨e,qs,f2,_,rfl,E2.trans c,c _ _ ∅ b2,c _ _ ∅ S,c1.mono c.tk,c _ _ ∅ c2,∎,a5⟩
    .rintro g G ⟨e,qs,fl,J,rfl,eG,a4,U,O,b0,d0,a5⟩;rw [f4] at d0;let d1:=O.len;rw [aG] at d1;let fin:∀(l:Hp) (a2:List V) (rs:List Pl),Ext [] H l->l d=some (.dT (trueD (L ++ [((yn:Int),(ya:Int))])))->l a=some (.lst a2)->PlsAt l a2 ((B++qs)++rs)->rs.length<=2->(∀q∈rs,q∈places ws) -> ∀o6 o7 o8 o9 J:Option V,
       ∃m',m'<((places ws).length - L.length)*24+due.length/\GoW H wa d a ws x n b m' [some (.ref wa),some (.int n),some (.int b),some (.int x),some (.ref d),some (.ref a),o6,o7,o8,o9,J] l:=by
      intro l a2 rs c d2 b5 b4 k0 h7 o6 o7 o8 o9 J;refine⟨_,?_,L ++ [((yn:Int),(ya:Int))],(B++qs)++rs,o6,o7,o8,o9,J,rfl,rfl,c,d2,⟨a2,b5,b4⟩,b9,λz hz=>?_,λz hz=>?_,?_⟩
      .rw [aG,aG,aG,cQ];lia
      .rcases aJ.mp hz with t | t
       .exact I.rk z t
       .rw [aF.mp t];exact c6
      .rcases aJ.mp hz with t | t
       .rcases aJ.mp t with t | t
        .exact I.rd z (by rw [h];exact bI _ t)
        .exact a5 z t
       .exact h7 z t
      .rw [aG,aG,aG,cQ];lia
     room;cases fl with
     | false =>
      refine⟨false,rfl,iteF ?_⟩
      with_reducible refine L2.xQ ?_
      exact fin G e [] eG a4 U (by rw [cE];exact O) ∅ ∅ _ _ _ _ _
     | true =>
      refine⟨true,rfl,iteT ?_⟩;room;refine yA U ?_;room;let⟨wd,h8,_⟩:=qV2 N.ns;rw [h8] at s8;let⟨en,k1,rfl,h9,i0⟩:=s8.ofTuple;let⟨v3,r3,rfl,g0,i1⟩:=i0.ofCons;let i2:=g0.ofStr;subst i2;let i3:=i1.ints;subst i3;let i4:=N.ns.few;refine⟨1,rfl,?_⟩;room;refine⟨en,_,rfl,eG.toSame.seqT h9,?_,λpp i5=>?_⟩
      .intro hh;let:=hh.1;revert this;let hn:(V.str wd::bk.ns.map V.int).length=bk.ns.length+1:=by simp
       rw [hn];unfold HT.sIx;simp
       try lia
      rw [cut1];let e5:Ext [] G (upd G pp (.tup (bk.ns.map V.int))) :=.laid i5;let g1:=e5 _ _ ∅ U;let g2:=e5 _ _ ∅ a4;let d5:=e5 _ _ ∅ b0;let c4:=O.mono e5.tk;let a3:upd G pp (.tup (bk.ns.map V.int)) pp=some (.tup (bk.ns.map V.int)):=zC;generalize upd G pp (.tup (bk.ns.map V.int))=G5 at e5 g1 g2 d5 c4 a3 ⊢;refine⟨pp,rfl,⟨_,SqT.of a3⟩,λle b6=>?_⟩;let i6:pp≠le:=zF a3 b6;let i7:vb≠le:=zF d5 b6;refine jA (xs:=bk.ns.map V.int) (λj g l => ∃(o0:Option V) (ts:List V),g = [o0,some (.ref vb)]/\Ext [le] G5 l/\l le=some (.lst ts)/\PlsAt l ts ((bk.ns.take j).map λt=>((yn:Int),t))) ?_ ?_ ?_ ?_
      .exact⟨none,[],rfl,.laid b6,zC,.nil⟩
      .rintro j g l hj ⟨o0,ts,rfl,c,C,Y⟩;exact SqT.of (c _ _ (by simpa using i6) a3)
      .rintro j yy g l R i8 ⟨o0,ts,rfl,c,C,Y⟩ hR;let⟨t,ht,rfl⟩:=zx i8;let hj:j<bk.ns.length:=(aI.mp ht).1;let d6:=Y.len;rw [aB,bD] at d6;room;refine iteT ?_;room;refine zf (SqT.of (c _ _ (by simpa using i7) d5)) (show atI _ ((0:Nat):Int)=some (V.int yn) from zX rfl) ?_;room;refine⟨len2 (by show 2<=1000;decide),λp2 T=>?_⟩;let X:p2≠le:=(zF C T).symm;let tk:TK l (upd (upd l p2 (.tup [.int yn,.int t])) le (.lst (ts ++ [.ref p2]))):=(Ext.laid T).tk.trans (.put (by intro ys z;rw [zD X.symm,C] at z;cases z));refine⟨ts,by rw [zD X.symm];exact C,zb ∎,hR _ _ ⟨_,ts ++ [.ref p2],rfl,c.trans ((Ext.laid T).trans (.put ∅)),zC,?_⟩⟩
       rw [yG ht,aP];exact (Y.mono tk).append (.one (by rw [zD X,zC]))
      .rintro g l ⟨o0,ts,rfl,c,C,Y⟩;rw [aB,bX] at Y;let d6:=Y.len;rw [aB] at d6;let E6:=c.drop b6;let b5:=E6 _ _ ∅ g1;let d2:=E6 _ _ ∅ g2;room;refine⟨a,le,e,ts,rfl,rfl,b5,C,by rw [gH];lia,?_⟩;let tk:TK l (upd l a (.lst (e++ts))) :=.put (by intro ys z;rw [b5] at z;cases z);refine fin _ (e++ts) _ (((((eG.trans e5).trans E6).mono (us :=[a]) ∅).trans (.put ∅)).drop a6) (by rw [zD a7];exact d2) zC (((c4.mono E6.tk).append Y).mono tk) (by rw [aB];exact i4) (λq hq=>?_) _ _ _ _ _;let⟨t,ht,rfl⟩:=aY.mp hq;let:=N.ns.range t ht;let en:yn=n':=Int.ofNat.inj h2
       rw [<-en,f3] at c0;cases c0;exact jP f3 ∎ ∎
def NsAt(l:Addr)(H:Hp):List V->List (List Int)->Prop:=Paired λv ns => ∃b,v = .ref b/\b≠l/\H b=some (.lst (ns.map V.int))
def qPh(K:PySem.W.Frag):Sp:=λvs H Q _ => ∃(a:Addr) (w:List Blk),vs = [.ref a]/\Den K H (workD w) (.ref a)/\(∀b∈w,b.ns.length<=2)/\w.length<=12 /\
 ∀(l:Addr) (us:List V) (H':Hp),H l=none->Ext [] H H'->H' l=some (.lst us)->NsAt l H' us (w.map Blk.ns)->Q (.ref l) H'
theorem NsAt.mono(h:NsAt l H us ns)(e:Ext [l] H H'):NsAt l H' us ns:=Paired.mapP h λ_ _ ⟨b,c,a,d⟩=>⟨b,c,a,e _ _ (by simpa using a) d⟩
theorem NsAt.len(h:NsAt l H us ns):us.length=ns.length:=dD h
theorem NsAt.get:∀ {us:List V} {d:List Blk},NsAt l H us (d.map Blk.ns) -> ∀ {x:Int},0<=x->x<d.length -> ∃c,atI us x=some (.ref c)/\H c=some (.lst ((nxt d x).map V.int)):=by
 let key:∀ {us:List V} {d:List Blk} {i:Nat} {b:Blk},NsAt l H us (d.map Blk.ns)->d[i]? = some b -> ∃c,us[i]? = some (.ref c)/\H c=some (.lst (b.ns.map V.int)):=by
  intro us d
  induction d generalizing us with
  | nil=>intro i b _ h;simp at h
  | cons q r k =>
   intro i b h e;cases h with
   | cons a t =>
    let⟨c,rfl,_,m⟩:=a;cases i with
    | zero=>simp at e;subst e;exact⟨c,rfl,m⟩
    | succ i =>
     let⟨n,g,f⟩:=k t (by simpa using e);exact⟨n,by simpa using g,f⟩
 intro us d h x o g;let⟨i,rfl⟩:=eM o;let j:i<d.length:=by lia
 let⟨c,f,p⟩:=key h (aC j);exact⟨c,zX f,by rw [qXu (aC j)];exact p⟩
noncomputable abbrev sEnds:Stmt:=top 21
theorem qYz:FnScope ["_law_work_here"] ["_law_work_here"] (zT sEnds):=⟨rfl,rfl,rfl,by decide +kernel,rfl,by decide +kernel,by decide +kernel⟩
theorem qXr(F:Fun K "_law_ends" "_law_ends" sEnds f fd)(o:mg "list" = none):FnOk P w K mg base CX0 1 f fd ["_law_work_here"] (qPh K):=by
 refine F.ok qYz (λB H Q E h=>?_) (λa8 A T s H B Q E hr h=>?_)
 .let⟨a,w,rfl,_⟩:=h;rfl
 .let⟨a,r,rfl,hW,U,a9,q⟩:=h;let C:((["_law_deeds_here","_law_end"]:List Str)).Nodup:=by decide
  refine⟨_,zK (zW (yK ["_law_deeds_here","_law_end"] [] rfl (.of rfl) (yJ (pv 0)) (λ_ _ _ _=>wH (n:=2) K rfl rfl (zl (zN (i:=0) C rfl (Or.inl rfl)) (zl (zN (i:=1) C rfl (Or.inl rfl)) yR))) (λ_ _ _ _ =>.nil)
   (λ_ _ _ _=>yN (qUn K rfl) (by rfl) o PyProof.Rows.boot_list (zA (wh (qWl K rfl) (pv 1) (wg zE) wf) zB)))),?_⟩
  dsimp only [zo,zv];let⟨a',B,ea,D,G⟩:=hW.ofList;cases ea;let W:B.length=r.length:=by rw [G.len,aB]
  room;refine⟨a,rfl,⟨B,D⟩,λl I=>?_⟩;refine yr (xs:=B) (λi m e => ∃(g:List V) (O S:Option V),m = [O,S]/\Ext [l] H e/\e l=some (.lst g)/\NsAt l e g ((r.take i).map Blk.ns)) ?_ ?_ ?_ ?_
  .exact⟨[],none,none,rfl,.laid I,zC,.nil⟩
  .rintro i m e hi ⟨g,O,S,rfl,v,j,d⟩;exact (v.drop I).toSame.seq D
  .rintro i x m e R hx ⟨g,O,S,rfl,v,j,d⟩ hR;let es:Same H e:=(v.drop I).toSame;let⟨dd,k,X⟩:=G.get hx;obtain⟨b,Y,rfl⟩:∃b,r[i]? = some b/\dd=blkD b:=by
    rw [aU] at k;cases z:r[i]? with
    | none=>rw [z] at k;cases k
    | some n=>rw [z] at k;exact⟨n,rfl,(bB k).symm⟩
   let hi:i<r.length:=(aI.mp Y).1;let J:=U b (aN Y);let⟨c,us,rfl,hc,Z⟩:=X.ofTuple;let⟨v1,r1,rfl,b0,a0⟩:=Z.ofCons;let⟨v2,r2,rfl,L,t⟩:=a0.ofCons;let t:=t.ofNil;subst t;let⟨wd,a1⟩:=qYc J;rw [a1] at L;let⟨en,b1,rfl,a2,a3⟩:=L.ofTuple;let⟨v3,r3,rfl,a4,a5⟩:=a3.ofCons;let e3:=a4.ofStr;subst e3;let e4:=a5.ints;subst e4;refine yU (es.seqT hc) rfl ?_;room;refine iteT ?_;room;refine⟨1,rfl,?_⟩;room;refine⟨en,_,rfl,es.seqT a2,?_,λp hp=>?_⟩
   .intro h;let:=h.1;revert this;let hn:(V.str wd::b.ns.map V.int).length=b.ns.length+1:=by simp
    rw [hn];unfold HT.sIx;simp
    try lia
   let M:cutV (V.str wd::b.ns.map V.int) (some 1) none=b.ns.map V.int:=by
    match hh:b.ns,J with
    | [],_=>rfl
    | [x],_=>rfl
    | [x,y],_=>rfl
   rw [M];let a6:p≠l:=(zF j hp).symm;room;refine⟨p,_,rfl,.inr (SqT.of zC),λN u=>?_⟩;let l':upd e p (.tup (b.ns.map V.int)) l=some (.lst g):=by rw [zD a6.symm];exact j
   let n2:N≠l:=(zF l' u).symm;let a7:g.length=i:=by rw [d.len,aB,bD];lia
   refine⟨g,by rw [zD n2.symm];exact l',zb ∎,hR _ _ ⟨g ++ [.ref N],_,_,rfl,?_,zC,?_⟩⟩
   .exact v.trans ((Ext.laid hp).trans ((Ext.laid u).trans (.put ∅)))
   .let ht:r.take (i+1)=r.take i ++ [b]:=by rw [fB,Y];rfl
    let E2:Ext [l] e (upd (upd (upd e p (.tup (b.ns.map V.int))) N (.lst (b.ns.map V.int))) l (.lst (g ++ [.ref N]))):=(Ext.laid hp).trans ((Ext.laid u).trans (.put ∅));rw [ht,aP];exact iN (d.mono E2) ⟨N,rfl,n2,by rw [zD n2,zC]⟩
  .rintro m e ⟨g,O,S,rfl,v,j,d⟩;rw [W,bX] at d;exact q l g e I (v.drop I) j d
noncomputable abbrev ig:Stmt:=top 24
theorem inK(K:PySem.W.Frag)(h:X.K=K):OpR X (compareOp .In) (rIn K false):=h▸vT
theorem qPm:FnScope ["_law_work_here","_law_box"] ["_law_work_here","_law_box"] (zT ig):=⟨rfl,rfl,rfl,by decide +kernel,rfl,by decide +kernel,by decide +kernel⟩
theorem qO3(F:Fun K "_law_writes" "_law_writes" ig f fd)(o:mg "range" = none)(G:mg "len" = none)(I:mg "any" = none):FnOk P w K mg base CX0 1 f fd ["_law_work_here","_law_box"] (uB K):=by
 let a1:((["_law_b","_law_box","_law_work_here"]:List Str)).Nodup:=by decide
 refine F.ok qPm (λJ H Q E h=>?_) (λb3 A a2 s H J Q E hr h=>?_)
 .let⟨wa,t,m,works,x,rfl,_⟩:=h;rfl
 .let⟨wa,t,m,works,x,rfl,hW,L,hm,q⟩:=h
  refine⟨_,zK (zW (yK ["_law_b"] [1,0] rfl (.of rfl) (yW rfl o (zA (zk yE (by rfl) G cA (zA (pv 0) zB)) zB)) (λ_ _ _ _=>zN (i:=0) a1 rfl (Or.inl rfl))
   (λ_ _ _ _ =>.cons (xV K rfl (zk (anyK K rfl hr.hd) (by rfl) I PyProof.Rows.boot_any (zA (yK ["_law_one"] [1] rfl (.of rfl) (qTq K rfl (zJ (yh K rfl) (zJ (Qv K rfl) (pv 2) (pv 0) (λ_ _=>rfl)) zE (λ_ _=>rfl))) (λ_ _ _ _=>zN (i:=0) (by show ((["_law_one","_law_box"]:List Str)).Nodup;decide) rfl (Or.inl rfl)) (λ_ _ _ _ =>.nil)
    (λ_ _ _ _=>wS (zy (inK K rfl) (zJ (yh K rfl) (pv 0) zE (λ_ _=>rfl)) (zm (zA zc (zA zc zB))) rfl) (xx (zy zd (zJ (yh K rfl) (pv 0) zE (λ_ _=>rfl)) (pv 1) (zO _))))) zB)) (λ_=>rfl)) .nil) (λ_ _ _ _=>pv 0))),?_⟩
  dsimp only [zo,zv];let⟨a',J,ea,M,N⟩:=hW.ofList;cases ea;let a3:J.length=t.length:=by rw [N.len,aB]
  let b4:=L.len;room;refine⟨wa,_,rfl,.inl M,?_⟩;room;refine⟨_,rfl,∎,∎,λl hl=>?_⟩;refine wG (lo:=0) (n:=(J.length:Int).toNat) (λi a H' => ∃(u:Option V),a = [u,some (.int x),some (.ref wa)]/\Ext [l] H H'/\H' l=some (.lst ((wrTo t x i).map V.int))) ?_ ?_ ?_
  .exact⟨none,rfl,.laid hl,zC⟩
  .rintro i a H1 R hi ⟨u,rfl,e1,O⟩ hR;let hi:i<t.length:=by lia
   obtain⟨b,hb⟩:∃b,t[i]? = some b:=⟨t[i],aC hi⟩;let S:Same H H1:=(e1.drop hl).toSame;let⟨y,hy,a4⟩:=N.get' (i:=i) (d:=blkD b) (by rw [aU,hb];rfl);let⟨c,us,rfl,hc,a5⟩:=a4.ofTuple;let⟨v1,r1,rfl,a6,a7⟩:=a5.ofCons;let⟨v2,r2,rfl,b5,z⟩:=a7.ofCons;let z:=z.ofNil;subst z;let⟨dl,B,rfl,T,v⟩:=a6.ofList;let U:=L.blk b (aN hb);room;refine ze (S.seq M) (show atI J (0+(i:Int))=some (.ref c) by rw [Int.zero_add];exact zX hy) ?_;room;refine zf (S.seqT hc) (show atI _ ((0:Nat):Int)=some (V.ref dl) from zX rfl) ?_;room;refine⟨dl,rfl,⟨B,S.seq T⟩,λC k=>?_⟩;let b6:l≠C:=zF O k
   refine yr (xs:=B) (λj a r => ∃(u:Option V),a = [u,some (.int x)]/\Ext [C] H1 r/\r C=some (.lst (((b.ds.take j).map (wrB x)).map V.bl))) ?_ ?_ ?_ ?_
   .exact⟨none,rfl,.laid k,zC⟩
   .rintro j a r hj ⟨u,rfl,D,g⟩;exact (D.drop k).toSame.seq (S.seq T)
   .rintro j y a r R2 hy ⟨u,rfl,D,g⟩ a8;let⟨dd,a9,b0⟩:=v.get hy;let⟨d,hd,rfl⟩:=zx a9;let⟨p,rfl,b1⟩:=iZ b0;let hp:=(D.drop k).toSame.seqT (S.seqT b1);let b7:j<b.ds.length:=(aI.mp hd).1;room;refine iteT ?_;room;refine iY ?_;room;refine zf hp (show atI _ ((0:Nat):Int)=some (V.str (dword d)) from zX rfl) ?_;room;refine⟨len2 (by show 2<=1000;decide),λpt b2=>?_⟩;let e6:Ext [] r (upd r pt (.tup [.str "set",.str "add"])) :=.laid b2;refine⟨pt,[V.str "set",.str "add"],rfl,.inr (SqT.of zC),rfl,rfl,?_⟩;rw [if_neg aK,qS6];refine⟨_,rfl,?_⟩;let W:=e6.toSame.seqT hp;generalize upd r pt (.tup [.str "set",.str "add"])=G6 at e6 W ⊢
    let fin:∃xs:List V,G6 C=some (.lst xs)/\xs.length<sizeLine/\R2 [some (.ref p),some (.int x)] (upd G6 C (.lst (xs ++ [.bl (wrB x d)]))):=by
     refine⟨_,e6 _ _ ∅ g,zb (by rw [aB,aB,bD];let:=U.few;lia),a8 _ _ ⟨_,rfl,D.trans ((e6.mono ∅).trans (.put ∅)),?_⟩⟩;rw [zC,yG hd,aP,aP];rfl
    unfold wrB at fin;cases hw:(wr d).isSome with
    | true =>
     rw [hw] at fin;refine iteT ?_;room;refine zf W (uZ d) ?_;room;refine zw ?_;exact fin
    | false =>
     rw [hw] at fin;exact iteF fin
   .rintro a r ⟨u,rfl,D,g⟩;let X:B.length=b.ds.length:=by rw [v.len,aB]
    rw [X,bX] at g;room;refine⟨C,b.ds.map (wrB x),rfl,SqL.of g,?_⟩;refine⟨wrote x b.ds,?_,?_⟩
    .let e:(b.ds.map (wrB x)).any id=wrote x b.ds:=by unfold wrote;rw [List.any_map];rfl
     rw [e];rfl
    let E2:Ext [] H1 r:=D.drop k;let Y:=E2 _ _ ∅ O;let Z:=qOr t x i;let b8:=vD t x i;rw [qY9 hb] at Z;cases hw:wrote x b.ds with
    | true =>
     rw [hw,if_pos rfl] at Z;refine iteT (iteT ?_);room;refine⟨_,Y,zb (by rw [aB];lia),hR _ _ ⟨_,rfl,(e1.trans (E2.mono ∅)).trans (.put ∅),?_⟩⟩;rw [zC,Z,aP,Int.zero_add];rfl
    | false =>
     rw [hw,if_neg aK] at Z;refine iteF (iteF (hR _ _ ⟨_,rfl,e1.trans (E2.mono ∅),?_⟩));rw [Z];exact Y
  .rintro a H' ⟨u,rfl,e',a0⟩;rw [cV,a3] at a0;exact q l H' hl (e'.drop hl) a0
noncomputable abbrev ii:Stmt:=top 26
theorem scBehind:FnScope ["_law_work_here","_law_box","_law_found","_law_nexts_here","_law_block","_law_turn"] ["_law_work_here","_law_box"] (zT ii):=⟨rfl,rfl,rfl,by decide +kernel,rfl,by decide +kernel,by decide +kernel⟩
theorem qR3(F:Fun K "_law_behind" "_law_behind" ii f fd)(C:mg "range" = none)(a3:mg "len" = none)(W:mg "list" = none)(a4:mg "set" = none)(X:mg "sorted" = none)
  (b1:Has P w K mg base "_law_ends" 1 ["_law_work_here"] (qPh K)) (b2:Has P w K mg base "_law_writes" 1 ["_law_work_here","_law_box"] (uB K)):FnOk P w K mg base CX0 2 f fd ["_law_work_here","_law_box"] (qVl K):=by
 refine F.ok scBehind (λvs H Q E h=>?_) (λc7 A b3 s H vs Q E hr h=>?_)
 .let⟨Y,a,m,works,x,rfl,_⟩:=h;rfl
 .let⟨Y,a,m,works,x,rfl,hW,r,hm,q⟩:=h
  refine⟨_,zI (xN (zm (zA (zZ zB) (zA (zL b1 hr ⋯ (zA (pv 0) zB)) zB))) (xC (n:=2) rfl (zl (zN (i:=2) scBehind.nd rfl (Or.inr rfl)) (zl (zN (i:=3) scBehind.nd rfl (Or.inl rfl)) yR))))
   (zI (yX cS rfl (yJ (zL b2 hr ⋯ (zA (pv 0) (zA (pv 1) zB)))) (zN (i:=4) scBehind.nd rfl (Or.inl rfl))
    (zK (zU (i:=2) scBehind.nd rfl (Or.inr rfl) (zM vU (pv 2) (zJ zV (pv 3) (pv 4) (λ_ _=>rfl))))))
   (zI (yX cS rfl (yW rfl C (zA (zk yE (by rfl) a3 cA (zA (pv 0) zB)) zB)) (zN (i:=5) scBehind.nd rfl (Or.inl rfl))
    (zK (yX cS rfl (yJ (yN oz (by rfl) W PyProof.Rows.boot_list (zA (pv 2) zB))) (zN (i:=4) scBehind.nd rfl (Or.inl rfl))
     (zK (zU (i:=2) scBehind.nd rfl (Or.inr rfl) (zM vU (pv 2) (yK ["_law_to"] [2] rfl (.of rfl) (yJ (zJ zV (pv 3) (pv 4) (λ_ _=>rfl))) (λ_ _ _ _=>zN (i:=0) (by show ((["_law_to","_law_found"]:List Str)).Nodup;decide) rfl (Or.inl rfl)) (λ_ _ _ _ =>.cons (zR (Qy K rfl) (pv 0) (pv 1) rfl) .nil) (λ_ _ _ _=>pv 0))))))))
   (zK (zW (zk (ku hr.hd) (by rfl) X eI (zA (yN (ky hr.hd) (by rfl) a4 PyProof.Rows.boot_set (zA (pv 2) zB)) zB)))))),?_⟩
  dsimp only [zo,zv];let⟨a',vs,ea,b4,b5⟩:=hW.ofList;cases ea;let b6:vs.length=a.length:=by rw [b5.len,aB]
  let c8:=r.len;let few:∀y,(nxt a y).length<=2:=λy=>(wJ r y).few;let c9:(vE a x).length<=24:=by
   let h1:=jN (nxt a) few (wrTo a x a.length);let h2:=vD a x a.length;unfold vE;lia
  let a5:∀y,∀z∈nxt a y,0<=z/\z<(a.length:Int):=λy z Z=>by let:=(wJ r y).range z Z;lia
  room;refine⟨len2 (aX _),λD b7=>?_⟩;let e0:Ext [] H (upd H D (.lst [])) :=.laid b7;let M:upd H D (.lst []) D=some (.lst []):=zC;generalize upd H D (.lst [])=H0 at e0 M ⊢;room;refine⟨Y,a,rfl,hW.mono e0.toSame,λb hb=>(r.blk b hb).ns.few,∎,λn us H1 hn e1 b8 b9=>?_⟩;room;refine⟨len2 (by show 2<=1000;decide),λp3 c0=>?_⟩;let e2:Ext [] H1 (upd H1 p3 (.tup [.ref D,.ref n])) :=.laid c0;let N:SqT K (upd H1 p3 (.tup [.ref D,.ref n])) p3 [.ref D,.ref n]:=SqT.of zC;generalize upd H1 p3 (.tup [.ref D,.ref n])=H2 at e2 N ⊢;refine yU N rfl ?_;let a6:=e2 _ _ ∅ b8;let a7:NsAt n H2 us (a.map Blk.ns):=b9.mono (e2.mono ∅)
  let E2:Ext [] H H2:=e0.trans (e1.trans e2);let a8:=(e1.trans e2) _ _ ∅ M;room;refine⟨Y,a,m,works,x,rfl,hW.mono E2.toSame,r,hm,λlw H3 d0 e3 O=>?_⟩;room;let d1:=vD a x a.length;refine⟨lw,rfl,⟨_,SqL.of O⟩,vA (xs:=(wrTo a x a.length).map V.int) (λi d G => ∃(e:Addr) (p S:Option V),d = [some (.ref Y),some (.int x),some (.ref e),some (.ref n),p,S]/\Ext [] H3 G/\G e=some (.lst ((((wrTo a x a.length).take i).flatMap (nxt a)).map V.int))) ?_ ?_ ?_ ?_⟩
  .exact⟨D,_,_,rfl,.refl _ _,e3 _ _ ∅ a8⟩
  .rintro i d G hi ⟨e,p,S,rfl,eG,l⟩;exact SqL.of (eG _ _ ∅ O)
  .rintro i v d G hv ⟨e,p,S,rfl,eG,l⟩ N_ B_ C_ R_ hN_ hC_ hR_;let⟨y,I,rfl⟩:=zx hv;let⟨k,rfl,hk,d2⟩:=mem_wrTo.mp (aN I);let EG:=e3.trans eG;let⟨c,a0,hc⟩:=(a7.mono (EG.mono ∅)).get (x:=(k:Int)) ∎ ∎;let c1:=jN (nxt a) few ((wrTo a x a.length).take i);let c6:=few (k:Int);rw [bD] at c1;room;refine ze (SqL.of (EG _ _ ∅ a6)) a0 ?_;refine⟨e,c,_,_,rfl,rfl,l,hc,len2 (by rw [aB,aB];lia),λf1 a1=>?_⟩;room;refine⟨f1,_,_,rfl,eG.trans (.laid a1),?_⟩;rw [zC,yG I,List.flatMap_append,aP];simp
  .rintro d G ⟨e,p,S,rfl,eG,l⟩;rw [aB,bX] at l;let EG:=e3.trans eG;let l:G e=some (.lst ((vE a x).map V.int)):=l;room;refine⟨Y,vs,rfl,.inl ((E2.trans EG).toSame.seq b4),?_⟩;rw [b6];room;refine⟨_,rfl,∎,∎,xn (lo:=0) (n:=(a.length:Int).toNat) (λt d J => ∃(e:Addr) (Fs:List Int) (p S:Option V),d = [some (.ref Y),some (.int x),some (.ref e),some (.ref n),p,S]/\Ext [] G J/\J e=some (.lst (Fs.map V.int))/\BehW (vE a x) a.length Fs) ?_ ?_ ?_⟩
   .refine⟨e,_,_,_,rfl,.refl _ _,l,λy I=>?_,fZ _ _⟩;let⟨z,_,Z⟩:=cC.mp I;exact a5 z y Z
   .rintro t d J ht ⟨e,Fs,p,S,rfl,e4,o,hI⟩ N_ B_ C_ R_ hN_ hC_ hR_;room;refine⟨e,_,rfl,.inl (SqL.of o),λT a2=>?_⟩;let e5:Ext [] J (upd J T (.lst (Fs.map V.int))) :=.laid a2;let u:upd J T (.lst (Fs.map V.int)) T=some (.lst (Fs.map V.int)):=zC;let U:=e5 _ _ ∅ o;generalize upd J T (.lst (Fs.map V.int))=G2 at e5 u U ⊢;refine⟨T,rfl,⟨_,SqL.of u⟩,vA (xs:=Fs.map V.int) (λi d G3 => ∃(e:Addr) (g:List Int) (p:Option V),d = [some (.ref Y),some (.int x),some (.ref e),some (.ref n),p,some (.int (0+t))]/\Ext [] G2 G3/\G3 e=some (.lst (g.map V.int))/\BehW (vE a x) a.length g) ?_ ?_ ?_ ?_⟩
    .exact⟨e,Fs,_,rfl,.refl _ _,U,hI⟩
    .rintro i d G3 hi ⟨e,g,p,rfl,e6,j,B⟩;exact SqL.of (e6 _ _ ∅ u)
    .rintro i v d G3 hv ⟨e,g,p,rfl,e6,j,B⟩ N_ B_ C_ R_ hN_ hC_ hR_;let⟨y,I,rfl⟩:=zx hv;let c2:=aN I;let⟨y0,y1⟩:=hI.rg y c2;let E3:=EG.trans (e4.trans (e5.trans e6));let⟨c,a0,hc⟩:=(a7.mono (E3.mono ∅)).get (x:=y) y0 y1;let c3:=B.len;let c4:=kh (λx=>decide (x∈g)) a.length;let hf:=few y;room;refine ze (SqL.of (E3 _ _ ∅ a6)) a0 ?_;refine⟨c,rfl,⟨_,SqL.of hc⟩,λlc L=>?_⟩;refine yr (xs:=(nxt a y).map V.int) (λk d H3 => ∃(o0:Option V),d = [o0,some (.ref e)]/\Ext [lc] G3 H3/\H3 lc=some (.lst ((((nxt a y).take k).filter λx => !decide (x∈g)).map V.int))) ?_ ?_ ?_ ?_
     .exact⟨none,rfl,.laid L,zC⟩
     .rintro k d H3 hk ⟨o0,rfl,e7,h3⟩;exact SqL.of ((e7.drop L) _ _ ∅ hc)
     .rintro k v d H3 R hv ⟨o0,rfl,e7,h3⟩ hR;let⟨z,Z,rfl⟩:=zx hv;let hk:k<(nxt a y).length:=(aI.mp Z).1;room;refine qZ8 (SqL.of ((e7.drop L) _ _ ∅ j)) ?_;room;by_cases g2:z∈g
      .rw [decide_eq_true g2];refine iteF (iteF (hR _ _ ⟨_,rfl,e7,?_⟩));rw [yG Z,eQ];simpa [g2] using h3
      .rw [decide_eq_false g2];refine iteT (iteT ?_);room;let d3:((((nxt a y).take k).filter λx => !decide (x∈g)).map V.int).length<=2:=by
        rw [aB];refine cD (cR _ _) ?_;rw [bD];lia
       refine⟨_,h3,zb ∎,hR _ _ ⟨_,rfl,e7.trans (.put ∅),?_⟩⟩;rw [yG Z,eQ,zC];simp [g2]
     .rintro d H3 ⟨o0,rfl,e7,h3⟩;rw [aB,bX] at h3;let a9:=e7.drop L;let d4:=cR (λx => !decide (x∈g)) (nxt a y);refine⟨e,lc,_,_,rfl,rfl,a9 _ _ ∅ j,h3,len2 (by rw [aB,aB];lia),λf1 a1=>?_⟩;room;refine⟨f1,grow (nxt a) g y,_,rfl,e6.trans (a9.trans (.laid a1)),?_,B.grow few a5⟩;rw [zC];unfold grow;rw [aP]
    .rintro d G3 ⟨e,g,p,rfl,e6,j,B⟩;room;exact⟨e,g,_,_,rfl,e4.trans (e5.trans e6),j,B⟩
   .rintro d J ⟨e,Fs,p,S,rfl,e4,o,hI⟩;let c3:=hI.len;let c4:=kh (λx=>decide (x∈Fs)) a.length;let d5:=vx Fs;room;refine⟨e,Fs,rfl,SqL.of o,∎,λT a2=>?_⟩;room;refine⟨T,yB Fs,rfl,zC,∎,λlx ns b0 hp c5=>?_⟩;let EF:Ext [] H (upd J T (setO w (yB Fs))):=(E2.trans (EG.trans e4)).trans (.laid a2);exact q lx ns _ (EF.none ∅ b0) (EF.trans (.laid b0)) zC c5 (hp.symm.nodup (kx Fs)) λy I=>by rw [hp.mem_iff,vy] at I;let:=hI.rg y I;lia
noncomputable abbrev ij:Stmt:=top 27
theorem scLBusy:FnScope ["_law_works_here","_law_number_here","_law_box","_law_work_here","_law_both"] ["_law_works_here","_law_number_here","_law_box"] (zT ij):=⟨rfl,rfl,rfl,by decide +kernel,rfl,by decide +kernel,by decide +kernel⟩
theorem qU5(F:Fun K "_law_busy" "_law_busy" ij f fd)(u:mg "sorted" = none)(J:mg "set" = none)(hB:Has P w K mg base "_law_behind" 2 ["_law_work_here","_law_box"] (qVl K))(hA:Has P w K mg base "_law_is_asked" 2 ["_law_works_here","_law_number_here","_law_block","_law_box"] (qVm K))(a0:Has P w K mg base "_law_writes" 1 ["_law_work_here","_law_box"] (uB K)):FnOk P w K mg base CX0 3 f fd ["_law_works_here","_law_number_here","_law_box"] (qVk K):=by
 refine F.ok scLBusy (λvs H Q E h=>?_) (λb1 A a1 s H vs Q E L h=>?_)
 .let⟨wa,ws,n,c,x,rfl,_⟩:=h;rfl
 .let⟨wa,ws,n,c,x,rfl,hW,M,B,q⟩:=h
  refine⟨_,zI (zU (i:=3) scLBusy.nd rfl (Or.inl rfl) (zJ zV (pv 0) (pv 1) (λ_ _=>rfl)))
   (zI (vW (i:=4) ["_law_b"] [0,1,2] rfl (.of rfl) scLBusy.nd rfl (Or.inl rfl) (yJ (zL hB L ⋯ (zA (pv 3) (zA (pv 2) zB)))) (λ_ _ _ _=>zN (i:=0) (by show ((["_law_b","_law_works_here","_law_number_here","_law_box"]:List Str)).Nodup;decide) rfl (Or.inl rfl)) (λ_ _ _ _ =>.cons (xV K rfl (zL hA L ⋯ (zA (pv 1) (zA (pv 2) (zA (pv 0) (zA (pv 3) zB))))) (λ_=>rfl)) .nil) (λ_ _ _ _=>pv 0))
   (zK (zW (zk (ku L.hd) (by rfl) u eI (zA (yN (ky L.hd) (by rfl) J PyProof.Rows.boot_set (zA (zM vU (zL a0 L ⋯ (zA (pv 3) (zA (pv 2) zB))) (pv 4)) zB)) zB))))),?_⟩
  dsimp only [zo,zv,yc,yd];let⟨a',vs,ea,a2,a3⟩:=hW.ofList;cases ea;let⟨vw,a4,k⟩:=a3.get' (i:=n) (d:=workD c) (by rw [aU,B];rfl);let⟨wb,bs,rfl,a5,N⟩:=k.ofList;let⟨m,b2,O,l⟩:=M.all c (aN B);let b3:=l.len;let k:Den K H (workD c) (.ref wb) :=.list a5 N;room;refine ze a2 (zX a4) ?_;room;refine⟨wb,c,m,_,x,rfl,k,l,O,λlr ns H2 b4 e2 e hp hd S=>?_⟩;let b5:=jO hp hd S;room;refine⟨lr,rfl,⟨_,SqL.of e⟩,λlc o=>?_⟩;let a6:=hW.mono e2.toSame;refine yr (xs:=ns.map V.int) (λj p G => ∃(Y:Option V) (fs:List Int),p = [Y,some (.ref wa),some (.int n),some (.int x)]/\Ext [lc] H2 G/\G lc=some (.lst (fs.map V.int))/\fs.length<=j /\ ∀y∈fs,0<=y/\y<m) ?_ ?_ ?_ ?_
  .exact⟨none,[],rfl,.laid o,zC,aH _,∅⟩
  .rintro j p G hj ⟨Y,fs,rfl,C,a,D,g⟩;exact SqL.of (C _ _ (by simpa using zF e o) e)
  .rintro j v p G R hv ⟨Y,fs,rfl,C,a,D,g⟩ hR;let⟨y,T,rfl⟩:=zx hv;let b6:j<ns.length:=(aI.mp T).1;let⟨y0,y1⟩:=S y (aN T);obtain⟨b,rfl⟩:∃b:Nat,y=(b:Int):=⟨y.toNat,∎⟩;let b7:b<c.length:=by lia
   room;refine⟨wa,ws,n,b,x,rfl,a6.mono (C.drop o).toSame,M,jP B y0 ∎,λr G6 e6=>?_⟩;let t:=e6 _ _ ∅ a;refine⟨r,rfl,?_⟩;cases r with
   | true =>
    refine iteT (iteT ?_);room;refine⟨_,t,zb (by rw [aB];lia),hR _ _ ⟨_,fs ++ [(b:Int)],rfl,(C.trans (e6.mono ∅)).trans (.put ∅),by rw [zC,aP];rfl,by rw [aG,cQ];lia,λz hz=>?_⟩⟩;rcases aJ.mp hz with z1 | z1
    .exact g z z1
    .rw [aF.mp z1];exact⟨y0,y1⟩
   | false=>exact iteF (iteF (hR _ _ ⟨_,fs,rfl,C.trans (e6.mono ∅),t,∎,g⟩))
  .rintro p G ⟨Y,fs,rfl,C,a,D,g⟩;rw [aB] at D;let E3:Ext [] H2 G:=C.drop o;let b8:=vD c x c.length;room;refine⟨wb,c,m,_,x,rfl,k.mono (e2.trans E3).toSame,l,O,λlw H4 b9 e4 U=>?_⟩;room;refine⟨lw,lc,_,_,rfl,rfl,U,e4 _ _ ∅ a,len2 (by rw [aB,aB];lia),λf1 a7=>?_⟩;rw [<-aP];generalize zz:upd H4 f1 _=H5;let ⟨X5,W⟩:=layQq zz a7;room;let a8:=vx (wrTo c x c.length++fs);rw [aG] at a8;refine⟨f1,_,rfl,SqL.of W,by rw [aG];lia,λs1 a9=>?_⟩;room;refine⟨s1,_,rfl,zC,∎,λlx nx X I b0=>?_⟩;let EF:Ext [] H (upd H5 s1 (setO w (yB (wrTo c x c.length++fs)))):=(e2.trans (E3.trans (e4.trans X5))).trans (.laid a9)
   refine q lx nx _ (EF.none ∅ X) (EF.trans (.laid X)) zC b0 (I.symm.nodup (kx _)) (λy Z=>?_) λy Z=>by rw [I.mem_iff,vy,aJ];exact .inl (Z.elim id False.elim)
   rw [I.mem_iff,vy,aJ] at Z;rcases Z with z | z
   .let:=qGw l z;lia
   .let:=g y z;lia
noncomputable abbrev ik:Stmt:=top 28
theorem qT9:FnScope ["_law_work_here"] ["_law_work_here"] (zT ik):=⟨rfl,rfl,rfl,by decide +kernel,rfl,by decide +kernel,by decide +kernel⟩
theorem qR1(F:Fun K "_law_boxes" "_law_boxes" ik f M)(d:mg "range" = none)(y:Has P w K mg base "_law_writes" 1 ["_law_work_here","_law_box"] (uB K)):FnOk P w K mg base CX0 2 f M ["_law_work_here"] (qMj K):=by
 refine F.ok qT9 (λS H Q E h=>?_) (λT A z s H S Q E N h=>?_)
 .let⟨o,b,m,works,rfl,_⟩:=h;rfl
 .let⟨o,b,m,works,rfl,U,k,W,q⟩:=h;refine⟨_,zK (zW (yK ["_law_box"] [0] rfl (.of rfl) (yW rfl d (zA zE zB)) (λ_ _ _ _=>zN (i:=0) (by show ((["_law_box","_law_work_here"]:List Str)).Nodup;decide) rfl (Or.inl rfl)) (λ_ _ _ _ =>.cons (zR (neDK K rfl N) (zL y N ⋯ (zA (pv 1) (zA (pv 0) zB))) (zZ zB) (zO _)) .nil) (λ_ _ _ _=>pv 0))),?_⟩
  try dsimp only [zo,zv,yc,yd]
  let X:=k.len;room;refine⟨8,rfl,⋯,⋯,λB e=>?_⟩;refine wG (lo:=0) (n:=(8:Int).toNat) (λj l G => ∃(C:Option V),l = [C,some (.ref o)]/\Ext [B] H G/\G B=some (.lst ((boxTo b j).map V.int))) ?_ ?_ ?_
  .exact⟨none,rfl,.laid e,zC⟩
  .rintro j l G R Y ⟨C,rfl,p,c⟩ O;let Z:j<8:=Y;let a0:=qSn b j;room;refine⟨o,b,m,works,(j:Int),by show [V.ref o,V.int (0+(j:Int))] = [V.ref o,V.int (j:Int)];rw [Int.zero_add],U.mono (p.drop e).toSame,k,W,λlw G4 a1 D t=>?_⟩;room;refine⟨len2 (aX _),λle I=>?_⟩;generalize zz:upd G4 le _=G5;let ⟨v,u⟩:=layQq zz I;let a2:=vD b (j:Int) b.length;let⟨t1,t2,t3⟩:=jI (ns:=wrTo b (j:Int) b.length) (λn J=>by let:=qGw k J;lia) ∎;let tS:=jH t1 t3 ⟨_,rfl⟩;let⟨z1,z2,z3⟩:=jI (ns :=[]) (λn J=>by cases J) ⋯;let zS:=jH z1 z3 ⟨_,rfl⟩;refine⟨intsD (wrTo b (j:Int) b.length),intsD [],.list (SqL.of (v _ _ ∅ t)) (DenL.ofInts _),.list (SqL.of u) (DenL.ofInts _),tS,zS,?_⟩
   rw [if_pos rfl];let L:PyData.eqv (intsD (wrTo b (j:Int) b.length)) (intsD [])=decide (wrTo b (j:Int) b.length = []):=by
    cases wrTo b (j:Int) b.length with
    | nil=>rfl
    | cons a r=>simp [intsD,PyData.eqv,PyData.eqvAll]
   rw [L];room;let g:=(D.trans v) _ _ ∅ c;by_cases x:wrTo b (j:Int) b.length = []
   .rw [decide_eq_true x];refine iteF (iteF (O _ _ ⟨_,rfl,p.trans ((D.trans v).mono ∅),?_⟩));rw [g,qHp,if_pos x]
   .rw [decide_eq_false x];refine iteT (iteT ?_);room;refine⟨_,g,zb (by rw [aB];lia),O _ _ ⟨_,rfl,(p.trans ((D.trans v).mono ∅)).trans (.put ∅),?_⟩⟩;rw [zC,qHp,if_neg x,aP,Int.zero_add];rfl
  .rintro l G ⟨C,rfl,p,c⟩;exact q B G e (p.drop e) c
theorem qUz{m:Int}(h:NsOk m ns):∃a:Str,endD ns = .tuple (.str a::ns.map .int)/\(a = "out" ↔ ns = []):=by
 rcases h with z | ⟨x,z,_⟩ | ⟨x,y,z,_⟩ <;> subst z
 .exact⟨_,rfl,∅⟩
 .exact⟨"go",rfl,by simp;decide⟩
 .exact⟨"fork",rfl,by simp;decide⟩
noncomputable abbrev il:Stmt:=top 1
theorem scWaysOf:FnScope ["work","ways","at","deeds","end"] ["work"] (zT il):=⟨rfl,rfl,rfl,by decide +kernel,rfl,by decide +kernel,by decide +kernel⟩
theorem qQx(F:Fun K "ways_of" "ways_of" il f fd)(a4:mg "enumerate" = none)(b1:mg "len" = none)(a5:mg "sorted" = none):FnOk P w K mg base CX0 1 f fd ["work"] (jB K):=by
 refine F.ok scWaysOf (λvs H Q E h=>?_) (λe0 A c1 s H vs Q E hr h=>?_)
 .let⟨a,w,m,works,rfl,_⟩:=h;rfl
 .let⟨a,k,m,works,rfl,hW,r,hm,q⟩:=h
  refine⟨_,zI (zU (i:=1) scWaysOf.nd rfl (Or.inl rfl) (zZ (zA (zm (zA (wX wc zE) (zA zE zB))) zB)))
   (zI (yX cS rfl (uu rfl a4 (zA (pv 0) zB)) (xC (n:=2) rfl (zl (zN (i:=2) scWaysOf.nd rfl (Or.inr rfl)) (zl (xC (n:=2) rfl (zl (zN (i:=3) scWaysOf.nd rfl (Or.inl rfl)) (zl (zN (i:=4) scWaysOf.nd rfl (Or.inl rfl)) yR))) yR)))
    (zK (zr (zR zd (zJ zq (pv 4) zE (λ_ _=>rfl)) zc (zO _))
     (zK (yI (yH bG bY bZ yk (pv 1) (zA (zm (zA (pv 2) (zA (zk yE (by rfl) b1 cA (zA (pv 0) zB)) zB))) zB))))
     (zK (yI (yH bG iV iW ui (pv 1) (zA
      (yK ["to"] [2] rfl (.of rfl) (ud (wh wj (pv 4) (wg zE) wf)) (λ_ _ _ _=>zN (i:=0) (by show ((["to","at"]:List Str)).Nodup;decide) rfl (Or.inl rfl)) (λ_ _ _ _ =>.nil) (λ_ _ _ _=>zm (zA (pv 1) (zA (pv 0) zB)))) zB)))))))
   (zK (zW (zk qLy (by rfl) a5 eI (zA (pv 1) zB))))),?_⟩
  dsimp only [zo,zv];let⟨a',vs,ea,a6,b2⟩:=hW.ofList;cases ea;let b3:vs.length=k.length:=by rw [b2.len,aB]
  let e1:=r.len;room;refine⟨len2 (by show 2<=1000;decide),λS b4=>?_⟩;room;refine⟨len2 (by show 1<=1000;decide),λd U=>?_⟩;let E0:=(Ext.laid (ts :=[]) (o :=.tup [V.int (-1),.int 0]) b4).trans (.laid (o :=.lst [V.ref S]) U);let n0:S≠d:=zF zC U;let I:H d=none:=by rw [zD n0.symm] at U;exact U
  let d0:DenL K (yo H [d] (upd (upd H S (.tup [V.int (-1),.int 0])) d (.lst [V.ref S]))) ((rawTo k 0).map pairD) [V.ref S]:=by
   refine .cons (.tuple (SqT.of ?_) (.cons .int (.cons .int .nil))) .nil;rw [zt b4 (by simpa using n0),zD n0,zC]
  let l1:upd (upd H S (.tup [V.int (-1),.int 0])) d (.lst [V.ref S]) d=some (.lst [V.ref S]):=zC;generalize upd (upd H S (.tup [V.int (-1),.int 0])) d (.lst [V.ref S])=H1 at E0 d0 l1 ⊢;room;refine⟨a,rfl,⟨vs,E0.toSame.seq a6⟩,qUx (xs:=vs) (λi g C => ∃(us:List V) (o2 o3 o4:Option V),g = [some (.ref a),some (.ref d),o2,o3,o4]/\Ext [d] H1 C/\C d=some (.lst us)/\DenL K (yo H [d] C) ((rawTo k i).map pairD) us) ?_ ?_ ?_ ?_⟩
  .exact⟨_,_,_,_,rfl,.refl _ _,l1,d0⟩
  .rintro i g C hi ⟨us,o2,o3,o4,rfl,e',J,e⟩;exact (((E0.mono (us :=[d]) ∅).trans e').drop I).toSame.seq a6
  .rintro i x g C pt hx ⟨us,o2,o3,o4,rfl,e',J,e⟩ c2;let EH:Ext [] H C:=((E0.mono (us :=[d]) ∅).trans e').drop I;let⟨dd,c3,c4⟩:=b2.get hx;let⟨b,hb,rfl⟩:=zx c3;let hi:i<k.length:=(aI.mp hb).1;let b5:=(r.blk b (aN hb)).ns;let⟨c,cs,rfl,hc,c5⟩:=c4.ofTuple;let⟨vd,r1,rfl,e5,c6⟩:=c5.ofCons;let⟨ve,r2,rfl,b6,a7⟩:=c6.ofCons;let a7:=a7.ofNil;subst a7;let⟨wd,c7,a1⟩:=qUz b5;rw [c7] at b6;let⟨en,e6,rfl,b7,c8⟩:=b6.ofTuple;let⟨v3,r3,rfl,c9,d1⟩:=c8.ofCons;let e3:=c9.ofStr;subst e3;let e4:=d1.ints;subst e4;let d2:=e.len;rw [aB] at d2;let d3:=qJb r i;let e2:Ext [] C (upd C pt (.tup [.int i,.ref c])) :=.laid c2
   let u:=e2 _ _ ∅ J;let D:=e.mono (e2.mono (us :=[d]) ∅).young;let v:Ext [] H (upd C pt (.tup [.int i,.ref c])):=EH.trans e2;let a2:SqT K (upd C pt (.tup [.int i,.ref c])) pt [.int i,.ref c]:=SqT.of zC;generalize upd C pt (.tup [.int i,.ref c])=H2 at e2 u D v a2 ⊢;let eL:∀ {G:Hp},Ext [d] H2 G->Ext [d] H1 G:=λ{G} z=>e'.trans ((e2.mono ∅).trans z);refine yU a2 rfl ?_;room;refine yU (v.toSame.seqT hc) rfl ?_;room;refine zf (v.toSame.seqT b7) (show atI (V.str wd::b.ns.map V.int) ((0:Nat):Int)=some (V.str wd) from zX rfl) ?_;room;refine yT ?_;room;let a3:rawTo k (i+1)=rawTo k i++xW k.length i b.ns:=by
    show rawTo k i++xW k.length i ((k[i]?.map Blk.ns).getD [])=_;rw [hb];rfl
   by_cases W:b.ns = []
   .rw [decide_eq_true (a1.mpr W)];refine iteT ?_;room;refine yA u ?_;room;refine⟨a,vs,rfl,.inl (v.toSame.seq a6),?_⟩;rw [b3];room;refine⟨len2 (by show 2<=1000;decide),λp hp=>?_⟩;let X:p≠d:=(zF u hp).symm;room;refine yL (by rw [zD X.symm];exact u) (zb ∎) ?_;let eF:Ext [d] H2 (upd (upd H2 p (.tup [.int i,.int k.length])) d (.lst (us ++ [V.ref p]))):=(Ext.laid hp).trans (.put ∅);refine⟨us ++ [V.ref p],_,_,_,rfl,eL eF,zC,?_⟩;rw [a3,aP];unfold xW;rw [if_pos W];refine DenL.append (D.mono eF.young) (.cons (.tuple (SqT.of ?_) (.cons .int (.cons .int .nil))) .nil);rw [zt (v.none ∅ hp) (by simpa using X),zD X,zC]
   .rw [decide_eq_false (λz=>W (a1.mp z))];refine iteF ?_;room;refine yA u ?_;room;refine⟨1,rfl,?_⟩;room;refine⟨en,_,rfl,v.toSame.seqT b7,?_,λp hp=>?_⟩
    .intro h;let:=h.1;revert this;let hn:(V.str wd::b.ns.map V.int).length=b.ns.length+1:=by simp
     rw [hn];unfold HT.sIx;simp
     try lia
    rw [cut1];let X:p≠d:=(zF u hp).symm;let e3:Ext [] H2 (upd H2 p (.tup (b.ns.map V.int))) :=.laid hp;let Y:=e3 _ _ ∅ u;let L:=D.mono (e3.mono (us :=[d]) ∅).young;let a8:=v.trans e3;let Z:upd H2 p (.tup (b.ns.map V.int)) p=some (.tup (b.ns.map V.int)):=zC;generalize upd H2 p (.tup (b.ns.map V.int))=H3 at e3 Y L a8 Z ⊢;refine⟨p,rfl,⟨_,SqT.of Z⟩,λT M=>?_⟩;let b8:T≠d:=(zF Y M).symm;let d4:p≠T:=zF Z M;let d9:H T=none:=a8.none ∅ M;let e7:=b5.few;refine jA (xs:=b.ns.map V.int) (λj g G => ∃(o0:Option V) (ws:List V),g = [o0,some (.int i)]/\Ext [T] H3 G/\G T=some (.lst ws)/\DenL K (yo H [T,d] G) ((b.ns.take j).map λx=>pairD ((i:Int),x)) ws) ?_ ?_ ?_ ?_
    .exact⟨none,[],rfl,.laid M,zC,.nil⟩
    .rintro j g G hj ⟨o0,ws,rfl,eG,N,B⟩;exact SqT.of (eG _ _ (by simpa using d4) Z)
    .rintro j x g G R hx ⟨o0,ws,rfl,eG,N,B⟩ hR;let⟨y,hy,rfl⟩:=zx hx;let hj:j<b.ns.length:=(aI.mp hy).1;room;refine iteT ?_;room;refine⟨len2 (by show 2<=1000;decide),λp2 O=>?_⟩;let a0:p2≠T:=(zF N O).symm;let lG:G d=some (.lst us):=eG _ _ (by simpa using b8.symm) Y;let b9:p2≠d:=(zF lG O).symm;let d5:ws.length=j:=by rw [B.len,aB,bD];lia
     refine⟨ws,by rw [zD a0.symm];exact N,zb ∎,hR _ _ ⟨_,ws ++ [.ref p2],rfl,eG.trans ((Ext.laid O).trans (.put ∅)),zC,?_⟩⟩;rw [yG hy,aP];refine DenL.append (B.mono (((Ext.laid O).trans (.put ∅):Ext [T,d] G _)).young) (.cons (.tuple (SqT.of ?_) (.cons .int (.cons .int .nil))) .nil);rw [zt (((a8.mono (us :=[T]) ∅).trans eG).none (by simpa using a0) O) (by simp [a0,b9]),zD a0,zC]
    .rintro g G ⟨o0,ws,rfl,eG,N,B⟩;rw [aB,bX] at B;let lG:G d=some (.lst us):=eG _ _ (by simpa using b8.symm) Y;let d5:ws.length=b.ns.length:=by rw [B.len,aB]
     room;refine⟨d,T,us,ws,rfl,rfl,lG,N,len2 ∎,?_⟩;let d6:Ext [d] H3 G:=(eG.drop M).mono ∅;let eF:Ext [d] H2 (upd G d (.lst (us++ws))):=(e3.mono ∅).trans (d6.trans (.put ∅));refine⟨us++ws,_,_,_,rfl,eL eF,zC,?_⟩;rw [a3,aP];unfold xW;rw [if_neg W,cU];refine DenL.append (D.mono eF.young) (B.mono λc oc hc=>?_);let⟨z1,z2,z3⟩:=xE hc;let nc:c≠d:=λz=>z2 (by simp [z]);rw [zt z1 (by simpa using nc),zD nc];exact z3
  .rintro g C ⟨us,o2,o3,o4,rfl,e',J,e⟩;let EH:Ext [] H C:=((E0.mono (us :=[d]) ∅).trans e').drop I;rw [b3] at e;let d3:=qJb r k.length;room;refine⟨d,us,(rawTo k k.length).map tOf,rfl,SqL.of J,qP1 yo_same e,λt ht=>?_,by rw [aB];lia,λl c0 hl a9 b0=>?_⟩
   .let⟨p,_,rfl⟩:=aY.mp ht;exact λz=>nomatch z
   .let e8:l≠d:=(zF J hl).symm;let d7:H l=none:=EH.none ∅ hl;let L:DenL K (yo H [l] (upd C l (.lst (c0.map (·.1))))) ((rawTo k k.length).map pairD) us:=by
     refine (e.mono ?_).mono (Ext.young (H0:=H) (Ext.put (ts :=[l]) (t:=l) (o :=.lst (c0.map (·.1))) ∅));intro b ob hb;let⟨z1,z2,z3⟩:=xE hb;rw [zt z1 (by simpa using zF z3 hl)];exact z3
    let⟨d8,h1,h2,h3⟩:=qJ5 L (qL8 r) a9 b0;let he:d8=zG k k.length:=ki h2 (uA r) λp=>by rw [h3,(vz r _).mem_iff]
    rw [he] at h1;exact q l _ _ d7 (EH.trans (.laid hl)) zC h1
end Fs
local macro_rules | `(tactic| walk_at "rg") => `(tactic| repeat (with_reducible first | (refine L2.vi ?_; intro NN_ hNN_) | walk_at "qa" | refine L2.yF (by assumption) ?_ | refine L2.vh (by assumption) ?_ | (refine L2.vj ?_; intro NA_ NB_ hNA_ hNB_) | walk_at "qd"))
namespace Fs
open PySem L2
noncomputable abbrev im:Stmt:=top 17
theorem scDeeds:FnScope ["_law_tape_here","_law_most","_law_boxes_here","_law_first","_law_works_here","_law_found","_law_turn","_law_way","_law_n","_law_box","_law_other","_law_called"] ["_law_tape_here","_law_most","_law_boxes_here","_law_first","_law_works_here"] (zT im):=⟨rfl,rfl,rfl,by decide +kernel,rfl,by decide +kernel,by decide +kernel⟩
theorem qU6(F:Fun K "_law_deeds" "_law_deeds" im f fd)(a4:mg "range" = none)(b0:mg "int" = none)(b4:mg "len" = none)(hD:Has P w K mg base "_law_draw" 1 ["_law_tape_here","_law_many_here"] yp)(hN:Has P w K mg base "_law_number" 2 ["_law_tape_here"] Qr):FnOk P w K mg base CX0 3 f fd ["_law_tape_here","_law_most","_law_boxes_here","_law_first","_law_works_here"] (jQ K):=by
 refine F.ok scDeeds (λO H Q E h=>?_) (λg1 A d5 s H O Q E hr h=>?_)
 .refine hide λG_ hG_=>?_;let⟨t,b,k,r,first,works,bs,rfl,_⟩:=h;refine hG_ ?_;rfl
 .refine hide λG_ hG_=>?_;let⟨t,b,k,r,first,works,bs,rfl,hT,hk,d6,d7,g3,g4,g5,g6,hb,d8,hB,q⟩:=h;refine hG_ ?_
  refine⟨_,zI (zU (i:=5) scDeeds.nd rfl (Or.inl rfl) (zZ zB))
   (zI (yX cS rfl (yW rfl a4 (zA (zL hD hr ⋯ (zA (pv 0) (zA (zM zp zE (zJ zV (zZ (zA (pv 1) (zA zE zB))) (yN xg (by rfl) b0 eE (zA (zy zd (zL hD hr ⋯ (zA (pv 0) (zA zE zB))) zE (zO _)) zB)) (λ_ _=>rfl))) zB))) zB)) (zN (i:=6) scDeeds.nd rfl (Or.inl rfl))
    (zI (wU (i:=7) (j:=8) rfl scDeeds.nd rfl rfl ⋯ rfl rfl (zA (zL hD hr ⋯ (zA (pv 0) (zA zE zB))) (zA (zL hN hr ⋯ (zA (pv 0) zB)) zB)) rfl)
    (zI (zU (i:=9) scDeeds.nd rfl (Or.inl rfl) (zJ zV (pv 2) (zL hD hr ⋯ (zA (pv 0) (zA (zk yE (by rfl) b4 cA (zA (pv 2) zB)) zB))) (λ_ _=>rfl)))
    (zI (zU (i:=10) scDeeds.nd rfl (Or.inl rfl) (zJ zV (pv 2) (zL hD hr ⋯ (zA (pv 0) (zA (zk yE (by rfl) b4 cA (zA (pv 2) zB)) zB))) (λ_ _=>rfl)))
    (zI (zU (i:=11) scDeeds.nd rfl (Or.inl rfl) (zJ zV (zZ (zA (zM zp (zM zp (pv 3) zE) (zL hD hr ⋯ (zA (pv 0) (zA zE zB)))) (zA (zL hD hr ⋯ (zA (pv 0) (zA (pv 4) zB))) zB))) (yN xg (by rfl) b0 eE (zA (zy zd (zL hD hr ⋯ (zA (pv 0) (zA zE zB))) zE (zO _)) zB)) (λ_ _=>rfl)))
    (zK (zr (xM (zR zd (pv 7) zE (zO _)) (xL (zR xf (pv 11) (pv 4) (zO _)))).pt
     (zK (yI (yH bG bY bZ yk (pv 5) (zA (zm (zA zc (zA (pv 11) zB))) zB))))
     (zK (yI (yH bG bY bZ yk (pv 5) (zA (zJ zV (zZ (zA (zm (zA zc (zA (pv 9) (zA (pv 8) zB)))) (zA (zm (zA zc (zA (pv 9) (zA (pv 10) zB)))) (zA (zm (zA zc (zA (pv 9) zB))) zB)))) (zM xD (pv 7) zE) (λ_ _=>rfl)) zB)))))))))))
   (zK (zW (pv 5)))),?_⟩
  dsimp only [zo,zv];w_up;refine⟨len2 (aX _),λl hl=>?_⟩;let a0:l≠t:=hT.ne hl;let g7:l≠b:=(zF hb hl).symm;let T0:Tape (upd H l (.lst [])) t k:=hT.ext (ts :=[]) (.laid hl) ∅;w_up;refine⟨len2 (by show 2<=1000;decide),λp hp=>?_⟩;let c:p≠t:=T0.ne hp;let e:p≠l:=λz=>by rw [z,zC] at hp;cases hp
  w_up;refine zn (T0.ext (ts :=[]) (.laid hp) ∅) ∎ ⋯ ⋯ λr1 H1 a1 b1 T1 e1 k1=>?_;w_up;refine zw ?_;w_up;refine .inr ⟨_,rfl,?_⟩;refine hide λG_ hG_=>?_;let d9:SqL K H1 p [V.int r,V.int 12]:=SqL.of (by rw [k1 p c,zC]);obtain⟨mo,e0,g8,g9⟩:∃mo:Int,atI [V.int r,V.int 12] (if decide (r1=0)=true then 1 else 0)=some (.int mo)/\0<=mo/\mo<=12:=by
   cases decide (r1=0)
   .exact⟨r,rfl,d6,d7⟩
   .exact⟨12,rfl,⋯,⋯⟩
  refine hG_ ?_;refine ze d9 e0 ?_;w_up;refine zn T1 ∎ ∎ ∎ λr2 H2 a2 b2 T2 e2 k2=>?_;let l2:H2 l=some (.lst []):=by rw [k2 l a0,k1 l a0,zD e.symm,zC]
  let E2:Ext [t] H H2:=(Ext.laid hl).trans ((Ext.laid hp).trans (e1.trans e2));w_up
  refine⟨r2,rfl,∎,∎,xn (lo:=0) (n:=r2.toNat) (λi c0 H' => ∃(ds:List Deed) (O:List V) (o6 o7 o8 o9 R S:Option V),c0 = [some (.ref t),some (.int r),some (.ref b),some (.int first),some (.int works),some (.ref l),o6,o7,o8,o9,R,S]/\ds.length=i/\(∀d∈ds,DeedP works d) /\
   Tape H' t (k+2+10*i)/\Ext [t] H H'/\H' l=some (.lst O)/\DenL K (yo H [t,l] H') (ds.map deedD) O) ?_ ?_ ?_⟩
  .exact⟨[],[],none,none,none,none,none,none,rfl,rfl,(λ_ h=>absurd h ∅),T2.mono ∎,E2,l2,.nil⟩
  .intro i c0 H' hi hq_ N_ B_ C_ R_ hN_ hC_ hR_;refine hide λG_ hG_=>?_;let⟨ds,O,o6,o7,o8,o9,R,S,rfl,c1,c2,c3,X,c4,Y⟩:=hq_;refine hG_ ?_;let h0:O.length=i:=by rw [Y.len,aB,c1]
   w_up;refine zn c3 ∎ ⋯ ⋯ λr3 H3 a3 b3 T3 e3 _=>?_;w_up;refine Qu T3 ∎ λn H4 n0 n1 T4 e4=>?_;w_up;refine⟨_,_,rfl,?_⟩;let E4:Ext [t] H' H4:=e3.trans e4;let M:b ∉ [t]:=by simpa using d8
   let d0:l ∉ [t]:=by simpa using a0
   w_up;refine⟨b,_,rfl,.inl (SqL.of (E4 _ _ M (X _ _ M hb))),?_⟩;rw [aB];w_up;refine zn T4 ∎ (by let:=hB.one;lia) (by let:=hB.few;lia) λr5 H5 a5 b5 T5 e5 _=>?_;let E5:Ext [t] H' H5:=E4.trans e5;let⟨L,d1,f0⟩:=vB (ns:=bs) a5 b5;refine ze (SqL.of (E5 _ _ M (X _ _ M hb))) f0 ?_;w_up;refine⟨b,_,rfl,.inl (SqL.of (E5 _ _ M (X _ _ M hb))),?_⟩;rw [aB];w_up;refine zn T5 ∎ (by let:=hB.one;lia) (by let:=hB.few;lia) λr6 H6 a6 b6 T6 e6 _=>?_;let E6:Ext [t] H' H6:=E5.trans e6;let⟨ox,d2,f1⟩:=vB (ns:=bs) a6 b6;refine ze (SqL.of (E6 _ _ M (X _ _ M hb))) f1 ?_;w_up;refine zn T6 ∎ ⋯ ⋯ λr7 H7 a7 b7 T7 e7 _=>?_
   w_up;refine zn T7 ∎ ∎ ∎ λr8 H8 a8 b8 T8 e8 _=>?_;w_up;refine⟨len2 (by show 2<=1000;decide),λp1 c5=>?_⟩;let f4:p1≠t:=T8.ne c5;w_up;refine zn (T8.ext (ts :=[]) (.laid c5) ∅) ∎ ⋯ ⋯ λr9 H9 a9 b9 T9 e9 k9=>?_;w_up;refine zw ?_;w_up;refine .inr ⟨_,rfl,?_⟩;let E9:Ext [t] H' H9:=(E6.trans (e7.trans e8)).trans ((Ext.laid c5).trans e9);let f5:SqL K H9 p1 [V.int (first+1+r7),V.int r8]:=SqL.of (by rw [k9 p1 f4,zC]);obtain⟨ca,f6,f7⟩:∃ca:Int,atI [V.int (first+1+r7),V.int r8] (if decide (r9=0)=true then 1 else 0)=some (.int ca)/\0<=ca:=by
    cases decide (r9=0)
    .exact⟨_,rfl,∎⟩
    .exact⟨_,rfl,∎⟩
   refine ze f5 f6 ?_;let Z:H9 l=some (.lst O):=E9 _ _ d0 c4;let fin:∀(d:Deed) (H6:Hp) (p:Addr),DeedP works d->Ext [] H9 H6->p≠t->p≠l->Den K (yo H [t,l] H6) (deedD d) (.ref p) -> ∀o6 o7 o8 o9 R S:Option V,∃(ds:List Deed) (d3:List V) (p6 p7 p8 p9 f8 f9:Option V),[some (V.ref t),some (.int r),some (.ref b),some (.int first),some (.int works),some (.ref l),o6,o7,o8,o9,R,S] = [some (V.ref t),some (.int r),some (.ref b),some (.int first),some (.int works),some (.ref l),p6,p7,p8,p9,f8,f9]/\ds.length=i+1/\(∀d∈ds,DeedP works d) /\
     Tape (upd H6 l (.lst (O ++ [.ref p]))) t (k+2+10*(i+1))/\Ext [t] H (upd H6 l (.lst (O ++ [.ref p])))/\(upd H6 l (.lst (O ++ [.ref p]))) l=some (.lst d3)/\DenL K (yo H [t,l] (upd H6 l (.lst (O ++ [.ref p])))) (ds.map deedD) d3:=by
    intro d H6 p hd e6 c e c6 o6 o7 o8 o9 R S;let g0:Ext [l,t] H9 (upd H6 l (.lst (O ++ [.ref p]))):=(e6.mono ∅).trans (.put ∅);let d4:Ext [l,t] H' (upd H6 l (.lst (O ++ [.ref p]))):=(E9.mono ∅).trans g0;refine⟨ds ++ [d],O ++ [.ref p],o6,o7,o8,o9,R,S,rfl,by rw [aG,c1];rfl,λz hz=>?_,?_,?_,zC,?_⟩
    .rcases aJ.mp hz with y | y
     .exact c2 z y
     .rw [aF.mp y];exact hd
    .exact ((T9.ext e6 ∅).ext (ts :=[l]) (.put ∅) (by simpa using a0.symm)).mono ∎
    .exact ((X.mono ∅).trans d4).drop hl
    .rw [aP];exact DenL.append (Y.mono (d4.mono ∅).young) (.cons (c6.mono (Ext.put ∅).young) .nil)
   let sz:O.length<sizeLine:=zb ∎;w_up;refine zw ?_;w_up;refine ite2 (λg=>?_) (λg=>?_)
   .w_up;refine ite2 (λg2=>?_) (λg2=>?_)
    .let g2:=of_decide_eq_true g2;w_up;refine yA Z ?_;w_up;refine⟨len2 (by show 2<=1000;decide),λp hp=>?_⟩;let c:=T9.ne hp;let a:=hp;let e:p≠l:=(zF Z hp).symm;w_up;refine yL (by rw [zD e.symm];exact Z) sz ?_;refine yF hN_ (fin (.call ca) _ p ⟨f7,g2⟩ (.laid hp) c e (.tuple (SqT.of ?_) (.cons .str (.cons .int .nil))) _ _ _ _ _ _);rw [zt ((X.trans E9).none (by simpa using c) a) (by simp [c,e]),zC]
    .w_up;refine yA Z ?_;w_up;refine⟨len2 (by show 3<=1000;decide),λC D=>?_⟩;w_up;refine⟨len2 (by show 3<=1000;decide),λu G=>?_⟩;w_up;refine⟨len2 (by show 2<=1000;decide),λx B=>?_⟩;w_up;refine⟨len2 (by show 3<=1000;decide),λs4 I=>?_⟩;let J:C≠u:=zF zC G;let T:C≠x:=zF (by rw [zD J,zC]) B;let U:u≠x:=zF zC B;let c7:C≠s4:=zF (by rw [zD T,zD J,zC]) I;let c8:u≠s4:=zF (by rw [zD U,zC]) I;let c9:x≠s4:=zF zC I;let f2:H9 u=none:=by rw [zD J.symm] at G;exact G
     let f3:H9 x=none:=by rw [zD U.symm,zD T.symm] at B;exact B
     let E0:=(Ext.laid (ts :=[]) (o :=.tup [V.str "set",.int L,.int n]) D).trans ((Ext.laid (o :=.tup [V.str "add",.int L,.int ox]) G).trans ((Ext.laid (o :=.tup [V.str "tell",.int L]) B).trans (Ext.laid (o :=.lst [V.ref C,.ref u,.ref x]) I)));let W:=E0 _ _ ∅ Z;let m:=hB.all _ d1;let N:=hB.all _ d2;w_up;refine yq ⋯ ?_;let h3:r3%3=0\/r3%3=1\/r3%3=2:=by lia
     let q4:SqL K (upd (upd (upd (upd H9 C (.tup [V.str "set",.int L,.int n])) u (.tup [V.str "add",.int L,.int ox])) x (.tup [V.str "tell",.int L])) s4 (.lst [V.ref C,.ref u,.ref x])) s4 [V.ref C,.ref u,.ref x]:=SqL.of zC;rcases h3 with h | h | h
     .refine ze (v:=V.ref C) q4 (by rw [h];rfl) ?_;w_up;let c:=T9.ne D;let a:=D;let e:C≠l:=(zF Z D).symm;refine yL W sz ?_;refine yF hN_ (fin (.set L n) _ C ⟨m.1,m.2,n0,n1⟩ E0 c e (.tuple (SqT.of ?_) (.cons .str (.cons .int (.cons .int .nil)))) _ _ _ _ _ _);rw [zt ((X.trans E9).none (by simpa using c) a) (by simp [c,e]),zD c7,zD T,zD J,zC]
     .refine ze (v:=V.ref u) q4 (by rw [h];rfl) ?_;w_up;let c:=T9.ne f2;let a:=f2;let e:u≠l:=(zF Z f2).symm;refine yL W sz ?_;refine yF hN_ (fin (.add L ox) _ u ⟨m.1,m.2,N.1,N.2⟩ E0 c e (.tuple (SqT.of ?_) (.cons .str (.cons .int (.cons .int .nil)))) _ _ _ _ _ _);rw [zt ((X.trans E9).none (by simpa using c) a) (by simp [c,e]),zD c8,zD U,zC]
     .refine ze (v:=V.ref x) q4 (by rw [h];rfl) ?_;w_up;let c:=T9.ne f3;let a:=f3;let e:x≠l:=(zF Z f3).symm;refine yL W sz ?_;refine yF hN_ (fin (.tell L) _ x ⟨m.1,m.2⟩ E0 c e (.tuple (SqT.of ?_) (.cons .str (.cons .int .nil))) _ _ _ _ _ _);rw [zt ((X.trans E9).none (by simpa using c) a) (by simp [c,e]),zD c9,zC]
   .refine iteF ?_;w_up;refine yA Z ?_;w_up;refine⟨len2 (by show 3<=1000;decide),λC D=>?_⟩;w_up;refine⟨len2 (by show 3<=1000;decide),λu G=>?_⟩;w_up;refine⟨len2 (by show 2<=1000;decide),λx B=>?_⟩;w_up;refine⟨len2 (by show 3<=1000;decide),λs4 I=>?_⟩;let J:C≠u:=zF zC G;let T:C≠x:=zF (by rw [zD J,zC]) B;let U:u≠x:=zF zC B;let c7:C≠s4:=zF (by rw [zD T,zD J,zC]) I;let c8:u≠s4:=zF (by rw [zD U,zC]) I;let c9:x≠s4:=zF zC I;let f2:H9 u=none:=by rw [zD J.symm] at G;exact G
    let f3:H9 x=none:=by rw [zD U.symm,zD T.symm] at B;exact B
    let E0:=(Ext.laid (ts :=[]) (o :=.tup [V.str "set",.int L,.int n]) D).trans ((Ext.laid (o :=.tup [V.str "add",.int L,.int ox]) G).trans ((Ext.laid (o :=.tup [V.str "tell",.int L]) B).trans (Ext.laid (o :=.lst [V.ref C,.ref u,.ref x]) I)));let W:=E0 _ _ ∅ Z;let m:=hB.all _ d1;let N:=hB.all _ d2;w_up;refine yq ⋯ ?_;let h3:r3%3=0\/r3%3=1\/r3%3=2:=by lia
    let q4:SqL K (upd (upd (upd (upd H9 C (.tup [V.str "set",.int L,.int n])) u (.tup [V.str "add",.int L,.int ox])) x (.tup [V.str "tell",.int L])) s4 (.lst [V.ref C,.ref u,.ref x])) s4 [V.ref C,.ref u,.ref x]:=SqL.of zC;rcases h3 with h | h | h
    .refine ze (v:=V.ref C) q4 (by rw [h];rfl) ?_;w_up;let c:=T9.ne D;let a:=D;let e:C≠l:=(zF Z D).symm;refine yL W sz ?_;refine yF hN_ (fin (.set L n) _ C ⟨m.1,m.2,n0,n1⟩ E0 c e (.tuple (SqT.of ?_) (.cons .str (.cons .int (.cons .int .nil)))) _ _ _ _ _ _);rw [zt ((X.trans E9).none (by simpa using c) a) (by simp [c,e]),zD c7,zD T,zD J,zC]
    .refine ze (v:=V.ref u) q4 (by rw [h];rfl) ?_;w_up;let c:=T9.ne f2;let a:=f2;let e:u≠l:=(zF Z f2).symm;refine yL W sz ?_;refine yF hN_ (fin (.add L ox) _ u ⟨m.1,m.2,N.1,N.2⟩ E0 c e (.tuple (SqT.of ?_) (.cons .str (.cons .int (.cons .int .nil)))) _ _ _ _ _ _);rw [zt ((X.trans E9).none (by simpa using c) a) (by simp [c,e]),zD c8,zD U,zC]
    .refine ze (v:=V.ref x) q4 (by rw [h];rfl) ?_;w_up;let c:=T9.ne f3;let a:=f3;let e:x≠l:=(zF Z f3).symm;refine yL W sz ?_;refine yF hN_ (fin (.tell L) _ x ⟨m.1,m.2⟩ E0 c e (.tuple (SqT.of ?_) (.cons .str (.cons .int .nil))) _ _ _ _ _ _);rw [zt ((X.trans E9).none (by simpa using c) a) (by simp [c,e]),zD c9,zC]
  .intro c0 H' hq_;refine hide λG_ hG_=>?_;let⟨ds,O,o6,o7,o8,o9,R,S,rfl,c1,c2,c3,X,c4,Y⟩:=hq_;refine hG_ ?_;w_up;refine q l ds H' hl (c3.mono ∎) X c2 ∎ (.list (SqL.of ?_) (Y.mono (Ql ∅)));rw [zt hl (by simpa using a0)];exact c4
noncomputable abbrev io:Stmt:=top 20
theorem scWorks:FnScope ["_law_tape_here","_law_most","_law_works_here","_law_found","_law_first","_law_many_here"] ["_law_tape_here","_law_most"] (zT io):=⟨rfl,rfl,rfl,by decide +kernel,rfl,by decide +kernel,by decide +kernel⟩
theorem qU0(F:Fun K "_law_works" "_law_works" io f fd)(Z:mg "range" = none)(b5:mg "int" = none)(hD:Has P w K mg base "_law_draw" 1 ["_law_tape_here","_law_many_here"] yp)
  (hM:Has P w K mg base "_law_many" 2 ["_law_tape_here"] Qq) (hW:Has P w K mg base "_law_work" 4 ["_law_tape_here","_law_many_here","_law_most","_law_first","_law_works_here"] (qPd K)) :
  FnOk P w K mg base CX0 5 f fd ["_law_tape_here","_law_most"] (qMd K):=by
 refine F.ok scWorks (λvs H Q E h=>?_) (λc8 A c0 s H vs Q E hr h=>?_)
 .refine hide λG_ hG_=>?_;let⟨t,k,g,rfl,_⟩:=h;refine hG_ ?_;rfl
 .refine hide λG_ hG_=>?_;let⟨t,k,g,rfl,hT,hk,a0,a4,q⟩:=h;refine hG_ ?_
  refine⟨_,zI (zU (i:=2) scWorks.nd rfl (Or.inl rfl) (zJ zV (zZ (zA (zM zp zE (zL hD hr ⋯ (zA (pv 0) (zA zE zB)))) (zA (zM zp zE (zL hD hr ⋯ (zA (pv 0) (zA zE zB)))) zB)))
    (yN xg (by rfl) b5 eE (zA (zy zd (zL hD hr ⋯ (zA (pv 0) (zA zE zB))) zE (zO _)) zB)) (λ_ _=>rfl)))
   (zI (zU (i:=3) scWorks.nd rfl (Or.inl rfl) (zZ zB))
   (zI (yX cS rfl (yW rfl Z (zA (pv 2) zB)) (zN (i:=4) scWorks.nd rfl (Or.inl rfl))
    (zI (zU (i:=5) scWorks.nd rfl (Or.inl rfl) (xc (zR xf (pv 2) zE (zO _)) (zL hM hr ⋯ (zA (pv 0) zB)) (zM zp zE (zL hD hr ⋯ (zA (pv 0) (zA zE zB))))))
    (zK (yI (yH bG bY bZ yk (pv 3) (zA (zL hW hr ⋯ (zA (pv 0) (zA (pv 5) (zA (pv 1) (zA (pv 4) (zA (pv 2) zB)))))) zB))))))
   (zK (zW (pv 3))))),?_⟩
  dsimp only [zo];w_up;refine zn hT ∎ ⋯ ⋯ λr1 H1 a1 b1 T1 e1 _=>?_;w_up;refine zn T1 ∎ ⋯ ⋯ λr2 H2 a2 b2 T2 e2 _=>?_;w_up;refine⟨len2 (by show 2<=1000;decide),λp hp=>?_⟩;let np:p≠t:=T2.ne hp;w_up;refine zn (T2.ext (.laid (ts :=[]) hp) ∅) ∎ ⋯ ⋯ λr3 H3 a3 b3 T3 e3 k3=>?_;w_up;refine zw ?_;w_up;refine .inr ⟨_,rfl,?_⟩;refine hide λG_ hG_=>?_;let e4:Ext [t] H H3:=(e1.trans e2).trans ((Ext.laid hp).trans e3);let hL:SqL K H3 p [V.int (1+r1),V.int (5+r2)]:=SqL.of (by rw [k3 p np,zC]);obtain⟨n,c9,d0,en⟩:∃n:Int,1<=n/\n<=10/\atI [V.int (1+r1),V.int (5+r2)] (if decide (r3=0)=true then (1:Int) else 0)=some (.int n):=by
   cases c:decide (r3=0) with
   | true=>exact⟨5+r2,∎,∎,rfl⟩
   | false=>exact⟨1+r1,∎,∎,rfl⟩
  refine hG_ ?_;refine ze hL en ?_;clear en hL k3 e3 hp np;w_up;refine⟨len2 (aX _),λl hl=>?_⟩;let B:l≠t:=T3.ne hl;let b6:H l=none:=e4.none (by simpa using B) hl;w_up
  refine⟨n,rfl,∎,∎,xn (lo:=0) (n:=n.toNat) (λi a6 G => ∃(d:List Addr) (ws:List (List Blk)) (o4 o5:Option V),a6 = [some (.ref t),some (.int g),some (.int n),some (.ref l),o4,o5]/\d.length=i/\(∀w∈ws,∃m:Int,1<=m/\m<=12/\WorkOk m n w)/\(∀w∈ws,∀b∈w,Fw n b) /\
   l∉d/\(∀a∈d,H a=none/\a≠t)/\d.Nodup/\Tape G t (k+3+2003*i)/\Ext [l,t] H3 G/\G l=some (.lst (d.map V.ref))/\WorksAt K (yo H (l::t::d) G) G d ws) ?_ ?_ ?_⟩
  .exact⟨[],[],_,_,rfl,rfl,∅,∅,∅,∅,.nil,T3.ext (ts :=[]) (.laid hl) ∅,.laid hl,zC,.nil⟩
  .intro i a6 G hi hq_ N_ B_ C_ R_ hN_ hC_ hR_;refine hide λG_ hG_=>?_;let⟨d,ws,o4,o5,rfl,b7,a7,I,a5,has,a8,T',e',J,hA⟩:=hq_;refine hG_ ?_;let d1:i<10:=by lia
   let EH:Ext [l,t] H G:=(e4.mono ∅).trans e';w_up;let fin:∀(m:Int) (X u:Hp) (a:Addr) (w1:List Blk) (bs:List V),1<=m->m<=12->Ext [t] G X->X a=none->a≠t->Tape u t (k+3+2003*(i+1))->Ext [t] X u->WorkOk m n w1->(∀b∈w1,Fw n b)->u a=some (.lst bs)->DenL K (yo X [a,t] u) (w1.map blkD) bs -> ∀o4 o5:Option V,
     u l=some (.lst (d.map V.ref)) /\ ∃(C:List Addr) (a9:List (List Blk)) (c1 c2:Option V),[some (V.ref t),some (.int g),some (.int n),some (.ref l),o4,o5] = [some (V.ref t),some (.int g),some (.int n),some (.ref l),c1,c2]/\C.length=i+1/\(∀w∈a9,∃m:Int,1<=m/\m<=12/\WorkOk m n w)/\(∀w∈a9,∀b∈w,Fw n b) /\
     l∉C/\(∀a∈C,H a=none/\a≠t)/\C.Nodup/\Tape (upd u l (.lst (d.map V.ref ++ [V.ref a]))) t (k+3+2003*(i+1))/\Ext [l,t] H3 (upd u l (.lst (d.map V.ref ++ [V.ref a])))/\(upd u l (.lst (d.map V.ref ++ [V.ref a]))) l=some (.lst (C.map V.ref))/\WorksAt K (yo H (l::t::C) (upd u l (.lst (d.map V.ref ++ [V.ref a])))) (upd u l (.lst (d.map V.ref ++ [V.ref a]))) C a9:=by
    intro m X u a w1 bs a0 a4 Y ha D T6 e6 L M N v o4 o5;let l5:X l=some (.lst (d.map V.ref)):=Y _ _ (by simpa using B) J;let l6:u l=some (.lst (d.map V.ref)):=e6 _ _ (by simpa using B) l5;let b0:a≠l:=(zF l5 ha).symm;let O:G a=none:=Y.none (by simpa using D) ha;let c3:H a=none:=EH.none (by simp [b0,D]) O;let b8:a∉d:=λhm=>by
     refine hide λG_ hG_=>?_;let⟨j,hj,e⟩:=bJ hm;let⟨_,c4,_,R,_⟩:=hA.get (i:=j) (a:=a) (by rw [aC hj,e]);refine hG_ ?_;rw [O] at R;cases R
    let E6:Ext [l,t] G (upd u l (.lst (d.map V.ref ++ [V.ref a]))):=(Y.mono ∅).trans ((e6.mono ∅).trans (.put ∅));refine⟨l6,d ++ [a],ws ++ [w1],o4,o5,rfl,by rw [aG,b7];rfl,?_,?_,by simp [a5,b0.symm],?_,?_,?_,e'.trans E6,by rw [zC,aP];rfl,?_⟩
    .intro w hw;rcases aJ.mp hw with z | z
     .exact a7 w z
     .rw [aF.mp z];exact⟨m,a0,a4,L⟩
    .intro w hw;rcases aJ.mp hw with z | z
     .exact I w z
     .rw [aF.mp z];exact M
    .intro b hb;rcases aJ.mp hb with z | z
     .exact has b z
     .rw [aF.mp z];exact⟨c3,D⟩
    .exact cG.mpr ⟨a8,∅,by intro x hx y hy;simp at hy;subst hy;intro e;subst e;exact b8 hx⟩
    .exact T6.ext (ts :=[l]) (.put ∅) (by simpa using B.symm)
    .let key:Same (yo H (l::t::d) G) (yo H (l::t::(d ++ [a])) (upd u l (.lst (d.map V.ref ++ [V.ref a])))):=λb o e=>by
      let⟨h1,h2,h3⟩:=xE e;let nb:b≠a:=λz=>by rw [z,O] at h3;cases h3
      let c5:b ∉ [l,t]:=λz=>h2 (by rcases aL.mp z with z | z <;> simp_all)
      rw [zt h1 (λz=>h2 (by
       rcases aL.mp z with z | z
       .simp [z]
       .rcases aL.mp z with z | z
        .simp [z]
        .rcases aJ.mp z with z | z
         .simp [z]
         .exact absurd (by simpa using z) nb))]
      exact E6 _ _ c5 h3
     refine (hA.mono key λb hb o e=>?_).snoc (bs:=bs) ?_ (v.mono λb o e=>?_)
     .let S:b≠l:=λz=>a5 (z▸hb);exact E6 _ _ (by simp [S,(has b hb).2]) e
     .rw [zD b0];exact N
     .let⟨h1,h2,h3⟩:=xE e;let S:b≠l:=λz=>by rw [z,l5] at h1;cases h1
      let b4:b≠t:=λz=>h2 (by simp [z]);let c6:b≠a:=λz=>h2 (by simp [z]);let b9:G b=none:=Y.none (by simpa using b4) h1
      rw [zt (EH.none (by simp [S,b4]) b9) (by
       intro z;rcases aL.mp z with z | z
       .exact S z
       .rcases aL.mp z with z | z
        .exact b4 z
        .rcases aJ.mp z with z | z
         .refine hide λG_ hG_=>?_;let⟨j,hj,e⟩:=bJ z;let⟨_,c4,_,R,_⟩:=hA.get (i:=j) (a:=b) (by rw [aC hj,e]);refine hG_ ?_;rw [b9] at R;cases R
         .exact c6 (by simpa using z)),zD S]
      exact h3
   refine ite2 (λc7=>?_) (λc7=>?_)
   .w_up;refine Qu T' ∎ λm X T U T5 Y=>?_;w_up;refine yA (Y _ _ (by simpa using B) J) ?_;w_up;refine⟨t,_,m,g,_,n,rfl,T5,∎,T,U,a0,a4,∎,∎,∎,∎,λa w1 bs u ha D T6 e6 L M N v=>?_⟩;let⟨l6,W⟩:=fin m X u a w1 bs T U Y ha D (T6.mono ∎) e6 L M N v _ _;w_up;exact yL l6 (zb (by rw [aB];lia)) (yF hN_ W)
   .w_up;refine zn T' ∎ ⋯ ⋯ λr X T U T5 Y _=>?_;w_up;refine yA (Y _ _ (by simpa using B) J) ?_;w_up;refine⟨t,_,1+r,g,_,n,rfl,T5,∎,∎,∎,a0,a4,∎,∎,∎,∎,λa w1 bs u ha D T6 e6 L M N v=>?_⟩;let⟨l6,W⟩:=fin (1+r) X u a w1 bs ∎ ∎ Y ha D (T6.mono ∎) e6 L M N v _ _;w_up;exact yL l6 (zb (by rw [aB];lia)) (yF hN_ W)
  .intro a6 G hq_;refine hide λG_ hG_=>?_;let⟨d,ws,o4,o5,rfl,b7,a7,I,a5,has,a8,T',e',J,hA⟩:=hq_;refine hG_ ?_;w_up;let d2:=hA.len;exact q l d ws G b6 B a5 has a8 (T'.mono ∎) ((e4.mono ∅).trans e' |>.drop b6) J hA ⟨by rw [show ((ws.length:Nat):Int)=n by lia];exact a7,∎,∎⟩ (by rw [show ((ws.length:Nat):Int)=n by lia];exact I)
noncomputable abbrev ip:Stmt:=top 3
theorem scWordOn:FnScope ["way","inside","begin","to"] ["way","inside"] (zT ip):=⟨rfl,rfl,rfl,by decide +kernel,rfl,by decide +kernel,by decide +kernel⟩
theorem qQw{k:FuncData}(F:Fun K "word_on" "word_on" ip f k):FnOk P w K mg base CX0 1 f k ["way","inside"] (qMe K):=by
 refine F.ok scWordOn (λl H Q E h=>?_) (λm A g s H l Q E r h=>?_)
 .let⟨p,c,b,t,a,rfl,_⟩:=h;rfl
 .let⟨p,c,b,t,a,rfl,o,j,q⟩:=h
  refine⟨_,(zI (xN (pv 0) (xC (n:=2) rfl (zl (zN (i:=2) scWordOn.nd rfl (Or.inl rfl)) (zl (zN (i:=3) scWordOn.nd rfl (Or.inl rfl)) yR))))
   (zI (zr (zR zd (zy (inK K rfl) (pv 2) (pv 1) rfl) (zy (inK K rfl) (pv 3) (pv 1) rfl) (zO _)) (zK (zW oH)) yC)
   (zK (zW (xc (zR (inK K rfl) (pv 3) (pv 1) rfl) zc zc))))),?_⟩
  dsimp only [zo,zv,yi];w_up;refine yU o rfl ?_;w_up;refine⟨c,_,rfl,.inl j,rfl,xT _,?_⟩;rw [if_neg aK,xS];w_up;refine⟨c,_,rfl,.inl j,rfl,xT _,?_⟩;rw [if_neg aK,xS];refine⟨rfl,_,rfl,?_⟩;by_cases d:decide (b∈a)=decide (t∈a)
  .rw [decide_eq_true (show V.bl (decide (b∈a))=V.bl (decide (t∈a)) by rw [d]),if_pos rfl];let e:wordV (decide (b∈a)) (decide (t∈a)) = .non:=if_pos d;rw [e] at q;w_up;exact q
  .rw [decide_eq_false (show ¬V.bl (decide (b∈a))=V.bl (decide (t∈a)) from λz=>d (V.bl.inj z)),if_neg aK];let e:wordV (decide (b∈a)) (decide (t∈a)) = .str (wdS (decide (t∈a))):=if_neg d;rw [e] at q;w_up;refine⟨c,_,rfl,.inl j,rfl,xT _,?_⟩;rw [if_neg aK,xS];refine⟨_,rfl,?_⟩;cases hd:decide (t∈a) with
   | true =>
    rw [hd] at q;exact q
   | false =>
    rw [hd] at q;exact q
noncomputable abbrev iq:Stmt:=top 4
theorem scPutOn:FnScope ["work","plan","words"] ["work","plan"] (zT iq):=⟨rfl,rfl,rfl,by decide +kernel,rfl,by decide +kernel,by decide +kernel⟩
theorem qU2(F:Fun K "put_on" "put_on" iq f fd)(X:mg "sorted" = none)(c6:Has P w K mg base "ways_of" 1 ["work"] (jB K))(c7:Has P w K mg base "word_on" 1 ["way","inside"] (qMe K)):FnOk P w K mg base CX0 2 f fd ["work","plan"] (ja K):=by
 refine F.ok scPutOn (λvs H Q E h=>?_) (λf9 A c8 s H vs Q E hr h=>?_)
 .let⟨wa,d,g,m,works,bs,as,f,rfl,_⟩:=h;rfl
 .let⟨wa,d,g,m,works,bs,as,f,rfl,hW,a6,hm,hP,c9,b4,q⟩:=h;let hu:=yZ hr
  refine⟨_,(zI (qXa (qZn (i:=2) ["way","box"] [1] rfl (.of rfl) scPutOn.nd rfl (Or.inl rfl) (yJ (zL c6 hr ⋯ (zA (pv 0) zB))) (λ_ _ _ _=>(zN (i:=0) (by show (((["way","box","plan"]:List Str))).Nodup;decide) rfl (Or.inl rfl))) (λ_ _ _ _ =>.nil) (λ_ _ _ _=>(qTr (pv 2))) (λ_ _ _ _=>(zN (i:=1) (by show (((["way","box","plan"]:List Str))).Nodup;decide) rfl (Or.inl rfl))) (λ_ _ _ _ =>.nil) (λ_ _ _ _=>(zm (zA (pv 0) (zA (zL c7 hr ⋯ (zA (pv 0) (zA (qXd hu (pv 2) (pv 1) (λ_ _=>rfl)) zB))) (zA (pv 1) zB)))))))
   (zK (zW (zk (qOm (qYt hr)) (by rfl) X eI (zA (yK ["row"] [] rfl (.of rfl) (yJ (pv 2)) (λ_ _ _ _=>(zN (i:=0) (by show (((["row"]:List Str))).Nodup;decide) rfl (Or.inl rfl))) (λ_ _ _ _ =>.cons (zR qXj (zJ (yh K rfl) (pv 0) zE (λ_ _=>rfl)) oH (zO _)) .nil) (λ_ _ _ _=>(pv 0))) zB))))),?_⟩
  dsimp only [zo,zv,yi,yc,yd];let g0:=a6.len;let d0:∀b∈g,b.ns.length<=2:=λb hb=>(a6.blk b hb).ns.few;let g1:=xp d0 g.length;let d1:∀o u,H d≠some (.frz o u):=λo u z=>by rw [hP.dict] at z;cases z
  w_up;refine qWz ?_;w_up;refine⟨wa,g,m,works,rfl,hW,a6,hm,λlw us H1 b5 e1 Y d2=>?_⟩;let Z:=e1 _ _ ∅ hP.dict;let dU:DenL K H1 ((zG g g.length).map pairD) us:=d2.mono yo_same;let a7:=dU.len;rw [aB] at a7;refine⟨lw,rfl,⟨_,SqL.of Y⟩,λI M=>?_⟩;let N:d≠I:=zF Z M;let d3:lw≠I:=zF Y M;let d4:lw≠d:=λz=>by rw [z,hP.dict] at b5;cases b5
  let d5:∀(j:Nat) (a:Addr) (b:Int),as[j]? = some a->bs[j]? = some b->H1 a=some (.lst ((f b).map V.int))/\a≠d:=λj a b h1 h2=>by
   let⟨ns,h3,h4⟩:=hP.lists.get h1;rw [aU,h2] at h3;let h3:f b=ns:=bB h3;rw [h3];exact⟨e1 _ _ ∅ h4,λz=>hP.nda (z▸aN h1)⟩
  generalize a8:planK bs as=D at Z;refine yr (xs:=us) (λi e G => ∃(o0 o1:Option V) (ts:List Addr),e = [o0,o1,some (.ref d)]/\Ext [d,I] H1 G/\((i=0/\G d=some (.dK D)) \/ ∃o,G d=some (.frz o (.dK D)))/\G I=some (.lst (ts.map V.ref))/\TriL K f G ts (((zG g g.length).take i).flatMap λw=>bs.map λb=>(w,b))) ?_ ?_ ?_ ?_
  .exact⟨none,none,[],rfl,.laid M,.inl ⟨rfl,by rw [zD N];exact Z⟩,zC,.nil⟩
  .rintro i e G hi ⟨o0,o1,ts,rfl,e2,B,O,hT⟩;exact SqL.of (e2 _ _ (by simpa using ⟨d4,d3⟩) Y)
  .rintro i x e G R hx ⟨o0,o1,ts,rfl,e2,B,O,hT⟩ hR;let⟨dd,d6,d7⟩:=dU.get hx;let⟨wv,b6,rfl⟩:=zx d6;let d8:i<(zG g g.length).length:=(aI.mp b6).1;let⟨p,ps,rfl,d9,e5⟩:=d7.ofTuple;let⟨v1,q1,rfl,e6,a9⟩:=e5.ofCons;let⟨v2,q2,rfl,e7,b0⟩:=a9.ofCons;let z1:=e6.ofInt;let z2:=e7.ofInt;let z3:=b0.ofNil;subst z1 z2 z3;let b7:Tups H1 G:=e2.tups λu hu xs q=>by
    rcases aL.mp hu with z | z
    .subst z;rcases q with q | ⟨o,q⟩ <;> rw [Z] at q <;> cases q
    .let z:u=I:=by simpa using z
     subst z;rcases q with q | ⟨o,q⟩ <;> rw [M] at q <;> cases q
   let b8:=b7.sq d9;let b9:Rd G d (.dK D):=by
    rcases B with ⟨_,z⟩ | ⟨o,z⟩
    .exact .inl z
    .exact .inr ⟨o,z⟩
   w_up;refine iteT ?_;unfold bNext;refine qTh ?_;w_up;refine⟨d,D,rfl,b9,λo=>?_⟩;let b1:Tups G (upd G d (.frz o (.dK D))):=by
    rcases B with ⟨_,z⟩ | ⟨o',z⟩
    .exact Tups.melt z
    .exact Tups.melt z
   let c0:∀b xs,G b=some (.tup xs)->(upd G d (.frz o (.dK D))) b=some (.tup xs):=λb xs z=>by
    rw [zD];exact z;rintro rfl;rcases B with ⟨_,y⟩ | ⟨o',y⟩ <;> rw [y] at z <;> cases z
   let S:=hT.mono b1 c0;let a0:=b1.sq b8;let b2:Ext [d,I] H1 (upd G d (.frz o (.dK D))):=e2.trans (.put ∅);let L:(upd G d (.frz o (.dK D))) d=some (.frz o (.dK D)):=zC;let n:(upd G d (.frz o (.dK D))) I=some (.lst (ts.map V.ref)):=by rw [zD (cP N)];exact O
   clear c0 b1 hT b8 O b9 B b7 e2;generalize upd G d (.frz o (.dK D))=G' at S a0 b2 L n ⊢;let a3:=S.len;rw [vJ,bD] at a3;let e8:min i (zG g g.length).length*bs.length<=25*8:=Nat.mul_le_mul ∎ b4;refine qRc (λj e C => ∃(o1:Option V) (ts:List Addr),e = [some (.ref p),o1,some (.ref d)]/\Ext [I] G' C/\C I=some (.lst (ts.map V.ref))/\TriL K f C ts ((((zG g g.length).take i).flatMap λw=>bs.map λb=>(w,b))++(bs.take j).map λb=>(wv,b))) ?_ ?_ ?_ ?_
   .exact⟨_,ts,rfl,.refl _ _,n,by rw [List.take_zero,List.map_nil,cE];exact S⟩
   .rintro j e C hj ⟨o1,ts,rfl,T,J,U⟩;exact T _ _ (by simpa using N) L
   .rintro j k v e C R2 hv ⟨o1,a4,rfl,T,J,U⟩ e9;rw [<-a8] at hv;let⟨b,a,hb,ha,rfl,rfl⟩:=qTo hv;let⟨c1,f0⟩:=d5 j a b ha hb;let c2:a≠I:=zF c1 M;let f1:=T _ _ (by simpa using c2) (b2 _ _ (by simpa using ⟨f0,c2⟩) c1);let f2:=T _ _ (by simpa using N) L;let c3:Tups G' C:=T.tups λu hu xs q=>by
     let z:u=I:=by simpa using hu
     subst z;rcases q with q | ⟨o,q⟩ <;> rw [n] at q <;> cases q
    let f3:=U.len;rw [aG,vJ,bD,aB,bD] at f3;w_up;refine iteT ?_;w_up;refine⟨d,.ref a,rfl,.inl ⟨D,Sum.inl b,.inr ⟨o,f2⟩,rfl,by rw [<-a8];exact (qJi c9 hb ha).symm⟩,?_⟩;refine⟨p,a,wv.1,wv.2,f b,rfl,c3.sq a0,SqL.of f1,?_⟩;w_up;refine⟨len2 ∅,λtp a1=>?_⟩;let b3:tp≠I:=λz=>by rw [z,J] at a1;cases a1
    refine⟨_,by rw [zD (cP b3)];exact J,zb (by rw [aB];lia),e9 _ _ ⟨_,a4 ++ [tp],rfl,(T.trans (.laid a1)).trans (.put ∅),by rw [zC,aP];rfl,?_⟩⟩;let t1:bs.take (j+1)=bs.take j ++ [b]:=by rw [fB,hb];rfl
    rw [t1,aP,<-dB];let eT:Tups C (upd (upd C tp (.tup [.ref p,wordV (decide (wv.1∈f b)) (decide (wv.2∈f b)),.int b])) I (.lst (a4.map V.ref ++ [V.ref tp]))):=((Ext.laid (ts :=[]) a1).toSame.tups).trans (Tups.melt (by rw [zD (cP b3)];exact J));refine iN (U.mono eT λc xs z=>?_) ⟨p,?_,(c3.trans eT).sq a0⟩
    .rw [zD (λy=>by rw [y,J] at z;cases z),zD (λy=>by rw [y,a1] at z;cases z)];exact z
    .rw [zD b3,zC];rfl
   .rintro e C ⟨o1,a4,rfl,T,J,U⟩;let f4:D.length=bs.length:=by rw [<-a8];exact qJj hP.len
    rw [f4,bX] at U;refine hR _ _ ⟨_,_,a4,rfl,b2.trans (T.mono ∅),.inr ⟨o,T _ _ (by simpa using N) L⟩,J,?_⟩;rw [yG b6,List.flatMap_append,cO,iM,cE];exact U
  .rintro e G ⟨o0,o1,ts,rfl,e2,B,O,hT⟩;rw [show us.length=(zG g g.length).length from a7,bX] at hT;obtain⟨o,B⟩:∃o,G d=some (.frz o (.dK D)):=by
    rcases B with ⟨z,_⟩ | z
    .rw [a7,yx] at z;cases z
    .exact z
   let a3:=hT.len;rw [vJ] at a3;let e8:(zG g g.length).length*bs.length<=25*8:=Nat.mul_le_mul ∎ b4;let T:=e2.melt Z;let n:(upd G d (.dK D)) I=some (.lst (ts.map V.ref)):=by rw [zD (cP N)];exact O
   let S:TriL K f (upd G d (.dK D)) ts ((zG g g.length).flatMap λw=>bs.map λb=>(w,b)):=hT.mono (Tups.melt B) λb xs z=>by
    rw [zD (λy=>by rw [y,B] at z;cases z)];exact z
   refine⟨d,o,_,B,d1,?_⟩;clear hT O;generalize upd G d (.dK D)=G' at T n S ⊢;let eG:=e1.trans (T.drop M);clear T B e2;w_up;refine⟨I,rfl,⟨_,SqL.of n⟩,λl2 a5=>?_⟩;refine yr (xs:=ts.map V.ref) (λi e C => ∃(o0:Option V) (rs:List Addr),e = [o0]/\Ext [l2] G' C/\C l2=some (.lst (rs.map V.ref))/\rs.length<=i/\RowsI K C (rs.map V.ref) ((((zG g g.length).flatMap λw=>bs.map λb=>(w,b)).take i).filterMap λp=>rowOf f p.1 p.2)) ?_ ?_ ?_ ?_
   .exact⟨none,[],rfl,.laid a5,zC,aX _,.nil⟩
   .rintro i e C hi ⟨o0,rs,rfl,e4,W,c4,hI⟩;exact SqL.of (e4 _ _ (by simpa using zF n a5) n)
   .rintro i x e C R hx ⟨o0,rs,rfl,e4,W,c4,hI⟩ hR;let⟨t,ht,rfl⟩:=zx hx;let d8:i<ts.length:=(aI.mp ht).1;let⟨p,hp,f5,a9,b0⟩:=uI S ht;let eS:=(e4.drop a5).toSame;let a2:=eS _ _ a9;let c5:=eS.tups.sq b0;let f6:=yG hp;w_up;refine zf (SqT.of a2) rfl ?_;refine⟨rfl,_,rfl,?_⟩;let fin:∀ {r:Option K4},rowOf f p.1 p.2=r->(((zG g g.length).flatMap λw=>bs.map λb=>(w,b)).take (i+1)).filterMap (λp=>rowOf f p.1 p.2)=(((zG g g.length).flatMap λw=>bs.map λb=>(w,b)).take i).filterMap (λp=>rowOf f p.1 p.2)++r.toList:=λ{r} hr=>by
     rw [f6,List.filterMap_append,dE,hr];cases r <;> rfl
    by_cases hc:decide (p.1.1∈f p.2)=decide (p.1.2∈f p.2)
    .let e0:wordV (decide (p.1.1∈f p.2)) (decide (p.1.2∈f p.2)) = .non:=if_pos hc;rw [e0,decide_eq_true rfl];refine hR _ _ ⟨_,rs,rfl,e4,W,∎,?_⟩;rw [fin (r:=none) (if_pos hc)];exact cE _▸hI
    .let e0:wordV (decide (p.1.1∈f p.2)) (decide (p.1.2∈f p.2)) = .str (wdS (decide (p.1.2∈f p.2))):=if_neg hc;rw [e0] at a2 ⊢;rw [decide_eq_false ∅];refine iteT (iteT ?_);w_up;refine⟨_,W,zb (by rw [aB];lia),hR _ _ ⟨_,rs ++ [t],rfl,e4.trans (.put ∅),by rw [zC,aP];rfl,by rw [aG,cQ];lia,?_⟩⟩;rw [fin (r:=some (p.1,decide (p.1.2∈f p.2),p.2)) (if_neg hc),aP];let eT:Tups C (upd C l2 (.lst (rs.map V.ref ++ [V.ref t]))):=Tups.melt W;exact iN (hI.mono eT) ⟨t,f5,rfl,eT.sq (SqT.of a2),eT.sq c5⟩
   .rintro e C ⟨o0,rs,rfl,e4,W,c4,hI⟩;rw [aB,a3,<-vJ,bX,<-qH4] at hI;w_up;refine⟨l2,_,_,rfl,SqL.of W,hI,λl ps hl f7 f8=>?_⟩;let eF:Ext [] G' C:=e4.drop a5;let eA:=eG.trans eF;let⟨z1,z2⟩:=qM4 hI f7;let eL:Ext [] C (upd C l (.lst (ps.map (·.1)))) :=.laid hl;exact q l _ _ _ (eA.none ∅ hl) (eA.trans eL) zC (z1.mono eL.toSame.tups) z2 f8
noncomputable abbrev ir:Stmt:=top 29
theorem scLPlan:FnScope ["_law_tape_here","_law_works_here","_law_number_here","_law_found","_law_left","_law_box","_law_way","_law_some","_law_more"] ["_law_tape_here","_law_works_here","_law_number_here"] (zT ir):=⟨rfl,rfl,rfl,by decide +kernel,rfl,by decide +kernel,by decide +kernel⟩
theorem qU4(F:Fun K "_law_plan" "_law_plan" ir f fd)(Y:mg "range" = none)(a7:mg "len" = none)(c2:mg "set" = none)(L:mg "sorted" = none)(hD:Has P w K mg base "_law_draw" 1 ["_law_tape_here","_law_many_here"] yp)(hX:Has P w K mg base "_law_boxes" 2 ["_law_work_here"] (qMj K))(hB:Has P w K mg base "_law_busy" 3 ["_law_works_here","_law_number_here","_law_box"] (qVk K)):FnOk P w K mg base CX0 4 f fd ["_law_tape_here","_law_works_here","_law_number_here"] (qVh K):=by
 refine F.ok scLPlan (λvs H Q E h=>?_) (λh3 A f2 s H vs Q E Z h=>?_)
 .let⟨t,wa,k,ws,n,l,rfl,_⟩:=h;rfl
 .let⟨t,wa,k,ws,n,l,rfl,c3,hk,hW,c4,a0,q⟩:=h;let hu:=yZ Z
  refine⟨_,(zI (wU (i:=3) (j:=4) rfl scLPlan.nd rfl rfl ⋯ rfl rfl (zA QO (zA (zL hX Z ⋯ (zA (zJ zV (pv 1) (pv 2) (λ_ _=>rfl)) zB)) zB)) rfl)
   (zI (oO cS (zR (ux Z) (pv 4) (zZ zB) (zO _))
   (zI (zU (i:=5) scLPlan.nd rfl (Or.inl rfl) (yH bG iE iF QE (pv 4) (zA (zL hD Z ⋯ (zA (pv 0) (zA (zk yE (by rfl) a7 cA (zA (pv 4) zB)) zB))) zB)))
   (zI (zU (i:=6) scLPlan.nd rfl (Or.inr rfl) (zL hD Z ⋯ (zA (pv 0) (zA zE zB))))
   (zI (zU (i:=7) scLPlan.nd rfl (Or.inl rfl) (zL hB Z ⋯ (zA (pv 1) (zA (pv 2) (zA (pv 5) zB)))))
   (zI (vW (i:=8) ["_law_b"] [0,6] rfl (.of rfl) scLPlan.nd rfl (Or.inl rfl) (yW rfl Y (zA (zk yE (by rfl) a7 cA (zA (zJ zV (pv 1) (pv 2) (λ_ _=>rfl)) zB)) zB)) (λ_ _ _ _=>(zN (i:=0) (by show (((["_law_b","_law_tape_here","_law_way"]:List Str))).Nodup;decide) rfl (Or.inl rfl))) (λ_ _ _ _ =>.cons (PW.pt (oK (zR zd (pv 2) zE (zO _)) (oJ (PW.pt (xM (zR uf (pv 2) zE (zO _)) (xL (zR zd (zL hD Z ⋯ (zA (pv 1) (zA zE zB))) zE (zO _)))))))) .nil) (λ_ _ _ _=>(pv 0)))
   (zK (QL hu (pv 3) (pv 5) (zk (ku Z.hd) (by rfl) L eI (zA (yN (ky Z.hd) (by rfl) c2 PyProof.Rows.boot_set (zA (zM vU (pv 7) (pv 8)) zB)) zB)) rfl)))))))
   (zK (zW (pv 3))))),?_⟩
  dsimp only [zo,zv,yi,yc,yd];let⟨m,h4,f3,a1⟩:=c4.all l (aN a0);let h5:=a1.len;let h6:=qKj l;let⟨ta,tb,tc,c5,h1⟩:=id c3;let f4:=Den.off c5 (qJw ws) hW;let dW:∀ {G:Hp},Ext [t] H G->Den K G (yV ws) (.ref wa):=λ{G} e=>(f4.mono e.same).mono (wB _ _);let u:∃o,H t=some o:=⟨_,c5⟩;w_up;refine (show ∀p,_=none->_ from λd hd=>?_);generalize zz:upd H d _=H1;let ⟨ed,b3⟩:=layQq zz hd;let c6:=dW (ed.mono (us :=[t]) ∅);let⟨a',vs,ea,M,N⟩:=c6.ofList;cases ea;let⟨vw,O,S⟩:=N.get' (i:=n) (d:=workD l) (by rw [aU,a0];rfl);let a8:=S;let⟨wb,ub,rfl,a2,B⟩:=S.ofList;w_up;refine ze M (zX O) ?_
  w_up;refine⟨wb,l,m,ws.length,rfl,a8,a1,f3,λlf H2 b5 e2 T=>?_⟩;rw [qM1 a1] at T;refine⟨_,_,rfl,?_⟩;let E2:=ed.trans e2;let f5:PlI H t d lf ws n l (boxes l) (boxes l) [] [] (λ_ =>[]) k H2:=⟨c3.ext E2 ∅,E2.mono ∅,T,⟨e2 _ _ ∅ b3,.nil,rfl,.nil,∅⟩,hd,ed.none ∅ b5,∅,∅,(λz=>by rw [z,b3] at b5;cases b5),.refl _,∅,∅,∅⟩;clear T B a2 a8 N M O c6 b3;w_up;refine⟨LpW H t wa d lf ws n l k,⟨_,_,_,_,_,_,_,_,_,_,rfl,rfl,∎,f5⟩,?_⟩;rintro μ C G ⟨ls,bs,as,f,kk,o5,o6,o7,o8,rfl,rfl,h7,I⟩;w_up;refine⟨len2 (aX _),λc7 b0=>?_⟩;let e3:Ext [] G (upd G c7 (.lst [])) :=.laid b0
  let v:=I.grown u e3;let f6:=I.perm.length_eq;rw [aG] at f6;let c8:∀b∈ls,0<=b/\b<8:=λb hb=>qNj a1 (I.perm.mem_iff.mp (cF _ hb));let f7:(bs++ls).Nodup:=I.perm.symm.nodup ((jD l).imp λh=>by lia);let⟨t1,t2,t3⟩:=jI (ns:=ls) (λn hn=>by let:=c8 n hn;lia) ∎;refine⟨intsD ls,.list [],.list (SqL.of v.left) (DenL.ofInts _),.list (SqL.of zC) .nil,jH t1 t3 ⟨_,rfl⟩,rfl,?_⟩;rw [if_pos rfl,qK8];generalize upd G c7 (.lst [])=G1 at e3 v ⊢;clear e3 I b0;w_up;by_cases hz:ls = []
  .subst hz;rw [decide_eq_true rfl];refine iteF ?_;w_up;let hp:=v.perm;rw [cE] at hp;refine q d bs as f G1 v.fd v.fa (v.tape.mono ∎) v.ext v.plan ⟨hp,v.rise,v.rg,v.busy⟩
  .rw [decide_eq_false hz];let h8:1<=ls.length:=by
    cases ls with
    | nil=>exact absurd rfl hz
    | cons x r=>simp
   refine iteT ⟨λC H' => ∃m',m'<ls.length/\LpW H t wa d lf ws n l k m' C H',λ_ _ h=>h,?_⟩;w_up;refine yA v.left ?_;w_up;refine⟨lf,_,rfl,.inl (SqL.of v.left),?_⟩;rw [aB];w_up;refine zn v.tape ∎ ∎ ∎ λr4 G4 a4 b4 T4 e4 k4=>?_;let I4:=v.keep u e4 T4;let⟨j,rfl⟩:=eM a4;let hj:j<ls.length:=by lia
   clear e4 k4 T4 v;w_up;refine⟨lf,ls.map V.int,(j:Int),j,V.int ls[j],rfl,rfl,I4.left,∎,∎,?_,by rw [aU,aC hj];rfl,?_⟩
   .rw [aB];exact Qx hj
   let c9:=vo hj;let h9:(ls.eraseIdx j).length=ls.length - 1:=by rw [List.length_eraseIdx,if_pos hj]
   let b7:ls[j]∈ls:=dQ hj;let f8:=c8 _ b7;let d0:ls[j]∉bs:=λz=>(cG.mp f7).2.2 _ z _ b7 rfl;let I5:=I4.popped u (ls.eraseIdx j);rw [<-kg];generalize upd G4 lf (.lst ((ls.eraseIdx j).map V.int))=G5 at I5 ⊢;generalize ls[j]=x at c9 b7 f8 d0 ⊢;clear I4;w_up;refine zn I5.tape ∎ ⋯ ⋯ λb8 G6 a6 b6 T6 e6 k6=>?_;let I6:=I5.keep u e6 T6;clear I5 e6 k6 T6;w_up;refine⟨wa,ws,n,l,x,rfl,dW I6.ext,c4,a0,λlb nb G7 d1 e7 b1 f9 g0 d2 g1=>?_⟩;let I7:=I6.grown u e7;let g4:lb≠t:=I6.tape.ne d1;let h2:=jO f9 g0 d2;clear I6 e7 d1;let d3:=dW I7.ext;let⟨a',vs,ea,M,N⟩:=d3.ofList;cases ea;let⟨vw,O,S⟩:=N.get' (i:=n) (d:=workD l) (by rw [aU,a0];rfl)
   let⟨wb,ub,rfl,a2,B⟩:=S.ofList;let g5:ub.length=l.length:=by rw [B.len,aB]
   w_up;refine ze M (zX O) ?_;w_up;refine⟨wb,ub,rfl,.inl a2,?_⟩;rw [g5];refine⟨_,rfl,∎,∎,λD a3=>?_⟩;rw [show ((l.length:Nat):Int).toNat=l.length by lia];clear a2 M S B N O d3;let d4:t≠D:=λz=>by let⟨_,_,_,q1,_⟩:=I7.tape;rw [z,a3] at q1;cases q1
   refine wG (lo:=0) (n:=l.length) (λi C X => ∃(o0:Option V) (ms:List Int) (k8:Nat),C = [o0,some (.ref t),some (.int b8)]/\Ext [D,t] G7 X/\X D=some (.lst (ms.map V.int))/\ms.length<=i/\(∀y∈ms,0<=y/\y<(i:Int))/\Tape X t k8/\k8<=kk+2+i) ?_ ?_ ?_
   .refine⟨none,[],_,rfl,(Ext.laid a3),zC,aH _,∅,I7.tape.ext (ts :=[]) (.laid a3) ∅,∎⟩
   .rintro i C X R hi ⟨o0,ms,k8,rfl,e8,U,g6,a5,T8,g7⟩ hR;let d5:∀ {c:Hp} {W:Nat},Ext [D,t] G7 c->c D=some (.lst (ms.map V.int))->Tape c t W->W<=k8+1->eApp (tVar 0) D [some (.int (0+(i:Int))),some (.ref t),some (.int b8)] c R:=λ{c W} e9 J T9 g8=>by
     w_up;refine⟨_,J,zb (by rw [aB];lia),hR _ _ ⟨_,ms ++ [0+(i:Int)],W,rfl,e9.trans (.put ∅),by rw [zC,aP];rfl,by rw [aG,cQ];lia,λy hy=>?_,T9.ext (ts :=[D]) (.put ∅) (by simpa using d4),∎⟩⟩;rcases aJ.mp hy with z | z
     .let:=a5 y z;lia
     .let z:y=0+(i:Int):=by simpa using z
      lia
    let no:∀ {c:Hp} {W:Nat},Ext [D,t] G7 c->c D=some (.lst (ms.map V.int))->Tape c t W->W<=k8+1->R [some (.int (0+(i:Int))),some (.ref t),some (.int b8)] c:=λ{c W} e9 J T9 g8 =>
     hR _ _ ⟨_,ms,W,rfl,e9,J,∎,λy hy=>by let:=a5 y hy;lia,T9,∎⟩
    w_up;refine zw ⟨_,rfl,?_⟩;refine ite2 (λg=>iteT (iteT (d5 e8 U T8 ∎))) (λg=>?_);w_up;refine ite2 (λg2=>?_) (λg2=>?_)
    .w_up;refine zn T8 ∎ ⋯ ⋯ λr9 c a9 b9 T9 e9 W=>?_;let E9:Ext [D,t] G7 c:=e8.trans (e9.mono ∅);let J:c D=some (.lst (ms.map V.int)):=by rw [W D (cP d4)];exact U
     w_up;refine zw ⟨_,rfl,?_⟩;refine ite2 (λg3=>?_) (λg3=>?_)
     .exact iteT (d5 E9 J T9 ∎)
     .exact iteF (no E9 J T9 ∎)
    .exact iteF (no e8 U T8 ∎)
   .rintro C X ⟨o0,ms,k8,rfl,e8,U,g6,a5,T8,g7⟩;let E8:Ext [t] G7 X:=e8.drop a3;let I8:=I7.keep u E8 T8;let d6:=E8 _ _ (by simpa using g4) b1;clear e8 E8 I7 T8 b1;w_up;refine⟨lb,D,_,_,rfl,rfl,d6,U,len2 (by rw [aB,aB];lia),λf1 d7=>?_⟩;rw [<-aP];generalize zz:upd X f1 _=c;let ⟨X9,b2⟩:=layQq zz d7;w_up;let g9:=vx (nb++ms);rw [aG] at g9;refine⟨f1,_,rfl,SqL.of b2,by rw [aG];lia,λs1 d8=>?_⟩;w_up;refine⟨s1,_,rfl,zC,∎,λlx nx c0 c1 d9=>?_⟩;let EF:Ext [] X (upd c s1 (setO w (yB (nb++ms)))):=X9.trans (.laid d8);let e0:∀y,y∈nx↔y∈nb\/y∈ms:=λy=>by rw [c1.mem_iff,vy,aJ]
    let h0:nx.Pairwise (· < ·):=(d9.and (c1.symm.nodup (kx _))).imp λ{a b} z=>by let⟨z1,z2⟩:=z;lia
    let e1:X lx=none:=EF.none ∅ c0;let EX:Ext [] X (upd (upd c s1 (setO w (yB (nb++ms)))) lx (.lst (nx.map V.int))):=EF.trans (.laid c0);let e5:(upd (upd c s1 (setO w (yB (nb++ms)))) lx (.lst (nx.map V.int))) lx=some (.lst (nx.map V.int)):=zC;generalize upd (upd c s1 (setO w (yB (nb++ms)))) lx (.lst (nx.map V.int))=GX at EX e5 ⊢;clear EF c0 c1 d9 d8 b2 X9 d7;let IX:=I8.put (rs':=ls.eraseIdx j) (x:=x) (ns:=nx) (m:=0) (works:=0) u EX e1 e5 c9.symm d0 h0 (λy hy=>?_) (λy hy=>(e0 y).mpr (.inl (g1 y hy)));w_up;let f0:=(I8.grown u EX).plan;refine⟨d,_,rfl,.inl ⟨_,Sum.inl x,f0.dict,rfl,zb ?_,rfl⟩,?_⟩
    .rw [qJj f0.len];lia
    .refine⟨(ls.eraseIdx j).length,∎,ls.eraseIdx j,_,_,_,k8,_,_,_,_,rfl,rfl,∎,IX⟩
    .rcases (e0 y).mp hy with z | z
     .exact d2 y z
     .exact a5 y z
noncomputable abbrev sHome:Stmt:=top 5
theorem scHome:FnScope ["work","way","ways"] ["work","way"] (zT sHome):=⟨rfl,rfl,rfl,by decide +kernel,rfl,by decide +kernel,by decide +kernel⟩
theorem qXq(F:Fun K "home_of" "home_of" sHome f fd)(C:mg "len" = none)(a1:Has P w K mg base "ways_of" 1 ["work"] (jB K)):FnOk P w K mg base CX0 2 f fd ["work","way"] (uO K homeS):=by
 refine F.ok scHome (λvs H Q E h=>?_) (λb2 A a2 s H vs Q E hr h=>?_)
 .let⟨wa,b,g,m,works,p,rfl,_⟩:=h;rfl
 .let⟨wa,b,g,m,works,p,rfl,hW,D,hm,hb,q⟩:=h;let hu:=yZ hr
  refine⟨_,(zI (zr (zR (Qg hr) (pv 1) (zm (zA (wX wc zE) (zA zE zB))) (zO _)) (zK (zW zc)) yC)
   (zI (zU (i:=2) scHome.nd rfl (Or.inl rfl) (zL a1 hr ⋯ (zA (pv 0) zB)))
   (zI (zr (zR zd (zk yE (by rfl) C cA (zA (yK ["other"] [1] rfl (.of rfl) (yJ (pv 2)) (λ_ _ _ _=>(zN (i:=0) (by show (((["other","way"]:List Str))).Nodup;decide) rfl (Or.inl rfl))) (λ_ _ _ _ =>.cons (zR zd (zJ (yh K rfl) (pv 0) zE (λ_ _=>rfl)) (zJ (yh K rfl) (pv 1) zE (λ_ _=>rfl)) (zO _)) .nil) (λ_ _ _ _=>(pv 0))) zB)) zE (zO _)) (zK (zW zc)) yC)
   (zI (zr (zR zd (zk yE (by rfl) C cA (zA (yK ["other"] [1] rfl (.of rfl) (yJ (pv 2)) (λ_ _ _ _=>(zN (i:=0) (by show (((["other","way"]:List Str))).Nodup;decide) rfl (Or.inl rfl))) (λ_ _ _ _ =>.cons (zR zd (zJ (yh K rfl) (pv 0) zE (λ_ _=>rfl)) (zJ (yh K rfl) (pv 1) zE (λ_ _=>rfl)) (zO _)) .nil) (λ_ _ _ _=>(pv 0))) zB)) zE (zO _)) (zK (zW zc)) yC)
   (zK (zW zc)))))),?_⟩
  dsimp only [zo,zv,yi,yc,yd];let b3:=D.len;let a3:∀b∈g,b.ns.length<=2:=λb hb=>(D.blk b hb).ns.few;let b4:=xp a3 g.length;w_up;refine⟨len2 ⋯,λt0 a4=>?_⟩;let e0:Ext [] H (upd H t0 (.tup [.int (-1),.int 0])) :=.laid a4;let W:=e0.toSame.tups.sq hb;let a5:=hW.mono e0.toSame;let a6:(upd H t0 (.tup [.int (-1),.int 0])) t0=some (.tup [.int (-1),.int 0]):=zC;generalize upd H t0 (.tup [.int (-1),.int 0])=G at *;refine⟨pairD p,pairD (-1,0),denP W,denP (p:=(-1,0)) (.inl (.inl a6)),rfl,rfl,?_⟩;refine⟨_,rfl,?_⟩;rw [show (if false=true then !(pairD p).eqv (pairD (-1,0)) else (pairD p).eqv (pairD (-1,0)))=decide (p=(-1,0)) from qUy _ _];by_cases U:p=(-1,0)
  .rw [if_pos (decide_eq_true U)];w_up;let:=q _ e0;unfold homeS at this;rw [if_pos U] at this;exact this
  .rw [if_neg (by rw [decide_eq_false U];decide)];w_up;refine⟨wa,g,m,works,rfl,a5,D,hm,λlw us H1 b5 e1 k a7=>?_⟩;let I:DenL K H1 ((zG g g.length).map pairD) us:=a7.mono yo_same;let J:=I.len;let a8:=e0.trans e1;rw [aB] at J;let X:=e1.toSame.tups.sq W;w_up;refine⟨lw,rfl,⟨_,SqL.of k⟩,λlc t=>?_⟩;refine yr (xs:=us) (λi e u => ∃(v:Option V) (n:List V),e = [v,some (.ref b)]/\Ext [lc] H1 u/\u lc=some (.lst n)/\n.length=cntO ((zG g g.length).take i) p.1) ?_ ?_ ?_ ?_
   .exact⟨none,[],rfl,.laid t,zC,rfl⟩
   .rintro i e u hi ⟨v,n,rfl,j,d,a⟩;exact SqL.of (j _ _ (by simpa using zF k t) k)
   .rintro i x e u R hx ⟨v,n,rfl,j,d,a⟩ Y;let⟨dd,L,M⟩:=I.get hx;let⟨wv,N,rfl⟩:=zx L;let⟨c,rfl,hc⟩:=uP M;let hT:=qJ2 j t;let a9:=hT.sq hc;let y:=hT.sq X;w_up;refine zw ⟨_,rfl,?_⟩;let o:=qSe N p.1;let O:=qYh ((zG g g.length).take i) p.1;rw [bD] at O;by_cases B:wv.1=p.1
    .rw [if_pos (decide_eq_true B),if_pos rfl];w_up;refine⟨_,d,zb ∎,Y _ _ ⟨_,_,rfl,j.trans (.put ∅),zC,?_⟩⟩;rw [o,if_pos B,aG,a];rfl
    .rw [if_neg (by rw [decide_eq_false B];decide),if_neg ⋯];exact Y _ _ ⟨_,_,rfl,j,d,by rw [o,if_neg B];exact a⟩
   .rintro e G2 ⟨v,n,rfl,j,d,a⟩;rw [J,bX] at a;let S:=j.young1 t;let y:=S.toSame.tups.sq X;let Z:=a8.trans S;w_up;refine⟨lc,n,rfl,.inl (SqL.of d),?_⟩;rw [a];dsimp only;w_up;refine zw ⟨_,rfl,?_⟩;by_cases hz:cntO (zG g g.length) p.1=1
    .rw [if_pos (by rw [hz];rfl)];w_up;let:=q _ Z;unfold homeS at this;rw [if_neg U,if_pos hz] at this;exact this
    .rw [if_neg (by simpa using λz=>hz ∎)];let r:=S _ _ ∅ k;let b0:=I.mono S.toSame;let b1:=Z;let a0:=y;clear d a j;w_up;refine⟨lw,rfl,⟨_,SqL.of r⟩,λT l=>?_⟩;refine yr (xs:=us) (λi e u => ∃(v:Option V) (n:List V),e = [v,some (.ref b)]/\Ext [T] G2 u/\u T=some (.lst n)/\n.length=cntI ((zG g g.length).take i) p.2) ?_ ?_ ?_ ?_
     .exact⟨none,[],rfl,.laid l,zC,rfl⟩
     .rintro i e u hi ⟨v,n,rfl,j,d,a⟩;exact SqL.of (j _ _ (by simpa using zF r l) r)
     .rintro i x e u R hx ⟨v,n,rfl,j,d,a⟩ Y;let⟨dd,L,M⟩:=b0.get hx;let⟨wv,N,rfl⟩:=zx L;let⟨c,rfl,hc⟩:=uP M;let hT:=qJ2 j l;let a9:=hT.sq hc;let y:=hT.sq a0;w_up;refine zw ⟨_,rfl,?_⟩;let o:=qSf N p.2;let O:=qYi ((zG g g.length).take i) p.2;rw [bD] at O;by_cases B:wv.2=p.2
      .rw [if_pos (decide_eq_true B),if_pos rfl];w_up;refine⟨_,d,zb ∎,Y _ _ ⟨_,_,rfl,j.trans (.put ∅),zC,?_⟩⟩;rw [o,if_pos B,aG,a];rfl
      .rw [if_neg (by rw [decide_eq_false B];decide),if_neg ⋯];exact Y _ _ ⟨_,_,rfl,j,d,by rw [o,if_neg B];exact a⟩
     .rintro e G3 ⟨v,n,rfl,j,d,a⟩;rw [J,bX] at a;let S:=j.young1 l;let y:=S.toSame.tups.sq a0;let Z:=b1.trans S;w_up;refine⟨T,n,rfl,.inl (SqL.of d),?_⟩;rw [a];dsimp only;w_up;refine zw ⟨_,rfl,?_⟩;by_cases hy:cntI (zG g g.length) p.2=1
      .rw [if_pos (by rw [hy];rfl)];w_up;let:=q _ Z;unfold homeS at this;rw [if_neg U,if_neg hz,if_pos hy] at this;exact this
      .rw [if_neg (by simpa using λz=>hy ∎)];w_up;let:=q _ Z;unfold homeS at this;rw [if_neg U,if_neg hz,if_neg hy] at this;exact this
noncomputable abbrev iu:Stmt:=top 6
theorem qT6:FnScope ["work","plan"] ["work","plan"] (zT iu):=⟨rfl,rfl,rfl,by decide +kernel,rfl,by decide +kernel,by decide +kernel⟩
theorem qQy(F:Fun K "splits" "splits" iu f fd)(y:mg "sorted" = none)(a2:Has P w K mg base "put_on" 2 ["work","plan"] (ja K))(a3:Has P w K mg base "home_of" 2 ["work","way"] (uO K homeS)):FnOk P w K mg base CX0 3 f fd ["work","plan"] (qMf K):=by
 refine F.ok qT6 (λvs H Q E h=>?_) (λb2 A a4 s H vs Q E hr h=>?_)
 .let⟨wa,d,j,m,works,bs,as,f,rfl,_⟩:=h;rfl
 .let⟨wa,d,j,m,works,bs,as,f,rfl,hW,B,hm,hP,a5,a6,q⟩:=h;let hu:=yZ hr;refine⟨_,(zK (zW (zk (qLz hr.hd) (by rfl) y eI (zA (qZq ["way","word","box"] [0] P w K rfl rfl rfl hu rfl (.of rfl) (yJ (zL a2 hr ⋯ (zA (pv 0) (zA (pv 1) zB)))) (λ_ _ _ _=>(wH (n:=3) K rfl rfl (zl (zN (i:=0) (by show (((["way","word","box","work"]:List Str))).Nodup;decide) rfl (Or.inl rfl)) (zl (zN (i:=1) (by show (((["way","word","box","work"]:List Str))).Nodup;decide) rfl (Or.inl rfl)) (zl (zN (i:=2) (by show (((["way","word","box","work"]:List Str))).Nodup;decide) rfl (Or.inl rfl)) yR))))) (λ_ _ _ _ =>.cons (zR zd (zL a3 hr ⋯ (zA (pv 3) (zA (pv 0) zB))) zc (zO _)) .nil) (λ_ _ _ _=>(pv 0))) zB)))),?_⟩
  dsimp only [zo,zv,yi,yc,yd];let b3:=B.len;let o:∀b∈j,b.ns.length<=2:=λb hb=>(B.blk b hb).ns.few;let b4:=xp o j.length;w_up;refine⟨wa,d,j,m,works,bs,as,f,rfl,hW,B,hm,hP,a5,a6,λlr us ks H1 b5 e1 C D r a7=>?_⟩;let a8:=D.len;refine⟨lr,rfl,⟨_,SqL.of C⟩,λlc N=>?_⟩;let kw:∀k∈ks,k.1∈zG j j.length:=λk M=>(qWv (r.mem_iff.mp M)).1;refine yr (xs:=us) (λi O G => ∃(o0 o1 o2:Option V) (t:List (Addr×(Int×Int))),O = [o0,o1,o2,some (.ref wa)]/\Ext [lc] H1 G/\G lc=some (setTO P w (t.map phi))/\(∀q∈t,SqT K G q.1 [.int q.2.1,.int q.2.2])/\(t.map (·.2)).Nodup /\ ∀v,v∈t.map (·.2)↔(∃k∈ks.take i,k.1=v)/\homeS (zG j j.length) v=("split" : Str)) ?_ ?_ ?_ ?_
  .refine⟨none,none,none,[],rfl,.laid N,zC,λq I=>(by cases I),gY,λv=>⟨λz=>(by cases z),λ⟨⟨k,M,_⟩,_⟩=>(by rw [List.take_zero] at M;cases M)⟩⟩
  .rintro i O G hi ⟨o0,o1,o2,t,rfl,Z,S,J,o,u⟩;exact SqL.of (Z _ _ (by simpa using zF C N) C)
  .rintro i x O G R hx ⟨o0,o1,o2,t,rfl,Z,S,J,o,u⟩ hR;let⟨k,M,a,c,rfl,ha,hc⟩:=uI D hx;let e3:=Z.young1 N;let a9:=e3.toSame.tups.sq ha;let a0:=e3.toSame.tups.sq hc;let b0:=(hW.mono e1.toSame).mono e3.toSame;refine yU a9 rfl ?_;w_up;refine⟨wa,c,j,m,works,k.1,rfl,b0,B,hm,a0,λG' e4=>?_⟩;w_up;refine yT ⟨_,rfl,?_⟩;let tk:ks.take (i+1)=ks.take i ++ [k]:=yG M;let e5:Ext [lc] H1 G':=Z.trans (e4.mono ∅);let W:=e4 _ _ ∅ S;let X:∀q∈t,SqT K G' q.1 [.int q.2.1,.int q.2.2]:=λq I=>e4.toSame.tups.sq (J q I);let T:=e4.toSame.tups.sq a0;let b6:t.length<=(zG j j.length).length:=by
    let h1:(t.map (·.2)).length<=(zG j j.length).length:=dM o (λv hv=>by
     obtain⟨⟨L,g,e⟩,_⟩:=(u v).mp hv
     exact e▸kw L (List.mem_of_mem_take g))
    rwa [aB] at h1
   by_cases U:homeS (zG j j.length) k.1=("split" : Str)
   .rw [if_pos (decide_eq_true U),if_pos rfl];unfold eAddT;w_up;refine⟨t.map phi,c,tOf k.1,rfl,W,λq I=>?_,T,by rw [aB];lia,?_⟩
    .let⟨q',Y,rfl⟩:=aY.mp I;exact X q' Y
    .rw [qYn];let eT:Tups G' (upd G' lc (setTO P w ((addP t c k.1).map phi))):=Tups.melt W (λxs=>⟨(λz=>by cases z),λ_ z=>by cases z⟩);refine hR _ _ ⟨_,_,_,addP t c k.1,rfl,e5.trans (.put ∅),zC,λq I=>eT.sq ?_,qOp o,λv=>?_⟩
     .rcases qRa I with z | z
      .exact X q z
      .subst z;exact T
     .rw [qUi,u,tk];constructor
      .rintro (⟨⟨L,g,e⟩,p⟩ | rfl)
       .exact⟨⟨L,bI _ g,e⟩,p⟩
       .exact⟨⟨k,∅,rfl⟩,U⟩
      .rintro⟨⟨L,g,e⟩,p⟩;rcases aJ.mp g with z | z
       .exact .inl ⟨⟨L,z,e⟩,p⟩
       .let z:L=k:=by simpa using z
        subst z;exact .inr e.symm
   .rw [if_neg (by rw [decide_eq_false U];decide),if_neg ⋯];refine hR _ _ ⟨_,_,_,t,rfl,e5,W,X,o,λv=>?_⟩;rw [u,tk];constructor
    .rintro⟨⟨L,g,e⟩,p⟩;exact⟨⟨L,bI _ g,e⟩,p⟩
    .rintro⟨⟨L,g,e⟩,p⟩;rcases aJ.mp g with z | z
     .exact⟨⟨L,z,e⟩,p⟩
     .let z:L=k:=by simpa using z
      subst z;subst e;exact absurd p U
  .rintro O G ⟨o0,o1,o2,t,rfl,Z,S,J,o,u⟩;rw [a8,bX] at u;w_up;let e3:=Z.young1 N;refine⟨lc,t.map phi,rfl,S,λq I=>?_,λl rs hl pr up=>?_⟩
   .let⟨q',Y,rfl⟩:=aY.mp I;exact⟨J q' Y,λz=>by cases z⟩
   .let⟨rq,pq,rfl⟩:=jf pr;let b1:(rq.map (·.2)).Nodup:=((pq.map (·.2)).nodup_iff).mpr o;let a1:=qNx up b1;let he:rq.map (·.2)=zh (zG j j.length) bs f:=ki a1 ((uA B).sublist List.filter_sublist) λv=>by
     rw [(pq.map (·.2)).mem_iff,u,qOd];constructor
     .rintro⟨⟨k,M,e⟩,U⟩;exact⟨⟨k,r.mem_iff.mp M,e⟩,U⟩
     .rintro⟨⟨k,M,e⟩,U⟩;exact⟨⟨k,r.mem_iff.mpr M,e⟩,U⟩
    let eA:Ext [] H G:=e1.trans e3;let eB:Ext [] G (upd G l (.lst ((rq.map phi).map λq=>V.ref q.1))) :=.laid hl;refine q l _ _ (eA.none ∅ hl) (eA.trans eB) zC ?_;rw [<-he];exact qKa λq I=>eB.toSame.tups.sq (J q (pq.mem_iff.mp I))
end Fs
local macro_rules | `(tactic| walk_at "rh") => `(tactic| repeat (with_reducible first | (refine L2.vi ?_; intro NN_ hNN_) | walk_at "qa" | refine L2.yF (by assumption) ?_ | (refine L2.vj ?_; intro NA_ NB_ hNA_ hNB_) | walk_at "qd"))
namespace Fs
open PySem L2
noncomputable abbrev iw:Stmt:=top 31
theorem qPn:FnScope ["_law_tape_here"] ["_law_tape_here"] (zT iw):=⟨rfl,rfl,rfl,by decide +kernel,rfl,by decide +kernel,by decide +kernel⟩
theorem qO6(F:Fun K "_law_choices" "_law_choices" iw f Z)(a:mg "range" = none)(hD:Has P w K mg base "_law_draw" 1 ["_law_tape_here","_law_many_here"] yp):FnOk P w K mg base CX0 2 f Z ["_law_tape_here"] (qVi 200 201 (-1) 2):=by
 refine F.ok qPn (λvs H Q E h=>?_) (λa2 A D s H vs Q E hr h=>?_)
 .refine hide λG_ hG_=>?_;let⟨t,k,rfl,_⟩:=h;refine hG_ ?_;rfl
 .refine hide λG_ hG_=>?_;let⟨t,k,rfl,T,hk,q⟩:=h;refine hG_ ?_;refine⟨_,(zK (zW (yK ["_law_k"] [0] rfl (.of rfl) (yW rfl a (zA (zJ zV (zZ (zA zE (zA zE (zA zE (zA zE (zA zE zB)))))) (zL hD hr ⋯ (zA (pv 0) (zA zE zB))) (λ_ _=>rfl)) zB)) (λ_ _ _ _=>(zN (i:=0) (by show (((["_law_k","_law_tape_here"]:List Str))).Nodup;decide) rfl (Or.inl rfl))) (λ_ _ _ _ =>.nil) (λ_ _ _ _=>(zJ (Qv K rfl) (zZ (zA zE (zA zE (zA zE (zA zE (zA zE (zA zE (zA (wX wc zE) (zA zE zB))))))))) (zL hD hr ⋯ (zA (pv 1) (zA zE zB))) (λ_ _=>rfl)))))),?_⟩
  try dsimp only [zo,zv]
  z_go;refine⟨len2 (by show 5<=1000;decide),λp hp=>?_⟩;let I:Ext [] H (upd H p (.lst [.int 0,.int 3,.int 12,.int 40,.int 200])) :=.laid hp;let g:(upd H p (.lst [.int 0,.int 3,.int 12,.int 40,.int 200])) p=some (.lst (([0,3,12,40,200]:List Int).map V.int)):=zC;let J:p≠t:=T.ne hp;generalize upd H p (.lst [.int 0,.int 3,.int 12,.int 40,.int 200])=H1 at I g ⊢;let T1:=T.ext I ∅;z_go;refine zn (n:=5) T1 ∎ ⋯ ⋯ λr0 H2 a0 b0 T2 e2 _=>?_;let L:=e2 _ _ (by simpa using J) g;let⟨m,hm,M⟩:=vB (ns :=[0,3,12,40,200]) a0 b0;let a3:0<=m/\m<=200:=by
   simp only [aL,cI,or_false] at hm;lia
  let E2:Ext [t] H H2:=(I.mono ∅).trans e2;z_go;refine ze (SqL.of L) M ?_;z_go;refine⟨m,rfl,∎,∎,λl B=>?_⟩;let b:l≠t:=T2.ne B;let j:H l=none:=E2.none (by simpa using b) B;refine wG (lo:=0) (n:=m.toNat) (λi d G => ∃(o:Option V) (ns:List Int),d = [o,some (.ref t)]/\ns.length=i/\(∀x∈ns,-1<=x/\x<=2)/\G l=some (.lst (ns.map V.int))/\Tape G t (k+1+i)/\Ext [l,t] H G) ?_ ?_ ?_
  .exact⟨_,[],rfl,rfl,(λ_ h=>absurd h ∅),zC,T2.ext (ts :=[]) (.laid B) ∅,(E2.mono ∅).trans (.laid B)⟩
  .intro i d G R hi hq_ hR;refine hide λG_ hG_=>?_;let⟨o,ns,rfl,r,e,N,hT,O⟩:=hq_;refine hG_ ?_;let a4:i<200:=by lia
   z_go;refine iteT ?_;z_go;refine⟨len2 (by show 8<=1000;decide),λu hq=>?_⟩;let C:Ext [] G (upd G u (.lst [.int 0,.int 1,.int 0,.int 1,.int 1,.int 2,.int (-1),.int 0])) :=.laid hq;let v:(upd G u (.lst [.int 0,.int 1,.int 0,.int 1,.int 1,.int 2,.int (-1),.int 0])) u=some (.lst (([0,1,0,1,1,2,-1,0]:List Int).map V.int)):=zC;let S:u≠t:=hT.ne hq;generalize upd G u (.lst [.int 0,.int 1,.int 0,.int 1,.int 1,.int 2,.int (-1),.int 0])=G3 at C v ⊢;z_go;refine zn (n:=8) (hT.ext C ∅) ∎ ⋯ ⋯ λr1 G4 a1 b1 T4 U _=>?_;let W:=U _ _ (by simpa using S) v;let⟨c,hc,y⟩:=vB (ns :=[0,1,0,1,1,2,-1,0]) a1 b1;let X : -1<=c/\c<=2:=by
    simp only [aL,cI,or_false] at hc;lia
   z_go;refine ze (SqL.of W) y ?_;z_go;let Y:=U _ _ (by simpa using b) (C _ _ ∅ N);refine⟨_,Y,zb (by rw [aB];lia),hR _ _ ⟨_,ns ++ [c],rfl,by rw [aG,r];rfl,λx hx=>?_,by rw [zC,aP];rfl,?_,?_⟩⟩
   .rcases aJ.mp hx with z | z
    .exact e x z
    .rw [aF.mp z];exact X
   .rw [<-Nat.add_assoc];exact T4.ext (ts :=[l]) (.put ∅) (by simpa using b.symm)
   .exact ((O.trans (C.mono ∅)).trans (U.mono ∅)).trans (.put ∅)
  .intro d G hq_;refine hide λG_ hG_=>?_;let⟨o,ns,rfl,r,e,N,hT,O⟩:=hq_;refine hG_ ?_;z_go;exact q l ns G j b ∎ e N (hT.mono ∎) (O.drop j)
noncomputable abbrev ix:Stmt:=top 8
theorem scDeedsOn:FnScope ["work","plan","found","way","word","box"] ["work","plan"] (zT ix):=⟨rfl,rfl,rfl,by decide +kernel,rfl,by decide +kernel,by decide +kernel⟩
theorem qO5{c pt:Addr}(F:Fun K "deeds_on" "deeds_on" ix f fd)(d5:fd.code = .ref c)(hB:BMain mg base)(hC:PySem.W.CodeHd base c pt)(M:mg "sorted" = none)(d6:Has P w K mg base "put_on" 2 ["work","plan"] (ja K)):FnOk P w K mg base CX0 4 f fd ["work","plan"] (qJ4 P w K "deeds_on.<locals>.<lambda>" ⟨33,57,33,75⟩ pt):=by
 refine F.okC scDeedsOn (λvs H Q E h=>?_) (λg0 A d7 s H vs Q E d8 hr h=>?_)
 .let⟨wa,d,wk,m,works,bs,as,f,rfl,_⟩:=h;rfl
 .let⟨wa,d,wk,m,works,bs,as,f,rfl,hW,R,hm,hP,b8,d9,b9,hT,q⟩:=h;let hu:=yZ hr
  refine⟨_,(zI (zU (i:=2) scDeedsOn.nd rfl (Or.inl rfl) (qQr (P:=P) (w:=w) rfl rfl))
   (zI (yX cS rfl (yJ (qTs (q := "deeds_on.<locals>.<lambda>") hr hB hC (d8.trans d5) (by rfl) (by rfl) M (zL d6 hr ⋯ (zA (pv 0) (zA (pv 1) zB))))) (xC (n:=3) rfl (zl (zN (i:=3) scDeedsOn.nd rfl (Or.inl rfl)) (zl (zN (i:=4) scDeedsOn.nd rfl (Or.inl rfl)) (zl (zN (i:=5) scDeedsOn.nd rfl (Or.inl rfl)) yR))))
   (zK (yI (yH bG bY bZ yk (qVw (P:=P) (w:=w) rfl rfl gW PySem.F.slot_dict_setdefault PySem.F.type_dict_setdefault (qGu (P:=P) (w:=w) (K:=K) rfl rfl rfl hu) (pv 2) (zA (pv 3) (zA (zZ zB) zB))) (zA (zm (zA (pv 4) (zA (pv 5) zB))) zB)))))
   (zK (zW (pv 2))))),?_⟩
  dsimp only [zo,zv,yi,yc,yd];let g1:=R.len;fin2;refine λr a4=>?_;let e0:Ext [] H (upd H r (mapO P w [])) :=.laid a4;let S:(upd H r (mapO P w [])) r=some (mapO P w []):=zC;let a5:LamTab "deeds_on.<locals>.<lambda>" ⟨33,57,33,75⟩ pt (upd H r (mapO P w [])):=hT.ext e0 ∅ ∅;generalize upd H r (mapO P w [])=H0 at e0 S a5 ⊢;fin2;refine⟨wa,d,wk,m,works,bs,as,f,rfl,hW.mono e0.toSame,R,hm,hP.keep λa _ o q=>e0 _ _ ∅ q,b8,b9,λlr us ks H1 e5 e1 a0 B a6 a7=>?_⟩;let a8:=a5.ext e1 ∅ ∅;refine⟨lr,us,ks,rfl,SqL.of a0,B,a8,λL l ps e2 c0 hl a9 c1 T=>?_⟩;let⟨tb,b0⟩:=a8.some;let c2:Tups H1 L:=e2.tups λu hu xs z=>by
   let:u=pt:=by simpa using hu
   subst this;rcases z with z | ⟨o,z⟩ <;> (rw [b0] at z;cases z)
  let⟨c3,c4⟩:=qM4 B c1;let b1:=c3.mono c2;let b2:=c4.trans a6;let c5:(ps.map (·.2)).length<=200:=qTc hm R b9 b2;let c6:r≠pt:=λz=>by
   let:=e1 _ _ ∅ S;rw [z,b0] at this;cases this
  let b3:L r=some (mapO P w []):=e2 _ _ (by simpa using c6) (e1 _ _ ∅ S);let e6:l≠r:=λz=>by rw [z,e1 _ _ ∅ S] at hl;cases hl
  let hE:Ext [pt] H L:=((e0.trans e1).mono ∅).trans e2;clear B c3 a7 a0 c1 e2 hl c4 e5 a5 a8 b0 c2;let c7:(ps.map (·.1)).length=(ps.map (·.2)).length:=by simp
  generalize hV:ps.map (·.1)=vs at a9 b1 c7;let T:((ps.map (·.2)).map (·.2.2)).Pairwise (· <= ·):=by rw [cU];exact T
  generalize hK:ps.map (·.2)=I at b1 b2 c5 T c7;refine⟨l,rfl,⟨_,SqL.of a9⟩,vA (xs:=vs) (λi U G => ∃(o3 o4 o5:Option V) (t:List ((Int×Int)×Addr×Addr)),U = [some (.ref wa),some (.ref d),some (.ref r),o3,o4,o5]/\Ext [r] L G/\(∀x∈t,L x.2.2=none)/\MvAt P w K G r t (λv=>(I.take i).filter λk=>decide (k.1=v))/\(∀v,v∈t.map (·.1) ↔ ∃k∈I.take i,k.1=v)/\t.length<=i) ?_ ?_ ?_ ?_⟩
  .exact⟨_,_,_,[],rfl,.refl _ _,(λx j=>nomatch j),⟨b3,(λx j=>nomatch j),(λx j=>nomatch j),gY,gY⟩,λv=>⟨(λz=>nomatch z),λ⟨k,O,_⟩=>(by rw [List.take_zero] at O;cases O)⟩,aH _⟩
  .rintro i U G hi ⟨o3,o4,o5,t,rfl,e3,J,X,g,c8⟩;exact SqL.of (e3 _ _ (by simpa using e6) a9)
  .rintro i x U G j ⟨o3,o4,o5,t,rfl,e3,J,X,g,c8⟩ N_ B_ C_ R_ hN_ hC_ hR_;let⟨k,O,a,c,rfl,ha,hc⟩:=uI b1 j;let c9:Tups L G:=e3.tups λu hu xs z=>by
    let:u=r:=by simpa using hu
    subst this;rcases z with z | ⟨o,z⟩ <;> (rw [b3] at z;cases z)
   refine yU (c9.sq ha) rfl ?_;fin2;refine⟨⟨r,rfl,.inl ⟨_,X.dict⟩⟩,?_⟩;fin2;refine⟨len2 (aX _),λz hz=>?_⟩;generalize zz:upd G z _=G1;let ⟨eZ,e7⟩:=layQq zz hz;fin2;let Y:=X.ext eZ;let d0:=eZ.toSame.tups.sq (c9.sq hc);let tk:I.take (i+1)=I.take i ++ [k]:=yG O;let g2:i<I.length:=(aI.mp O).1;let e8:L z=none:=by
    refine e3.none ?_ hz;intro y;let y:z=r:=by simpa using y
    rw [y,X.dict] at hz;cases hz
   let fin:∀(G4:Hp) (C:List ((Int×Int)×Addr×Addr)) (ka la:Addr),Ext [r] L G4->(∀x∈C,L x.2.2=none)->MvAt P w K G4 r C (λv=>(I.take i).filter λk=>decide (k.1=v))->(∀v,v∈C.map (·.1)↔(∃k∈I.take i,k.1=v)\/v=k.1)->C.length<=i+1->(k.1,ka,la)∈C->tyV K "list" (.ref la) G4/\tCons (tTup (tCons (tVar 4) (tCons (tVar 5) tNil))) tNil ((([some (V.ref wa),some (V.ref d),some (V.ref r),o3,o4,o5].set 3 (some (V.ref c))).set 4 (some (V.str (wdS k.2.1)))).set 5 (some (V.int k.2.2))) G4 λxs L=>wn (.ref la) xs L λx H1=>N_ ((([some (V.ref wa),some (V.ref d),some (V.ref r),o3,o4,o5].set 3 (some (V.ref c))).set 4 (some (V.str (wdS k.2.1)))).set 5 (some (V.int k.2.2))) H1:=by
    intro G4 C ka la e4 a1 d1 b4 f9 b5;let⟨d2,d3,e9⟩:=d1.lst _ b5;refine yA d3 ?_;fin2;refine⟨len2 (by show 2<=1000;decide),λp hp=>?_⟩;generalize zz:upd G4 p _=G5;let ⟨eP,f0⟩:=layQq zz hp;fin2;let f1:=d1.ext eP;let a2:=eP _ _ ∅ d3;let f2:d2.length<=200:=by
     let:=e9.len;let h2:=cR (λZ:K4=>decide (Z.1=k.1)) (I.take i);rw [bD] at h2;let h3:d2.length=((I.take i).filter λZ=>decide (Z.1=k.1)).length:=this;lia
    refine yL a2 (zb ∎) (hN_ _ _ ⟨_,_,_,C,rfl,(λb o hb h=>by rw [zD (zF h (a1 _ b5))];exact (e4.trans (eP.mono ∅)) b o hb h),a1,(f1.app b5 a2 f0).cong λx j=>?_,λv=>?_,∎⟩)
    .show (if x.1=k.1 then _ else _)=_;rw [tk,eQ];by_cases D:x.1=k.1
     .rw [if_pos D,List.filter_cons,if_pos (decide_eq_true D.symm)];rfl
     .rw [if_neg D,List.filter_cons,if_neg (by simpa using λz=>D z.symm),List.filter_nil,cE]
    .rw [b4,tk];constructor
     .rintro (⟨Z,N,e⟩ | e)
      .exact⟨Z,bI _ N,e⟩
      .exact⟨k,∅,e.symm⟩
     .rintro⟨Z,N,e⟩;rcases aJ.mp N with y | y
      .exact .inl ⟨Z,y,e⟩
      .rw [aF.mp y] at e;exact .inr e.symm
   let e4:Ext [r] L G1:=e3.trans (eZ.mono ∅);refine⟨r,c,z,mvX t,[.inl k.1.1,.inl k.1.2],rfl,rfl,Y.dict,d0,λp hp=>?_,ju X.nd,zb (by unfold mvX;rw [aB];lia),λp hp e=>?_,λf3=>?_⟩
   .let⟨x,j,rfl⟩:=uV hp;exact Y.key x j
   .let⟨x,j,rfl⟩:=uV hp;let D:=vN e
    exact fin G1 t x.2.1 x.2.2 e4 J Y (λv=>by
     rw [g];refine⟨.inl,λy=>y.elim id λy=>?_⟩;rw [y,<-D]
     exact (g _).mp (aY.mpr ⟨x,j,rfl⟩)) ∎ (by rw [<-D];exact j)
   .let a3:k.1∉t.map (·.1):=λy=>f3 (by
     rw [qMx];let⟨x,j,e⟩:=aY.mp y
     exact aY.mpr ⟨x,j,by rw [e]⟩)
    let f4:z∉t.map (·.2.2):=λy=>by
     let⟨x,j,e⟩:=aY.mp y;let⟨g3,h1,_⟩:=X.lst x j;rw [e,hz] at h1;cases h1
    let f5:=Y.new (v:=k.1) d0 e7 a3 f4 (List.filter_eq_nil_iff.mpr λZ N y=>a3 ((g _).mpr ⟨Z,N,of_decide_eq_true y⟩));rw [show mvX t ++ [([.inl k.1.1,.inl k.1.2],c,z)]=mvX (t ++ [(k.1,c,z)]) from by unfold mvX;rw [aP];rfl];refine fin _ (t ++ [(k.1,c,z)]) c z (e4.trans (.put ∅)) (λx j=>?_) f5 (λv=>?_) (by rw [aG];simp;lia) ∅
    .rcases aJ.mp j with y | y
     .exact J x y
     .rw [aF.mp y];exact e8
    .rw [aP,aJ,g];simp
  .rintro U G ⟨o3,o4,o5,t,rfl,e3,J,X,g,c8⟩;fin2;let f6:=uQ R;let b6:I.take vs.length=I:=cM ∎;rw [b6] at X g;let b7:∀v,(I.filter λk=>decide (k.1=v))=if v∈zG wk wk.length then mvK bs f v else []:=λv=>qWt d9 b8 f6 b2 T
   let f7:Ext [pt] H G:=λb o hb h=>e3 b o (by simpa using zF h a4) (hE b o hb h);let d4:∀v,v∈t.map (·.1)↔v∈zG wk wk.length/\mvK bs f v ≠ []:=λv=>by
    rw [g];constructor
    .rintro⟨k,O,e⟩;let hf:k∈I.filter λk=>decide (k.1=v):=bT.mpr ⟨O,decide_eq_true e⟩;rw [b7] at hf;by_cases hv:v∈zG wk wk.length
     .rw [if_pos hv] at hf;exact⟨hv,λz=>by rw [z] at hf;cases hf⟩
     .rw [if_neg hv] at hf;cases hf
    .rintro⟨hv,f8⟩;let h1:=b7 v;rw [if_pos hv] at h1;let⟨k,O⟩:=List.exists_mem_of_ne_nil _ f8;rw [<-h1] at O;let⟨h2,h3⟩:=bT.mp O;exact⟨k,h2,of_decide_eq_true h3⟩
   refine q r t G a4 (λx j=>hE.none ?_ (J x j)) f7 (c0.ext e3 (by simpa using cP c6) λu hu o v z=>?_) (X.cong λx j=>?_) d4
   .intro y;let y:x.2.2=pt:=by simpa using y
    let⟨g4,h2⟩:=c0.some;rw [<-y,J x j] at h2;cases h2
   .let:u=r:=by simpa using hu
    rw [this,b3] at z;cases z
   .show (I.filter λk=>decide (k.1=x.1))=_;rw [b7,if_pos ((d4 _).mp (aY.mpr ⟨x,j,rfl⟩)).1]
noncomputable abbrev iy:Stmt:=top 9
theorem qTa:FnScope ["at","end","new"] ["at","end","new"] (zT iy):=⟨rfl,rfl,rfl,by decide +kernel,rfl,by decide +kernel,by decide +kernel⟩
theorem qR2(F:Fun K "end_led" "end_led" iy f fd)(g:mg "tuple" = none):FnOk P w K mg base CX0 1 f fd ["at","end","new"] (qMi P w K):=by
 refine F.ok qTa (λD H Q E h=>?_) (λb0 A a0 s H D Q E hr h=>?_)
 .let⟨k,e,I,a,m,u,rfl,_⟩:=h;rfl
 .let⟨k,e,I,a,m,u,rfl,hD,hl,hN,J,q⟩:=h;let hu:=yZ hr;refine⟨_,(zK (zW (zM qXl (zm (zA (zJ zq (pv 1) zE (λ_ _=>rfl)) zB)) (yN qSi (by rfl) g PyProof.Rows.boot_tuple (zA (yK ["to"] [0,2] rfl (.of rfl) (ud (wh wj (pv 1) (wg zE) wf)) (λ_ _ _ _=>(zN (i:=0) (by show (((["to","at","new"]:List Str))).Nodup;decide) rfl (Or.inl rfl))) (λ_ _ _ _ =>.nil) (λ_ _ _ _=>(qVw (P:=P) (w:=w) rfl rfl gW gA PySem.F.type_dict_get (qLn (P:=P) (w:=w) (K:=K) rfl rfl rfl hu) (pv 2) (zA (zm (zA (pv 1) (zA (pv 0) zB))) (zA (pv 0) zB))))) zB))))),?_⟩;dsimp only [zo,zv,yi,yc,yd];let⟨e',ez,hT⟩:=uW hD hl;cases ez;fin2;refine zf hT (show atI (V.str (endW a)::a.map V.int) ((0:Nat):Int)=_ from zX rfl) ?_
  fin2;refine⟨len2 (by show 1<=1000;decide),λp1 a1=>?_⟩;generalize y:upd H p1 _=H1;let ⟨e1,L⟩:=layQq y a1;fin2;refine⟨1,rfl,?_⟩;fin2;refine⟨e,_,rfl,e1.toSame.tups.sq hT,by simp [HT.sIx],λp2 a2=>?_⟩;rw [cut1];generalize y:upd H1 p2 _=H2;let ⟨e2,b⟩:=layQq y a2;refine⟨p2,rfl,⟨_,SqT.of b⟩,λM c=>?_⟩;let⟨kt,a3,l,a4⟩:=(hN.ext (e1.trans e2)).ex;refine jA (xs:=a.map V.int) (λi o G => ∃Y:Option V,o = [Y,some (.int k),some (.ref I)]/\Ext [M] H2 G/\G M=some (.lst (((a.take i).map λt=>toN m u (k,t)).map V.int))) ?_ ?_ ?_ ?_
  .exact⟨none,rfl,.laid c,zC⟩
  .rintro i o G hi ⟨Y,rfl,B,d⟩;exact SqT.of (B _ _ (by simpa using zF b c) b)
  .rintro i x o G R hx ⟨Y,rfl,B,d⟩ hR;let⟨t,ht,rfl⟩:=zx hx;let b1:i<a.length:=(aI.mp ht).1;fin2;rw [if_pos rfl];fin2;let N:=B.young1 c;let O:=N _ _ ∅ a3;refine⟨⟨I,rfl,.inr ⟨_,_,O⟩⟩,?_⟩;fin2;refine⟨len2 (by show 2<=1000;decide),λp3 a5=>?_⟩;generalize y:upd G p3 _=C;let ⟨r,S⟩:=layQq y a5;fin2;let fin:∀n:Int,n=toN m u (k,t) -> ∃D,C M=some (.lst D)/\D.length<sizeLine/\R [some (.int t),some (.int k),some (.ref I)] (upd C M (.lst (D ++ [.int n]))):=λn hn=>by
    refine⟨_,r _ _ ∅ d,zb (by rw [aB,aB,bD];lia),hR _ _ ⟨_,rfl,(B.trans (r.mono ∅)).trans (.put ∅),?_⟩⟩;rw [zC,yG ht,hn,aP,aP];rfl
   refine⟨I,p3,t,kt,_,[.inl k,.inl t],rfl,rfl,r _ _ ∅ O,SqT.of S,λp hp=>r.toSame.tups.sq (N.toSame.tups.sq (a4 p hp)),by rw [l];exact qPc J,?_,λj n hj hn=>?_,λa6=>?_⟩
   .let:=congrArg List.length l;simpa using this
   .rw [l] at hj;let⟨v,Z,e⟩:=zx hj;let ev:((k,t):Int×Int)=v:=vN e;subst ev;let⟨jj,T,e⟩:=zx hn;let a7:j<u.length:=(aI.mp Z).1;rw [List.getElem?_range a7] at T;cases T;refine fin n ?_;unfold toN;rw [if_pos (aN Z),e]
    congr 2
    let⟨h1,h2⟩:=aI.mp Z;exact (qRp J Z).symm
   .refine fin t ?_;unfold toN;rw [if_neg];intro z;exact a6 (by rw [l];exact aY.mpr ⟨_,z,rfl⟩)
  .rintro o G ⟨Y,rfl,B,d⟩;rw [aB,bX] at d;fin2;refine⟨M,_,rfl,SqL.of d,λp4 a8=>?_⟩;let N:=(e1.trans e2).trans (B.young1 c);let U:=(B.young1 c) _ _ ∅ (e2 _ _ ∅ L);generalize y:upd G p4 _=C;let ⟨r,W⟩:=layQq y a8;let X:(a.map λt=>toN m u (k,t)).length=a.length:=aB ..;let hW:endW (a.map λt=>toN m u (k,t))=endW a:=(qV1 X.symm hl).symm;refine⟨p1,p4,_,_,rfl,rfl,SqT.of (r _ _ ∅ U),SqT.of W,∅,?_,λz=>?_,λz p5 a9=>?_⟩
   .simp only [cB,List.length_nil,aB];exact bS (zb ∎)
   .refine q p1 C (N.trans r) (jv ∎ ?_);rw [hW,z];exact SqT.of (r _ _ ∅ U)
   .let e6:Ext [] C (upd C p5 (.tup ([V.str (endW a)]++(a.map λt=>toN m u (k,t)).map V.int))) :=.laid a9;refine q p5 _ ((N.trans r).trans e6) (jv ∎ ?_);rw [hW];exact SqT.of zC
noncomputable abbrev iz:Stmt:=top 10
theorem scBuilt:FnScope ["work","plan","put","split","begins","ends","new","blocks"] ["work","plan"] (zT iz):=⟨rfl,rfl,rfl,by decide +kernel,rfl,by decide +kernel,by decide +kernel⟩
theorem qU7{pt:Addr}(F:Fun K "built" "built" iz f fd)(d9:mg "len" = none)(B:mg "enumerate" = none)(k3:Has P w K mg base "deeds_on" 4 ["work","plan"] (qJ4 P w K "deeds_on.<locals>.<lambda>" ⟨33,57,33,75⟩ pt))(k4:Has P w K mg base "splits" 3 ["work","plan"] (qMf K))(e0:Has P w K mg base "home_of" 2 ["work","way"] (uO K homeS))(k5:Has P w K mg base "end_led" 1 ["at","end","new"] (qMi P w K)):FnOk P w K mg base CX0 5 f fd ["work","plan"] (qPi K "deeds_on.<locals>.<lambda>" ⟨33,57,33,75⟩ pt):=by
 refine F.ok scBuilt (λD H Q E h=>?_) (λo6 A k6 s H D Q E hr h=>?_)
 .let⟨wa,d,c,m,works,bs,as,f,rfl,_⟩:=h;rfl
 .let⟨wa,d,c,m,works,bs,as,f,rfl,hW,J,b9,hm,hP,f0,f6,f7,hT,q⟩:=h;let hu:=yZ hr
  refine⟨_,(zI (zU (i:=2) scBuilt.nd rfl (Or.inr rfl) (zL k3 hr ⋯ (zA (pv 0) (zA (pv 1) zB))))
   (zI (zU (i:=3) scBuilt.nd rfl (Or.inl rfl) (zL k4 hr ⋯ (zA (pv 0) (zA (pv 1) zB))))
   (zI (zU (i:=4) scBuilt.nd rfl (Or.inr rfl) (qQq (Qi ["way"] [0,2] rfl (.of rfl) (qQo (P:=P) (w:=w) rfl rfl (pv 2)) (λ_ _ _ _=>(zN (i:=0) (by show (((["way","work","put"]:List Str))).Nodup;decide) rfl (Or.inl rfl))) (λ_ _ _ _ =>.cons (zR zd (zL e0 hr ⋯ (zA (pv 1) (zA (pv 0) zB))) zc (zO _)) .nil) (λ_ _ _ _=>(zJ (yh K rfl) (pv 0) zE (λ_ _=>rfl))) (λ_ _ _ _=>(jt (P:=P) (w:=w) (K:=K) rfl rfl rfl hu (pv 2) (pv 0) (λ_ _=>rfl))))))
   (zI (zU (i:=5) scBuilt.nd rfl (Or.inr rfl) (qQq (Qi ["way"] [0,2] rfl (.of rfl) (qQo (P:=P) (w:=w) rfl rfl (pv 2)) (λ_ _ _ _=>(zN (i:=0) (by show (((["way","work","put"]:List Str))).Nodup;decide) rfl (Or.inl rfl))) (λ_ _ _ _ =>.cons (zR zd (zL e0 hr ⋯ (zA (pv 1) (zA (pv 0) zB))) zc (zO _)) .nil) (λ_ _ _ _=>(zJ (yh K rfl) (pv 0) zE (λ_ _=>rfl))) (λ_ _ _ _=>(jt (P:=P) (w:=w) (K:=K) rfl rfl rfl hu (pv 2) (pv 0) (λ_ _=>rfl))))))
   (zI (zU (i:=6) scBuilt.nd rfl (Or.inr rfl) (qZs ["at","way"] [0] P w K rfl rfl rfl hu rfl (.of rfl) (uu rfl B (zA (pv 3) zB)) (λ_ _ _ _=>(wH (n:=2) K rfl rfl (zl (zN (i:=0) (by show (((["at","way","work"]:List Str))).Nodup;decide) rfl (Or.inl rfl)) (zl (zN (i:=1) (by show (((["at","way","work"]:List Str))).Nodup;decide) rfl (Or.inl rfl)) yR)))) (λ_ _ _ _ =>.nil) (λ_ _ _ _=>(pv 1)) (λ_ _ _ _=>(zM zp (zk (Qw K rfl) (by rfl) d9 cA (zA (pv 2) zB)) (pv 0)))))
   (zI (vW (i:=7) ["at","deeds","end"] [4,5,6] rfl (.of rfl) scBuilt.nd rfl (Or.inl rfl) (uu rfl B (zA (pv 0) zB)) (λ_ _ _ _=>(wH (n:=2) K rfl rfl (zl (zN (i:=0) (by show (((["at","deeds","end","begins","ends","new"]:List Str))).Nodup;decide) rfl (Or.inl rfl)) (zl (wH (n:=2) K rfl rfl (zl (zN (i:=1) (by show (((["at","deeds","end","begins","ends","new"]:List Str))).Nodup;decide) rfl (Or.inl rfl)) (zl (zN (i:=2) (by show (((["at","deeds","end","begins","ends","new"]:List Str))).Nodup;decide) rfl (Or.inl rfl)) yR))) yR)))) (λ_ _ _ _ =>.nil) (λ_ _ _ _=>(zm (zA (zM (catLK K rfl) (zM (catLK K rfl) (QQ hu (pv 3) (pv 0) (zZ zB) ⟨rfl,rfl,rfl,rfl⟩) (pv 1)) (QQ hu (pv 4) (pv 0) (zZ zB) ⟨rfl,rfl,rfl,rfl⟩)) (zA (zL k5 hr ⋯ (zA (pv 0) (zA (pv 2) (zA (pv 5) zB)))) zB)))))
   (zI (yI (yH bG iV iW ui (pv 7) (zA (yK ["way"] [2] rfl (.of rfl) (yJ (pv 3)) (λ_ _ _ _=>(zN (i:=0) (by show (((["way","put"]:List Str))).Nodup;decide) rfl (Or.inl rfl))) (λ_ _ _ _ =>.nil) (λ_ _ _ _=>(zm (zA (jt (P:=P) (w:=w) (K:=K) rfl rfl rfl hu (pv 1) (pv 0) (λ_ _=>rfl)) (zA (zm (zA zc (zA (zJ (yh K rfl) (pv 0) zE (λ_ _=>rfl)) zB))) zB))))) zB)))
   (zK (zW (pv 7)))))))))),?_⟩
  dsimp only [zo,zv,yi,yc,yd];let a7:=J.len;fin2;refine⟨wa,d,c,m,works,bs,as,f,rfl,hW,J,hm,hP,f0,f6,f7,hT,λT Z H1 f8 k7 e1 c0 hM L=>?_⟩;let k8:∀ {G:Hp},LamTab "deeds_on.<locals>.<lambda>" ⟨33,57,33,75⟩ pt G -> ∀u ∈ [pt],∀v,G u=some v->NoSeq v:=λ{G} h u hu v hv=>by
   let:u=pt:=by simpa using hu
   subst this;let⟨ps,a0⟩:=h.some;rw [a0] at hv;cases hv;exact uX _
  let f9:=hW.apart e1 (k8 hT);let c1:∀a o,H a=some o->(∀ps,o ≠ .tbl ps)->a ∉ [pt]:=λa o h n z=>by
   let z:a=pt:=by simpa using z
   let⟨ps,a0⟩:=hT.some;rw [z,a0] at h;cases h;exact n _ rfl
  let k9:PlanAt H1 d bs as (bs.map f):=hP.keep λa ha o h=>e1 _ _ (by
   rcases aL.mp ha with z | z
   .rw [z];exact c1 _ _ hP.dict λ_ y=>nomatch y
   .let⟨i,hi,ei⟩:=bJ z;let⟨_,_,hy⟩:=hP.lists.get (i:=i) (a:=a) (by rw [aC hi,ei])
    exact c1 _ _ hy λ_ y=>nomatch y) h
  fin2;refine⟨wa,d,c,m,works,bs,as,f,rfl,f9,J,hm,k9,f0,f7,λls us H2 o7 e2 g0 g3=>?_⟩;let a1:=hM.ext e2;let g4:=f9.mono e2.toSame;let o8:=c0.ext0 e2;let l0:∀b∈c,b.ns.length<=2:=λb hb=>(J.blk b hb).ns.few;let o9:=xp l0 c.length;let g5:∀e∈Z,e.1∈zG c c.length:=λe he=>((L _).mp (aY.mpr ⟨e,he,rfl⟩)).1;let g6:Z.length<=900:=by
   let C:(Z.map (·.1)).length<=(zG c c.length).length:=dM hM.nd (λv hv=>((L v).mp hv).1);rw [aB] at C;lia
  fin2;refine⟨T,mvX Z,rfl,.inl a1.dict,λo=>λbd g7=>?_⟩;refine qNb (j:=true) a1 g4 J b9 hm g7 g5 g6 rfl λr G3 kb e3 h3 g8 g9 l1=>?_;refine⟨T,o,_,h3,λo u z=>(nomatch (f8.symm.trans z)),?_⟩;let e4:Ext [] H2 (upd G3 T (mapO P w (mvX Z))):=Ext.melt a1.dict e3;let l3:bd≠T:=λz=>by rw [z,a1.dict] at g8;cases g8
  let h0:(upd G3 T (mapO P w (mvX Z))) bd=some (.dK kb):=by rw [zD l3];exact g9
  generalize upd G3 T (mapO P w (mvX Z))=H3 at e4 h0 ⊢;clear h3 g9 e3 g7 G3 r;let a2:=a1.ext e4;let h4:=g4.mono e4.toSame;fin2;refine⟨T,mvX Z,rfl,.inl a2.dict,λo=>λed h5=>?_⟩;refine qNb (j:=false) a2 h4 J b9 hm h5 g5 g6 rfl λr G3 ke e3 h3 h6 h7 l4=>?_;refine⟨T,o,_,h3,λo u z=>(nomatch (f8.symm.trans z)),?_⟩;let e5:Ext [] H3 (upd G3 T (mapO P w (mvX Z))):=Ext.melt a2.dict e3;let h8:ed≠T:=λz=>by rw [z,a2.dict] at h6;cases h6
  let h9:(upd G3 T (mapO P w (mvX Z))) ed=some (.dK ke):=by rw [zD h8];exact h7
  generalize upd G3 T (mapO P w (mvX Z))=H4 at e5 h9 ⊢;clear h3 h7 e3 h5 G3 r;let l5:=a2.ext e5;let l6:=h4.mono e5.toSame;let l7:=e5 _ _ ∅ h0;let U:=(e4.trans e5) _ _ ∅ g0;let b1:=g3.mono (e4.trans e5).toSame;let c2:us.length=(zh (zG c c.length) bs f).length:=by let:=g3.len;rw [aB] at this;exact this
  let c3:(zh (zG c c.length) bs f).Nodup:=(uQ J).filter _;let p0:=qNr (zG c c.length) bs f;fin2;refine⟨ls,rfl,⟨_,SqL.of U⟩,λnd a3=>?_⟩;let⟨wl,bv,ew,c4,i0⟩:=l6.ofList;cases ew;let b2:=i0.len;rw [aB] at b2;refine Qs (xs:=us) (λi r G => ∃(O o1:Option V) (ks:List (List Key×Addr)),r = [O,o1,some (.ref wa)]/\Ext [nd] H4 G/\G nd=some (tabO P w ks ((List.range i).map λj:Nat=>(c.length:Int)+j))/\ks.map (·.1)=((zh (zG c c.length) bs f).take i).map (λv=>([.inl v.1,.inl v.2]:List Key)) /\ ∀p∈ks,SqT K G p.2 (p.1.map kV)) ?_ ?_ ?_ ?_
  .exact⟨none,none,[],rfl,.laid a3,zC,rfl,λp hp=>nomatch hp⟩
  .rintro i r G hi ⟨O,o1,ks,rfl,e6,C,M,h3⟩;exact SqL.of (e6 _ _ (by simpa using zF U a3) U)
  .rintro i x r G p R hx ⟨O,o1,ks,rfl,e6,C,M,h3⟩ hp hR;let⟨dd,c5,a4⟩:=b1.get hx;let⟨v,hv,rfl⟩:=zx c5;let⟨b,rfl,hb⟩:=uP a4;let e7:=e6.young1 a3;generalize zz:upd G p _=G1;let ⟨eP,c6⟩:=layQq zz hp;refine yU (SqT.of c6) rfl ?_;fin2;rw [if_pos rfl];unfold ePutT;fin2;let e8:=e7.trans eP;refine⟨wa,bv,rfl,.inl (e8.toSame.seq c4),?_⟩;fin2;let l8:i<us.length:=(aI.mp hx).1;let l9:ks.length=i:=by let:=congrArg List.length M;simpa [bD,Nat.min_eq_left (show i<=(zh (zG c c.length) bs f).length by lia)] using this
   let b3:=(e8.toSame).tups.sq hb;let m0:([.inl v.1,.inl v.2]:List Key)∉ks.map (·.1):=by
    rw [M];intro z;let⟨v',m1,ee⟩:=aY.mp z;let:=vN ee;subst this;let⟨y,hy,e9⟩:=bJ m1;rw [bD] at hy;rw [List.getElem_take] at e9;let⟨g1,g2⟩:=aI.mp hv;exact absurd (e9.trans g2.symm) (bL.mp c3 y i ∎ g1 ∎)
   refine⟨ks,_,[.inl v.1,.inl v.2],b,(bv.length:Int)+(i:Int),rfl,rfl,eP _ _ ∅ C,b3,λp hp=>eP.toSame.tups.sq (h3 p hp),by rw [M];exact (qPc c3).sublist (List.Sublist.map _ (List.take_sublist _ _)),by rw [aB,bQ];exact l9,zb ∎,m0,?_⟩;let tp:Tups G1 (upd G1 nd (tabO P w (ks ++ [([.inl v.1,.inl v.2],b)]) (((List.range i).map λj:Nat=>(c.length:Int)+j) ++ [(bv.length:Int)+(i:Int)]))):=Tups.melt (eP _ _ ∅ C) (qR6 _);refine hR _ _ ⟨_,_,ks ++ [([.inl v.1,.inl v.2],b)],rfl,(e6.trans (eP.mono ∅)).trans (.put ∅),?_,?_,λp hp=>tp.sq ?_⟩
   .rw [zC,List.range_succ,aP,b2];rfl
   .rw [aP,M,yG hv,aP];rfl
   .rcases aJ.mp hp with y | y
    .exact eP.toSame.tups.sq (h3 p y)
    .rw [aF.mp y];exact b3
  .rintro r G ⟨O,o1,ks,rfl,e6,C,M,h3⟩;rw [c2,bX] at M;rw [c2] at C;let m2:NewAt P w K G nd c.length (zh (zG c c.length) bs f):=⟨ks,C,M,h3⟩;let e7:=e6.young1 a3;clear C M h3 e6 a3 ks O o1;let a8:=l5.ext e7;let i1:=i0.mono e7.toSame;let W:=jp J b9;let E5:Ext [] H1 G:=((e2.trans e4).trans e5).trans e7;let c7:=E5;let c8:=c0.ext0 E5;let yg:∀ {a:Addr} {I:Hp},I a=none->Ext [] G I -> ∀xs,H a≠some (.lst xs):=λ{a I} h e xs z=>by
    let:=(c7.trans e) _ _ ∅ (e1 _ _ (c1 _ _ z λ_ y=>nomatch y) z);rw [h] at this;cases this
   let i2:=e7 _ _ ∅ U;let i3:=b1.mono e7.toSame;let m3:=e7 _ _ ∅ l7;let m4:=e7 _ _ ∅ h9;fin2;refine⟨wa,rfl,⟨_,e7.toSame.seq c4⟩,λlb N=>?_⟩;let c9:∀e∈Z,e.2.2≠lb:=λe he=>by
    let⟨m5,C,_⟩:=a8.lst e he;exact zF C N
   refine Qs (xs:=bv) (λi r G' => ∃(O o1 o2:Option V) (D:List V),r = [O,o1,o2,some (.ref bd),some (.ref ed),some (.ref nd)]/\Ext [lb] G G'/\G' lb=some (.lst D)/\DenL K (yl H [lb] G') (((c.mapIdx (xt (zG c c.length) c.length bs f)).take i).map blkD) D) ?_ ?_ ?_ ?_
   .exact⟨none,none,none,[],rfl,.laid N,zC,.nil⟩
   .rintro i r G' hi ⟨O,o1,o2,D,rfl,e8,C,M⟩;exact (e8.young1 N).toSame.seq (e7.toSame.seq c4)
   .rintro i x r G' p R hx ⟨O,o1,o2,D,rfl,e8,C,M⟩ hp hR;let⟨p1,i4,a4⟩:=i1.get hx;let⟨b,hb,rfl⟩:=zx i4;let i5:=J.blk b (aN hb);let X:=i5.ns.few;let m6:=i5.few;let⟨ta,ps,rfl,m7,a0⟩:=(show Den K G (.tuple [.list (b.ds.map deedD),endD b.ns]) x from a4).ofTuple;let⟨v1,q1,rfl,m8,m9⟩:=a0.ofCons;let⟨v2,q2,rfl,i6,n0⟩:=m9.ofCons;let z3:=n0.ofNil;subst z3;let⟨dl,dus,rfl,n1,b4⟩:=m8.ofList;let⟨en,rfl,p2⟩:=uW i6 X;let i7:=b4.len;rw [aB] at i7;let e9:=e8.young1 N;generalize zz:upd G' p _=G1;let ⟨eP,c6⟩:=layQq zz hp;refine yU (SqT.of c6) rfl ?_;fin2;let E1:=e9.trans eP;refine yU (E1.toSame.tups.sq m7) rfl ?_
    fin2;rw [if_pos rfl];fin2;refine qS4 (j:=true) (lb:=lb) (n:=3) (k:=(i:Int)) W (a8.ext E1) L l1 (E1 _ _ ∅ m3) (eP _ _ ∅ C) c9 rfl rfl λr1 u1 I a5 n2 i8 p5=>?_;let p6:=i8.len;let p7:=qSq W true (i:Int) bs f;fin2;refine⟨r1,dl,u1,dus,rfl,rfl,SqL.of n2,(E1.trans a5).toSame.seq n1,bS (zb ∎),λp3 n3=>?_⟩;generalize zz:upd I p3 _=G3;let ⟨a9,i9⟩:=layQq zz n3;let E3:=(E1.trans a5).trans a9;refine qS4 (j:=false) (lb:=lb) (n:=4) (k:=(i:Int)) W (a8.ext E3) L l4 (E3 _ _ ∅ m4) (a9 _ _ ∅ (a5 _ _ ∅ (eP _ _ ∅ C))) c9 rfl rfl λr2 u2 G4 a6 n4 j0 p8=>?_;let p9:=j0.len;let q0:=qSq W false (i:Int) bs f
    refine⟨p3,r2,u1++dus,u2,rfl,rfl,SqL.of (a6 _ _ ∅ i9),SqL.of n4,bS (zb (by rw [aG];lia)),λp4 d0=>?_⟩;let d3:Ext [] G4 (upd G4 p4 (.lst (u1++dus++u2))) :=.laid d0;let b5:(upd G4 p4 (.lst (u1++dus++u2))) p4=some (.lst (u1++dus++u2)):=zC;let n5:p4≠lb:=(zF ((a5.trans (a9.trans a6)) _ _ ∅ (eP _ _ ∅ C)) d0).symm;generalize upd G4 p4 (.lst (u1++dus++u2))=G5 at d3 b5 ⊢;let E5:=(E3.trans a6).trans d3;fin2;refine⟨(i:Int),en,nd,b.ns,c.length,zh (zG c c.length) bs f,rfl,i6.mono E5.toSame,X,m2.ext E5,c3,λr5 G6 n6 n7=>?_⟩;fin2;refine⟨len2 (by show 2<=1000;decide),λt ht=>?_⟩;generalize zz:upd G6 t _=G7
    let ⟨j1,d4⟩:=layQq zz ht;let j2:=n6.trans j1;let j3:=d3.trans j2;let j4:=(a9.trans a6).trans j3;let b0:=eP.trans (a5.trans j4);let d5:=e9.trans b0;let j5:=b0 _ _ ∅ C;let d6:=M.len;let q3:i<bv.length:=(aI.mp hx).1;rw [aB,bD] at d6;refine⟨D,j5,zb ∎,hR _ _ ⟨_,_,_,D ++ [.ref t],rfl,(e8.trans (b0.mono ∅)).trans (.put ∅),zC,?_⟩⟩;let hB:(c.mapIdx (xt (zG c c.length) c.length bs f))[i]? = some (xt (zG c c.length) c.length bs f i b):=by rw [List.getElem?_mapIdx,hb];rfl
    rw [yG hB,aP];let sf:Same (yl H [lb] G7) (yl H [lb] (upd G7 lb (.lst (D ++ [V.ref t])))):=(show Ext [lb] G7 (upd G7 lb (.lst (D ++ [V.ref t]))) from .put ∅).yls;refine DenL.append (M.mono ((b0.mono (us :=[lb]) ∅).trans (.put ∅)).yls) (.cons (Den.mono sf ?_) .nil)
    .let j6:Ext [pt] H G7:=e1.trans ((c7.trans d5).mono ∅);let tw:Tups G7 (yl H [lb] G7):=qP0 j6 ((c8.ext0 d5).some) λl hl=>by rw [aF.mp hl];exact⟨_,j5⟩
     let⟨q4,er,n8⟩:=uW n7 (by rw [aB];exact X);cases er;show Den K _ (.tuple [.list (((inB (zG c c.length) i).flatMap (mvL bs f)++b.ds++(ofE (zG c c.length) i).flatMap (mvL bs f)).map deedD),endD (b.ns.map λt=>toN c.length (zh (zG c c.length) bs f) ((i:Int),t))]) _;refine .tuple (tw.sq (SqT.of d4)) (.cons (.list (SqL.of (by rw [xb (by simpa using n5) (yg d0 (E3.trans a6))];exact j2 _ _ ∅ b5)) ?_) (.cons (jv (by rw [aB];exact X) (tw.sq (j1.toSame.tups.sq n8))) .nil));rw [aP,aP,qMy,qMy];exact DenL.append (DenL.append (i8.mono λb xs z=>tw _ _ (j4.toSame.tups _ _ z)).den (qKb (λb xs z=>tw _ _ (d5.toSame.tups _ _ z)) b4)) (j0.mono λb xs z=>tw _ _ (j3.toSame.tups _ _ z)).den
   .rintro r G' ⟨O,o1,o2,D,rfl,e8,C,M⟩;rw [cM (by rw [gF];lia)] at M;let e9:=e8.young1 N;let j7:=a8.ext e9;let b6:=e9 _ _ ∅ i2;let d6:=M.len;rw [aB,gF] at d6;fin2;refine yA C ?_;fin2;refine⟨ls,rfl,⟨_,SqL.of b6⟩,λY S=>?_⟩;let n9:lb≠Y:=zF C S;refine yr (xs:=us) (λi r I => ∃(O:Option V) (ws:List V),r = [O,some (.ref T)]/\Ext [Y] G' I/\I Y=some (.lst ws)/\DenL K (yl H [lb,Y] I) ((((zh (zG c c.length) bs f).map λv=>(⟨mvL bs f v,[v.2]⟩:Blk)).take i).map blkD) ws) ?_ ?_ ?_ ?_
    .exact⟨none,[],rfl,.laid S,zC,.nil⟩
    .rintro i r I hi ⟨O,ws,rfl,f1,f2,f3⟩;exact SqL.of ((f1.young1 S) _ _ ∅ b6)
    .rintro i x r I R hx ⟨O,ws,rfl,f1,f2,f3⟩ hR;let⟨dd,c5,a4⟩:=i3.get hx;let⟨v,hv,rfl⟩:=zx c5;let⟨b,rfl,hb⟩:=uP a4;let f4:=f1.young1 S;let f5:=e9.trans f4;let o3:=f5.toSame.tups.sq hb;let d7:=j7.ext f4;let⟨v1,v2,v3⟩:=mem_split.mp (aN hv);let⟨e,he,ev⟩:=aY.mp ((L v).mpr ⟨v1,wA2 f6 v3⟩);subst ev;let⟨q5,j8,j9⟩:=d7.lst e he;let l8:i<us.length:=(aI.mp hx).1;fin2;rw [if_pos rfl];fin2;refine⟨T,b,mvX Z,([.inl e.1.1,.inl e.1.2],e.2.1,e.2.2),rfl,rfl,.inl d7.dict,o3,λp hp=>?_,ju hM.nd,aY.mpr ⟨e,he,rfl⟩,?_⟩
     .let⟨x,hx,rfl⟩:=uV hp;exact d7.key x hx
     fin2;refine⟨len2 (by show 2<=1000;decide),λg hg=>?_⟩;generalize zz:upd I g _=G3;let ⟨eA,o4⟩:=layQq zz hg;fin2;refine⟨len2 (by show 2<=1000;decide),λt ht=>?_⟩;generalize zz:upd G3 t _=G4;let ⟨eB,d4⟩:=layQq zz ht;let EA:=eA.trans eB;let a7:=f3.len;rw [aB,bD] at a7;let b7:=EA _ _ ∅ f2;let k0:=(f4.trans EA) _ _ ∅ C;refine⟨ws,b7,zb ∎,hR _ _ ⟨_,ws ++ [.ref t],rfl,(f1.trans (EA.mono ∅)).trans (.put ∅),zC,?_⟩⟩;let hB:((zh (zG c c.length) bs f).map λv=>(⟨mvL bs f v,[v.2]⟩:Blk))[i]? = some ⟨mvL bs f e.1,[e.1.2]⟩:=by rw [aU,hv];rfl
     rw [yG hB,aP];let sf:Same (yl H [lb,Y] G4) (yl H [lb,Y] (upd G4 Y (.lst (ws ++ [V.ref t])))):=(show Ext [lb,Y] G4 (upd G4 Y (.lst (ws ++ [V.ref t]))) from .put ∅).yls;refine DenL.append (f3.mono ((EA.mono (us :=[lb,Y]) ∅).trans (.put ∅)).yls) (.cons (Den.mono sf ?_) .nil);let tw:Tups G4 (yl H [lb,Y] G4):=qP0 (e1.trans ((c7.trans (f5.trans EA)).mono ∅)) ((c8.ext0 (f5.trans EA)).some) λl hl=>by
      rcases aL.mp hl with z | z
      .rw [z];exact⟨_,k0⟩
      .rw [aF.mp z];exact⟨_,b7⟩
     let o5:e.2.2 ∉ [lb,Y]:=λz=>by
      rcases aL.mp z with z | z
      .exact c9 e he z
      .let z:=aF.mp z;let⟨m5,y,_⟩:=j7.lst e he;rw [z,S] at y;cases y
     show Den K _ (.tuple [.list (((mvK bs f e.1).map yM).map deedD),.tuple [.str "go",.int e.1.2]]) _;exact .tuple (tw.sq (SqT.of d4)) (.cons (.list (SqL.of (by rw [xb o5 (λxs z=>nomatch (k7 e he).symm.trans z)];exact EA _ _ ∅ j8)) (j9.mono λb xs z=>tw _ _ (EA.toSame.tups _ _ z)).den) (.cons (.tuple (tw.sq (SqT.of (eB _ _ ∅ o4))) (.cons .str (.cons .int .nil))) .nil))
    .rintro r I ⟨O,ws,rfl,f1,f2,f3⟩;rw [c2,cM (by rw [aB];exact aH _)] at f3;let a7:=f3.len;rw [aB,aB] at a7;let k1:I lb=some (.lst D):=f1 _ _ (by simpa using n9) C;fin2;refine⟨lb,Y,D,ws,rfl,rfl,k1,f2,bS (zb ∎),?_⟩;let b8:(upd I lb (.lst (D++ws))) lb=some (.lst (D++ws)):=zC;let eF:Ext [lb,Y] G' (upd I lb (.lst (D++ws))):=(f1.mono ∅).trans (.put ∅);let d8:Ext [] G (upd I lb (.lst (D++ws))):=λb o _ h=>by
      rw [zD (zF h N)];exact (f1.young1 S) _ _ ∅ (e9 _ _ ∅ h)
     let d1:DenL K (yl H [] (upd I lb (.lst (D++ws)))) ((c.mapIdx (xt (zG c c.length) c.length bs f)).map blkD) D:=M.mono λb o z=>by
      let⟨z1,z2,z3⟩:=uY z;rw [xb ∅ z2,zD (by simpa using z1)];exact (f1.young1 S) _ _ ∅ z3
     let d2:DenL K (yl H [] (upd I lb (.lst (D++ws)))) (((zh (zG c c.length) bs f).map λv=>(⟨mvL bs f v,[v.2]⟩:Blk)).map blkD) ws:=f3.mono λb o z=>by
      let⟨z1,z2,z3⟩:=uY z;rw [xb ∅ z2,zD (λy=>z1 (by simp [y]))];exact z3
     generalize upd I lb (.lst (D++ws))=GF at b8 eF d8 d1 d2 ⊢;fin2;let k2:H1 lb=none:=E5.none ∅ N;refine q lb GF (e1.none (λz=>?_) k2) (e1.trans ((E5.trans d8).mono ∅)) (c8.ext0 d8) ?_
     .let z:lb=pt:=by simpa using z
      let⟨ps,y⟩:=c0.some;rw [<-z,k2] at y;cases y
     .show Den K (yl H [] GF) (.list ((c.mapIdx (xt (zG c c.length) c.length bs f)++(zh (zG c c.length) bs f).map λv=>(⟨mvL bs f v,[v.2]⟩:Blk)).map blkD)) _;rw [aP];exact .list (SqL.of (by rw [xb ∅ (yg N (.refl _ _))];exact b8)) (DenL.append d1 d2)
noncomputable abbrev oA:Stmt:=top 11
theorem qNw:FnScope ["works","plans"] ["works","plans"] (zT oA):=⟨rfl,rfl,rfl,by decide +kernel,rfl,by decide +kernel,by decide +kernel⟩
theorem qLl{pt:Addr}(F:Fun K "built_all" "built_all" oA f fd)(M:mg "zip" = none)(a7:Has P w K mg base "built" 5 ["work","plan"] (qPi K "deeds_on.<locals>.<lambda>" ⟨33,57,33,75⟩ pt)):FnOk P w K mg base CX0 6 f fd ["works","plans"] (qH0 K "deeds_on.<locals>.<lambda>" ⟨33,57,33,75⟩ pt):=by
 refine F.ok qNw (λe H Q E h=>?_) (λc2 A a8 s H e Q E hr h=>?_)
 .let⟨wa,pa,N,ps,rfl,_⟩:=h;rfl
 .let⟨wa,pa,N,ps,rfl,hW,O,C,S,hT,q⟩:=h;let t:=yZ hr;refine⟨_,(zK (zW (yK ["work","plan"] [] rfl (.of rfl) (qZo rfl M (zA (pv 0) (zA (pv 1) zB))) (λ_ _ _ _=>(wH (n:=2) K rfl rfl (zl (zN (i:=0) (by show (((["work","plan"]:List Str))).Nodup;decide) rfl (Or.inl rfl)) (zl (zN (i:=1) (by show (((["work","plan"]:List Str))).Nodup;decide) rfl (Or.inl rfl)) yR)))) (λ_ _ _ _ =>.nil) (λ_ _ _ _=>(zL a7 hr ⋯ (zA (pv 0) (zA (pv 1) zB))))))),?_⟩;dsimp only [zo,zv,yi,yc,yd];let⟨wl,uw,ew,T,U⟩:=hW.ofList;cases ew;let a9:=U.len;rw [aB] at a9;let c3:=S.len;fin2;refine qZ9 ?_;fin2;refine⟨wa,pa,rfl,⟨_,T⟩,⟨_,SqL.of C⟩,λa c=>?_⟩
  let⟨c4,j⟩:=hT.some;let W:a≠pt:=λz=>by rw [z,j] at c;cases c
  let X:∀u ∈ [pt,a],∀v,H u=some v->NoSeq v:=λu t v g=>by
   rcases aL.mp t with z | z
   .rw [z,j] at g;cases g;exact uX _
   .rw [aF.mp z,c] at g;cases g
  let Y:∀u ∈ [pt,a],∀v,H u=some v->(∀xs,v ≠ .lst xs) /\ ∀b0,v ≠ .dK b0:=λu t v g=>by
   rcases aL.mp t with z | z
   .rw [z,j] at g;cases g;exact⟨(λ_ y=>nomatch y),λ_ y=>nomatch y⟩
   .rw [aF.mp z,c] at g;cases g
  let Z:pa ∉ [pt,a]:=λz=>(Y pa z _ C).1 _ rfl;refine qUk (xs:=uw) (ys:=ps.map λp=>V.ref p.d) (by rw [aB];lia) (λi k G => ∃(o0 o1:Option V) (e:List V),k = [o0,o1]/\Ext [pt,a] H G/\LamTab "deeds_on.<locals>.<lambda>" ⟨33,57,33,75⟩ pt G/\G a=some (.lst e)/\DenL K (wo [a] G) (((yj N ps).take i).map workD) e) ?_ ?_ ?_ ?_
  .exact⟨none,none,[],rfl,.laid c,hT.ext0 (.laid c),zC,.nil⟩
  .rintro i k G hi ⟨o0,o1,e,rfl,J,r,h1,L⟩;exact⟨(J.sqs X).1 _ _ T,SqL.of (J _ _ Z C)⟩
  .rintro i x y k G p R hx hy ⟨o0,o1,e,rfl,J,r,h1,L⟩ hp hR;let⟨dd,b1,a0⟩:=U.get hx;let⟨wk,D,rfl⟩:=zx b1;let⟨pl,B,rfl⟩:=zx hy;let⟨b2,b3⟩:=S.at_ i pl wk B D;let⟨m,b4,b5,a1⟩:=O.all wk (aN D);let⟨b6,b7,b8⟩:=qH7 b3 a1;let⟨wv,c5,rfl,_,_⟩:=id a0.ofList;generalize zz:upd G p _=G1;let ⟨eP,b9⟩:=layQq zz hp;let e2:Ext [pt,a] H G1:=J.trans (eP.mono ∅);refine yU (SqT.of b9) rfl ?_;fin2;rw [if_pos rfl];fin2;let a2:=r.ext0 eP;refine⟨wv,pl.d,wk,m,N.length,pl.bs,pl.as,pl.f,rfl,a0.apart e2 X,a1,b4,b5,b2.apart e2 Y,b8,b6,b7,a2,λl I hl e3 c0 hD=>?_⟩;let⟨c6,a3⟩:=a2.some;let a4:=eP _ _ ∅ h1
   let a5:I a=some (.lst e):=e3 _ _ (by simpa using W) a4;let c1:=L.len;let c7:i<uw.length:=(aI.mp hx).1;let c8:=O.few;rw [aB,bD] at c1;refine⟨e,a5,zb ∎,hR _ _ ⟨_,_,e ++ [.ref l],rfl,(e2.trans (e3.mono ∅)).trans (.put ∅),c0.ext (show Ext [a] I (upd I a (.lst (e ++ [V.ref l]))) from .put ∅) (by simpa using cP W) (λu t o v z=>?_),zC,?_⟩⟩
   .rw [aF.mp t,a5] at z;cases z
   .let a6:∀u ∈ [pt],∀v,G1 u=some v->NoSeq v:=λu t v g=>by
     rw [aF.mp t,a3] at g;cases g;exact uX _
    rw [yG (qNi B D),aP];let sf:Same (wo [a] I) (wo [a] (upd I a (.lst (e ++ [V.ref l])))):=(show Ext [a] I (upd I a (.lst (e ++ [V.ref l]))) from .put ∅).same;refine DenL.append (((L.mono (eP.mono (us :=[a]) ∅).same).apartW e3 a6).mono sf) (.cons ((hD.mono λb o z=>?_).mono sf) .nil);let⟨z1,z2,z3⟩:=uY z;rw [xP]
    .exact z3
    .intro y;rw [aF.mp y] at z2;exact z2 _ a4
  .rintro k G ⟨o0,o1,e,rfl,J,r,h1,L⟩;let c9:(yj N ps).length=N.length:=by unfold yj;rw [aB,gR];lia
   rw [cM ∎] at L;fin2;refine q a G (λb o hb h=>J b o (λz=>?_) h) r (.list (SqL.of h1) (L.mono (wB _ _)));rcases aL.mp z with y | y
   .exact hb (by simp [y])
   .rw [aF.mp y,c] at h;cases h
noncomputable abbrev oB:Stmt:=top 32
theorem qKz:FnScope ["_law_deed","_law_open_now"] ["_law_deed","_law_open_now"] (zT oB):=⟨rfl,rfl,rfl,by decide +kernel,rfl,by decide +kernel,by decide +kernel⟩
theorem qJv(F:Fun K "_law_deed_right" "_law_deed_right" oB f fd):FnOk P w K mg base CX0 1 f fd ["_law_deed","_law_open_now"] (qGz K):=by
 refine F.ok qKz (λvs H Q E h=>?_) (λa4 A Z s H vs Q E hr h=>?_)
 .let⟨N,p,d,o,s,s',works,rfl,_⟩:=h;rfl
 .let⟨N,p,d,o,t,W,works,rfl,hD,O,R,S,a,q⟩:=h;let hu:=yZ hr
  refine⟨_,(zI (zr (zR (inK K rfl) (zJ zq (pv 0) zE (λ_ _=>rfl)) (zm (zA zc (zA zc zB))) rfl) (zI (zr (zR oU (zy zd (zJ zq (pv 0) zE (λ_ _=>rfl)) zc (zO _)) (zy (inK K rfl) (zJ zq (pv 0) zE (λ_ _=>rfl)) (pv 1) rfl) (zO _)) (zK (zW yQ)) yC)
   (zK (zr (zR zd (zJ zq (pv 0) zE (λ_ _=>rfl)) zc (zO _)) (zK (yI (yH bG bY bZ yk (pv 1) (zA (zJ zq (pv 0) zE (λ_ _=>rfl)) zB)))) (zK (yI (yH bG PySem.F.slot_list_remove PySem.F.type_list_remove qO9 (pv 1) (zA (zJ zq (pv 0) zE (λ_ _=>rfl)) zB))))))) yC)
   (zK (zW (oN (zy (Qy K rfl) (zJ zq (pv 0) zE (λ_ _=>rfl)) (zm (zA zc (zA zc zB))) rfl) (xx (zy (inK K rfl) (zJ zq (pv 0) zE (λ_ _=>rfl)) (pv 1) rfl)))))),?_⟩
  dsimp only [zo,zv,yi,yc,yd];let u:∀b:Int,decide (b∈o)=t b:=λb=>congrFun S.is b;let last:∀(v:List Int) (G:Hp) (X:VK) (b:Int) (r:List V),NxV X Q->SqT K G N (.str (dWd d) :: .int b::r)->G p=some (.lst (v.map V.int))->Ext [p] H G->OpenOk v W->((dWd d = "set" \/ dWd d = "add")->b∈v)->tOrV (tOp (rIn K true) (tOp (rIxT K) (tVar 0) (tC (V.int 0))) (tTup (tCons (tC (V.str "set")) (tCons (tC (V.str "add")) tNil)))) (tOp (rIn K false) (tOp (rIxT K) (tVar 0) (tC (V.int 1))) (tVar 1)) (L2.start ["_law_deed","_law_open_now"] [V.ref N,V.ref p]) G X:=by
   intro v G X b r a0 T a1 eG L hw;refine wAy ?_;fin2;refine zf T (show atI _ ((0:Nat):Int)=_ from zX rfl) ?_;fin2;refine⟨len2 (by show 2<=1000;decide),λU M=>?_⟩;generalize zz:upd G U _=G1;let ⟨l,B⟩:=layQq zz M;refine⟨U,_,rfl,.inr (SqT.of B),rfl,rfl,?_⟩;rw [wAi];let I:=l _ _ ∅ a1;let fin:X (.bl true) G1:=a0 _ _ (q v G1 (eG.trans (l.mono ∅)) I L);by_cases c:dWd d = "set" \/ dWd d = "add"
   .rw [decide_eq_true c];refine⟨_,rfl,iteF ?_⟩;fin2;refine zf (l.toSame.tups.sq T) (show atI _ ((1:Nat):Int)=_ from zX rfl) ?_;fin2;refine⟨p,_,rfl,.inl (SqL.of I),rfl,xT _,?_⟩;rw [xS,decide_eq_true (hw c)];exact fin
   .rw [decide_eq_false c];exact⟨_,rfl,iteT fin⟩
  let first:∀(NA NB:St->Hp->Prop) (σ : St) (c:Bool),c=decide (dWd d = "save" \/ dWd d = "back") -> σ = L2.start ["_law_deed","_law_open_now"] [V.ref N,V.ref p]->(∀G,Ext [] H G->c=true->NA σ G)->(∀G,Ext [] H G->c=false->NB σ G)->rIxT K (V.ref N) (V.int 0) H λx H1=>tTup (tCons (tC (V.str "save")) (tCons (tC (V.str "back")) tNil)) σ H1 λy H2=>rIn K false x y H2 λx H' => ∃k,x=V.bl k/\if k=true then NA σ H' else NB σ H':=by
   intro NA NB σ c m a5 hA hB;refine zf hD (show atI _ ((0:Nat):Int)=_ from zX rfl) ?_;fin2;refine⟨len2 (by show 2<=1000;decide),λU M=>?_⟩;generalize zz:upd H U _=H1;let ⟨l,B⟩:=layQq zz M;refine⟨U,_,rfl,.inr (SqT.of B),rfl,rfl,?_⟩;let a2:inV (V.str (dWd d)) [V.str "save",.str "back"]=c:=by rw [m];exact wAh d
   rw [show (if false=true then !inV (V.str (dWd d)) [V.str "save",.str "back"] else inV (V.str (dWd d)) [V.str "save",.str "back"])=c from a2];refine⟨_,rfl,?_⟩;cases z:c with
   | true=>exact iteT (hA _ l z)
   | false=>exact iteF (hB _ l z)
  obtain⟨b,r,i⟩:∃b r,(dNs d).map V.int=V.int b::r:=by cases d <;> exact⟨_,_,rfl⟩
  fin2;refine first _ _ _ _ rfl rfl (λG l m=>?_) (λG l m=>?_)
  .let g:=l.toSame.tups.sq hD;rw [i] at g;let j:=l _ _ ∅ R;fin2;refine zf g (show atI _ ((0:Nat):Int)=_ from zX rfl) ?_;fin2;refine yT ?_;fin2;refine zf g (show atI _ ((1:Nat):Int)=_ from zX rfl) ?_;fin2;refine⟨p,_,rfl,.inl (SqL.of j),rfl,xT _,?_⟩;rw [show (if false=true then !inV (V.int b) (o.map V.int) else inV (V.int b) (o.map V.int))=inV (V.int b) (o.map V.int) from rfl,xS,u];let a3:(V.bl (decide (dWd d = "back")):V)=V.bl (t b):=by
    cases d with
    | save x =>
     let C:b=x:=by injection i with e _;injection e with e;exact e.symm
     subst C;let : ¬t b=true:=λz=>by simp only [stepD] at a;rw [if_pos z] at a;cases a
     rw [show t b=false by simpa using this];rfl
    | back x =>
     let C:b=x:=by injection i with e _;injection e with e;exact e.symm
     subst C;let:t b=true:=Classical.byContradiction λz=>by simp only [stepD] at a;rw [if_neg z] at a;cases a
     rw [this];rfl
    | _=>exact absurd (of_decide_eq_true m) (by simp only [dWd];decide)
   refine⟨rfl,?_⟩;rw [decide_eq_true a3];refine⟨_,rfl,iteF ?_⟩;fin2;refine zf g (show atI _ ((0:Nat):Int)=_ from zX rfl) ?_;fin2;refine yT ⟨_,rfl,?_⟩;let fin:∀(v:List Int),OpenOk v W->tOrV (tOp (rIn K true) (tOp (rIxT K) (tVar 0) (tC (V.int 0))) (tTup (tCons (tC (V.str "set")) (tCons (tC (V.str "add")) tNil)))) (tOp (rIn K false) (tOp (rIxT K) (tVar 0) (tC (V.int 1))) (tVar 1)) (L2.start ["_law_deed","_law_open_now"] [V.ref N,V.ref p]) (upd G p (.lst (v.map V.int))) Q:=λv L=>by
    let tp:Tups G (upd G p (.lst (v.map V.int))):=Tups.melt j;refine last v _ _ b r (λ_ _ z=>z) (tp.sq g) zC ((l.mono ∅).trans (.put ∅)) L λz=>?_;exfalso;let m:=of_decide_eq_true m;revert z m;exact (by decide:∀s∈sixW,(s = "set" \/ s = "add")->(s = "save" \/ s = "back")->False) _ (jx d)
   by_cases Y:dWd d = "save"
   .rw [decide_eq_true Y];refine iteT ?_;fin2;refine yA j ?_;fin2;refine zf g (show atI _ ((1:Nat):Int)=_ from zX rfl) ?_;fin2;let a6:=S.len;refine yL j (zb (by rw [aB];lia)) ?_;fin2;rw [show o.map V.int ++ [V.int b]=(o ++ [b]).map V.int by rw [aP];rfl];refine fin (o ++ [b]) ?_;cases d with
    | save x =>
     let C:b=x:=by injection i with e _;injection e with e;exact e.symm
     subst C;simp only [stepD] at a;by_cases z:t b=true
     .rw [if_pos z] at a;cases a
     .rw [if_neg z] at a;cases a;exact S.save O z
    | _=>exact absurd Y (by simp only [dWd];decide)
   .rw [decide_eq_false Y];refine iteF ?_;fin2;refine yA j ?_;fin2;refine zf g (show atI _ ((1:Nat):Int)=_ from zX rfl) ?_;fin2;let D:b∈o/\OpenOk (o.erase b) W:=by
     cases d with
     | back x =>
      let C:b=x:=by injection i with e _;injection e with e;exact e.symm
      subst C;simp only [stepD] at a;by_cases z:t b=true
      .rw [if_pos z] at a;cases a;exact⟨of_decide_eq_true ((u b).trans z),S.back⟩
      .rw [if_neg z] at a;cases a
     | save x=>exact absurd rfl Y
     | _=>exact absurd (of_decide_eq_true m) (by simp only [dWd];decide)
    refine⟨p,o,b,rfl,rfl,j,D.1,?_⟩;fin2;exact fin _ D.2
  .let g:=l.toSame.tups.sq hD;rw [i] at g;let j:=l _ _ ∅ R;fin2;let J:W=t/\((dWd d = "set" \/ dWd d = "add")->t b=true):=by
    let m:=of_decide_eq_false m;cases d with
    | save x=>exact absurd (.inl rfl) m
    | back x=>exact absurd (.inr rfl) m
    | tell x=>simp only [stepD] at a;cases a;exact⟨rfl,λz=>absurd z (by simp only [dWd];decide)⟩
    | call x=>simp only [stepD] at a;cases a;exact⟨rfl,λz=>absurd z (by simp only [dWd];decide)⟩
    | set x n =>
     let C:b=x:=by injection i with e _;injection e with e;exact e.symm
     subst C;simp only [stepD] at a;by_cases z:t b=true
     .rw [if_pos z] at a;cases a;exact⟨rfl,λ_=>z⟩
     .rw [if_neg z] at a;cases a
    | add x n =>
     let C:b=x:=by injection i with e _;injection e with e;exact e.symm
     subst C;simp only [stepD] at a;by_cases z:t b=true
     .rw [if_pos z] at a;cases a;exact⟨rfl,λ_=>z⟩
     .rw [if_neg z] at a;cases a
   refine last o G _ b r (λ_ _ z=>z) g j (l.mono ∅) (J.1▸S) λz=>?_;exact of_decide_eq_true ((u b).trans (J.2 z))
noncomputable abbrev oC:Stmt:=top 33
theorem scTurns:FnScope ["_law_works_here","_law_number_here","_law_choices_here","_law_most","_law_stack","_law_taken","_law_turn","_law_frame","_law_deeds_here","_law_end","_law_deed","_law_other"] ["_law_works_here","_law_number_here","_law_choices_here","_law_most"] (zT oC):=⟨rfl,rfl,rfl,by decide +kernel,rfl,by decide +kernel,by decide +kernel⟩
theorem qU1(F:Fun K "_law_turns_right" "_law_turns_right" oC f fd)(a2:mg "range" = none)(R:mg "len" = none)(b5:mg "int" = none)(f1:Has P w K mg base "_law_deed_right" 1 ["_law_deed","_law_open_now"] (qGz K)):FnOk P w K mg base CX0 2 f fd ["_law_works_here","_law_number_here","_law_choices_here","_law_most"] (qPe K):=by
 refine F.ok scTurns (λvs H Q E h=>?_) (λk1 A f3 s H vs Q E hr h=>?_)
 .let⟨ma,ca,D,S,n,cs,J,rfl,_⟩:=h;rfl
 .let⟨ma,ca,D,S,n,cs,J,rfl,hW,M,hn,f4,k2,k3,q⟩:=h;let hu:=yZ hr
  refine⟨_,(zI (wU (i:=4) (j:=5) rfl scTurns.nd rfl rfl ⋯ rfl rfl (zA (zZ (zA (zZ (zA (pv 1) (zA zE (zA zE (zA (zZ zB) zB))))) zB)) (zA zE zB)) rfl)
   (zI (yX cS rfl (yW rfl a2 (zA (pv 3) zB)) (zN (i:=6) scTurns.nd rfl (Or.inl rfl))
   (zI (zr (zR (wA0 hr.units0) (pv 4) (zZ zB) (zO _)) (zK (zW yQ)) yC)
   (zI (zU (i:=7) scTurns.nd rfl (Or.inl rfl) (zJ zV (pv 4) (wX wc zE) (λ_ _=>rfl)))
   (zI (xN (zJ zV (zJ zV (pv 0) (zJ zV (pv 7) zE (λ_ _=>rfl)) (λ_ _=>rfl)) (zJ zV (pv 7) zE (λ_ _=>rfl)) (λ_ _=>rfl)) (xC (n:=2) rfl (zl (zN (i:=8) scTurns.nd rfl (Or.inl rfl)) (zl (zN (i:=9) scTurns.nd rfl (Or.inl rfl)) yR))))
   (zK (zr (zR xf (zJ zV (pv 7) zE (λ_ _=>rfl)) (zk yE (by rfl) R cA (zA (pv 8) zB)) (zO _)) (zI (zU (i:=10) scTurns.nd rfl (Or.inl rfl) (zJ zV (pv 8) (zJ zV (pv 7) zE (λ_ _=>rfl)) (λ_ _=>rfl)))
   (zI (xN (zM zp (zJ zV (pv 7) zE (λ_ _=>rfl)) zE) (wT (pv 7) zE wm))
   (zI (zr (oM (xV K rfl (zL f1 hr ⋯ (zA (pv 10) (zA (zJ zV (pv 7) zE (λ_ _=>rfl)) zB))) (λ_=>rfl))) (zK (zW yQ)) yC)
   (zI (zr (PW.pt (xM (zR zd (zJ zq (pv 10) zE (λ_ _=>rfl)) zc (zO _)) (xL (zR zd (zk yE (by rfl) R cA (zA (pv 4) zB)) zE (zO _))))) (zK (zW yQ)) yC)
   (zK (zr (zR zd (zJ zq (pv 10) zE (λ_ _=>rfl)) zc (zO _)) (zK (yI (yH bG bY bZ yk (pv 4) (zA (zZ (zA (zJ zq (pv 10) zE (λ_ _=>rfl)) (zA zE (zA zE (zA (zZ zB) zB))))) zB)))) yC)))))) (zK (zr (zR zd (zJ zq (pv 9) zE (λ_ _=>rfl)) zc (zO _)) (zI (zr (zR (qTy hr) (zJ zV (pv 7) zE (λ_ _=>rfl)) (zZ zB) (zO _)) (zK (zW yQ)) yC)
   (zK (yI (QB bG iE iF QD (pv 4))))) (zI (zU (i:=11) scTurns.nd rfl (Or.inl rfl) (wS (zy zd (zJ zq (pv 9) zE (λ_ _=>rfl)) zc (zO _)) (wS (zy xf (pv 5) (zk yE (by rfl) R cA (zA (pv 2) zB)) (zO _)) (xx (zy oU (zJ zV (pv 2) (pv 5) (λ_ _=>rfl)) zE (zO _))))))
   (zI (zU (i:=5) scTurns.nd rfl (Or.inl rfl) (zM zp (pv 5) (yN xg (by rfl) b5 eE (zA (zy zd (zJ zq (pv 9) zE (λ_ _=>rfl)) zc (zO _)) zB))))
   (zK (xN (zm (zA (zJ zq (pv 9) (zM zp zE (yN xg (by rfl) b5 eE (zA (pv 11) zB))) (λ_ _=>rfl)) (zA zE zB))) (xC (n:=2) rfl (zl (wT (pv 7) zE wm) (zl (wT (pv 7) zE wm) yR)))))))))))))))
   (zK (zW yQ)))),?_⟩
  dsimp only [zo,zv,yi,yc,yd];obtain⟨d1,b6⟩:∃wk,D[n]? = some wk:=⟨_,aC hn⟩;let⟨ml,mv,em,f5,d2⟩:=hW.ofList;cases em;let f6:=d2.len;rw [aB] at f6;fin2;refine⟨len2 (aX _),λoa f7=>?_⟩;generalize T:upd H oa _=H1;let ⟨eA,U⟩:=layQq T f7;fin2;refine⟨len2 (by show 4<=1000;decide),λW c3=>?_⟩;let f8:oa≠W:=zF U c3;let j8:H W=none:=eA.none ∅ c3;generalize T:upd H1 W _=H2;let ⟨eB,b7⟩:=layQq T c3;fin2;refine⟨len2 (by show 1<=1000;decide),λst a3=>?_⟩;let j9:H st=none:=(eA.trans eB).none ∅ a3;let eC:Ext [] H2 (upd H2 st (.lst [.ref W])) :=.laid a3;let b8:(upd H2 st (.lst [.ref W])) st=some (.lst [.ref W]):=zC
  let f9:W≠st:=zF b7 a3;let g0:oa≠st:=zF (eB _ _ ∅ U) a3;generalize upd H2 st (.lst [.ref W])=H3 at eC b8 ⊢;fin2;refine⟨_,_,rfl,?_⟩;fin2;let T0:=M n d1 b6;obtain⟨b0,g1⟩:∃b,d1[0]? = some b:=⟨_,aC T0.one⟩;refine⟨J,rfl,∎,∎,xn (lo:=0) (n:=J.toNat) (λi c4 G => ∃(tk:Nat) (o6 o7 o8 o9 c5 c6:Option V) (fs:List Fr1),c4 = [some (.ref ma),some (.int n),some (.ref ca),some (.int J),some (.ref st),some (.int tk),o6,o7,o8,o9,c5,c6]/\Ext [] H G/\StkT H G st fs/\(∀x∈fs,FrT D S x)/\fs.length<=20/\tk<=i) ?_ ?_ ?_⟩
  .refine⟨0,_,_,_,_,_,_,[⟨W,oa,n,0,0,[]⟩],rfl,(eA.trans eB).trans eC,⟨b8,λx hx=>?_,?_,λa ha=>?_⟩,λx hx=>?_,∅,aH _⟩
   .rw [aF.mp hx];exact⟨eC _ _ ∅ b7,eC _ _ ∅ (eB _ _ ∅ U)⟩
   .show [st,W,oa].Nodup;simp [cP f9,cP g0,cP f8]
   .let ha:a ∈ [st,W,oa]:=ha;simp only [aL,cI,or_false] at ha;rcases ha with z | z | z <;> (rw [z];assumption)
   .rw [aF.mp hx];exact FrT.new M b6 g1 rfl (by show OpenOk [] (S n 0);rw [T0.s0];exact .nil)
  .rintro i c4 G hi ⟨tk,o6,o7,o8,o9,c5,c6,fs,rfl,e1,hS,hF,hl,g2⟩ N_ B_ C_ R_ hN_ hC_ hR_;fin2;refine⟨len2 (aX _),λz O=>?_⟩;generalize T:upd G z _=G1;let ⟨eZ,a4⟩:=layQq T O;let g:=hS.ext eZ;let X:=e1.trans eZ;refine⟨st,z,_,rfl,rfl,.inl ⟨SqL.of g.lst,SqL.of a4⟩,⟨_,rfl,?_⟩⟩;rcases List.eq_nil_or_concat fs with a5 | ⟨e,x,a5⟩
   .subst a5;refine iteT ?_;fin2;exact q _ X
   .rw [List.concat_eq_append] at a5;subst a5;rw [show ((e ++ [x]).map λx=>V.ref x.fa).isEmpty=false by rw [aP];cases e <;> rfl];refine iteF ?_;clear eZ a4 O e1 hS;let d3:G1 st=some (.lst ((e.map λx=>V.ref x.fa) ++ [V.ref x.fa])):=by let:=g.lst;rw [aP] at this;exact this
    let⟨a6,a7⟩:=g.fr x ∅;let⟨wk,b,s,s',w1,w2,w3,w4,w5,w6,w7⟩:=(hF x ∅).ex;let a8:=hl;rw [aG] at a8;let⟨v,hv,g3⟩:=d2.get' (i:=x.n) (d:=workD wk) (by rw [aU,w1];rfl);let⟨wl,bv,rfl,g4,g5⟩:=g3.ofList;let⟨tv,g6,d4⟩:=g5.get' (i:=x.k) (d:=blkD b) (by rw [aU,w2];rfl);let⟨ta,ps,rfl,g7,g8⟩:=(show Den K H (.tuple [.list (b.ds.map deedD),endD b.ns]) tv from d4).ofTuple;let⟨v1,q1,rfl,g9,h0⟩:=g8.ofCons;let⟨v2,q2,rfl,h4,h5⟩:=h0.ofCons;let z3:=h5.ofNil;subst z3;let⟨dl,c7,rfl,h6,b9⟩:=g9.ofList;let⟨h7,d5,_⟩:=(M x.n wk w1).blk x.k b w2;let⟨en,rfl,h8⟩:=uW h4 h7;let d6:=b9.len
    rw [aB] at d6;let h9:SqL K G1 x.fa [.int x.n,.int x.k,.int x.p,.ref x.oa]:=SqL.of a6;let Y:=X.toSame.seq h6;let B:=X.toSame.tups.sq h8;fin2;refine ze (SqL.of d3) (qV8 _ _) ?_;fin2;refine ze (X.toSame.seq f5) (zX hv) ?_;fin2;refine ze (X.toSame.seq g4) (zX g6) ?_;fin2;refine yU (X.toSame.tups.sq g7) rfl ?_;fin2;refine⟨dl,c7,rfl,.inl Y,?_⟩;fin2;let c8:=g.apart;by_cases hp:x.p<b.ds.length
    .rw [decide_eq_true (show (x.p:Int)<(c7.length:Int) by lia)];refine iteT ?_;obtain⟨d,hd⟩:∃d,b.ds[x.p]? = some d:=⟨_,aC hp⟩;let Z:d∈b.ds:=aN hd;let c9:b.ds.drop x.p=d::b.ds.drop (x.p+1):=by
      let⟨z1,z2⟩:=aI.mp hd;rw [List.drop_eq_getElem_cons z1,z2]
     rw [c9] at w5;let⟨s1,i0,i1⟩:=Option.bind_eq_some_iff.mp (show (stepD s d).bind (λs'=>runD s' (b.ds.drop (x.p+1)))=some s' from w5);let⟨dv,i2,i3⟩:=b9.get' (i:=x.p) (d:=deedD d) (by rw [aU,hd];rfl);let⟨da,rfl,d7⟩:=qV5 i3;fin2;refine ze Y (zX i2) ?_;fin2;refine wy (n:=2) a6 rfl ?_;let e3:Ext [x.fa,x.oa] G1 (upd G1 x.fa (.lst ((frL x).set 2 (.int ((x.p:Int)+1))))) :=.put ∅;let l:(upd G1 x.fa (.lst ((frL x).set 2 (.int ((x.p:Int)+1))))) x.fa=some (.lst (frL { x with p:=x.p+1 })):=by rw [zC];rfl
     let L:(upd G1 x.fa (.lst ((frL x).set 2 (.int ((x.p:Int)+1))))) x.oa=some (.lst (x.o.map V.int)):=by rw [zD (cP c8.2.2.1)];exact a7
     let a9:Ext [] H (upd G1 x.fa (.lst ((frL x).set 2 (.int ((x.p:Int)+1))))):=λa u _ h=>by
      rw [zD (zF h (g.yg _ (aS _ (wR ∅).1)))];exact X _ _ ∅ h
     let r:=g.last (y :={ x with p:=x.p+1 }) e3 rfl rfl l L;generalize upd G1 x.fa (.lst ((frL x).set 2 (.int ((x.p:Int)+1))))=G2 at e3 l L a9 r ⊢;let d8:SqL K G2 x.fa [.int x.n,.int x.k,.int ((x.p+1:Nat):Int),.ref x.oa]:=SqL.of l;clear h9 a6 a7 e3 d3;fin2;refine⟨da,x.oa,d,x.o,s,s1,D.length,rfl,a9.toSame.tups.sq d7,d5 d Z,L,w4,i0,λo' G3 e3 i4 i5=>?_⟩;let d9:G3 x.fa=some (.lst (frL { x with p:=x.p+1,o:=o' })):=e3 _ _ (by simpa using c8.2.2.1) l;let I:=r.last (y :={ x with p:=x.p+1,o:=o' }) (e3.mono ∅) rfl rfl d9 i4;let N:Ext [] H G3:=λa u _ h=>e3 _ _ (by simpa using zF h (g.yg _ (aS _ (wR ∅).2))) (a9 _ _ ∅ h)
     let e0:∀z∈e ++ [({ x with p:=x.p+1,o:=o' }:Fr1)],FrT D S z:=λz O=>by
      rcases aJ.mp O with y | y
      .exact hF z (bI _ y)
      .rw [aF.mp y];exact⟨wk,b,s1,s',w1,w2,hp,i5,i1,w6,w7⟩
     let a0:=N.toSame.tups.sq d7;clear l L d8 r a9 e3 g X B Y;refine⟨true,by simp [TruV],?_⟩;refine iteF ?_;let a1:((e ++ [({ x with p:=x.p+1,o:=o' }:Fr1)]).map λx=>V.ref x.fa).length=e.length+1:=by simp
     fin2;refine zf a0 (show atI _ ((0:Nat):Int)=_ from zX rfl) ?_;fin2;refine yT ⟨_,rfl,?_⟩;by_cases hc:dWd d = "call"
     .rw [decide_eq_true hc];refine iteT ?_;fin2;refine⟨st,_,rfl,.inl (SqL.of I.lst),?_⟩;rw [a1];fin2;refine zw ⟨_,rfl,?_⟩;by_cases e4:((e.length+1:Nat):Int)=20
      .rw [decide_eq_true e4];refine iteT ?_;fin2;exact q _ N
      .rw [decide_eq_false e4];refine iteF ?_;fin2;refine zf a0 (show atI _ ((0:Nat):Int)=_ from zX rfl) ?_;fin2;refine yT ⟨_,rfl,?_⟩;rw [decide_eq_true hc];refine iteT ?_;obtain⟨c,rfl⟩:∃c,d = .call c:=by
        cases d with
        | call c=>exact⟨c,rfl⟩
        | _=>exact absurd hc (by simp only [dWd];decide)
       let k4:0<=c/\c<(D.length:Int):=d5 _ Z;obtain⟨cn,rfl⟩:∃cn:Nat,c=cn:=⟨c.toNat,∎⟩;obtain⟨e5,c0⟩:∃wk,D[cn]? = some wk:=⟨_,aC ∎⟩;let T2:=M cn e5 c0;obtain⟨b2,e6⟩:∃b,e5[0]? = some b:=⟨_,aC T2.one⟩;fin2;refine yA I.lst ?_;fin2;refine⟨len2 (aX _),λo2 d0=>?_⟩;generalize T:upd G3 o2 _=G4;let ⟨eO,c1⟩:=layQq T d0;fin2;refine⟨len2 (by show 4<=1000;decide),λf2 b1=>?_⟩;let i6:f2≠o2:=(zF c1 b1).symm;let eF:Ext [] G4 (upd G4 f2 (.lst [.int cn,.int 0,.int 0,.ref o2])) :=.laid b1;let c2:(upd G4 f2 (.lst [.int cn,.int 0,.int 0,.ref o2])) f2=some (.lst [.int cn,.int 0,.int 0,.ref o2]):=zC
       let e7:=I.ext eO;let i7:=e7.away b1;let b3:=e7.ext eF;let i8:=I.away d0;let z1:H f2=none:=(N.trans eO).none ∅ b1;let z2:H o2=none:=N.none ∅ d0;generalize upd G4 f2 (.lst [.int cn,.int 0,.int 0,.ref o2])=G5 at eF c2 b3 ⊢;fin2;refine yL b3.lst (zb (by rw [a1];lia)) ?_;fin2;let i9:=b3.push (y:=⟨f2,o2,cn,0,0,[]⟩) c2 (eF _ _ ∅ c1) i7 i8 i6 z1 z2;refine⟨tk,_,_,_,_,_,_,_,rfl,λa u _ h=>?_,i9,λz O=>?_,by simp only [aG,cB,List.length_nil] at a8 ⊢;lia,∎⟩
       .rw [zD (zF h (b3.yg _ ∅))];exact ((N.trans eO).trans eF) _ _ ∅ h
       .rcases aJ.mp O with y | y
        .exact e0 z y
        .rw [aF.mp y];exact FrT.new M c0 e6 rfl (by show OpenOk [] (S cn 0);rw [T2.s0];exact .nil)
     .rw [decide_eq_false hc];refine iteF ?_;refine iteF ?_;fin2;refine zf a0 (show atI _ ((0:Nat):Int)=_ from zX rfl) ?_;fin2;refine yT ⟨_,rfl,?_⟩;rw [decide_eq_false hc];refine iteF ?_;fin2;exact⟨tk,_,_,_,_,_,_,_,rfl,N,I,e0,by rw [aG];exact a8,∎⟩
    .rw [decide_eq_false (show ¬(x.p:Int)<(c7.length:Int) by lia)];refine iteF ?_;let j0:x.p=b.ds.length:=by lia
     rw [j0,List.drop_length] at w5;let j1:s=s':=bB w5;subst j1;let j2:=g.lst;fin2;refine zf B (show atI _ ((0:Nat):Int)=_ from zX rfl) ?_;fin2;refine yT ⟨_,rfl,?_⟩;by_cases C:b.ns = []
     .rw [C,decide_eq_true (show endW [] = "out" from rfl)];refine iteT ?_;fin2;refine⟨len2 (aX _),λz O=>?_⟩;generalize T:upd G1 z _=G2;let ⟨eZ,a4⟩:=layQq T O;let r:=g.ext eZ;let j3:x.o = []:=(w6 C▸w4:OpenOk x.o λ_=>false).none;refine⟨x.oa,z,_,rfl,rfl,SqL.of (eZ _ _ ∅ a7),SqL.of a4,⟨_,rfl,?_⟩⟩;rw [j3];refine iteF ?_;fin2;refine yA r.lst ?_;refine⟨st,_,V.ref x.fa,rfl,rfl,r.lst,∅,?_⟩;rw [show ((e ++ [x]).map λx=>V.ref x.fa).dropLast=e.map λx=>V.ref x.fa by rw [aP];exact List.dropLast_concat];fin2;refine⟨tk,_,_,_,_,_,_,e,rfl,λa u _ h=>?_,r.pop,λz O=>hF z (bI _ O),∎,∎⟩;rw [zD (zF h (r.yg _ ∅))]
      exact (X.trans eZ) _ _ ∅ h
     .rw [decide_eq_false (qV0 C)];refine iteF ?_;fin2;refine qTw B (SqL.of (X _ _ ∅ f4)) rfl rfl rfl λcc j4=>?_;fin2;refine zf B (show atI _ ((0:Nat):Int)=_ from zX rfl) ?_;fin2;refine yT ?_;fin2;refine .inr ⟨_,rfl,?_⟩;fin2;obtain⟨b4,e8,k0⟩:∃b4:Nat,(tk:Int)+(if decide (endW b.ns = "fork")=true then 1 else 0)=b4/\b4<=i+1:=by
       by_cases c:decide (endW b.ns = "fork")=true
       .exact⟨tk+1,by rw [if_pos c];lia,∎⟩
       .exact⟨tk,by rw [if_neg c];lia,∎⟩
      rw [e8];refine .inr ⟨_,rfl,?_⟩;fin2;obtain⟨j,t,hj,ht⟩:∃(j:Nat) (t:Int),(1:Int)+(if cc=true then 1 else 0)=((j+1:Nat):Int)/\b.ns[j]? = some t:=by
       let h1:1<=b.ns.length:=by
        cases hh:b.ns with
        | nil=>exact absurd hh C
        | cons _ _=>simp
       cases cc with
       | false=>exact⟨0,b.ns[0],∅,aC h1⟩
       | true =>
        let h2:=j4 rfl;let h3:1<b.ns.length:=by
         match hh:b.ns,C with
         | [t],_=>rw [hh] at h2;exact absurd h2 (by show ¬(("go" : Str) = "fork");decide)
         | _::_::_,_=>simp
        exact⟨1,b.ns[1],∅,aC h3⟩
      rw [hj];refine zf B (zX (show (V.str (endW b.ns)::b.ns.map V.int)[j+1]? = some (.int t) by rw [List.getElem?_cons_succ,aU,ht];rfl)) ?_;let⟨m,rfl,e9,f0⟩:=w7 t (aN ht);fin2;refine⟨len2 (by show 2<=1000;decide),λp j5=>?_⟩;generalize T:upd G1 p _=G2;let ⟨eP,j6⟩:=layQq T j5;let r:=g.ext eP;let l:=eP _ _ ∅ a6;refine yU (SqT.of j6) rfl ?_;fin2;refine wy (n:=1) l rfl ?_;fin2;refine wy (n:=2) zC rfl ?_;rw [oD];fin2;obtain⟨b',j7⟩:∃b,wk[m]? = some b:=⟨_,aC e9⟩;let I:StkT H (upd G2 x.fa (.lst (((frL x).set 1 (.int m)).set 2 (.int 0)))) st (e ++ [({ x with k:=m,p:=0 }:Fr1)]):=r.last (y :={ x with k:=m,p:=0 }) (.put ∅) rfl rfl (by rw [zC];rfl) (by rw [zD (cP c8.2.2.1)];exact eP _ _ ∅ a7)
      refine⟨b4,_,_,_,_,_,_,_,rfl,λa u _ h=>?_,I,λz O=>?_,by simp only [aG,cB,List.length_nil] at a8 ⊢;lia,∎⟩
      .rw [zD (zF h (g.yg _ (aS _ (wR ∅).1)))];exact (X.trans eP) _ _ ∅ h
      .rcases aJ.mp O with y | y
       .exact hF z (bI _ y)
       .rw [aF.mp y];exact FrT.new M w1 j7 rfl (by show OpenOk x.o (S x.n m);rw [f0];exact w4)
  .rintro c4 G ⟨tk,o6,o7,o8,o9,c5,c6,fs,rfl,e1,hS,hF,hl,g2⟩;fin2;exact q _ e1
noncomputable abbrev sLaw:Stmt:=top 34
theorem scLaw:FnScope ["_law_script","_law_k","_law_tape_here","_law_works_here","_law_made","_law_turn"] ["_law_script"] (zT sLaw):=⟨rfl,rfl,rfl,by decide +kernel,rfl,by decide +kernel,by decide +kernel⟩
def ua(K:PySem.W.Frag)(pt:Addr):Sp:=λvs H Q _ => ∃(a:Addr) (ns:List Int),vs = [.ref a]/\SqL K H a (ns.map V.int)/\ns.length<=63/\LamTab "deeds_on.<locals>.<lambda>" ⟨33,57,33,75⟩ pt H /\ ∀H',Q (.bl true) H'
theorem wA1{pt:Addr}(F:Fun K "law" "law" sLaw f fd)(g:mg "range" = none)(I:mg "len" = none)(a7:mg "max" = none)(a8:mg "min" = none)
  (hT:Has P w K mg base "_law_tape" 1 ["_law_script","_law_k"] (Qp K)) (hD:Has P w K mg base "_law_draw" 1 ["_law_tape_here","_law_many_here"] yp) (hW:Has P w K mg base "_law_works" 5 ["_law_tape_here","_law_most"] (qMd K)) (a0:Has P w K mg base "_law_plan" 4 ["_law_tape_here","_law_works_here","_law_number_here"] (qVh K)) (hC:Has P w K mg base "_law_choices" 2 ["_law_tape_here"] (qVi 200 201 (-1) 2))
  (c8:Has P w K mg base "built_all" 6 ["works","plans"] (qH0 K "deeds_on.<locals>.<lambda>" ⟨33,57,33,75⟩ pt)) (c9:Has P w K mg base "_law_turns_right" 2 ["_law_works_here","_law_number_here","_law_choices_here","_law_most"] (qPe K)) :
  FnOk P w K mg base CX0 7 f fd ["_law_script"] (ua K pt):=by
 refine F.ok scLaw (λvs H Q E h=>?_) (λf8 A d0 s H vs Q E W h=>?_)
 .let⟨a,ns,rfl,_⟩:=h;rfl
 .let⟨a,ns,rfl,a9,f7,b0,q⟩:=h;let hu:=yZ W
  refine⟨_,(zI (yX cS rfl (yW rfl g (zA (zk (oX rfl) (by rfl) a7 PyProof.Rows.boot_max (zA zE (zA (zk (qSj rfl) (by rfl) a8 PyProof.Rows.boot_min (zA (zk yE (by rfl) I cA (zA (pv 0) zB)) (zA zE zB))) zB))) zB)) (zN (i:=1) scLaw.nd rfl (Or.inl rfl))
   (zI (zU (i:=2) scLaw.nd rfl (Or.inr rfl) (zL hT W ⋯ (zA (pv 0) (zA (pv 1) zB))))
   (zI (zU (i:=3) scLaw.nd rfl (Or.inr rfl) (zL hW W ⋯ (zA (pv 2) (zA zE zB))))
   (zI (zU (i:=4) scLaw.nd rfl (Or.inl rfl) (zL c8 W ⋯ (zA (pv 3) (zA (yK ["_law_number_here"] [2,3] rfl (.of rfl) (yW rfl g (zA (zk yE (by rfl) I cA (zA (pv 3) zB)) zB)) (λ_ _ _ _=>(zN (i:=0) (by show (((["_law_number_here","_law_tape_here","_law_works_here"]:List Str))).Nodup;decide) rfl (Or.inl rfl))) (λ_ _ _ _ =>.nil) (λ_ _ _ _=>(zL a0 W ⋯ (zA (pv 1) (zA (pv 2) (zA (pv 0) zB)))))) zB))))
   (zK (yX cS rfl (yW rfl g (zA zE zB)) (zN (i:=5) scLaw.nd rfl (Or.inl rfl))
   (zK (zr (oM (xV K rfl (zL c9 W ⋯ (zA (pv 4) (zA (zL hD W ⋯ (zA (pv 2) (zA (zk yE (by rfl) I cA (zA (pv 3) zB)) zB))) (zA (zL hC W ⋯ (zA (pv 2) zB)) (zA zE zB))))) (λ_=>rfl))) (zK (zW yQ)) yC))))))))
   (zK (zW yQ))),?_⟩
  dsimp only [zo,zv,yi,yc,yd];let b3:∀ {G:Hp},LamTab "deeds_on.<locals>.<lambda>" ⟨33,57,33,75⟩ pt G -> ∀u ∈ [pt],∀v,G u=some v->NoSeq v:=λ{G} h u hu v hv=>by
   let⟨m,O⟩:=h.some;rw [aF.mp hu,O] at hv;cases hv;exact uX _
  let b4:∀ {G:Hp} {t:Addr} {k:Nat},LamTab "deeds_on.<locals>.<lambda>" ⟨33,57,33,75⟩ pt G->Tape G t k->pt≠t:=λ{G t k} h T z=>by
   let⟨m,O⟩:=h.some;let⟨x,y,u,hx,_⟩:=T;rw [z,hx] at O;cases O
  let b5:∀ {G D:Hp} {t:Addr} {k:Nat},LamTab "deeds_on.<locals>.<lambda>" ⟨33,57,33,75⟩ pt G->Tape G t k->Ext [t] G D->LamTab "deeds_on.<locals>.<lambda>" ⟨33,57,33,75⟩ pt D:=λ{G D t k} h T e=>h.ext e (by simpa using b4 h T) λu hu o v z=>by
   let⟨x,y,w',hx,_⟩:=T;rw [aF.mp hu,hx] at z;cases z
  fin2;refine⟨a,_,rfl,.inl a9,?_⟩;rw [aB];fin2;refine⟨_,_,rfl,?_⟩;fin2;refine⟨_,_,rfl,?_⟩;generalize hN:(if (if (3:Int)<(ns.length:Int) then (3:Int) else (ns.length:Int))>1 then (if (3:Int)<(ns.length:Int) then (3:Int) else (ns.length:Int)) else 1)=N;let f9:1<=N/\N<=3:=by
   rw [<-hN]
   repeat' split
   all_goals lia
  fin2;refine⟨N,rfl,∎,∎,xn (lo:=0) (n:=N.toNat) (λi c X => ∃(o1 o2 o3 o4 o5:Option V),c = [some (.ref a),o1,o2,o3,o4,o5]/\Ext [pt] H X/\LamTab "deeds_on.<locals>.<lambda>" ⟨33,57,33,75⟩ pt X) ?_ ?_ ?_⟩
  .exact⟨_,_,_,_,_,rfl,.refl _ _,b0⟩
  .rintro i c X hi ⟨o1,o2,o3,o4,o5,rfl,e',b6⟩ N_ B_ C_ R_ hN_ hC_ hR_;fin2;refine⟨a,ns,i,by show [V.ref a,V.int (0+(i:Int))] = [V.ref a,V.int (i:Int)];rw [Int.zero_add],(e'.sqs (b3 b0)).1 _ _ a9,∎,λt H1 ht T1 s1=>?_⟩;fin2;refine⟨t,0,4,rfl,T1,∎,⋯,⋯,λl as B Y hl d1 d2 has d3 T2 e2 b7 hW a3 d4=>?_⟩;let d5:Ext [] X H1:=λb o _ h=>s1 b o h;let b8:Ext [] X Y:=λb o _ h=>e2 b o (by simpa using zF h ht) (s1 b o h);let d6:=b6.ext0 b8;let g0:=a3.few;let d7:=a3.one;let J:WsOk B:=⟨a3.all,d7,∎⟩;let b9:Den K (wo [t] Y) (yV B) (.ref l):=T2.works (.list (SqL.of b7) (qNm hW yo_same));clear b7 hW d3 has d2 d5;let dG:∀ {D:Hp},Ext [t] Y D->Den K D (yV B) (.ref l):=λe=>(b9.mono e.same).mono (wB _ _)
   let⟨l',us,ee,d8,c0⟩:=b9.ofList;cases ee;let a4:=c0.len;rw [aB] at a4;let Z:∀ {D:Hp},Ext [t] Y D->SqL K D l us:=λ{D} e=>(show Same (wo [t] Y) D from λb o h=>wB [t] D _ _ (e.same _ _ h)).seq d8;fin2;refine⟨l,us,rfl,.inl (Z (.refl _ _)),?_⟩;rw [a4];fin2;refine⟨(B.length:Int),rfl,∎,∎,λlb L=>?_⟩;let c1:lb≠t:=T2.ne L;refine wG (lo:=0) (n:=((B.length:Nat):Int).toNat) (λj c G => ∃(o0:Option V) (m:List Pln),c = [o0,some (.ref t),some (.ref l)]/\Ext [t,lb] Y G/\Tape G t (21000+200*j)/\G lb=some (.lst (m.map λp=>V.ref p.d))/\m.length=j/\(∀(i:Nat) (p:Pln) (S:List Blk),m[i]? = some p->B[i]? = some S->PlanAt G p.d p.bs p.as (p.bs.map p.f)/\PlanF B i S p.bs p.f) /\ ∀p∈m,∀a∈p.d::p.as,a≠t/\a≠lb) ?_ ?_ ?_
   .exact⟨none,[],rfl,.laid L,(T2.ext (.laid (ts :=[]) L) ∅).mono ∎,zC,rfl,(λi p S h _=>nomatch h),λp M=>nomatch M⟩
   .rintro j c G R hj ⟨o0,m,rfl,e3,T3,h1,h2,h3,h4⟩ hR;let d9:j<B.length:=by lia
    obtain⟨S,c2⟩:∃S,B[j]? = some S:=⟨_,aC d9⟩
    let C:Ext [t] Y G:=λb o hb h=>e3 b o (λz=>by
     rcases aL.mp z with y | y
     .exact hb (by simp [y])
     .rw [aF.mp y,L] at h;cases h) h
    fin2;rw [if_pos rfl];fin2;refine⟨t,l,21000+200*j,B,j,S,by rw [Int.zero_add];rfl,T3,∎,dG C,J,c2,λd bs as f G3 hd has T4 e4 a0 e0=>?_⟩;let c3:G3 lb=some (.lst (m.map λp=>V.ref p.d)):=e4 _ _ (by simpa using c1) h1;refine⟨_,c3,zb (by rw [aB];lia),hR _ _ ⟨_,m ++ [⟨d,bs,as,f⟩],rfl,(e3.trans (e4.mono ∅)).trans (.put ∅),(T4.ext (ts :=[lb]) (.put ∅) (by simpa using cP c1)).mono ∎,by rw [zC,aP];rfl,by rw [aG,h2];rfl,λi2 p e1 M a5=>?_,λp M a U=>?_⟩⟩
    .let e9:∀a∈d::as,a≠lb:=λa U z=>by
      let:G a=none:=by
       rcases aL.mp U with y | y
       .rw [y];exact hd
       .exact has a y
      rw [z,h1] at this;cases this
     by_cases f0:i2<m.length
     .rw [dO f0] at M;let⟨a1,a2⟩:=h3 i2 p e1 M a5;refine⟨a1.keep λa U o z=>?_,a2⟩;let⟨b1,b2⟩:=h4 p (aN M) a U;rw [zD b2];exact e4 _ _ (by simpa using b1) z
     .rw [cZ ∎] at M;let hz:i2 - m.length=0:=by
       let:=(aI.mp M).1;simpa using this
      rw [hz] at M;cases M;let f1:i2=j:=by lia
      subst f1;rw [c2] at a5;cases a5;exact⟨a0.keep λa U o z=>by rw [zD (e9 a U)];exact z,e0⟩
    .rcases aJ.mp M with y | y
     .exact h4 p y a U
     .rw [aF.mp y] at U;let hn:G a=none:=by
       rcases aL.mp U with y | y
       .rw [y];exact hd
       .exact has a y
      exact⟨T3.ne hn,λz=>by rw [z,h1] at hn;cases hn⟩
   .rintro c G ⟨o0,m,rfl,e3,T3,h1,h2,h3,h4⟩;let h2:m.length=B.length:=by lia
    let C:Ext [t] Y G:=λb o hb h=>e3 b o (λz=>by
     rcases aL.mp z with y | y
     .exact hb (by simp [y])
     .rw [aF.mp y,L] at h;cases h) h
    let a6:=b5 d6 T2 C;fin2;refine⟨l,lb,B,m,rfl,dG C,J,h1,⟨h2,h3⟩,a6,λlm G4 e4 f2 c4=>?_⟩;let f3:=qOw J d4 h2 λi p S a b=>(h3 i p S a b).2;let g1:(yj B m).length=B.length:=by unfold yj;rw [aB,gR];lia
    let f4:=b4 a6 T3;let T4:Tape G4 t (21000+200*B.length):=(T3.ext e4 (by simpa using cP f4)).mono ∎;let c5:SqL K G4 l us:=(e4.sqs (b3 a6)).1 _ _ (Z C);let f5:=T4.works c4;let c6:X t=none:=ht;let f6:Ext [pt] X G4:=λb o hb h=>e4 b o hb (C b o (by simpa using zF h c6) (b8 b o ∅ h));clear h1 h3 h4 e3 C c4 e4;fin2;refine⟨2,rfl,⋯,⋯,xn (lo:=0) (n:=(2:Int).toNat) (λj c G => ∃o5:Option V,c = [some (.ref a),some (.int (0+(i:Int))),some (.ref t),some (.ref l),some (.ref lm),o5]/\Tape G t (23100+300*j)/\Ext [t] G4 G) ?_ ?_ ?_⟩
    .exact⟨_,rfl,T4.mono ∎,.refl _ _⟩
    .rintro j c G5 hj ⟨o5,rfl,T5,e5⟩ N2_ B2_ C2_ R2_ hN2_ hC2_ hR2_;let hj:j<2:=hj;fin2;refine⟨l,us,rfl,.inl (c5.keepN e5 (by simpa using d1)),?_⟩;rw [a4];fin2;refine zn T5 ∎ ∎ ∎ λr G6 r0 r1 T6 e6 _=>?_;fin2;refine⟨t,_,rfl,T6,∎,λlc cs G7 g2 g3 g4 g5 c7 T7 e7=>?_⟩;fin2;obtain⟨rn,rfl⟩:∃rn:Nat,r=rn:=⟨r.toNat,∎⟩;let E7:Ext [t] G4 G7:=e5.trans (e6.trans e7);refine⟨lm,lc,yj B m,stAll B m,rn,cs,600,rfl,(f5.mono E7.same).mono (wB _ _),f3,∎,c7,⋯,⋯,λG8 e8=>?_⟩;refine⟨true,by simp [TruV],iteF ?_⟩;fin2;exact⟨_,rfl,(T7.ext e8 ∅).mono ∎,E7.trans (e8.mono ∅)⟩
    .rintro c G5 ⟨o5,rfl,T5,e5⟩;exact L2.yF hN_ ⟨_,_,_,_,_,rfl,e'.trans (λb o hb h=>e5 b o (by simpa using zF h c6) (f6 b o hb h)),b5 f2 T4 e5⟩
  .rintro c X ⟨o1,o2,o3,o4,o5,rfl,e',b6⟩;fin2;exact q _
theorem qW3{K:PySem.W.Frag}{st:Stmt}{k:Nat}{kV doc i b ct:Value}(X:K.In h)(G:h.Ns mainGlobals mg)(a:PySem.W.nsIn K mainGlobals x=some (some (.ref f)))(l:K.lookup f=some ⟨n,o,.func (PySem.W.fnOf x x (ym st) (yY st) (zT st) .none kV doc i e b ct),g⟩)(c:PySem.W.codeIn K b x=true)(j:PySem.W.keepIn K (.ref f)=true)(p:∀(kV doc i:Value) (e:Option Addr) (b ct:Value) (us:List Value),us.length=d.length->bindArgs (PySem.W.fnOf x x (ym st) (yY st) (zT st) .none kV doc i e b ct) ⟨us,[]⟩=pure (d.zip us))(ok:∀m,Fun K x x st f m->FnOk P w K mg base CX0 k f m d sp):Has P w K mg base x k d sp:=by
 let F:=QS (st:=st) l c j;exact⟨f,_,ok _ F,PySem.W.mg_of X G a,j,F.binds p⟩
theorem bA1{P:List Value->Prop}(h:∀a,P [a])(us:List Value)(l:us.length=1):P us:=by
 obtain _ | ⟨b,us⟩:=us
 .cases l
 obtain _ | ⟨y,us⟩:=us
 .exact h _
 .simp at l
theorem bA2{P:List Value->Prop}(h:∀a b,P [a,b])(us:List Value)(l:us.length=2):P us:=by
 obtain _ | ⟨c,us⟩:=us
 .cases l
 obtain _ | ⟨d,us⟩:=us
 .cases l
 obtain _ | ⟨y,us⟩:=us
 .exact h _ _
 .simp at l
theorem bA3{P:List Value->Prop}(h:∀a b c,P [a,b,c])(us:List Value)(l:us.length=3):P us:=by
 obtain _ | ⟨d,us⟩:=us
 .cases l
 obtain _ | ⟨e,us⟩:=us
 .cases l
 obtain _ | ⟨f,us⟩:=us
 .cases l
 obtain _ | ⟨y,us⟩:=us
 .exact h _ _ _
 .simp at l
theorem bA4{P:List Value->Prop}(h:∀a b c d,P [a,b,c,d])(us:List Value)(l:us.length=4):P us:=by
 obtain _ | ⟨e,us⟩:=us
 .cases l
 obtain _ | ⟨f,us⟩:=us
 .cases l
 obtain _ | ⟨g,us⟩:=us
 .cases l
 obtain _ | ⟨i,us⟩:=us
 .cases l
 obtain _ | ⟨y,us⟩:=us
 .exact h _ _ _ _
 .simp at l
theorem bA5{P:List Value->Prop}(h:∀a b c d e,P [a,b,c,d,e])(us:List Value)(l:us.length=5):P us:=by
 obtain _ | ⟨f,us⟩:=us
 .cases l
 obtain _ | ⟨g,us⟩:=us
 .cases l
 obtain _ | ⟨i,us⟩:=us
 .cases l
 obtain _ | ⟨j,us⟩:=us
 .cases l
 obtain _ | ⟨k,us⟩:=us
 .cases l
 obtain _ | ⟨y,us⟩:=us
 .exact h _ _ _ _ _
 .simp at l
def HasF(K:PySem.W.Frag)(x:Str)(st:Stmt):Prop := ∃(f:Addr) (oc:Value) (od an:Option Addr) (osl:Array (Option Value)) (kV doc pm cdv ct:Value),PySem.W.nsIn K mainGlobals x=some (some (.ref f))/\K.lookup f=some ⟨oc,od,.func (PySem.W.fnOf x x (ym st) (yY st) (zT st) .none kV doc pm an cdv ct),osl⟩/\PySem.W.codeIn K cdv x=true/\PySem.W.keepIn K (.ref f)=true
theorem hasF{K:PySem.W.Frag}{st:Stmt}{kV doc i b ct:Value}(a:PySem.W.nsIn K mainGlobals x=some (some (.ref f)))(l:K.lookup f=some ⟨e,g,.func (PySem.W.fnOf x x (ym st) (yY st) (zT st) .none kV doc i h b ct),d⟩)(c:PySem.W.codeIn K b x=true)(k:PySem.W.keepIn K (.ref f)=true):HasF K x st:=⟨_,_,_,_,_,_,_,_,_,_,a,l,c,k⟩
theorem wAd{P:Program}{w:World}{K:PySem.W.Frag}{mg:Str->Option Value}{base h:Heap}{x:Str}{st:Stmt}{k:Nat}{d:List Str}{sp:Sp}(X:K.In h)(G:h.Ns mainGlobals mg)(z:HasF K x st)(ok:∀f e,Fun K x x st f e->FnOk P w K mg base CX0 k f e d sp)(j:∀(kV doc g:Value) (i:Option Addr) (b ct:Value) (us:List Value),us.length=d.length->bindArgs (PySem.W.fnOf x x (ym st) (yY st) (zT st) .none kV doc g i b ct) ⟨us,[]⟩=pure (d.zip us)):Has P w K mg base x k d sp:=by
 let⟨f,o,p,i,m,kV,doc,g,b,ct,a,l,c,n⟩:=z;exact qW3 X G a l c n j λe=>ok f e
theorem qY8{K:PySem.W.Frag}{st:Stmt}{k:Nat}{c pt:Addr}(X:K.In h)(G:h.Ns mainGlobals mg)(z:HasF K x st)(j:PySem.W.tabIn K x=some (c,pt))(ok:∀f b,Fun K x x st f b->b.code = .ref c->FnOk P w K mg base CX0 k f b e sp)(m:∀(kV doc g:Value) (i:Option Addr) (d ct:Value) (us:List Value),us.length=e.length->bindArgs (PySem.W.fnOf x x (ym st) (yY st) (zT st) .none kV doc g i d ct) ⟨us,[]⟩=pure (e.zip us)):Has P w K mg base x k e sp:=by
 let⟨f,r,s,i,n,kV,doc,g,d,ct,a,l,o,p⟩:=z;refine qW3 X G a l o p m λb F=>ok f b F ?_;let⟨_,_,_,_,_,_,_,_,_,_,q,_⟩:=F.ex;exact PySem.W.law_code X G j (PySem.W.mg_of X G a) (X _ _ q) rfl
theorem wAm{c pt:Addr}{l:PySem.W.OpenLaw}{K:PySem.W.Frag}(X:K.In h)(G:h.Ns mainGlobals mg)(a2:mg "law" = some (.ref fa))
    (x1:HasF K "_law_tape" sTape) (x2:HasF K "_law_draw" sDraw) (x3:HasF K "_law_nexts" iX) (x4:HasF K "_law_number" jz) (x5:HasF K "_law_deeds" im) (x6:HasF K "_law_work" sWork) (x7:HasF K "_law_many" sMany) (x8:HasF K "_law_works" io) (x9:HasF K "_law_reads" ic) (x10:HasF K "_law_is_asked" ie) (x11:HasF K "_law_ends" sEnds) (x12:HasF K "_law_writes" ig) (x13:HasF K "_law_behind" ii) (x14:HasF K "_law_busy" ij) (x15:HasF K "_law_boxes" ik) (x16:HasF K "ways_of" il) (x17:HasF K "word_on" ip) (x18:HasF K "put_on" iq) (x19:HasF K "_law_plan" ir) (x20:HasF K "home_of" sHome) (x21:HasF K "splits" iu) (x22:HasF K "deeds_on" ix) (x23:HasF K "end_led" iy) (x24:HasF K "built" iz) (x25:HasF K "built_all" oA) (x26:HasF K "_law_choices" iw) (x27:HasF K "_law_deed_right" oB) (x28:HasF K "_law_turns_right" oC) (x29:HasF K "law" sLaw)
  (z1:PySem.W.nsIn K mainGlobals "range" = some none) (z2:PySem.W.nsIn K mainGlobals "len" = some none) (z3:PySem.W.nsIn K mainGlobals "abs" = some none) (z4:PySem.W.nsIn K mainGlobals "int" = some none) (z5:PySem.W.nsIn K mainGlobals "max" = some none) (z6:PySem.W.nsIn K mainGlobals "min" = some none) (z7:PySem.W.nsIn K mainGlobals "list" = some none) (z8:PySem.W.nsIn K mainGlobals "enumerate" = some none) (z9:PySem.W.nsIn K mainGlobals "any" = some none) (z10:PySem.W.nsIn K mainGlobals "sorted" = some none) (z11:PySem.W.nsIn K mainGlobals "set" = some none) (z12:PySem.W.nsIn K mainGlobals "tuple" = some none) (z13:PySem.W.nsIn K mainGlobals "zip" = some none) (a3:PySem.W.tabIn K "deeds_on" = some (c,pt)) (a4:PySem.W.codeHdIn K c pt=true) :
  ∃fd:FuncData,(∀(s:Shared) (v:Value),BindsTo s fd ⟨[v],[]⟩ [("_law_script",v)]) /\ ∀base:Heap,K.In base->base.Ns mainGlobals mg->BMain mg base->FnOk l.prog w K mg base CX0 7 fa fd ["_law_script"] (ua K pt):=by
 let⟨f,oc,od,an,a7,kV,doc,pm,a5,ct,a,lk,c,kk⟩:=x29;let e:=a2.symm.trans (PySem.W.mg_of X G a);cases e;let b:=cJ X G z1;let i:=cJ X G z2;let Y:=cJ X G z3;let p:=cJ X G z4;let O:=cJ X G z5;let Z:=cJ X G z6;let r:=cJ X G z7;let j:=cJ X G z8;let a0:=cJ X G z9;let d:=cJ X G z10;let z:=cJ X G z11;let D:=cJ X G z12;let a1:=cJ X G z13;let FL:=QS (st:=sLaw) lk c kk;refine⟨PySem.W.fnOf "law" "law" (ym sLaw) (yY sLaw) (zT sLaw) .none kV doc pm an a5 ct,λs v =>.of_eq rfl,λbase kb _ hB=>?_⟩
 let hC:=PySem.W.codeHd_of_K kb a4;let M {x:Str} {st:Stmt} {k:Nat} {ps:List Str} {sp:Sp} :=@wAd l.prog w K mg base h x st k ps sp X G;let Q:=M x1 (λ_ _ F=>qXo F i Y p) λ_ _ _ _ _ _=>bA2 λ_ _=>rfl;let g:=M x2 (λ_ _ F=>qXs F) λ_ _ _ _ _ _=>bA2 λ_ _=>rfl;let E:=M x3 (λ_ _ F=>qU3 F b O g) λ_ _ _ _ _ _=>bA2 λ_ _=>rfl;let A:=M x4 (λ_ _ F=>qQz F g) λ_ _ _ _ _ _=>bA1 λ_=>rfl;let H:=M x5 (λ_ _ F=>qU6 F b p i g A) λ_ _ _ _ _ _=>bA5 λ_ _ _ _ _=>rfl;let R:=M x6 (λ_ _ F=>qXn F b r i g E H) λ_ _ _ _ _ _=>bA5 λ_ _ _ _ _=>rfl;let S:=M x7 (λ_ _ F=>qXp F p g) λ_ _ _ _ _ _=>bA1 λ_=>rfl;let I:=M x8 (λ_ _ F=>qU0 F b p g S R) λ_ _ _ _ _ _=>bA2 λ_ _=>rfl
 let J:=M x9 (λ_ _ F=>qR0 F) λ_ _ _ _ _ _=>bA2 λ_ _=>rfl;let t:=M x10 (λ_ _ F=>qO4 F J) λ_ _ _ _ _ _=>bA4 λ_ _ _ _=>rfl;let T:=M x11 (λ_ _ F=>qXr F r) λ_ _ _ _ _ _=>bA1 λ_=>rfl;let m:=M x12 (λ_ _ F=>qO3 F b i a0) λ_ _ _ _ _ _=>bA2 λ_ _=>rfl;let B:=M x13 (λ_ _ F=>qR3 F b i r z d T m) λ_ _ _ _ _ _=>bA2 λ_ _=>rfl;let U:=M x14 (λ_ _ F=>qU5 F d z B t m) λ_ _ _ _ _ _=>bA3 λ_ _ _=>rfl;let L:=M x15 (λ_ _ F=>qR1 F b m) λ_ _ _ _ _ _=>bA1 λ_=>rfl;let o:=M x16 (λ_ _ F=>qQx F j i d) λ_ _ _ _ _ _=>bA1 λ_=>rfl;let u:=M x17 (λ_ _ F=>qQw F) λ_ _ _ _ _ _=>bA2 λ_ _=>rfl
 let hput_on:=M x18 (λ_ _ F=>qU2 F d o u) λ_ _ _ _ _ _=>bA2 λ_ _=>rfl;let V:=M x19 (λ_ _ F=>qU4 F b i z d g L U) λ_ _ _ _ _ _=>bA3 λ_ _ _=>rfl;let hhome_of:=M x20 (λ_ _ F=>qXq F i o) λ_ _ _ _ _ _=>bA2 λ_ _=>rfl;let C:=M x21 (λ_ _ F=>qQy F d hput_on hhome_of) λ_ _ _ _ _ _=>bA2 λ_ _=>rfl;let hdeeds_on:=qY8 (P:=l.prog) (w:=w) (base:=base) X G x22 a3 (λ_ _ F a6=>qO5 F a6 hB hC d hput_on) λ_ _ _ _ _ _=>bA2 λ_ _=>rfl;let hend_led:=M x23 (λ_ _ F=>qR2 F D) λ_ _ _ _ _ _=>bA3 λ_ _ _=>rfl;let N:=M x24 (λ_ _ F=>qU7 F i j hdeeds_on C hhome_of hend_led) λ_ _ _ _ _ _=>bA2 λ_ _=>rfl;let q:=M x25 (λ_ _ F=>qLl F a1 N) λ_ _ _ _ _ _=>bA2 λ_ _=>rfl
 let y:=M x26 (λ_ _ F=>qO6 F b g) λ_ _ _ _ _ _=>bA1 λ_=>rfl;let hdeed_right:=M x27 (λ_ _ F=>qJv F) λ_ _ _ _ _ _=>bA2 λ_ _=>rfl;let n:=M x28 (λ_ _ F=>qU1 F b i p hdeed_right) λ_ _ _ _ _ _=>bA4 λ_ _ _ _=>rfl;exact wA1 FL b i O Z Q g I V y q n
theorem walk{l:PySem.W.OpenLaw}{K:Params->PySem.W.Frag}{c pt:Addr}(o:l.most=some 63)(e:d.params.defaults = [])(p:∀(w:World) (h:Heap),g w h->(K w.params).In h/\PySem.W.CodeHd h c pt/\h.get? pt=some (PySem.W.tabObj #[])/\(K w.params).lookup pt=none)(F:∀(w:World) (mg:Str->Option Value) (i:Addr) (h:Heap),(K w.params).In h->h.Ns mainGlobals mg->mg d.name=some (.ref i) ->
   ∃j:FuncData,(∀(s:Shared) (u:Value),BindsTo s j ⟨[u],[]⟩ [("_law_script",u)]) /\ ∀base:Heap,(K w.params).In base->base.Ns mainGlobals mg->BMain mg base->FnOk l.prog w (K w.params) mg base CX0 7 i j ["_law_script"] (ua (K w.params) pt)) :
  PySem.W.WalkO q b m g l.row.toRowW d [] (λf vs=>PySem.call f vs) :=
 L2.qSx (n:=63) (k:=7) (x := "_law_script") (sp:=λw=>ua (K w.params) pt) o ⋯ e ⟨rfl,⋯,⋯,rfl⟩ p F λ_ _ a r t v y=>⟨a,r,rfl,y,t,.inl v.1,λ_=>rfl⟩
end Fs
end
open PySem PySem.W PyProof.Rows
namespace PySem.W.Fast
def tw10676624810150912794:=0
def tw13611677637503102901:=0
def tw13791062543332588067:=0
def tw9878143476029978319:=0
def tw9053786991724943620:=0
def tw2233505798540348608:=0
def tw6062239145349404351:=0
def tw14837712803856169385:=0
def tw15313407008118703522:=0
def tw12616128770361713158:=0
def tw13699460864752954885:=0
def tw8594588602246997459:=0
def tw838181970377656137:=0
def tw2872759984505244917:=0
def tw412991732702389764:=0
def tw1326195116993789068:=0
def tw3783790131322967149:=0
def tw6020140733882652348:=0
def tw9096436668605058613:=0
def tw11115071754909348748:=0
def tw7486553870882736878:=0
def tw11233788542336133486:=0
def tw15755506707849409671:=0
def tw10481633145101948878:=0
def tw8335960354738781395:=0
def tw18255682276629327358:=0
def tw12583055894052824928:=0
def tw15977846257828901727:=0
def tw12622617170834795531:=0
def tw10775207587486272357:=0
def tw11302461833973924418:=0
def tw8785693209080577666:=0
def tw17741014533533247767:=0
def tw8303856266701435474:=0
def tw14827389331867584811:=0
def tw17725557944281950752:=0
def tw8588154514121473099:=0
def tw9004627814699895239:=0
def tw1793813824982053157:=0
def tw7952985654419418189:=0
def tw8173996228725752506:=0
def tw6862119096631489623:=0
def tw12881089478660129976:=0
def tw14323028292918973426:=0
def tw15481029980307859966:=0
def tw15003333472907543889:=0
def tw15810287558181543128:=0
def tw982011721701483472:=0
def tw7500961343212775334:=0
def tw13604084605921097664:=0
def tw2999855047696954252:=0
def tw11509861185142737410:=0
def tw12109850220741534113:=0
def tw6381373004133576054:=0
def tw10507064028014339252:=0
def tw7287318098570501237:=0
def tw8186904049354766556:=0
def tw18442608360504502616:=0
def tw502144359690122236:=0
def tw12989189834666729937:=0
def tw10269075713264637925:=0
def tw15387051623248639062:=0
def tw3480150882723562544:=0
def tw15785363448629392172:=0
def tw9777971403794265488:=0
def tw15968472021012292869:=0
def tw9289810111503031673:=0
def tw3256671279310379523:=0
def tw7431295961060415694:=0
def tw14804607319660603254:=0
def tw17432243171831071951:=0
def tw354119472203105878:=0
def tw13380152711258085101:=0
def tw7476455333068472033:=0
def tw13114759696978942917:=0
def tw8725252630031659041:=0
def tw17654967558490580701:=0
def tw18401924954864091550:=0
def tw123600989761474606:=0
def tw17485504513343405846:=0
def tw7447052806587080990:=0
def tw14390088607810707582:=0
def tw9301875767073149142:=0
def tw4145238399963527334:=0
def tw8568998141213157103:=0
def tw3834250822349036834:=0
def tw1612835957508424506:=0
def tw2459070085276178149:=0
def tw10439713224948612154:=0
def tw5872607727906040081:=0
def tw1516508995098994891:=0
def tw11360970801551582667:=0
def tw4192721081195041741:=0
def tw15994517031906254651:=0
def tw1848586166361244691:=0
def tw8526883726357486565:=0
def tw15589645044534034005:=0
def tw1922777906628466428:=0
def tw14586227703767815901:=0
def tw1916371558406621038:=0
def tw8670026153754716603:=0
def tw8357637573489114550:=0
def tw6381951606045848367:=0
def tw1080141489922305926:=0
def tw2384089538127986968:=0
def tw3598981289724496241:=0
def tw1245009177658950189:=0
def tw7678880006701528348:=0
def tw7972495690504106987:=0
def tw10555200459752864159:=0
def tw4961657702148239152:=0
def tw1076911379315290333:=0
def tw13265989941083744527:=0
def tw18183809505557808938:=0
def tw18145529732498567217:=0
def tw13293187865126552266:=0
def tw1193995286597274923:=0
def tw4468370755173703075:=0
def tw17806943214532997443:=0
def tw11936923249384647515:=0
def tw11354039622551537794:=0
def tw16754618199034732735:=0
def tw9545809997803189355:=0
def tw17368457113052805639:=0
def tw8126800563167376237:=0
def tw795677217093743945:=0
def tw15522408712247214171:=0
def tw5057595218226170799:=0
def tw13569322055160864625:=0
def tw2135704577468880878:=0
def tw5473962597334712415:=0
def tw13076525423868736862:=0
def tw269615308278472723:=0
def tw13995651147302169418:=0
def tw20535789698321991:=0
def tw14673935373862196323:=0
def tw6353552783653340633:=0
def tw10720402001737560018:=0
def tw9469339559711859096:=0
def tw14279931164929878406:=0
def tw3936799479446441872:=0
def tw5487589283150106985:=0
def tw6329672367570675121:=0
def tw1608531101756370843:=0
def tw759665550106395066:=0
def tw1576336956193756433:=0
def tw10069728206327551504:=0
def tw6173992358715319403:=0
def tw2500959045980217205:=0
def tw8152413240288653947:=0
def tw671612290928324030:=0
def tw17670891594473079161:=0
def tw875186515339142333:=0
def tw18063128398054085988:=0
def tw2749231056140749675:=0
def tw13117781240269384885:=0
def tw8473422383030041296:=0
def tw4695985860685976188:=0
def tw6800450789295329946:=0
def tw680710869334930168:=0
def tw6156951001668291901:=0
def tw13138258600796198132:=0
def tw9013273233821697971:=0
def tw1017903769141414066:=0
def tw3319057964092847404:=0
def tw634202856371550244:=0
end PySem.W.Fast
set_option maxRecDepth 100000 in
set_option maxHeartbeats 0 in
theorem PySem.Challenge.cw_fewsaves_k61_whole_saves_and_backs_by_tu_holds : PySem.Challenge.rw_fewsaves_k61_whole_saves_and_backs_by_tu.Holds := by
 w_on;o_law;k_head;(case hw=>w_witness2)
 k_fill
 refine Fs.walk (l:=PySem.Challenge.rw_fewsaves_k61_whole_saves_and_backs_by_tu) (c:=47) (pt:=43) rfl rfl (λw h Y=>⟨km_in_of Y,codeHd_of_K (km_in_of Y) (by kernel_rfl),km_tabs_of Y _ (List.Mem.head _),by kernel_rfl⟩) ?F
 case F =>
  intro w mg fa h KX G hmg
  refine' Fs.wAm (c:=47) (pt:=43) KX G hmg ?x1 ?x2 ?x3 ?x4 ?x5 ?x6 ?x7 ?x8 ?x9 ?x10 ?x11 ?x12 ?x13 ?x14 ?x15 ?x16 ?x17 ?x18 ?x19 ?x20 ?x21 ?x22 ?x23 ?x24 ?x25 ?x26 ?x27 ?x28 ?x29 ?z1 ?z2 ?z3 ?z4 ?z5 ?z6 ?z7 ?z8 ?z9 ?z10 ?z11 ?z12 ?z13 ?ct ?ch
  (case ct=>kernel_rfl)
  (case ch=>kernel_rfl)
  all_goals try (refine' Fs.hasF ?a ?l ?c ?k;(case a=>k_is);(case l=>k_is);(case c=>k_is);(case k=>k_is))
  all_goals k_is
